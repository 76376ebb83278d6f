import PyProof.Rows.All
import Wide.All
import OpenK.AllK
import Wide.FinOn
import Lean
import PyProof.EqAt
import PyProof.EqKinds
import PyProof.TupleCall
import PyProof.ReprRoads
import PyProof.FitsInt
import PyProof.FitsBits
import PyProof.Rows.IntMath
import PyProof.ConsumeWalk
import PyProof.WalkInts
import PyProof.ListRange
import PySem.SetTable
import PyProof.SetKind
import PyProof.TupleKey
import PyProof.DictKinds
import PyProof.IsRules
import PyProof.Rows.SetFrom
import PyProof.CollectIter
import PyProof.ForAny
import PyProof.Rows.SortRuns
import PyProof.Rows.SortKey
import KE.KSortTup
import PyProof.ZipIter
import PyProof.Draws
import PyProof.EnumMake
import PyProof.TupleIter
import PyProof.P3Eq
import PyProof.StrCalls2
import PyProof.StrCalls3
import PyProof.FString
import PyProof.AttrMissHeap
import PyProof.DictUpdate
import PyProof.DictRoads
import KE.KDictOf
import PyProof.Walks
import PyProof.SetRoads
import PyProof.Rows.SeqMore
import KE.KDictList
import PyProof.DictItems
import KE.KPairComp
import PyProof.MeetsSeq
import PyProof.Rows.Chain
import PyProof.ListMulRoad
import PyProof.FactsAll.tuple_2
import OpenK.KCls
import PyProof.InstStoreFacts
import KE.KRevIter
import PySem.Challenge.RW_fewfills_k53_whole_any_order
set_option Elab.async false
set_option bootstrap.genMatcherCode false
set_option compiler.extract_closed false
set_option genSizeOf false
set_option linter.all false
set_option maxRecDepth 100000
noncomputable section
local macro_rules|`(command|def $i:declId $s:optDeclSig $v:declVal)=>`(command|noncomputable def $i:declId $s:optDeclSig $v:declVal)
local macro_rules|`(command|abbrev $i:declId $s:optDeclSig $v:declVal)=>`(command|noncomputable abbrev $i:declId $s:optDeclSig $v:declVal)
open PySem
abbrev _root_.WM:=List Str
abbrev _root_.WN:=List Int
abbrev _root_.WP:=List (List Int)
abbrev _root_.WQ:=List Nat
abbrev _root_.WS:=List Addr
abbrev _root_.WT:=List Value
abbrev _root_.WU:=List (Addr×Obj)
abbrev _root_.WV:=Option Value
abbrev _root_.WW:=Option Int
abbrev _root_.WX:=List Expr
abbrev _root_.WE:=Value->Shared->Prop
abbrev _root_.WF:=Str->Option Value
abbrev _root_.WH:=Option Nat
abbrev _root_.WK:=Option Addr
abbrev hR:=@PySem.W.Frag
abbrev f_:=@wpAny_bind
abbrev nj:=@Heap.get?_push_of_some
abbrev ml:=@List.mem_cons_of_mem
abbrev pf:=@List.getElem?_eq_some_iff
abbrev qr:=@List.getElem?_append_left
abbrev k_:=@List.map_cons
abbrev qa:=@List.getElem?_set_ne
abbrev c_:=@if_pos
abbrev yT:=@List.set_cons_zero
abbrev zJ:=@List.set_cons_succ
abbrev l_:=@Nat.le_refl
abbrev nw:=@List.mem_cons
abbrev yZ:=@List.getElem?_eq_getElem
abbrev nr:=@List.mem_map
abbrev se:=@List.getElem?_map
abbrev t_:=@Nat.lt_of_lt_of_le
abbrev xn:=@List.mem_append_right
abbrev g_:=@if_neg
abbrev oh:=@Nat.le_trans
abbrev qx:=@List.length_map
abbrev x3:=@List.mem_of_getElem?
abbrev pa:=@Heap.lt_size
abbrev wy:=@Bool.false_eq_true
abbrev nc:=@wpAny_pure
abbrev Bi:=@Option.map_eq_some_iff
abbrev zj:=@Heap.get?_push_size
abbrev x_:=@List.size_toArray
abbrev vz:=@List.nodup_cons
abbrev qo:=@List.map_map
abbrev C_:=@List.getElem?_set_self
abbrev Ek:=@List.getElem?_append_right
abbrev Di:=@List.getElem?_eq_none
abbrev Ef:=@List.length_filter_le
abbrev zN:=@List.mem_filter
abbrev zl:=@List.mem_range
abbrev DR:=@List.length_cons
abbrev Et:=@List.map_congr_left
abbrev En:=@List.mem_cons_self
abbrev DX:=@Bool.and_eq_true
abbrev zt:=@Nat.ne_of_lt
abbrev DY:=@List.mem_append
abbrev Eu:=@Int.toNat_natCast
abbrev Fx:=@List.getElem?_cons_zero
abbrev EK:=@List.length_range
abbrev HZ:=@List.getD_eq_getElem?_getD
abbrev Eg:=@Bool.not_true
abbrev Eh:=@List.sum_cons
abbrev Fy:=@List.mem_append_left
abbrev E_:=@List.ext_getElem?
abbrev Ez:=@Nat.lt_irrefl
abbrev Fz:=@List.length_append
abbrev Ev:=@Nat.ne_of_gt
abbrev Fa:=@List.not_mem_nil
abbrev Fb:=@List.nodup_range
abbrev Jn:=@List.getElem?_replicate
abbrev Jo:=@Option.bind_eq_some_iff
abbrev Eo:=@Nat.zero_le
abbrev H4:=@Nat.pow_le_pow_right
abbrev EY:=@Heap.size_push
abbrev Fc:=@List.map_append
abbrev FA:=@Option.getD_some
abbrev H_:=@List.getElem_of_mem
abbrev Jp:=@List.mem_iff_getElem?
abbrev FL:=@List.pairwise_map
abbrev FC:=@List.length_nil
abbrev Mw:=@List.getElem?_cons_succ
abbrev FM:=@List.lookup_cons
abbrev ER:=@Nat.zero_add
abbrev Jq:=@List.replicate_succ
abbrev Ia:=@List.nodup_append
abbrev Jr:=@Heap.get?_update_ne
abbrev Js:=@List.filter_eq_self
abbrev Jt:=@List.getElem?_range
abbrev FD:=@Int.natAbs_mul
abbrev EZ:=@List.map_nil
abbrev FN:=@Nat.mul_ne_zero
abbrev Ju:=@List.mem_filterMap
abbrev Jv:=@List.mem_singleton
abbrev Jw:=@Int.emod_lt_of_pos
abbrev Ib:=@Option.map_some
abbrev QG:=@Int.fmod_eq_emod_of_nonneg
abbrev Jx:=@List.length_take
abbrev Jy:=@Option.bind_some
abbrev Nc:=@List.length_replicate
abbrev QH:=@List.drop_eq_getElem_cons
abbrev Nd:=@List.getElem?_zipIdx
abbrev My:=@List.getElem?_inj
abbrev Jz:=@Int.emod_nonneg
abbrev QI:=@List.filter_cons_of_pos
abbrev QJ:=@List.filter_cons_of_neg
abbrev Nf:=@List.filter_sublist
abbrev QK:=@List.take_of_length_le
abbrev QL:=@List.drop_of_length_le
abbrev Ng:=@Bool.false_ne_true
abbrev QM:=@Heap.get?_update_self
abbrev Mz:=@Int.natCast_mul
abbrev MB:=@Int.mul_ne_zero
abbrev RX:=@List.perm_ext_iff_of_nodup
abbrev QN:=@Heap.get?_none_of_le
abbrev QO:=@List.mem_of_mem_drop
abbrev Ic:=@Nat.le_succ
abbrev QP:=@List.mem_map_of_mem
abbrev RY:=@List.getElem?_take_of_lt
abbrev Nh:=@List.append_nil
abbrev MC:=@List.any_cons
abbrev QQ:=@List.zip_cons_cons
abbrev QR:=@List.pairwise_cons
abbrev QS:=@Nat.lt_of_le_of_lt
abbrev MD:=@List.map_drop
abbrev Ni:=@List.map_const'
abbrev RZ:=@Heap.get?_update_other
abbrev R0:=@List.pairwise_lt_range
abbrev QT:=@List.append_assoc
abbrev QU:=@List.filter_congr
abbrev MF:=@Nat.le_of_lt
abbrev QV:=@List.length_drop
abbrev UP:=@List.take_append_of_le_length
abbrev R1:=@List.range_eq_range'
abbrev R3:=@List.mem_of_mem_take
abbrev R4:=@List.filterMap_cons
abbrev QW:=@List.of_mem_zip
abbrev QX:=@List.find?_cons
abbrev QY:=@Nat.min_eq_left
abbrev R5:=@List.length_reverse
abbrev UQ:=@Array.perm_iff_toList_perm
abbrev R6:=@List.getElem?_drop
abbrev QZ:=@List.nodup_nil
abbrev R7:=@Nat.lt_succ_of_lt
abbrev UR:=@Nat.gcd_pos_of_pos_right
abbrev R8:=@List.getElem_drop
abbrev US:=@Int.eq_ofNat_of_zero_le
abbrev UT:=@List.pairwise_filterMap
abbrev R9:=@Nat.lt_succ_self
abbrev R_:=@List.take_length
abbrev Sa:=@List.getElem_mem
abbrev Sb:=@List.cons_append
abbrev Sd:=@Nat.mul_lt_mul''
abbrev UU:=@List.range_succ_eq_map
abbrev Sf:=@List.length_set
abbrev Q0:=@Nat.lt_trans
abbrev UV:=@Array.getElem?_toList
abbrev Sg:=@Nat.not_lt_zero
abbrev UW:=@Bool.beq_eq_decide_eq
abbrev UX:=@List.getElem?_reverse
abbrev Si:=@List.nil_append
abbrev Q1:=@Int.ofNat_lt
abbrev Q2:=@List.sum_nil
abbrev Q3:=@Nat.add_comm
abbrev Q4:=@Nat.pow_add
abbrev Sj:=@Bool.or_true
abbrev Sk:=@Nat.pow_succ
noncomputable section
local macro_rules | `(tactic| ext) => `(tactic| omega)
local instance (priority:=1) cdec (p:Prop):Decidable p:=Classical.propDecidable p
local macro_rules | `(⋯) => `(by lia)
open Option renaming some->J,none->Y
open Bool renaming true->I,false->T
namespace L2
open PySem.Spec PyProof.Rows
def lp{G:Prop}(h:∀P:Prop,(G->P)->P):G:=h G id
abbrev vv:=Sum Int Str
def uA:vv->Value->Bool
 |.inl k,v=>Value.isInt k v
 |.inr x,v=>Value.isStrOf x v
def Sl(w:World):vv->Int
 |.inl k=>hashInt k
 |.inr x=>hashStr w x
def cq:∀{k:vv}{v:Value},uA k v=I->(∃i t,k=Sum.inl i/\v=Value.int i t)\/(∃x t,k=Sum.inr x/\v=Value.str x t)
 |.inl i,v,h=>by
  obtain⟨t,e⟩:=Value.isInt_shape h;exact .inl ⟨i,t,rfl,e⟩
 |.inr x,v,h=>by
  obtain⟨t,e⟩:=Value.isStrOf_shape h;exact .inr ⟨x,t,rfl,e⟩
def Bp(i:Int)(t:Tok):uA (.inl i) (.int i t)=I:=by simp[uA,Value.isInt]
def JA(a b:Int):decide ((Sum.inl a:vv)=Sum.inl b)=(a==b):=by
 by_cases e:a=b
 .subst e;simp
 .have h:¬(Sum.inl a:vv)=Sum.inl b:=λq=>e (Sum.inl.inj q);rw[decide_eq_false h];exact(beq_eq_false_iff_ne.mpr e).symm
def JB(a b:Str):decide ((Sum.inr a:vv)=Sum.inr b)=decide (a=b):=by simp
def JC(a:Int)(b:Str):decide ((Sum.inl a:vv)=Sum.inr b)=T:=decide_eq_false (λq=>nomatch q)
def JD(a:Str)(b:Int):decide ((Sum.inr a:vv)=Sum.inl b)=T:=decide_eq_false (λq=>nomatch q)
def gb(prog:Program)(w:World):PySem.KeyKind prog w vv where
 is:=uA
 hash:=Sl w
 inj:=λv a b l f=>by
  rcases cq l with⟨i,t,rfl,rfl⟩|⟨x,t,rfl,rfl⟩
  .rcases cq f with⟨j,u,rfl,e⟩|⟨y,u,rfl,e⟩
   .injection e with e1 _;rw[e1]
   .exact nomatch e
  .rcases cq f with⟨j,u,rfl,e⟩|⟨y,u,rfl,e⟩
   .exact nomatch e
   .injection e with e1 _;rw[e1]
 byValue:=λk v h=>by
  rcases cq h with⟨i,t,rfl,rfl⟩|⟨x,t,rfl,rfl⟩<;>rfl
 pyHash:=λhv h=>by
  rcases cq hv with⟨i,t,rfl,rfl⟩|⟨x,t,rfl,rfl⟩
  .exact wpAny_pyHash_int h
  .exact wpAny_pyHash_str h
 eqBool:=λz hv h=>by
  rcases cq z with⟨i,t,rfl,rfl⟩|⟨x,t,rfl,rfl⟩
  .rcases cq hv with⟨j,u,rfl,rfl⟩|⟨y,u,rfl,rfl⟩
   .rw[JA]at h;exact wpAny_eqBool_int h
   .rw[JC]at h;exact SeqAt.EqAt.int_str i t y u _ _ _ _ h
  .rcases cq hv with⟨j,u,rfl,rfl⟩|⟨y,u,rfl,rfl⟩
   .rw[JD]at h;exact SeqAt.EqAt.str_int x t j u _ _ _ _ h
   .rw[JB]at h;exact wpAny_eqBool_str h
 «strs»:=λk x t v h=>by
  rcases cq h with⟨i,u,rfl,e⟩|⟨y,u,rfl,e⟩
  .exact nomatch e
  .injection e with e1 _
   subst e1;cases v<;>rfl
def fD(prog:Program)(w:World)(i:Int)(t:Tok):(gb prog w).is (.inl i) (.int i t)=I:=Bp i t
inductive V where
 |non | bl (b:Bool) | int (i:Int) | str (x:Str) | byt (b:Array UInt8) | flt (b:UInt64) | ref (a:Addr) | ty (n:String)
 deriving DecidableEq
def aQ:V->Value->Prop
 |.non,u=>u=Value.none
 |.bl b,u=>u=Value.bool b
 |.int i,u=>∃t,u=Value.int i t
 |.str x,u=>∃t,u=Value.str x t
 |.byt b,u=>∃t,u=Value.bytes b t
 |.flt b,u=>∃t,u=Value.float b t
 |.ref a,u=>u=Value.ref a
 |.ty n,u=>u=Value.type n
abbrev aM:List V->WT->Prop:=Paired aQ
def aM.length(r:aM xs us):xs.length=us.length:=Paired.length r
def aM.get{xs:List V}{a:WT}{i:Nat}{x:V}(r:aM xs a)(e:xs[i]?=J x):∃u,a[i]?=J u/\aQ x u:=by
 induction r generalizing i with
 |nil=>cases e
 |cons r t f =>
  cases i with
  |zero=>cases e;exact⟨_,rfl,r⟩
  |succ i=>have z:=@f i e;exact z
def aM.set(r:aQ x u)(i:Nat)(q:aM xs us):aM (xs.set i x) (us.set i u):=by
 induction q generalizing i with
 |nil=>exact .nil
 |cons a t f =>
  cases i with
  |zero=>exact .cons r t
  |succ i=>exact .cons a (f i)
def aM.append(r:aM xs us)(s:aM ys ws):aM (xs++ys) (us++ws):=by
 induction r with
 |nil=>exact s
 |cons r t a=>exact .cons r a
def aM.take(n:Nat)(r:aM xs us):aM (xs.take n) (us.take n):=by
 induction r generalizing n with
 |nil=>cases n<;>exact .nil
 |cons a t f =>
  cases n with
  |zero=>exact .nil
  |succ n=>exact .cons a (f n)
def aM.drop(n:Nat)(r:aM xs us):aM (xs.drop n) (us.drop n):=by
 induction r generalizing n with
 |nil=>cases n<;>exact .nil
 |cons a t f =>
  cases n with
  |zero=>exact .cons a t
  |succ n=>exact f n
def iY:Option V->WV->Prop
 |some v,J u=>aQ v u
 |none,Y=>True
 |_,_=>False
def KV{κ:Type}:List (κ×V)->List (κ×Value)->Prop:=Paired λ(p:κ×V)(q:κ×Value)=>p.1=q.1/\aQ p.2 q.2
def kV:vv->V
 |.inl i=>.int i
 |.inr x=>.str x
inductive HO where
 |lst(xs:List V)
 |tup(xs:List V)
 |dK(kvs:List (vv×V)) | dT (kvs:List (List vv×V))
 |set(S:Int->Bool)(n:Nat)
 |ins(C dx:Addr)(fs:List (Str×V))
 |own(x:Addr)
 |xd(fs:List (Str×V))
 |met(f x:Addr)
 |rng(lo hi:Int)
 |frz(o:Obj)(u:HO)
 |tbl(ps:Array Value)
 |ext(φ:Heap->Prop)
abbrev Hp:=Addr->Option HO
def mj(H:Hp)(a:Addr)(o:HO):Hp:=λb=>if b=a then J o else H b
def ba:mj H a o a=J o:=by unfold mj;rw[c_ rfl]
def aN(h:b≠a):mj H a o b=H b:=by unfold mj;rw[g_ h]
def bR{H:Hp}{a b:Addr}{o:HO}(h:H a=J o)(f:H b=Y):a≠b:=by intro e;subst e;rw[h]at f;cases f
def jB(h:Heap)(a:Addr)(f:Array Value):Prop:=∃o,h.get? a=J o/\o.cls=.type "tuple"/\(∃n,o.data=.seq f n)/\o.dict=Y
def jB.tup(t:jB h a its):IsTup h a its:=let⟨o,e,c,d,_⟩:=t;⟨o,e,c,d⟩
def jB.lt(t:jB h a its):a<h.objs.size:=t.tup.lt
def jB.new(h:Heap)(a:Array Value):jB (h.push { cls:=.type "tuple",data:=.seq a}) h.objs.size a:=⟨_,zj h rfl,rfl,⟨_,rfl⟩,rfl⟩
section
variable(P:Program)(w:World)
def ObjOk(H:Hp)(h:Heap)(a:Addr):HO->Prop
 |.lst xs=>xs.length<=sizeLine/\∃(j:WT) (n:Nat),aM xs j/\h.get? a=J { cls:=.type "list",data:=.seq j.toArray n}
 |.tup xs=>xs.length<=sizeLine/\∃j:WT,aM xs j/\jB h a j.toArray
 |.dK i=>i.length<=sizeLine/\(a==sysModules)=T/\∃B,KV i B/\h.DictOf (gb P w) a B
 |.dT i=>i.length<=sizeLine/\(a==sysModules)=T/\∃xs:List (List vv×Addr×Value),
   Paired (λ(p:List vv×V)(q:List vv×Addr×Value)=>p.1=q.1/\H q.2.1=J (.tup (p.1.map kV))/\aQ p.2 q.2.2) i xs /\
   ∃o F G,h.get? a=J o/\o.ExactDict/\o.data=.dict F G/\F.toList=xs.map (entryOfKey (tupleKind (gb P w)))/\(xs.map (·.1)).Nodup
 |.set S n=>h.SetOf (intKind P w) a S n
 |.ins C y fs=>H y=J (.own a)/\fs.length<=1000/\y≠a/\h.get? a=J (PySem.W.instObj C y) /\
   ∃l,h.Ns1 y l/\(∀f,iY (fs.lookup f) (l f))/\PySem.Within l (fs.map (·.1))
 |.own _=>∃o,h.get? a=J o
 |.xd fs=>∃l,h.Ns1 a l/\∀f,iY (fs.lookup f) (l f)
 |.rng lo L=>∃t u v,h.get? a=J { cls:=.type "range",data:=.fields #[.int lo t,.int L u,.int 1 v]}
 |.frz o u=>h.get? a=J o/\ObjOk H h a u
 |.tbl M=>h.get? a=J { cls:=.none,data:=.fields M}
 |.met f x=>h.get? a=J (PySem.W.methodObj (.ref f) (.ref x))
 |.ext φ=>φ h/\(∃o,h.get? a=J o)/\∀z E:Heap,φ z->(∀o,z.get? a=J o->E.get? a=J o)->φ E
def HOk(H:Hp)(h:Heap):Prop:=∀a o,H a=J o->ObjOk P w H h a o
end
section
variable{P:Program}{w:World}{H H':Hp}{h h':Heap}{a:Addr}{o:HO}
def ObjOk.lt(x:ObjOk P w H h a o):a<h.objs.size:=by
 cases o with
 |lst xs=>obtain⟨_,_,_,_,e⟩:=x;exact pa e
 |tup xs=>obtain⟨_,_,_,p⟩:=x;exact p.lt
 |dK i=>obtain⟨_,_,_,_,o,_,_,e,_⟩:=x;exact pa e
 |dT i=>obtain⟨_,_,_,_,o,_,_,e,_⟩:=x;exact pa e
 |set S n=>obtain⟨o,_,_,_,e,_⟩:=x;exact pa e
 |ins C z fs=>obtain⟨_,_,_,e,_⟩:=x;exact pa e
 |own y=>obtain⟨_,e⟩:=x;exact pa e
 |xd fs=>obtain⟨_,⟨_,_,_,e,_⟩,_⟩:=x;exact pa e
 |rng lo l=>obtain⟨_,_,_,e⟩:=x;exact pa e
 |frz j u=>obtain⟨e,_⟩:=x;exact pa e
 |tbl B=>exact pa (x)
 |met f y=>exact pa (x)
 |ext φ=>obtain⟨_,⟨_,e⟩,_⟩:=x;exact pa e
def Paired.mapP{α β:Type}{F G:α->β->Prop}{i:List α}{j:List β}(r:Paired F i j)(f:∀a b,F a b->G a b):Paired G i j:=by
 induction r with
 |nil=>exact .nil
 |cons r t l=>exact .cons (f _ _ r) l
def ObjOk.stay(x:ObjOk P w H h a o)(k:∀b u,(b=a\/H b=J (.own a))->h.get? b=J u->h'.get? b=J u)(Q:∀b,H b=J (.own a)->H' b=J (.own a))(L:∀b xs,H b=J (.tup xs)->H' b=J (.tup xs)):ObjOk P w H' h' a o:=by
 induction o with
 |lst xs=>obtain⟨z,B,n,r,e⟩:=x;exact⟨z,B,n,r,k _ _ (.inl rfl) e⟩
 |tup xs=>obtain⟨z,B,r,i,e,c⟩:=x;exact⟨z,B,r,i,k _ _ (.inl rfl) e,c⟩
 |dK F=>obtain⟨z,y,O,r,i,l,j,e,c⟩:=x;exact⟨z,y,O,r,i,l,j,k _ _ (.inl rfl) e,c⟩
 |dT F =>
  obtain⟨z,y,xs,r,i,l,j,e,c⟩:=x;exact⟨z,y,xs,Paired.mapP r λp q z=>⟨z.1,L _ _ z.2.1,z.2.2⟩,i,l,j,k _ _ (.inl rfl) e,c⟩
 |set S n=>obtain⟨i,l,j,t,e,c⟩:=x;exact⟨i,l,j,t,k _ _ (.inl rfl) e,c⟩
 |ins C U fs =>
  obtain⟨d,z,ne,e,G,⟨E,l,j,e2,c⟩,r⟩:=x;exact⟨Q _ d,z,ne,k _ _ (.inl rfl) e,G,⟨E,l,j,k _ _ (.inr d) e2,c⟩,r⟩
 |own y=>obtain⟨i,e⟩:=x;exact⟨i,k _ _ (.inl rfl) e⟩
 |xd fs=>obtain⟨G,⟨E,l,j,e,c⟩,r⟩:=x;exact⟨G,⟨E,l,j,k _ _ (.inl rfl) e,c⟩,r⟩
 |rng lo R=>obtain⟨t,u,v,e⟩:=x;exact⟨t,u,v,k _ _ (.inl rfl) e⟩
 |frz i u M=>obtain⟨e,q⟩:=x;exact⟨k _ _ (.inl rfl) e,M q⟩
 |tbl W =>
  have e:=x;exact k a _ (.inl rfl) e
 |met f y =>
  have e:=x;exact k a _ (.inl rfl) e
 |ext φ=>obtain⟨p,⟨o,e⟩,st⟩:=x;exact⟨st _ _ p λo q=>k _ _ (.inl rfl) q,⟨o,k _ _ (.inl rfl) e⟩,st⟩
def HOk.lt(x:HOk P w H h)(e:H a=J o):a<h.objs.size:=(x a o e).lt
def HOk.fresh(x:HOk P w H h)(e:h.objs.size<=a):H a=Y:=by
 cases q:H a with
 |none=>rfl
 |some u=>exact absurd (t_ (x.lt q) e) (Ez _)
def HOk.kept(x:HOk P w H h)(k:∀b u,h.get? b=J u->h'.get? b=J u):HOk P w H h':=λa o e =>
 (x a o e).stay (λb u _ q=>k b u q) (λ_ q=>q) λ_ _ q=>q
def HOk.laid(x:HOk P w H h)(k:∀b u,h.get? b=J u->h'.get? b=J u)(j:h.objs.size<=a)(new:ObjOk P w (mj H a o) h' a o):HOk P w (mj H a o) h':=λb u e=>by
 have f:=x.fresh j;by_cases i:b=a
 .subst i;rw[ba]at e;cases e;exact new
 .rw[aN i]at e;exact(x b u e).stay (λc v _ q=>k c v q) (λc q=>by rw[aN (bR q f)];exact q) λc xs q=>by rw[aN (bR q f)];exact q
end
def Rd(H:Hp)(a:Addr)(u:HO):Prop:=H a=J u\/∃o,H a=J (.frz o u)
def Rd.ok(r:Rd H a u)(x:HOk P w H h):ObjOk P w H h a u:=by
 rcases r with r|⟨o,r⟩
 .exact x a u r
 .obtain⟨_,q⟩:=x a _ r;exact q
def Q5:Option HO->Prop
 |some (.lst _)=>True
 |some (.dK _)=>True
 |some (.dT _)=>True
 |some (.set _ _)=>True
 |some (.ins _ _ _)=>True
 |some (.ext _)=>True
 |_=>False
section
variable{P:Program}{w:World}{H:Hp}{h h':Heap}{x e:Addr}{o':HO}
def HOk.write(ok:HOk P w H h)(mu:Q5 (H x))(C:e=x\/H e=J (.own x))(k:∀b u,b≠e->h.get? b=J u->h'.get? b=J u)(l:∃u,h'.get? e=J u)(new:ObjOk P w (mj H x o') h' x o'):HOk P w (mj H x o') h':=λb u q=>by
 have i:∀c y,H c=J (.own y)->c≠x:=λc y r z=>by subst z;rw[r]at mu;exact mu
 have f:∀c xs,H c=J (.tup xs)->c≠x:=λc xs r z=>by subst z;rw[r]at mu;exact mu
 by_cases j:b=x
 .subst j;rw[ba]at q;cases q;exact new
 .rw[aN j]at q;by_cases a:b=e
  .have B:H b=J (.own x):=by
    rcases C with z|z
    .exact absurd (a.trans z) j
    .rw[a];exact z
   rw[q]at B;cases B;obtain⟨v,hv⟩:=l;exact⟨v,by rw[a];exact hv⟩
  .refine (ok b u q).stay (λc v E r=>k c v ?_ r) (λc r=>by rw[aN (i c b r)];exact r) λc xs r=>by rw[aN (f c xs r)];exact r
   grind
end
structure Un(fs ex:WS)(H H':Hp)(h h':Heap):Prop where
 keep:∀b o,h.get? b=J o->H b=Y->b∉fs->b∉ex->h'.get? b=J o
 slot:∀b o,h.get? b=J o->H b=Y->b∈fs->b∉ex->∃sl,h'.get? b=J { o with slots:=sl}
 free:∀b o,h.get? b=J o->H b=Y->b∉ex->H' b=Y
 there:∀b o,h.get? b=J o->b∉ex->∃o',h'.get? b=J o'
 tups:∀b xs,H b=J (.tup xs)->H' b=J (.tup xs)
 frzs:∀b o u,H b=J (.frz o u)->H' b=J (.frz o u)
 tbls:∀b ps,H b=J (.tbl ps)->∃more,H' b=J (.tbl (ps++more))
section
variable{fs fs' ex ex':WS}{H H1 H2:Hp}{h h1 h2 h':Heap}{a x e:Addr}{o:HO}
def Un.any(u:Un fs ex H H1 h h1)(q:h.get? b=J ob)(n:H b=Y)(f:b∉ex):∃j,h1.get? b=J { ob with slots:=j}:=by
 by_cases i:b∈fs
 .exact u.slot b ob q n i f
 .exact⟨ob.slots,u.keep b ob q n i f⟩
def Un.kept(k:∀b u,h.get? b=J u->h'.get? b=J u):Un fs ex H H h h' :=
 ⟨λb f q _ _ _=>k b f q,λb f q _ _ _=>⟨f.slots,k b f q⟩,λ_ _ _ n _=>n,λb f q _=>⟨f,k b f q⟩,λ_ _ q=>q,λ_ _ _ q=>q,λ_ i q=>⟨#[],by rw[q];simp⟩⟩
def Un.refl:Un fs ex H H h h:=Un.kept λ_ _ q=>q
def Un.laid(k:∀b u,h.get? b=J u->h'.get? b=J u)(i:h.objs.size<=a)(f:H a=Y):Un fs ex H (mj H a o) h h' where
 keep:=λb u q _ _ _=>k b u q
 slot:=λb u q _ _ _=>⟨u.slots,k b u q⟩
 free:=λb u q n _=>by rw[aN (zt (t_ (pa q) i))];exact n
 there:=λb u q _=>⟨u,k b u q⟩
 tups:=λb xs q=>by rw[aN (bR q f)];exact q
 frzs:=λb u xs q=>by rw[aN (bR q f)];exact q
 tbls:=λb j q=>⟨#[],by rw[aN (bR q f),q];simp⟩
def Un.write(mu:Q5 (H x))(E:e=x\/H e=J (.own x))(k:∀b u,b≠e->h.get? b=J u->h'.get? b=J u)(i:∃u,h'.get? e=J u):Un fs ex H (mj H x o) h h':=by
 have y:∀b,H b=Y->b≠x:=λb n z=>by subst z;rw[n]at mu;exact mu
 have l:∀b,H b=Y->b≠e:=λb n z=>by
  simp_all
 have j:∀b u,H b=J u->¬Q5 (J u)->b≠x:=λb u q B z=>by subst z;rw[q]at mu;exact B mu
 refine⟨λb u q n _ _=>k b u (l b n) q,λb u q n _ _=>⟨u.slots,k b u (l b n) q⟩,λb u q n _=>by rw[aN (y b n)];exact n,λb u q _=>?_,
  λb xs q=>by rw[aN (j b _ q λz=>z)];exact q,λb u xs q=>by rw[aN (j b _ q λz=>z)];exact q,λb C q=>⟨#[],by rw[aN (j b _ q λz=>z),q];simp⟩⟩
 by_cases f:b=e
 .subst f;exact i
 .exact⟨u,k b u f q⟩
end
def Q6(h:Heap)(H:Hp):WS:=(List.range h.objs.size).filter λa=>(H a).isSome
def mq(h:Heap)(H:Hp):Heap:=PySem.W.hideAll h (Q6 h H)
def BN(h:Heap)(H:Hp):(mq h H).objs.size=h.objs.size:=PySem.W.hideAll_size _ _
def CL(e:h.get? b=J o)(n:H b=Y):(mq h H).get? b=J o :=
 PySem.W.hideAll_get _ e λa=>by
  have q:=(zN.mp a).2;rw[n]at q;simp at q
def FP(e:(mq h H).get? b=J o):h.get? b=J o/\H b=Y:=by
 have a:=PySem.W.of_hideAll (Q6 h H) e;refine⟨a,?_⟩
 cases q:H b with
 |none=>rfl
 |some x =>
  have f:b∈Q6 h H:=zN.mpr ⟨zl.mpr (pa a),by simp[q]⟩;have z:(mq h H).get? b=Y:=PySem.W.hideAll_none (Q6 h H) f;rw[z]at e;cases e
structure Mod(K:hR)(mg:WF)(base:Heap):Prop where
 kin:K.In base
 glob:base.Ns mainGlobals mg
 blt:∃mb,base.Ns builtinsNs mb/\∀x:Str,x≠"__name__"->mb x=bootBuiltins x
 nolimit:base.NoLimit
 seer:base.NoSeer
structure Cx where
 prog:Program
 w:World
 K:hR
 mg:Str->WV
 base:Heap
 A:Around
 N:WM
 s₀:Shared
 H₀:Hp
 env:Env
 outer:List Env
 stack:List Env
 ex:WS
 fn:Str->Bool
 calm:Bool
 pn:WU
 xe:Value->Shared->Prop
def DS(l:List Env):WS:=l.filterMap (·.frame)
abbrev Cx.fs(X:Cx):WS:=DS X.outer
def MK(a:Scope)(x:Str):Prop:=a.names.lookup x=J .local\/a.names.lookup x=J .cell\/a.names.lookup x=J .free
def Loc(a:Scope)(x:Str):Prop:=a.names.lookup x=J .local\/a.names.lookup x=J .cell
def Look(env:Env)(h:Heap)(m:WF)(x:Str)(u:Value):Prop :=
 (env.kindOf x=J .local/\m x=J u)\/((env.kindOf x=J .cell\/env.kindOf x=J .free)/\∃c,env.cells.lookup x=J c/\h.IsCell c (J u))
structure Cx.Ok(X:Cx):Prop where
 mod:Mod X.K X.mg X.base
 kind:X.env.scope.kind=.function
 glob:X.env.globals=mainGlobals
 blt:X.env.builtins=builtinsNs
 above:X.s₀.heap.objs.size<=X.env.locals
 inj:∀x y c,X.env.cells.lookup x=J c->X.env.cells.lookup y=J c->x=y
 has:∀x,(X.env.kindOf x=J .cell\/X.env.kindOf x=J .free)->∃c,X.env.cells.lookup x=J c
 cab:∀x c,X.fn x=I->X.env.cells.lookup x=J c->X.s₀.heap.objs.size<=c
 hd:X.calm=I->X.A.handled=Y
 frames:X.A.frames=J X.stack
 stk:X.stack=X.outer\/(X.stack=X.env::X.outer/\X.env.frame=J X.env.locals)
 exf:∀b∈X.ex,b≠X.env.locals/\∀x c,X.env.cells.lookup x=J c->c≠b
 bs:∀b o,X.base.get? b=J o->X.s₀.heap.get? b=J o/\X.H₀ b=Y
 bsz:X.base.objs.size<=X.s₀.heap.objs.size
 noex:∀b o,X.base.get? b=J o->b∉X.ex
 exfs:∀b∈X.ex,b∉X.fs
 funs:X.s₀.heap.FunFrames X.base X.outer
 frf:∀b∈X.fs,X.H₀ b=Y
 tree:X.prog.given.tree=Y
 top:∃e l,X.stack=e::l/\e.scope.isGenerator=T/\e.scope.isCoroutine=T/\e.builtins=builtinsNs/\e.globals=mainGlobals
structure Inv(X:Cx)(Oz:WU)(Z:List (Option V))(H:Hp)(s:Shared):Prop where
 ok:X.Ok
 os:s.os=X.s₀.os
 bare:AllBare s.gens
 base:Un X.fs X.ex X.H₀ H X.s₀.heap s.heap
 loc:∃m,s.heap.Ns X.env.locals m/\∀(i:Nat)(x:Str)(v:V),X.N[i]?=J x->Z[i]?=J (J v)->MK X.env.scope x->∃u,aQ v u/\Look X.env s.heap m x u
 cell:∀x c,X.env.cells.lookup x=J c->∃v,s.heap.IsCell c v
 free:H X.env.locals=Y
 freeC:∀x c,X.env.cells.lookup x=J c->H c=Y
 pin:∀p∈X.pn++Oz,s.heap.get? p.1=J p.2/\H p.1=Y/\p.1≠X.env.locals/\p.1∉X.fs/\∀v,p.2.data≠.cell v
 hok:HOk X.prog X.w H s.heap
 len:Z.length=X.N.length
section
variable{X:Cx}{Oz:List (Addr × Obj)}{Z:List (Option V)}{H H':Hp}{s:Shared}{h':Heap}
def Cx.Ok.nofr(ok:X.Ok)(e:X.base.get? b=J o):b∉X.fs:=λa=>by
 have:=(ok.funs.mem a).1
 rw[e]at this;cases this
def Inv.bs(a:Inv X Oz Z H s):∀b o,X.base.get? b=J o->s.heap.get? b=J o/\H b=Y:=λb o e =>
 ⟨a.base.keep b o (a.ok.bs b o e).1 (a.ok.bs b o e).2 (a.ok.nofr e) (a.ok.noex b o e),a.base.free b o (a.ok.bs b o e).1 (a.ok.bs b o e).2 (a.ok.noex b o e)⟩
def Inv.bk(a:Inv X Oz Z H s):∀b o,X.base.get? b=J o->s.heap.get? b=J o:=λb o e=>(a.bs b o e).1
def Inv.mod(a:Inv X Oz Z H s):Mod X.K X.mg X.base:=a.ok.mod
def Inv.kIn(a:Inv X Oz Z H s):X.K.In s.heap:=a.ok.mod.kin.keeps a.bk
def Inv.nolimit(a:Inv X Oz Z H s):s.heap.NoLimit:=a.ok.mod.nolimit.keeps a.bk
def Inv.lt(a:Inv X Oz Z H s):X.env.locals<s.heap.objs.size:=let⟨_,f,_⟩:=a.loc;f.lt
def Inv.sz(a:Inv X Oz Z H s):X.s₀.heap.objs.size<=s.heap.objs.size:=oh a.ok.above (MF a.lt)
def Inv.nofs(f:Inv X Oz Z H s){a:Addr}(h:s.heap.objs.size<=a):a∉X.fs:=λj=>by
 obtain⟨_,o,i,_⟩:=f.ok.funs.mem j;exact absurd (t_ (pa i) (oh f.sz h)) (Ez _)
def Inv.cne(a:Inv X Oz Z H s):∀x c,X.env.cells.lookup x=J c->c≠X.env.locals:=λx c e z=>by
 obtain⟨v,o,j,hd⟩:=a.cell x c e;obtain⟨m,⟨y,u,l,f,i,_⟩,_⟩:=a.loc;rw[z,f]at j;cases j;rw[i]at hd;cases hd
def Inv.funs(a:Inv X Oz Z H s):s.heap.FunFrames X.base X.outer:=by
 have all:∀(l:List Env),(∀b∈DS l,b∈X.fs)->X.s₀.heap.FunFrames X.base l->s.heap.FunFrames X.base l:=by
  intro l
  induction l with
  |nil=>intro _ _;trivial
  |cons env r j =>
   intro i y;obtain⟨C,⟨L,o,hf,u,B,hd⟩,hr⟩:=y;have hL:=i L (by unfold DS;rw[R4,hf];exact En);obtain⟨E,e⟩:=a.base.slot L o B (a.ok.frf L hL) hL λz=>a.ok.exfs L z hL;exact⟨C,⟨L,_,hf,u,e,hd⟩,j (λb f=>i b (by unfold DS;rw[R4,hf];exact ml _ f)) hr⟩
 exact all X.outer (λ_ f=>f) a.ok.funs
def Inv.stack(a:Inv X Oz Z H s):s.heap.FunFrames X.base X.stack:=by
 rcases a.ok.stk with e|⟨e,hf⟩
 .rw[e];exact a.funs
 .rw[e];obtain⟨m,f,_⟩:=a.loc;refine .cons (by rw[a.ok.kind];decide) hf f ?_ a.funs;exact QN (oh a.ok.bsz a.ok.above)
def Inv.stkSub(f:Inv X Oz Z H s):∀b∈DS X.stack,b∈X.env.locals::X.fs:=λb a=>by
 rcases f.ok.stk with e|⟨e,hf⟩
 .rw[e]at a;exact ml _ a
 .rw[e]at a;unfold DS at a;rw[R4,hf]at a;exact a
def Inv.stkFree(a:Inv X Oz Z H s):∀b∈DS X.stack,H b=Y:=λb f=>by
 rcases nw.mp (a.stkSub b f)with e|f
 .rw[e];exact a.free
 .obtain⟨_,o,i,_⟩:=a.ok.funs.mem f;exact a.base.free b o i (a.ok.frf b f) λz=>a.ok.exfs b z f
def Inv.step{g':Array GenState}{W:Nat}{d':Drawn}{ch:WS}(a:Inv X Oz Z H s)(j:∀b∈ch,(b∈X.ex\/X.s₀.heap.objs.size<=b)/\b≠X.env.locals/\(∀x c,X.env.cells.lookup x=J c->c≠b)/\∀p∈X.pn++Oz,p.1≠b)(keep:∀b o,b≠X.env.locals->b∉X.fs->b∉ch->s.heap.get? b=J o->H b=Y->h'.get? b=J o)(slot:∀b o,b≠X.env.locals->b∈X.fs->b∉ch->s.heap.get? b=J o->H b=Y->∃P,h'.get? b=J { o with slots:=P})(free:∀b o,b∉ch->s.heap.get? b=J o->H b=Y->H' b=Y)(there:∀b o,b∉ch->s.heap.get? b=J o->∃L,h'.get? b=J L)(tups:∀b xs,H b=J (.tup xs)->H' b=J (.tup xs))(frzs:∀b o u,H b=J (.frz o u)->H' b=J (.frz o u))(tbls:∀b O,H b=J (.tbl O)->∃M,H' b=J (.tbl (O++M)))(ns:∀m,s.heap.Ns X.env.locals m->h'.Ns X.env.locals m)(hok:HOk X.prog X.w H' h')(hg:AllBare g'):
  Inv X Oz Z H' { s with heap:=h',gens:=g',drawn:=d',toks:=W}:=by
 have G:∀b o,X.s₀.heap.get? b=J o->b≠X.env.locals:=λb o e=>zt (t_ (pa e) a.ok.above);have C:∀b o,X.s₀.heap.get? b=J o->b∉X.ex->b∉ch:=λb o e f E=>by
  rcases(j b E).1 with z|z
  .exact f z
  .exact absurd (t_ (pa e) z) (Ez _)
 have B:∀x c,X.env.cells.lookup x=J c->∀v,s.heap.IsCell c v->h'.IsCell c v:=λx c e v ⟨o,F,hd⟩=>by
  have y:c∉ch:=λz=>(j c z).2.2.1 x c e rfl;by_cases S:c∈X.fs
  .obtain⟨P,q⟩:=slot c o (a.cne x c e) S y F (a.freeC x c e);exact⟨_,q,hd⟩
  .exact⟨o,keep c o (a.cne x c e) S y F (a.freeC x c e),hd⟩
 refine⟨a.ok,a.os,hg,⟨λb o e n E f=>?_,λb o e n E f=>?_,λb o e n f=>?_,λb o e f=>?_,λb xs e=>tups b xs (a.base.tups b xs e),λb o xs e=>frzs b o xs (a.base.frzs b o xs e),λb O e=>?_⟩,?_,λx c e=>?_,?_,λx c e=>?_,λp R=>?_,hok,a.len⟩
 .exact keep b o (G b o e) E (C b o e f) (a.base.keep b o e n E f) (a.base.free b o e n f)
 .obtain⟨P,e1⟩:=a.base.slot b o e n E f;obtain⟨Q,e2⟩:=slot b _ (G b o e) E (C b o e f) e1 (a.base.free b o e n f);exact⟨Q,e2⟩
 .obtain⟨L,e1⟩:=a.base.there b o e f;exact free b L (C b o e f) e1 (a.base.free b o e n f)
 .obtain⟨L,e1⟩:=a.base.there b o e f;exact there b L (C b o e f) e1
 .obtain⟨m1,e1⟩:=a.base.tbls b O e;obtain⟨m2,e2⟩:=tbls b _ e1;exact⟨m1++m2,by rw[e2,Array.append_assoc]⟩
 .obtain⟨m,hn,hl⟩:=a.loc;refine⟨m,ns m hn,λi x v e1 e2 e3=>?_⟩;obtain⟨u,r,l⟩:=hl i x v e1 e2 e3;refine⟨u,r,?_⟩;rcases l with l|⟨k,c,e,z⟩
  .exact .inl l
  .exact .inr ⟨k,c,e,B x c e _ z⟩
 .obtain⟨v,z⟩:=a.cell x c e;exact⟨v,B x c e v z⟩
 .obtain⟨m,⟨o,_,_,F,_⟩,_⟩:=a.loc;exact free _ o (λz=>(j _ z).2.1 rfl) F a.free
 .obtain⟨v,o,F,hd⟩:=a.cell x c e;exact free c o (λz=>(j c z).2.2.1 x c e rfl) F (a.freeC x c e)
 .obtain⟨e,n,ne,U,d⟩:=a.pin p R;have y:p.1∉ch:=λz=>(j p.1 z).2.2.2 p R rfl;exact⟨keep p.1 p.2 ne U y e n,free p.1 p.2 y e n,ne,U,d⟩
def Inv.un{t':Nat}(a:Inv X Oz Z H s)(u:Un X.fs [] H H' s.heap h')(hok:HOk X.prog X.w H' h'):Inv X Oz Z H' { s with heap:=h',toks:=t'}:=by
 obtain⟨m,⟨o,L,F,y,r⟩,_⟩:=id a.loc;obtain⟨E,hL⟩:=u.any y a.free (by simp)
 exact a.step (g':=s.gens) (d':=s.drawn) (ch:=[]) (λ_ z=>nomatch z) (λb o _ i _ e n=>u.keep b o e n i (by simp)) (λb o _ i _ e n=>u.slot b o e n i (by simp)) (λb o _ e n=>u.free b o e n (by simp)) (λb o _ e=>u.there b o e (by simp)) u.tups u.frzs u.tbls (λM C=>by
  obtain⟨G,j,l,f,B⟩:=C;rw[y]at f;cases f
  exact⟨_,j,l,hL,B⟩) hok a.bare
def Inv.call{g':Array GenState}{t':Nat}{d':Drawn}{B:WS}(a:Inv X Oz Z H s)(u:Un (DS X.stack) B H H' s.heap h')(hok:HOk X.prog X.w H' h')(hg:AllBare g')(i:∀b∈B,(b∈X.ex\/X.s₀.heap.objs.size<=b)/\b≠X.env.locals/\(∀x c,X.env.cells.lookup x=J c->c≠b)/\∀p∈X.pn++Oz,p.1≠b):
  Inv X Oz Z H' { s with heap:=h',gens:=g',drawn:=d',toks:=t'}:=by
 obtain⟨m,⟨o,P,L,C,r⟩,_⟩:=id a.loc;obtain⟨M,hL⟩:=u.any C a.free λz=>(i _ z).2.1 rfl
 exact a.step i (λb o hL G f e n=>u.keep b o e n (λz=>(nw.mp (a.stkSub b z)).elim hL G) f) (λb o _ _ f e n=>u.any e n f) (λb o f e n=>u.free b o e n f) (λb o f e=>u.there b o e f) u.tups u.frzs u.tbls (λQ F=>by
  obtain⟨O,l,y,j,E⟩:=F;rw[C]at j;cases j
  exact⟨_,l,y,hL,E⟩) hok hg
def Inv.turned{t':Nat}{a:Addr}(i:Inv X Oz Z H s)(k:∀b o,b≠a->s.heap.get? b=J o->h'.get? b=J o)(C:H a=Y)(hL:a≠X.env.locals)(L:a∈X.ex\/X.s₀.heap.objs.size<=a)(F:∀x c,X.env.cells.lookup x=J c->c≠a)(M:∀p∈X.pn++Oz,p.1≠a):Inv X Oz Z H { s with heap:=h',toks:=t'}:=by
 have j:∀b u,H b=J u->b≠a:=λb u e z=>by rw[z,C]at e;cases e
 refine i.step (g':=s.gens) (d':=s.drawn) (ch:=[a]) (λb B=>?_) (λb o _ _ f e _=>k b o (λz=>f (by simp[z])) e) (λb o _ _ f e _=>⟨o.slots,k b o (λz=>f (by simp[z])) e⟩) (λ_ _ _ _ n=>n)
  (λb o f e=>⟨o,k b o (λz=>f (by simp[z])) e⟩) (λ_ _ e=>e) (λ_ _ _ e=>e) (λb O e=>⟨#[],by rw[e];simp⟩) (λm y=>?_) (λb u e=>?_) i.bare
 .have e:b=a:=by simpa using B
  subst e;exact⟨L,hL,F,M⟩
 .obtain⟨o,G,l,E,r⟩:=y;exact⟨o,G,l,k _ o (Ne.symm hL) E,r⟩
 .refine (i.hok b u e).stay (λc v f q=>k c v ?_ q) (λ_ q=>q) λ_ _ q=>q;rcases f with z|z
  .rw[z];exact j b u e
  .exact j c _ z
def Inv.tok(a:Inv X Oz Z H s)(t:Nat):Inv X Oz Z H { s with toks:=t}:=a.un (h':=s.heap) (t':=t) Un.refl a.hok
def Inv.kept(a:Inv X Oz Z H s)(k:∀b u,s.heap.get? b=J u->h'.get? b=J u):Inv X Oz Z H { s with heap:=h',toks:=t'}:=a.un (Un.kept k) (a.hok.kept k)
def Inv.laid{a:Addr}{o:HO}{t':Nat}(f:Inv X Oz Z H s)(k:∀b u,s.heap.get? b=J u->h'.get? b=J u)(i:s.heap.objs.size<=a)(new:ObjOk X.prog X.w (mj H a o) h' a o):
  Inv X Oz Z (mj H a o) { s with heap:=h',toks:=t'}:=f.un (Un.laid k i (f.hok.fresh i)) (f.hok.laid k i new)
def Inv.write(f:Inv X Oz Z H s)(mu:Q5 (H x))(i:e=x\/H e=J (.own x))(k:∀b u,b≠e->s.heap.get? b=J u->h'.get? b=J u)(a:∃u,h'.get? e=J u)(new:ObjOk X.prog X.w (mj H x o) h' x o):Inv X Oz Z (mj H x o) { s with heap:=h',toks:=t'}:=f.un (Un.write mu i k a) (f.hok.write mu i k a new)
def Inv.pins_of(a:Inv X Oz Z H s)(h:∀p∈f,s.heap.get? p.1=J p.2/\H p.1=Y/\p.1≠X.env.locals/\p.1∉X.fs/\∀v,p.2.data≠.cell v):Inv X f Z H s :=
 ⟨a.ok,a.os,a.bare,a.base,a.loc,a.cell,a.free,a.freeC,λp i=>(DY.mp i).elim (λz=>a.pin p (Fy _ z)) (h p),a.hok,a.len⟩
def vL{N:WM}(hN:N.Nodup){i j:Nat}{x:Str}(a:N[i]?=J x)(b:N[j]?=J x):i=j:=by obtain⟨l,e1⟩:=pf.mp a;obtain⟨f,e2⟩:=pf.mp b;exact(List.getElem_inj hN).mp (e1.trans e2.symm)
def AG{M:Model}{A:Around}{E:WE}{i:Nat}{x:Str}{v:V}{u:Value}{Q:Unit->Shared->Prop}(f:Inv X Oz Z H s)(hN:X.N.Nodup)(hi:X.N[i]?=J x)(F:Loc X.env.scope x)(r:aQ v u)(h:∀s',Inv X Oz (Z.set i (J v)) H s'->(∃a,Heap.SameBut a s.heap s'.heap/\(a=X.env.locals\/X.env.cells.lookup x=J a))->Q () s')(hf:X.fn x=I\/X.env.scope.names.lookup x=J .local:=by first | exact .inl rfl | exact .inr rfl | assumption):wpAny M A (storeName X.env x u) Q E s:=by
 obtain⟨m,hn,hl⟩:=id f.loc;have ai:(X.env.scope.kind == .class||(X.env.scope.kind == .module&&X.env.locals != X.env.globals))=T:=by rw[f.ok.kind];rfl
 have L:i<Z.length:=by rw[f.len];exact(pf.mp hi).1
 have cne:=f.cne;have B:∀{a:Addr}{h':Heap},(∃o,s.heap.get? a=J o/\H a=Y)->Heap.SameBut a s.heap h'->HOk X.prog X.w H h':=λ{a h'} ha l b ob e=>by
  obtain⟨_,_,G⟩:=ha;refine(f.hok b ob e).stay (λc w' C q=>(l.2 c ?_).trans q) (λ_ q=>q) λ_ _ q=>q;rintro rfl;rcases C with rfl|C
  .rw[G]at e;cases e
  .rw[G]at C;cases C
 rcases F with O|O
 .refine wpAny_storeName_local O hn (λh' al l=>?_) ai;obtain⟨oL,_,_,ap,_⟩:=id hn;refine h _ ⟨f.ok,f.os,f.bare,⟨λb o e n R F=>?_,λb o e n R F=>?_,f.base.free,λb o e F=>?_,f.base.tups,f.base.frzs,f.base.tbls⟩,⟨_,al,λj y v' e1 e2 e3=>?_⟩,λy c e=>?_,f.free,f.freeC,λp hp=>?_,B ⟨oL,ap,f.free⟩ l,by simpa using f.len⟩ ⟨_,l,.inl rfl⟩
  .exact (l.2 b (zt (t_ (pa e) f.ok.above))).trans (f.base.keep b o e n R F)
  .obtain⟨sl,e1⟩:=f.base.slot b o e n R F;exact⟨sl,(l.2 b (zt (t_ (pa e) f.ok.above))).trans e1⟩
  .obtain⟨o',e1⟩:=f.base.there b o e F;exact⟨o',(l.2 b (zt (t_ (pa e) f.ok.above))).trans e1⟩
  .by_cases P:j=i
   .subst P;rw[hi]at e1;cases e1;rw[C_ L]at e2;cases e2;exact⟨u,r,.inl ⟨O,by simp⟩⟩
   .rw[qa (Ne.symm P)]at e2;obtain⟨u',r',q⟩:=hl j y v' e1 e2 e3;refine⟨u',r',?_⟩;rcases q with⟨k,e⟩|⟨k,c,e,z⟩
    .refine .inl ⟨k,?_⟩
     have:y≠x:=λe=>P (vL hN e1 (e▸hi))
     simp[this,e]
    .exact .inr ⟨k,c,e,z.sameBut l (cne y c e)⟩
  .obtain⟨w',z⟩:=f.cell y c e;exact⟨w',z.sameBut l (cne y c e)⟩
  .obtain⟨e,n,ne,nf,d⟩:=f.pin p hp;exact⟨(l.2 p.1 ne).trans e,n,ne,nf,d⟩
 .have S:X.fn x=I:=by
   rcases hf with z|z
   .exact z
   .rw[z]at O;cases O
  obtain⟨c,C⟩:=f.ok.has x (.inl O);obtain⟨w',z⟩:=f.cell x c C;refine wpAny_storeName_cell f.ok.kind O C z (λh' W l=>?_);obtain⟨oc,ac,U⟩:=id z;refine h { s with heap:=h'} ⟨f.ok,f.os,f.bare,⟨λb o e n R F=>?_,λb o e n R F=>?_,f.base.free,λb o e F=>?_,f.base.tups,f.base.frzs,f.base.tbls⟩,⟨m,hn.sameBut l (Ne.symm (cne x c C)),λj y v' e1 e2 e3=>?_⟩,λy c' e=>?_,f.free,f.freeC,λp hp=>?_,B ⟨oc,ac,f.freeC x c C⟩ l,by simpa using f.len⟩ ⟨c,l,.inr C⟩
  .exact (l.2 b (zt (t_ (pa e) (f.ok.cab x c S C)))).trans (f.base.keep b o e n R F)
  .obtain⟨sl,e1⟩:=f.base.slot b o e n R F;exact⟨sl,(l.2 b (zt (t_ (pa e) (f.ok.cab x c S C)))).trans e1⟩
  .obtain⟨o',e1⟩:=f.base.there b o e F;exact⟨o',(l.2 b (zt (t_ (pa e) (f.ok.cab x c S C)))).trans e1⟩
  .by_cases P:j=i
   .subst P;rw[hi]at e1;cases e1;rw[C_ L]at e2;cases e2;exact⟨u,r,.inr ⟨.inl O,c,C,W⟩⟩
   .rw[qa (Ne.symm P)]at e2;obtain⟨u',r',q⟩:=hl j y v' e1 e2 e3;refine⟨u',r',?_⟩;rcases q with q|⟨k,c',e,z'⟩
    .exact .inl q
    .refine .inr ⟨k,c',e,z'.sameBut l ?_⟩;rintro rfl;exact P (vL hN e1 (f.ok.inj _ _ _ e C▸hi))
  .by_cases ak:c'=c
   .subst ak;exact⟨_,W⟩
   .obtain⟨w2,z2⟩:=f.cell y c' e;exact⟨w2,z2.sameBut l ak⟩
  .obtain⟨e,n,ne,nf,d⟩:=f.pin p hp;refine⟨(l.2 p.1 ?_).trans e,n,ne,nf,d⟩;intro q;rw[q,ac]at e;have q':oc=p.2:=Option.some.inj e;exact d w' (by rw[<-q'];exact U)
def mP(f:Inv X Oz Z H s)(hN:X.N.Nodup)(l:X.N[i]?=J x)(j:Loc X.env.scope x)(r:aQ v u)(h:∀a,Inv X Oz (Z.set i (J v)) H a->Q () a)(hf:X.fn x=I\/X.env.scope.names.lookup x=J .local:=by first | exact .inl rfl | exact .inr rfl | assumption):wpAny M A (storeName X.env x u) Q E s :=
 AG f hN l j r (λa y _=>h a y) hf
def Inv.call'(a:Inv X Oz Z H s)(i:s'.os=s.os)(u:Un (DS X.stack) ch H H' s.heap s'.heap)(hok:HOk X.prog X.w H' s'.heap)(hg:AllBare s'.gens)(f:∀b∈ch,(b∈X.ex\/X.s₀.heap.objs.size<=b)/\b≠X.env.locals/\(∀x c,X.env.cells.lookup x=J c->c≠b)/\∀p∈X.pn++Oz,p.1≠b):Inv X Oz Z H' s':=by
 obtain⟨h',l,y,j,z⟩:=s';have e:=i;subst e;exact a.call (g':=l) (t':=j) (d':=y) u hok hg f
end
abbrev XK:=Value->WK->Hp->Prop
abbrev St:=List (Option V)
abbrev VK:=V->Hp->Prop
abbrev TE:=St->Hp->VK->Prop
abbrev TT:=St->Hp->(Bool->Hp->Prop)->Prop
abbrev TA:=St->Hp->(List V->Hp->Prop)->Prop
structure Ends where
 nx:St->Hp->Prop
 rt:VK
 bk:St->Hp->Prop:=λ_ _=>False
 ct:St->Hp->Prop:=λ_ _=>False
abbrev TS:=Ends->St->Hp->Prop
inductive EP(X:Cx)(Oz:WU)(Z:St)(Q:VK)(u:Value)(s':Shared):Prop
 |mk(v:V)(H':Hp)(i:Inv X Oz Z H' s')(r:aQ v u)(q:Q v H'):EP X Oz Z Q u s'
inductive TP(X:Cx)(Oz:WU)(Z:St)(Q:Bool->Hp->Prop)(b:Bool)(s':Shared):Prop
 |mk(H':Hp)(i:Inv X Oz Z H' s')(q:Q b H'):TP X Oz Z Q b s'
inductive AP(X:Cx)(Oz:WU)(Z:St)(Q:List V->Hp->Prop)(us:WT)(s':Shared):Prop
 |mk(vs:List V)(H':Hp)(i:Inv X Oz Z H' s')(r:aM vs us)(q:Q vs H'):AP X Oz Z Q us s'
inductive SN(X:Cx)(Oz:WU)(Q:St->Hp->Prop)(s':Shared):Prop
 |mk(Z':St)(H':Hp)(i:Inv X Oz Z' H' s')(q:Q Z' H'):SN X Oz Q s'
inductive SR(X:Cx)(Oz:WU)(Q:VK)(u:Value)(s':Shared):Prop
 |mk(v:V)(Z':St)(H':Hp)(i:Inv X Oz Z' H' s')(r:aQ v u)(q:Q v H'):SR X Oz Q u s'
def SP(X:Cx)(a:WU)(D:Ends)(f:Flow)(i:Shared):Prop :=
 match f with
 |.next=>SN X a D.nx i
 |.brk=>SN X a D.bk i
 |.cont=>SN X a D.ct i
 |.ret u=>SR X a D.rt u i
def PE(X:Cx)(e:Expr)(t:TE):Prop :=
 ∀(a:WU)(s:Shared)(Z:St)(H:Hp)(Q:VK),Inv X a Z H s->t Z H Q->wpAny (model X.prog X.w) X.A (eval e X.env) (EP X a Z Q) X.xe s
def PT(X:Cx)(e:Expr)(t:TT):Prop :=
 ∀(a:WU)(s:Shared)(Z:St)(H:Hp)(Q:Bool->Hp->Prop),Inv X a Z H s->t Z H Q->wpAny (model X.prog X.w) X.A (isTrue e X.env (eval e X.env)) (TP X a Z Q) X.xe s
def PW(X:Cx)(e:Expr)(t:TT):Prop :=
 ∀(a:Sem Value)(f:WU)(s:Shared)(Z:St)(H:Hp)(Q:Bool->Hp->Prop),Inv X f Z H s->t Z H Q->wpAny (model X.prog X.w) X.A (isTrue e X.env a) (TP X f Z Q) X.xe s
def PW.pt(h:PW X e t):PT X e t:=h _
def PA(X:Cx)(i:WX)(t:TA):Prop :=
 ∀(a:Pos)(f:WU)(s:Shared)(Z:St)(H:Hp)(Q:List V->Hp->Prop),Inv X f Z H s->t Z H Q->wpAny (model X.prog X.w) X.A (spliced (backTo a (starEach i X.env))) (AP X f Z Q) X.xe s
def PS(X:Cx)(st:Stmt)(t:TS):Prop :=
 ∀(a:WU)(s:Shared)(Z:St)(H:Hp)(D:Ends),Inv X a Z H s->t D Z H->wpAny (model X.prog X.w) X.A (exec st X.env) (SP X a D) X.xe s
def PSs(X:Cx)(st:List Stmt)(t:TS):Prop :=
 ∀(a:WU)(s:Shared)(Z:St)(H:Hp)(D:Ends),Inv X a Z H s->t D Z H->wpAny (model X.prog X.w) X.A (execs st X.env) (SP X a D) X.xe s
def mf(h:wpAny M A t Q E s)(f:∀a s,Q a s->Q' a s):wpAny M A t Q' E s:=wpAny_mono h f λ_ _ x=>x
section
variable{X:Cx}
def uW(i:Nat):TE:=λZ H Q=>∃v,Z[i]?=J (J v)/\Q v H
def tC(v:V):TE:=λ_ H Q=>Q v H
def n5{i:Nat}{x:Str}{z:Pos}(hN:X.N[i]?=J x)(hv:MK X.env.scope x)(hd:(x==("__debug__":Str))=T:=by decide)(y:(x==("__classdict__":Str))=T:=by decide):PE X (.Name x z) (uW i):=by
 intro F s Z H Q a h;obtain⟨v,e,h⟩:=h;obtain⟨m,E,G⟩:=a.loc;obtain⟨u,r,l⟩:=G i x v hN e hv;have fin:EP X F Z Q u s:=⟨v,H,a,r,h⟩;rcases l with⟨j,C⟩|⟨j,c,B,f⟩
 .exact wpAny_Name (wpAny_loadName_local a.ok.kind j E C fin) hd
 .rcases j with j|j
  .exact wpAny_Name (wpAny_loadName_cell a.ok.kind j B f fin) hd
  .exact wpAny_Name (wpAny_loadName_free a.ok.kind j B f fin y) hd
def JE{i j pos}:PE X (.Constant (.int i) j pos) (tC (.int i)):=λ_ _ _ H _ a h=>wpAny_Constant_int ⟨.int i,H,a.tok _,⟨_,rfl⟩,h⟩
def Nj{b j pos}:PE X (.Constant (.bool b) j pos) (tC (.bl b)):=λ_ _ _ H _ a h=>Constant_bool ⟨.bl b,H,a,rfl,h⟩
def Bt{j pos}:PE X (.Constant .none j pos) (tC .non):=λ_ _ _ H _ a h=>Constant_none ⟨.non,H,a,rfl,h⟩
def Gl(X:Cx)(x:Str):Prop:=X.env.kindOf x=J .globalImplicit
def oR{E:WE}{i:WU}{s:Shared}{Z:St}{H:Hp}{x:Str}{u:Value}{f:Pos}{Q:WE}(a:Inv X i Z H s)(hg:Gl X x)(j:X.mg x=J u)(h:Q u s)(hd:(x==("__debug__":Str))=T:=by decide):wpAny (model X.prog X.w) X.A (eval (.Name x f) X.env) Q E s :=
 Calls.Name_function_global a.ok.kind hg (Calls.loadGlobal_global (by rw[a.ok.glob];exact a.mod.glob.keeps a.bk) j h) hd
def iK{E:WE}{l:WU}{s:Shared}{Z:St}{H:Hp}{x:Str}{u:Value}{f:Pos}{Q:WE}(a:Inv X l Z H s)(hg:Gl X x)(i:X.mg x=Y)(hv:bootBuiltins x=J u)(h:Q u s)(j:x≠"__name__":=by decide)(hd:(x==("__debug__":Str))=T:=by decide):wpAny (model X.prog X.w) X.A (eval (.Name x f) X.env) Q E s:=by
 obtain⟨B,z,y⟩:=a.mod.blt;exact Calls.Name_function_global a.ok.kind hg (Calls.loadGlobal_builtin (by rw[a.ok.glob];exact a.mod.glob.keeps a.bk) i (by rw[a.ok.blt];exact z.keeps a.bk) ((y x j).trans hv) h) hd
def FQ(hg:Gl X x)(f:X.mg x=J u)(r:aQ v u)(hd:(x==("__debug__":Str))=T:=by decide):PE X (.Name x pos) (tC v) :=
 λ_ _ _ H _ a h=>oR a hg f ⟨v,H,a,r,h⟩ hd
def sI{x:Str}{v:V}{u:Value}{f:Pos}(hg:Gl X x)(j:X.mg x=Y)(hv:bootBuiltins x=J u)(r:aQ v u)(i:x≠"__name__":=by decide)(hd:(x==("__debug__":Str))=T:=by decide):PE X (.Name x f) (tC v) :=
 λ_ _ _ H _ a h=>iK a hg j hv ⟨v,H,a,r,h⟩ i hd
variable{a b:Expr}{ta tb:TE}{pos:Pos}
def tB(t:TE):TT:=λZ H Q=>t Z H λx f=>∃c,x=.bl c/\Q c f
def JF(h:PE X e t)(l:∀f,isTrue e X.env f=(do let v <-f;standAt e.pos;holding [v] (truthy v)):=by intro _;rfl):PT X e (tB t):=by intro u s Z H Q i B;refine isTrue_plain (mf (h u s Z H _ i B) λv E ⟨x,y,C,z,j⟩=>?_) (l _);obtain⟨d,rfl,q⟩:=j;cases z;exact wpAny_truthy_bool ⟨y,C,q⟩
variable{tA tB':TT}{rest:WX}
def Sm(t u:TT):TT:=λZ H Q=>t Z H λc f=>if c=I then u Z f Q else Q T f
def V5(t u:TT):TT:=λZ H Q=>t Z H λc f=>if c=I then Q I f else u Z f Q
def Sn(t:TT):TT:=λZ H Q=>t Z H λc f=>Q (!c) f
def FR(i:PT X a tA):PW X (.BoolOp .And [a] pos) tA:=by
 intro l j s Z H Q f h;refine isTrue_and (mf (i j s Z H Q f h) λc u e=>?_)
 cases c with
 |true=>exact isTrue_and_nil e
 |false=>exact e
def JG(i:PT X a tA):PW X (.BoolOp .Or [a] pos) tA:=by
 intro l j s Z H Q f h;refine isTrue_or (mf (i j s Z H Q f h) λc u e=>?_)
 cases c with
 |false=>exact isTrue_or_nil e
 |true=>exact e
def JH(y:PT X a tA)(C:PW X (.BoolOp .And (b::rest) pos) tB'):PW X (.BoolOp .And (a::b::rest) pos) (Sm tA tB'):=by
 intro z i s Z H Q f h;refine isTrue_and (mf (y i s Z H _ f h) λc B ⟨l,u,j⟩=>?_)
 cases c with
 |true=>exact C z i B Z l Q u j
 |false=>exact⟨l,u,j⟩
def Nk(y:PT X a tA)(C:PW X (.BoolOp .Or (b::rest) pos) tB'):PW X (.BoolOp .Or (a::b::rest) pos) (V5 tA tB'):=by
 intro z i s Z H Q f h;refine isTrue_or (mf (y i s Z H _ f h) λc B ⟨l,u,j⟩=>?_)
 cases c with
 |true=>exact⟨l,u,j⟩
 |false=>exact C z i B Z l Q u j
def JI(j:PT X a tA):PT X (.UnaryOp .Not a pos) (Sn tA):=by intro l s Z H Q i h;exact isTrue_not (mf (j l s Z H (λc f=>Q (!c) f) i h) λ_ _ ⟨f,u,q⟩=>⟨f,u,q⟩)
def Nl(ta tb:TE):TE:=λZ H Q=>ta Z H λx f=>∃c,x=.bl c/\if c=I then tb Z f Q else Q (.bl T) f
def So(ta tb:TE):TE:=λZ H Q=>ta Z H λx f=>∃c,x=.bl c/\if c=I then Q (.bl I) f else tb Z f Q
def Nm(ta:TE):TE:=λZ H Q=>ta Z H λx f=>∃c,x=.bl c/\Q (.bl (!c)) f
def JJ{op}(h:PE X a t):PE X (.BoolOp op [a] pos) t:=λi s Z H Q f j=>BoolOp_one (h i s Z H Q f j)
def JK(y:PE X a ta)(B:PE X (.BoolOp .And (b::rest) pos) tb):PE X (.BoolOp .And (a::b::rest) pos) (Nl ta tb):=by
 intro j s Z H Q i h;refine BoolOp_and (mf (y j s Z H _ i h) λv z ⟨x,l,u,C,f⟩=>?_);obtain⟨c,rfl,f⟩:=f;cases C;refine wpAny_truthy_bool ?_
 cases c with
 |true=>exact B j z Z l Q u f
 |false=>exact⟨.bl T,l,u,rfl,f⟩
def No(y:PE X a ta)(B:PE X (.BoolOp .Or (b::rest) pos) tb):PE X (.BoolOp .Or (a::b::rest) pos) (So ta tb):=by
 intro j s Z H Q i h;refine BoolOp_or (mf (y j s Z H _ i h) λv z ⟨x,l,u,C,f⟩=>?_);obtain⟨c,rfl,f⟩:=f;cases C;refine wpAny_truthy_bool ?_
 cases c with
 |false=>exact B j z Z l Q u f
 |true=>exact⟨.bl I,l,u,rfl,f⟩
def JL(j:PE X a ta):PE X (.UnaryOp .Not a pos) (Nm ta):=by intro l s Z H Q i h;refine UnaryOp_ (mf (j l s Z H _ i h) λv B ⟨x,u,y,z,f⟩=>?_);obtain⟨c,rfl,f⟩:=f;cases z;exact not_of (wpAny_truthy_bool ⟨.bl (!c),u,y,rfl,f⟩)
def V6(t:TT)(ta tb:TE):TE:=λZ H Q=>t Z H λc f=>if c=I then ta Z f Q else tb Z f Q
def Dy(B:PT X c tA)(z:PE X a ta)(C:PE X b tb):PE X (.IfExp c a b pos) (V6 tA ta tb):=by
 intro f s Z H Q i h;refine wpAny_IfExp (mf (B f s Z H _ i h) λd j ⟨u,y,l⟩=>?_)
 cases d with
 |true=>exact z f j Z u Q y l
 |false=>exact C f j Z u Q y l
end
def SqL(K:hR)(H:Hp)(a:Addr)(xs:List V):Prop :=
 Rd H a (.lst xs) \/
  ∃(o:Obj) (f:Array Value) (n:Nat),K.lookup a=J o/\o.cls=.type "list"/\o.dict=Y/\o.data=.seq f n/\f.size<=sizeLine/\aM xs f.toList
def SqT(K:hR)(H:Hp)(a:Addr)(xs:List V):Prop :=
 Rd H a (.tup xs) \/
  ∃(o:Obj) (f:Array Value) (n:Nat),K.lookup a=J o/\o.cls=.type "tuple"/\(o.data=.seq f n/\o.dict=Y)/\f.size<=sizeLine/\aM xs f.toList
def Sq:Value->Option V
 |.none=>J .non
 |.bool b=>J (.bl b)
 |.int i _=>J (.int i)
 |.str x _=>J (.str x)
 |.bytes b _=>J (.byt b)
 |.float b _=>J (.flt b)
 |.ref a=>J (.ref a)
 |.type n=>J (.ty n)
 |_=>Y
def aQ.abs(r:aQ x u):Sq u=J x:=by
 cases x with
 |non=>cases r;rfl
 |bl _=>cases r;rfl
 |int _=>obtain⟨t,rfl⟩:=r;rfl
 |str _=>obtain⟨t,rfl⟩:=r;rfl
 |byt _=>obtain⟨t,rfl⟩:=r;rfl
 |flt _=>obtain⟨t,rfl⟩:=r;rfl
 |ref _=>cases r;rfl
 |ty _=>cases r;rfl
def aQ.inj(r:aQ x u)(q:aQ y u):x=y:=Option.some.inj (r.abs.symm.trans q.abs)
def aM.inj(r:aM xs us)(q:aM ys us):xs=ys:=by
 induction r generalizing ys with
 |nil=>cases q;rfl
 |cons r t i=>cases q with|cons a f=>rw[r.inj a,i f]
section
variable{X:Cx}{Oz:List (Addr × Obj)}{Z:St}{H:Hp}{s:Shared}{a:Addr}{xs ys:List V}
def SqL.of{K:hR}(h:H a=J (.lst xs)):SqL K H a xs:=.inl (.inl h)
def SqT.of{K:hR}(h:H a=J (.tup xs)):SqT K H a xs:=.inl (.inl h)
def Inv.list(i:Inv X Oz Z H s)(h:SqL X.K H a xs):∃f:WT,aM xs f/\PlainL s.heap a f.toArray/\xs.length<=sizeLine:=by
 rcases h with h|⟨o,f,n,u,j,hd,l,y,r⟩
 .obtain⟨z,f,n,r,e⟩:=h.ok i.hok;exact⟨f,r,⟨_,n,e,rfl,rfl,rfl⟩,z⟩
 .refine⟨f.toList,r,⟨o,n,i.kIn a o u,j,hd,by simpa using l⟩,?_⟩;have e:=r.length
  grind
def Inv.tupleN(i:Inv X Oz Z H s)(h:SqT X.K H a xs):∃f:WT,aM xs f/\jB s.heap a f.toArray/\xs.length<=sizeLine:=by
 rcases h with h|⟨o,f,n,u,l,j,y,r⟩
 .obtain⟨z,f,r,p⟩:=h.ok i.hok;exact⟨f,r,p,z⟩
 .refine⟨f.toList,r,⟨o,i.kIn a o u,l,⟨n,by simpa using j.1⟩,j.2⟩,?_⟩;have e:=r.length
  grind
def Inv.tuple(i:Inv X Oz Z H s)(h:SqT X.K H a xs):∃f:WT,aM xs f/\IsTup s.heap a f.toArray/\xs.length<=sizeLine :=
 let⟨f,r,p,z⟩:=i.tupleN h
 ⟨f,r,p.tup,z⟩
def Inv.list_inj(i:Inv X Oz Z H s)(h:SqL X.K H a xs)(z:SqL X.K H a ys):xs=ys:=by
 obtain⟨j,r,⟨o,n,e,_,_,d⟩,_⟩:=i.list h;obtain⟨f,y,⟨B,C,u,_,_,l⟩,_⟩:=i.list z;rw[e]at u;cases u;rw[d]at l;injection l with d1 _
 have:j=f:=by simpa using congrArg Array.toList d1
 subst this;exact r.inj y
def Inv.tuple_inj(i:Inv X Oz Z H s)(h:SqT X.K H a xs)(z:SqT X.K H a ys):xs=ys:=by
 obtain⟨j,r,⟨o,e,_,n,d⟩,_⟩:=i.tuple h;obtain⟨f,y,⟨B,u,_,C,l⟩,_⟩:=i.tuple z;rw[e]at u;cases u;rw[d]at l;injection l with d1 _
 have:j=f:=by simpa using congrArg Array.toList d1
 subst this;exact r.inj y
end
abbrev Cx.wish(X:Cx)(E:WE):Cx:={ X with xe:=E}
abbrev Cx.nox(X:Cx):Cx:=X.wish λ_ _=>False
def Cx.Ok.wish{X:Cx}(ok:X.Ok)(E:WE):(X.wish E).Ok :=
 ⟨ok.mod,ok.kind,ok.glob,ok.blt,ok.above,ok.inj,ok.has,ok.cab,ok.hd,ok.frames,ok.stk,ok.exf,ok.bs,ok.bsz,ok.noex,ok.exfs,ok.funs,ok.frf,ok.tree,ok.top⟩
def Cx.Ok.unwish{X:Cx}{E:WE}(ok:(X.wish E).Ok):X.Ok :=
 ⟨ok.mod,ok.kind,ok.glob,ok.blt,ok.above,ok.inj,ok.has,ok.cab,ok.hd,ok.frames,ok.stk,ok.exf,ok.bs,ok.bsz,ok.noex,ok.exfs,ok.funs,ok.frf,ok.tree,ok.top⟩
section
variable{X:Cx}{Oz:List (Addr × Obj)}{Z:St}{H:Hp}{s:Shared}{E:WE}
def Inv.wish(a:Inv X Oz Z H s)(E:WE):Inv (X.wish E) Oz Z H s:=⟨a.ok.wish E,a.os,a.bare,a.base,a.loc,a.cell,a.free,a.freeC,a.pin,a.hok,a.len⟩
def Inv.unwish(a:Inv (X.wish E) Oz Z H s):Inv X Oz Z H s:=⟨a.ok.unwish,a.os,a.bare,a.base,a.loc,a.cell,a.free,a.freeC,a.pin,a.hok,a.len⟩
def SP.unwish(h:SP (X.wish E) Oz D f s'):SP X Oz D f s':=by
 cases f with
 |next=>obtain⟨j,i,a,q⟩:=h;exact⟨j,i,a.unwish,q⟩
 |brk=>obtain⟨j,i,a,q⟩:=h;exact⟨j,i,a.unwish,q⟩
 |cont=>obtain⟨j,i,a,q⟩:=h;exact⟨j,i,a.unwish,q⟩
 |ret u=>obtain⟨v,j,i,a,r,q⟩:=h;exact⟨v,j,i,a.unwish,r,q⟩
def PSs.nox{st:List Stmt}{t:TS}(h:PSs X.nox st t):PSs X st t:=λOz s Z H D a f =>
 wpAny_mono (h Oz s Z H D (a.wish _) f) (λ_ _ q=>q.unwish) λ_ _ z=>False.elim z
end
section
variable{X:Cx}{st:Stmt}{rest:List Stmt}{t u:TS}{e:Expr}{te:TE}{pos:Pos}
def Np:TS:=λD Z H=>D.nx Z H
def Nq(t u:TS):TS:=λD Z H=>t { D with nx:=u D} Z H
def FS:PSs X [] Np:=λ_ _ Z H _ a h=>wpAny_execs_nil ⟨Z,H,a,h⟩
def uH(C:PS X st t)(B:PSs X rest u):PSs X (st::rest) (Nq t u):=by
 intro i s Z H D a h;refine wpAny_execs_cons (mf (C i s Z H { D with nx:=u D} a h) λf j q=>?_)
 cases f with
 |next =>
  obtain⟨z,y,l,q⟩:=q;exact B i j z y D l q
 |ret v=>exact q
 |brk=>exact q
 |cont=>exact q
def sR(j:PS X st t):PSs X [st] t:=by
 intro i s Z H D a h;refine wpAny_execs_cons (mf (j i s Z H D a h) λf l q=>?_)
 cases f with
 |next=>exact wpAny_execs_nil q
 |ret v=>exact q
 |brk=>exact q
 |cont=>exact q
def Inv.quiet{f:WU}{Z:St}{H:Hp}{s:Shared}(a:Inv X f Z H s):interactive X.env=T:=by simp[interactive,a.ok.kind]
def Ie(te:TE):TS:=λD Z H=>te Z H λ_ a=>D.nx Z a
def yt(z:PE X e te)(f:swapsWith e Y pos.line X.env=pure T:=by rfl):PS X (.Expr e pos) (Ie te):=by intro i s Z H D a h;exact wpAny_Expr_any (mf (z i s Z H _ a h) λv B ⟨x,l,y,C,j⟩=>⟨Z,l,y,j⟩) a.quiet f
def Sr(te:TE):TS:=λD Z H=>te Z H D.rt
def JM(z:PE X e te):PS X (.Return (J e) pos) (Sr te):=by intro f s Z H D a h;exact wpAny_Return_some (mf (z f s Z H _ a h) λv B ⟨x,j,l,y,i⟩=>⟨x,Z,j,l,y,i⟩)
def Ss(c:TT)(t u:TS):TS:=λD Z H=>c Z H λb a=>if b=I then t D Z a else u D Z a
def Nr(C:PT X c tc)(B:PSs X a t)(E:PSs X b u):PS X (.If c a b pos) (Ss tc t u):=by
 intro f s Z H D i h;refine wpAny_If (mf (C f s Z H _ i h) λd j ⟨y,z,l⟩=>?_)
 cases d with
 |true=>exact B f j Z y D z l
 |false=>exact E f j Z y D z l
end
abbrev TG:=V->St->Hp->(St->Hp->Prop)->Prop
abbrev ML:=List V->St->Hp->(St->Hp->Prop)->Prop
def PG(X:Cx)(a:Expr)(t:TG):Prop :=
 ∀(f:WU)(s:Shared)(Z:St)(H:Hp)(v:V)(u:Value)(Q:St->Hp->Prop),Inv X f Z H s->aQ v u->t v Z H Q ->
  wpAny (model X.prog X.w) X.A (assign a X.env u) (λ_ i=>SN X f Q i) X.xe s
def PGs(X:Cx)(l:WX)(t:ML):Prop :=
 ∀(a:WU)(s:Shared)(Z:St)(H:Hp)(i:List V)(f:WT)(Q:St->Hp->Prop),Inv X a Z H s->aM i f->t i Z H Q ->
  wpAny (model X.prog X.w) X.A (assignInOrder ((assignEach l X.env).map (·.2)) f) (λ_ j=>SN X a Q j) X.xe s
abbrev Nt:=V->V->V->Hp->(Hp->Prop)->Prop
inductive SE(X:Cx)(Oz:WU)(Z:St)(Q:Hp->Prop)(s':Shared):Prop
 |mk(H':Hp)(i:Inv X Oz Z H' s')(q:Q H'):SE X Oz Z Q s'
def Nu(X:Cx)(t:Nt):Prop :=
 ∀(a:WU)(s:Shared)(Z:St)(H:Hp)(o i v:V)(ov f u:Value)(Q:Hp->Prop),Inv X a Z H s->aQ o ov->aQ i f->aQ v u->t o i v H Q ->
  wpAny (model X.prog X.w) X.A (setItem ov f u) (λ_ j=>SE X a Z Q j) X.xe s
section
variable{X:Cx}{pos:Pos}
def Ig(i:Nat):TG:=λv Z H Q=>Q (Z.set i (J v)) H
def ya(hN:X.N.Nodup)(j:X.N[i]?=J x)(f:Loc X.env.scope x)(hf:X.fn x=I\/X.env.scope.names.lookup x=J .local:=by first | exact .inl rfl | exact .inr rfl | assumption):PG X (.Name x pos) (Ig i):=by intro y s Z H v u Q a r h;exact wpAny_assign_Name (mP a hN j f r (λz l=>⟨_,H,l,h⟩) hf)
def Su:ML:=λa Z H Q=>a=[]/\Q Z H
def Nv(t:TG)(u:ML):ML:=λi Z H Q=>∃v r,i=v::r/\t v Z H λf a=>u r f a Q
def FT:PGs X [] Su:=by intro f s Z H j i Q a r h;obtain⟨e,h⟩:=h;subst e;cases r;exact assignInOrder_nil ⟨Z,H,a,h⟩
def Do(l:PG X e t)(C:PGs X es u)(y:(assignEach (e::es) X.env).map (·.2)=assign e X.env::(assignEach es X.env).map (·.2):=by rfl):PGs X (e::es) (Nv t u):=by
 intro f s Z H L M Q a r h;obtain⟨v,G,e1,h⟩:=h;subst e1
 cases r with
 |cons r z =>
  rw[y];refine assignInOrder_cons (mf (l f s Z H _ _ _ a r h) λ_ i ⟨E,B,F,j⟩=>?_);exact C f i E B _ _ Q F z j
def Sv(K:hR)(n:Nat)(t:ML):TG:=λv Z H Q=>∃a xs,v=.ref a/\SqT K H a xs/\xs.length=n/\t xs Z H Q
def JN{i:WX}{k:Nat}{t:ML}{n:Nat}(E:X.calm=I)(h:PGs X i t)(C:(assignEach i X.env).length=n:=by rfl)(j:(assignEach i X.env).findIdx? (·.1)=Y:=by rfl):PG X (.Tuple i k pos) (Sv X.K n t):=by
 intro F s Z H v u Q f r l;obtain⟨a,xs,e1,hq,G,l⟩:=l;subst e1;cases r;obtain⟨L,y,z,O⟩:=f.tuple hq;refine assign_Tuple_tuple (f.ok.hd E) z (by simp[C,<-G,y.length]) j λP B=>?_;have M:=f.kept (t':=s.toks) λb o e=>B b o (zt (pa e)) e;exact h F _ Z H xs _ Q M (by simpa using y) l
def Sw(to j:TE)(t:Nt):TG:=λv Z H Q=>to Z H λo l=>j Z l λi f=>t o i v f λa=>Q Z a
def JO(W:PE X o to)(L:PE X i ti)(R:Nu X t)(ha:∀v,assign (.Subscript o i pos) X.env v=(do
   let ov <-holding [v] (eval o X.env)
   let a <-holding [v,ov] (eval i X.env)
   standAt pos
   holding [v,ov,a] (setItem ov a v)
   release [v,ov,a] []):=by intro _;rfl):PG X (.Subscript o i pos) (Sw to ti t):=by
 intro f s Z H v u Q j r h;refine f_ (wpAny_holding (mf (W f s Z H _ j h) λov z ⟨x,S,I1,U,B⟩=>?_));refine f_ (wpAny_holding (mf (L f z Z S _ I1 B) λa E ⟨y,G,F,P,C⟩=>?_));refine f_ (wpAny_standAt (f_ (wpAny_holding (mf (R f E Z G x y v ov a u _ F U P r C) λ_ s3 ⟨l,M,O⟩=>?_))));exact wpAny_release ⟨Z,l,M,O⟩
def Nw(f:TE)(g:TG):TS:=λD Z H=>f Z H λx a=>g x Z a D.nx
def JP(y:PE X e te)(hg:PG X tg g)(u:swapsWithSole [tg] e pos.line X.env=pure T:=by rfl)(E:swappedStores [tg] e X.env=pure Y:=by rfl)(l:(assignEach [tg] X.env).map (·.2)=[assign tg X.env]:=by rfl):PS X (.Assign [tg] e pos) (Nw te g):=by
 intro f s Z H D a h;refine wpAny_Assign_stores (mf (y f s Z H _ a h) λv i ⟨x,z,C,B,j⟩=>?_) u E;rw[l];exact mf (hg f i Z z x v _ C B j) λ_ F q=>q
def Am(hN:X.N.Nodup)(u:X.N[i]?=J x)(l:Loc X.env.scope x)(B:PE X e te)(z:swapsWith e (J (.Name x pos')) pos.line X.env=pure T:=by rfl)(hf:X.fn x=I\/X.env.scope.names.lookup x=J .local:=by first | exact .inl rfl | exact .inr rfl | assumption):
  PS X (.Assign [.Name x pos'] e pos) (Nw te (Ig i)):=by
 intro C s Z H D a h;refine wpAny_Assign_Name (mf (B C s Z H _ a h) λv L ⟨y,E,G,F,f⟩=>?_) z;exact mP G hN u l F (λM j=>⟨_,E,j,f⟩) hf
def Sx(i j:Nat)(a:TA):TS:=λD Z H=>a Z H λl f=>∃v w,l=[v,w]/\D.nx ((Z.set i (J v)).set j (J w)) f
def JQ{kt k2 pt2}(hc:X.calm=I)(hN:X.N.Nodup)(W:X.N[i]?=J x)(Q:X.N[j]?=J y)(E:i≠j)(G:X.env.scope.names.lookup x=J .local)(F:X.env.scope.names.lookup y=J .local)(P:PA X [a,b] ta)(hw:swappedStores [.Tuple [.Name x px,.Name y py] kt pt] (.Tuple [a,b] k2 pt2) X.env=pure (J [x,y]))(hs:swapsWithSole [.Tuple [.Name x px,.Name y py] kt pt] (.Tuple [a,b] k2 pt2) pos.line X.env=pure T:=by rfl):
  PS X (.Assign [.Tuple [.Name x px,.Name y py] kt pt] (.Tuple [a,b] k2 pt2) pos) (Sx i j ta):=by
 intro L s Z H D u h;refine f_ (wpAny_standAt ?_);refine f_ (nc ?_);refine f_ (Tuple_ (mf (P _ L s Z H _ u h) λus f ⟨vs,M,I1,r1,B⟩=>?_));obtain⟨v,w,e1,B⟩:=B;subst e1;obtain⟨l,z,rfl,rv,rw'⟩:∃l z,us=[l,z]/\aQ v l/\aQ w z:=by
  cases r1 with
  |cons p q =>
   cases q with
   |cons R U =>
    cases U;exact⟨_,_,rfl,p,R⟩
 refine wpAny_newObj_type ?_ (by show 2<=sizeLine;decide);have S:Inv X L Z M { f with heap:=f.heap.push { cls:=.type "tuple",data:=.seq [l,z].toArray}}:=I1.kept (t':=f.toks) λb o e=>nj _ e;rw[hw];show wpAny (model X.prog X.w) X.A (do rule "assign.swapped-stores";let items <-unpackItems (.ref f.heap.objs.size) 2 Y;assignInOrder [λv=>bindName X.env y v,λv=>bindName X.env x v] items.reverse;pure Flow.next) _ _ _;refine f_ (wpAny_rule (f_ (unpackItems_tuple (items:=#[l,z]) (u.ok.hd hc) (IsTup.new f.heap _) λh' C=>?_)));have I3:=S.kept (h':=h') (t':=f.toks) λb o e=>C b o (zt (pa e)) e;refine f_ (assignInOrder_cons (wpAny_bindName (mP I3 hN Q (.inl F) rw' (λs2 I4=>?_) (.inr F))));refine assignInOrder_cons (wpAny_bindName (mP I4 hN W (.inl G) rv (λs3 O=>assignInOrder_nil (nc ?_)) (.inr G)));rw[List.set_comm _ _ (Ne.symm E)]at O;exact⟨_,M,O,B⟩
def JR(c:TT)(l:TS):TS:=λD Z H=>∃W:Nat->St->Hp->Prop,(∃m,W m Z H)/\∀m Z H,W m Z H ->
 c Z H λb a=>if b=I then ∃N:St->Hp->Prop,(∀j f,N j f->∃i,i<m/\W i j f)/\l { D with nx:=N,ct:=N,bk:=D.nx} Z a else D.nx Z a
def B9(Q:PassesOwn (model X.prog X.w) X.A X.env X.xe)(hc:PT X c tc)(hb:PSs X body tb):PS X (.While c body [] pos) (JR tc tb):=by
 intro C s Z H D E h;obtain⟨W,⟨m0,w0⟩,turn⟩:=h;refine wpAny_While (codeAny_whileLoop (λn s'=>∃P O,Inv X C P O s'/\W n P O) ?_ m0 ⟨Z,H,E,w0⟩);rintro n S ⟨u,R,I1,U⟩;refine wpAny_passesOwn Q (mf (hc C S u R _ I1 (turn n u R U)) λb s2 ⟨M,L,j⟩=>?_)
 cases b with
 |true =>
  obtain⟨N,hN,j⟩:=j;refine wpAny_passesOwn Q (mf (hb C s2 u M _ L j) λf s3 l=>?_)
  cases f with
  |next =>
   obtain⟨i,a,B,y⟩:=l;obtain⟨G,z,F⟩:=hN i a y;exact⟨G,z,i,a,B,F⟩
  |cont =>
   obtain⟨i,a,B,y⟩:=l;obtain⟨G,z,F⟩:=hN i a y;exact⟨G,z,i,a,B,F⟩
  |brk=>exact l
  |ret v=>exact l
 |false =>
  exact wpAny_execs_nil ⟨u,M,L,j⟩
end
structure It where
 go:Nat->Hp->Prop
 yld:Nat->Hp->V->Hp->Prop
 stop:Nat->Hp->Prop
def jF(X:Cx)(a:WU)(H:Hp)(b:Addr):Prop :=
 H b=Y/\b≠X.env.locals/\b∉X.fs/\(b∈X.ex\/X.s₀.heap.objs.size<=b)/\(∀x c,X.env.cells.lookup x=J c->c≠b)/\∀p∈X.pn++a,p.1≠b
def Inv.fpOk{X:Cx}{i:WU}{Z:St}{H H':Hp}{s:Shared}{b:Addr}(a:Inv X i Z H s)(f:s.heap.objs.size<=b)(l:H' b=Y):jF X i H' b:=by
 refine⟨l,Ev (t_ a.lt f),a.nofs f,.inr (oh a.sz f),λx c e z=>?_,λp j z=>?_⟩
 .obtain⟨v,q⟩:=a.cell x c e;exact absurd (t_ q.lt (by rw[z];exact f)) (Ez _)
 .exact absurd (t_ (pa (a.pin p j).1) (by rw[z];exact f)) (Ez _)
inductive UY(X:Cx)(Oz:WU)(Z:St)(u:Value)(Y:V->Hp->Prop)(n:Heap->Prop)(fp:WS)(s2:Shared):Prop
 |mk(x:V)(H':Hp)(i:Inv X Oz Z H' s2)(r:aQ x u)(y:Y x H')(t:n s2.heap)(f:∀b∈fp,H' b=none):UY X Oz Z u Y n fp s2
structure EA(P:Program)(w:World)(K:hR)(tg:Expr)(J:It)(fp:WS)(it:Addr)(tn:Nat->Heap->Prop):Prop where
 mem:it∈fp
 obj:∀i h,tn i h->∀b∈fp,∃o,h.get? b=some o/\∀v,o.data≠.cell v
 keep:∀i h h',tn i h->(∀b∈fp,∀o,h.get? b=some o->h'.get? b=some o)->tn i h'
 item:∀(X:Cx),X.prog=P->X.w=w->X.K=K->X.calm=I->∀(i:Nat)(Oz:WU)(s:Shared)(Z:St)(H:Hp)(E:WE),Inv X Oz Z H s->(∀b∈fp,jF X Oz H b)->tn i s.heap->J.go i H ->
  wpAny (model P w) X.A (pyNext (.ref it)) (λr s1=>∃u,r=some u /\
   wpAny (model P w) X.A (letOwnedTupleGo tg (.ref it) u) (λ_ s2=>UY X Oz Z u (J.yld i H) (tn (i+1)) fp s2) E s1) E s
 done:∀(X:Cx),X.prog=P->X.w=w->X.K=K->X.calm=I->∀(i:Nat)(Oz:WU)(s:Shared)(Z:St)(H:Hp)(E:WE),Inv X Oz Z H s->(∀b∈fp,jF X Oz H b)->tn i s.heap->J.stop i H ->
  wpAny (model P w) X.A (pyNext (.ref it)) (λr s1=>r=Y/\Inv X Oz Z H s1) E s
 self:∀(A:Around)(i:Nat)(s:Shared)(Q:WE)(E:WE),tn i s.heap->Q (.ref it) s->wpAny (model P w) A (pyIter (.ref it)) Q E s
abbrev TI:=St->Hp->(It->Hp->Prop)->Prop
inductive Sy(X:Cx)(Oz:WU)(Z:St)(tg:Expr)(R:It->Hp->Prop)(itv:Value)(s2:Shared):Prop
 |mk(it:Addr)(fp:WS)(tn:Nat->Heap->Prop)(J:It)(H':Hp)(e:itv=.ref it)(i:Inv X Oz Z H' s2)(t:EA X.prog X.w X.K tg J fp it tn)(n:tn 0 s2.heap)(f:∀b∈fp,jF X Oz H' b)(r:R J H'):Sy X Oz Z tg R itv s2
def PI(X:Cx)(l a:Expr)(j:TI):Prop :=
 ∀(f:WU)(s:Shared)(Z:St)(H:Hp)(R:It->Hp->Prop),Inv X f Z H s->j Z H R ->
  wpAny (model X.prog X.w) X.A (eval a X.env) (λv i=>wpAny (model X.prog X.w) X.A (pyIter v) (Sy X f Z l R) X.xe i) X.xe s
def uB(f:s.heap.get? it=J o)(j:o.cls=.type n)(hd:o.data=.fields vs)(i:["enumerate","zip","dict_itemiterator","dict_reverseitemiterator","odict_iterator","itertools.zip_longest","itertools.pairwise"].contains n=T)(a:Q () s):wpAny M A (letOwnedTupleGo tg (.ref it) u) Q E s:=by
 cases tg<;>first
  |exact nc a
  | (cases u<;>first
    |exact nc a
    | (refine f_ (wpAny_load f ?_)
       rw[j,hd];show wpAny M A (if(["enumerate","zip","dict_itemiterator","dict_reverseitemiterator","odict_iterator","itertools.zip_longest","itertools.pairwise"].contains n&&vs[0]? == J (rawInt _))=I then _ else _) Q E s;rw[g_ (by intro h;rw[i]at h;cases h)]
       exact nc a))
def Sz(K:hR)(a:Addr):It :=
 ⟨λi H=>∃xs x,SqL K H a xs/\xs[i]?=J x,λi H x f=>f=H/\∀xs,SqL K H a xs->xs[i]?=J x,λi H=>∃xs,SqL K H a xs/\xs.length<=i⟩
def UZ(K:hR)(a:Addr):It :=
 ⟨λi H=>∃xs x,SqT K H a xs/\xs[i]?=J x,λi H x f=>f=H/\∀xs,SqT K H a xs->xs[i]?=J x,λi H=>∃xs,SqT K H a xs/\xs.length<=i⟩
def Q7(lo:Int)(n:Nat):It:=⟨λi _=>i<n,λi H x a=>a=H/\x=.int (lo+i),λi _=>n<=i⟩
def B1{P:Program}{w:World}{K:hR}{tg:Expr}(a l:Addr):EA P w K tg (Sz K a) [l] l (λi h=>h.IsListIter l a i) where
 mem:=by simp
 obj:=λi h st b j=>by
  have e:b=l:=by simpa using j
  subst e;obtain⟨o,e,c,d⟩:=st;exact⟨o,e,λv z=>by rw[d]at z;cases z⟩
 keep:=λi h h' st k=>st.at λo e=>k l (by simp) o e
 item:=by intro X O S B W i Oz s Z H E f hf st hg;subst O S B;obtain⟨xs,x,hq,F⟩:=hg;obtain⟨R,L,p,hz⟩:=f.list hq;obtain⟨u,hu,ru⟩:=L.get F;obtain⟨U,Q,f2,G,C,M⟩:=hf l (by simp);refine wpAny_pyNext_list_item st p.isList (by simpa using hu) λh' y sb=>?_;have I1:=f.turned (t':=s.toks) (λb o j e=>(sb.2 b j).trans e) U Q G C M;obtain⟨o,e,c,d⟩:=id y;exact⟨u,rfl,uB e c d (by decide) ⟨x,H,I1,ru,⟨rfl,λys hy=>by rw[f.list_inj hy hq];exact F⟩,y,λb j=>(hf b j).1⟩⟩
 done:=by intro X O S B W i Oz s Z H E f hf st hg;subst O S B;obtain⟨xs,hq,F⟩:=hg;obtain⟨R,L,p,hz⟩:=f.list hq;obtain⟨U,Q,f2,G,C,M⟩:=hf l (by simp);have hl:=L.length;exact wpAny_pyNext_list_end (f.ok.hd W) st p.isList (by simp;lia) λh' eb=>⟨rfl,f.turned (t':=s.toks) (λb o j e=>eb b o j e) U Q G C M⟩
 self:=λ_ _ _ _ _ st h=>wpAny_pyIter_listiter st h
def yR{P:Program}{w:World}{K:hR}{tg:Expr}(a l:Addr):EA P w K tg (UZ K a) [l] l (λi h=>h.IsTupleIter l a i) where
 mem:=by simp
 obj:=λi h st b j=>by
  have e:b=l:=by simpa using j
  subst e;obtain⟨o,e,c,d⟩:=st;exact⟨o,e,λv z=>by rw[d]at z;cases z⟩
 keep:=λi h h' st k=>st.at λo e=>k l (by simp) o e
 item:=by intro X O S B W i Oz s Z H E f hf st hg;subst O S B;obtain⟨xs,x,hq,F⟩:=hg;obtain⟨R,L,p,hz⟩:=f.tuple hq;obtain⟨u,hu,ru⟩:=L.get F;obtain⟨U,Q,f2,G,C,M⟩:=hf l (by simp);refine wpAny_pyNext_tuple_item st (p) (by simpa using hu) λh' y sb=>?_;have I1:=f.turned (t':=s.toks) (λb o j e=>(sb.2 b j).trans e) U Q G C M;obtain⟨o,e,c,d⟩:=id y;exact⟨u,rfl,uB e c d (by decide) ⟨x,H,I1,ru,⟨rfl,λys hy=>by rw[f.tuple_inj hy hq];exact F⟩,y,λb j=>(hf b j).1⟩⟩
 done:=by intro X O S B W i Oz s Z H E f hf st hg;subst O S B;obtain⟨xs,hq,F⟩:=hg;obtain⟨R,L,p,hz⟩:=f.tuple hq;obtain⟨U,Q,f2,G,C,M⟩:=hf l (by simp);have hl:=L.length;exact wpAny_pyNext_tuple_end (f.ok.hd W) st (p) (by simp;lia) λh' eb=>⟨rfl,f.turned (t':=s.toks) (λb o j e=>eb b o j e) U Q G C M⟩
 self:=λ_ _ _ _ _ st h=>wpAny_pyIter_tupleiter st h
def zd{P:Program}{w:World}{K:hR}{tg:Expr}(f:Addr)(lo:Int)(n:Nat):EA P w K tg (Q7 lo n) [f] f (λi h=>IsRangeIter h f (lo+(i:Nat)*1) ((n:Int)-(i:Nat)) 1) where
 mem:=by simp
 obj:=λi h st b j=>by
  have e:b=f:=by simpa using j
  subst e
  exact⟨_,st,λv z=>by
   have z':=z
   cases z'⟩
 keep:=λi h G st k=>k f (by simp) _ st
 item:=by intro X Q R M B i O s Z H E a hf st hg;subst Q R M;obtain⟨L,F,S,y,u,C⟩:=hf f (by simp);have W:=Walks.range (prog:=X.prog) (w:=X.w) (a.ok.hd B) f lo 1 n;refine W.item i s _ _ hg st λv G tk hv l U=>?_;obtain⟨t,rfl⟩:=hv;have I1:Inv X O Z H { s with heap:=G,toks:=tk}:=a.turned (λb o j e=>U b o (by simpa using j) e) L F y u C;refine⟨_,rfl,uB l rfl rfl (by decide) ⟨.int (lo+i),H,I1,⟨t,?_⟩,⟨rfl,rfl⟩,l,λb j=>(hf b j).1⟩⟩;rw[Int.mul_one]
 done:=by intro X Q R M B i O s Z H E a hf st hg;obtain⟨L,F,S,y,u,C⟩:=hf f (by simp);exact wpAny_pyNext_range_end (a.ok.hd B) st (by have:n<=i:=hg;lia) λG eb=>⟨rfl,a.turned (t':=s.toks) (λb o j e=>eb b o j e) L F y u C⟩
 self:=λ_ _ _ _ _ st h=>wpAny_pyIter_rangeiter st h
section
variable{X:Cx}{tg:Expr}
def Nx(K:hR)(tl:TE):TI:=λZ H R=>tl Z H λx f=>∃a,x=.ref a/\(∃xs,SqL K f a xs)/\R (Sz K a) f
def SA(K:hR)(tl:TE):TI:=λZ H R=>tl Z H λx f=>∃a,x=.ref a/\(∃xs,SqT K f a xs)/\R (UZ K a) f
def FU{l:Expr}{tl:TE}(E:PE X l tl):PI X tg l (Nx X.K tl):=by
 intro z s Z H R j h;refine mf (E z s Z H _ j h) λv f ⟨x,B,i,C,u⟩=>?_;obtain⟨a,e,⟨xs,hq⟩,q⟩:=u;subst e;cases C;obtain⟨F,G,p,L⟩:=i.list hq;refine wpAny_pyIter_list p.isList ?_;refine⟨f.heap.objs.size,[f.heap.objs.size],_,_,B,rfl,i.kept (t':=f.toks) λb o e=>nj _ e,B1 a _,⟨_,zj _ rfl,rfl,rfl⟩,λb y=>?_,q⟩;have e:b=f.heap.objs.size:=by simpa using y
 subst e;exact i.fpOk (l_ _) (i.hok.fresh (l_ _))
def JS{l:Expr}{tl:TE}(E:PE X l tl):PI X tg l (SA X.K tl):=by
 intro z s Z H R j h;refine mf (E z s Z H _ j h) λv f ⟨x,B,i,C,u⟩=>?_;obtain⟨a,e,⟨xs,hq⟩,q⟩:=u;subst e;cases C;obtain⟨F,G,p,L⟩:=i.tuple hq;refine wpAny_pyIter_tuple (p) ?_;refine⟨f.heap.objs.size,[f.heap.objs.size],_,_,B,rfl,i.kept (t':=f.toks) λb o e=>nj _ e,yR a _,⟨_,zj _ rfl,rfl,rfl⟩,λb y=>?_,q⟩;have e:b=f.heap.objs.size:=by simpa using y
 subst e;exact i.fpOk (l_ _) (i.hok.fresh (l_ _))
def Cd{f:WU}{Z:St}{H:Hp}{s:Shared}{R:It->Hp->Prop}{E:WE}{lo a:Int}{t u v:Tok}{tk:Nat}(i:Inv X f Z H s)(y:-(2^62)<=lo)(B:lo<2^62)(C:-(2^62)<=a)(z:a<2^62)(q:R (Q7 lo (a-lo).toNat) H):wpAny (model X.prog X.w) X.A (pyIter (.ref s.heap.objs.size)) (Sy X f Z tg R) E { s with heap:=s.heap.push { cls:=.type "range",data:=.fields #[.int lo t,.int a u,.int 1 v]},toks:=tk}:=by
 refine wpAny_pyIter_range (IsRange.new ..) (small_one y B C z) ?_;have j:Inv X f Z H { s with heap:=s.heap.push { cls:=.type "range",data:=.fields #[.int lo t,.int a u,.int 1 v]},toks:=tk}:=i.kept λb o e=>nj _ e
 refine⟨(s.heap.push { cls:=.type "range",data:=.fields #[.int lo t,.int a u,.int 1 v]}).objs.size,[(s.heap.push { cls:=.type "range",data:=.fields #[.int lo t,.int a u,.int 1 v]}).objs.size],_,_,H,rfl,
  j.kept (t':=tk) λb o e=>nj _ e,zd _ lo (a-lo).toNat,?_,λb l=>?_,q⟩
 .have e1:lo+((0:Nat):Int)*1=lo:=by simp
  have e2:(((a-lo).toNat:Nat):Int)-((0:Nat):Int)=Builtin.Range.rangeSize lo a 1:=by rw[rangeSize_one];split<;>lia
  rw[e1,e2];exact zj _ rfl
 .have e:b=(s.heap.push { cls:=.type "range",data:=.fields #[.int lo t,.int a u,.int 1 v]}).objs.size:=by simpa using l
  subst e;exact j.fpOk (l_ _) (j.hok.fresh (l_ _))
def Ny(a:TA):TI:=λZ H R=>a Z H λi f=>∃j:Int,i=[.int j] /\ -(2^62)<=j/\j<2^62/\R (Q7 0 j.toNat) f
def B5{a:Expr}{u:TA}{p i:Pos}(hg:Gl X "range")(B:X.mg "range"=Y)(y:PA X [a] u)(C:starEach [a] X.env=[(T,eval a X.env)]:=by rfl):PI X tg (.Call (.Name "range" p) [a] [] i) (Ny u):=by
 intro F s Z H R f h;refine Call_ (iK f hg B boot_range (PyProof.Rows.callWith_type1 (mf (y i F s Z H _ f h) λQ M ⟨P,O,L,G,l⟩=>?_) C rfl));obtain⟨j,e,l,z,q⟩:=l;subst e
 cases G with
 |cons r E =>
  cases E;obtain⟨t,rfl⟩:=r;exact call_range_1 (Cd L ⋯ ⋯ l z (by simpa using q))
def SD(z:TI)(g:TG)(u:TS):TS:=λD Z H=>z Z H λa B=>∃W:Nat->Nat->St->Hp->Prop,(∃m,W 0 m Z B)/\∀i m Z H,W i m Z H ->
 (a.stop i H/\D.nx Z H)\/(a.go i H/\∃N:St->Hp->Prop,(∀l f,N l f->∃j,j<m/\W (i+1) j l f)/\∀x f,a.yld i H x f->g x Z f λC y=>u { D with nx:=N,ct:=N,bk:=D.nx} C y)
def m8(a:WS)(h:Heap):WU:=a.filterMap λb=>(h.get? b).map λo=>(b,o)
def i8(a:b∈fp)(e:h.get? b=J o):(b,o)∈m8 fp h:=Ju.mpr ⟨b,a,by rw[e];rfl⟩
def AU(a:p∈m8 fp h):p.1∈fp/\h.get? p.1=J p.2:=by
 obtain⟨b,f,e⟩:=Ju.mp a
 cases q:h.get? b with
 |none=>rw[q]at e;cases e
 |some o =>
  rw[q]at e;have i:=Option.some.inj e;subst i;exact⟨f,q⟩
def Inv.pinned{i:WU}{Z:St}{H:Hp}{s:Shared}{f:WS}(a:Inv X i Z H s)(hf:∀b∈f,jF X i H b)(u:∀b∈f,∃o,s.heap.get? b=J o/\∀v,o.data≠.cell v):Inv X (i++m8 f s.heap) Z H s :=
 a.pins_of λp l=>(DY.mp l).elim (λz=>a.pin p (xn _ z)) λz=>by
  obtain⟨j,e⟩:=AU z;obtain⟨C,B,y,_⟩:=hf p.1 j;obtain⟨o,E,d⟩:=u p.1 j
  simp_all
def Inv.unpinned{Oz f:WU}{Z:St}{H:Hp}{s:Shared}(a:Inv X (Oz++f) Z H s):Inv X Oz Z H s:=a.pins_of λp i=>a.pin p (xn _ (Fy _ i))
def JT(O:PassesOwn (model X.prog X.w) X.A X.env X.xe)(hc:X.calm=I)(hi:PI X tg iter wi)(hg:PG X tg g)(y:PSs X body tb)(hs:∀x,foldedSetIterable iter X.env x=pure x:=by intro _;rfl):PS X (.For tg iter body [] pos) (SD wi g tb):=by
 intro F s Z H D al h;refine wpAny_For (mf (hi F s Z H _ al h) λv s1 h1=>mf h1 λap s2 h2=>?_) hs;obtain⟨it,R,tn,ar,H2,e,I2,l,ak,f2,W,⟨m0,w0⟩,turn⟩:=h2;subst e;have j:∀{C:Hp},(∀b∈R,C b=Y)->∀b∈R,jF X F C b:=λhn b y=>⟨hn b y,(f2 b y).2⟩;refine codeAny_forLoop_any (λn s'=>∃i L C,Inv X F L C s'/\tn i s'.heap/\(∀b∈R,C b=Y)/\W i n L C) ?_ m0 ⟨0,Z,H2,I2,ak,λb y=>(f2 b y).1,w0⟩;rintro n s3 ⟨i,S,U,I3,M,Q,w3⟩;rcases turn i n S U w3 with⟨stop,qn⟩|⟨go,N,hN,step⟩
 .refine wpAny_passesOwn O (mf (l.done X rfl rfl rfl hc i F s3 S U X.xe I3 (j Q) M stop) λr s4 ⟨hr,I4⟩=>?_);subst hr;exact wpAny_execs_nil ⟨S,U,I4,qn⟩
 .refine wpAny_passesOwn O (mf (l.item X rfl rfl rfl hc i F s3 S U X.xe I3 (j Q) M go) λr s4 ⟨u,hr,h4⟩=>?_);subst hr;refine wpAny_passesOwn O (mf h4 λ_ s5 ⟨x,H5,I5,r5,y5,G,ac⟩=>?_);have ai:=I5.pinned (j ac) (l.obj _ _ G);refine wpAny_passesOwn O (mf (hg _ s5 S H5 x u _ ai r5 (step x H5 y5)) λ_ s6 ⟨Z6,H6,I6,q6⟩=>?_);refine wpAny_passesOwn O (mf (y _ s6 Z6 H6 _ I6 q6) λf s7 E=>?_);have again:∀{z:St}{B:Hp},Inv X (F++m8 R s5.heap) z B s7->N z B->∃m,m<n/\∃i L C,Inv X F L C s7/\tn i s7.heap/\(∀b∈R,C b=Y)/\W i m L C:=λ{z B} a P=>by
   obtain⟨m',hm,w7⟩:=hN z B P;refine⟨m',hm,i+1,z,B,a.unpinned,l.keep _ _ _ G λb y o e=>(a.pin (b,o) (xn _ (xn _ (i8 y e)))).1,λb y=>?_,w7⟩;obtain⟨o,e,d⟩:=l.obj _ _ G b y;exact(a.pin (b,o) (xn _ (xn _ (i8 y e)))).2.1
  cases f with
  |next=>obtain⟨z,B,a,P⟩:=E;exact again a P
  |cont=>obtain⟨z,B,a,P⟩:=E;exact again a P
  |brk=>obtain⟨z,B,a,E⟩:=E;exact⟨z,B,a.unpinned,E⟩
  |ret v=>obtain⟨x7,z,B,a,r7,E⟩:=E;exact⟨x7,z,B,a.unpinned,r7,E⟩
end
abbrev R2:=V->V->Hp->VK->Prop
def OpR(X:Cx)(f:Value->Value->Sem Value)(r:R2):Prop :=
 ∀(a:WU)(s:Shared)(Z:St)(H:Hp)(x y:V)(v u:Value)(Q:VK),Inv X a Z H s->aQ x v->aQ y u->r x y H Q ->
  wpAny (model X.prog X.w) X.A (f v u) (EP X a Z Q) X.xe s
def Q8(X:Cx)(f:Value->Sem Value)(r:V->Hp->VK->Prop):Prop :=
 ∀(a:WU)(s:Shared)(Z:St)(H:Hp)(x:V)(v:Value)(Q:VK),Inv X a Z H s->aQ x v->r x H Q ->
  wpAny (model X.prog X.w) X.A (f v) (EP X a Z Q) X.xe s
def dQ(X:Cx)(f:Value)(r:List V->Hp->VK->Prop):Prop :=
 ∀(a:WU)(s:Shared)(Z:St)(H:Hp)(xs:List V)(i:WT)(Q:VK),Inv X a Z H s->aM xs i->r xs H Q ->
  wpAny (model X.prog X.w) X.A (call f i) (EP X a Z Q) X.xe s
def SF(X:Cx)(r:V->Hp->(Bool->Hp->Prop)->Prop):Prop :=
 ∀(a:WU)(s:Shared)(Z:St)(H:Hp)(x:V)(v:Value)(Q:Bool->Hp->Prop),Inv X a Z H s->aQ x v->r x H Q ->
  wpAny (model X.prog X.w) X.A (truthy v) (TP X a Z Q) X.xe s
def Nz(r:R2)(i a:TE):TE:=λZ H Q=>i Z H λx j=>a Z j λy f=>r x y f Q
def V7(r:V->Hp->VK->Prop)(a:TE):TE:=λZ H Q=>a Z H λx f=>r x f Q
def rI(C:Int->Int->Prop)(g:Int->Int->V):R2:=λx y H Q=>∃i j,x=.int i/\y=.int j/\C i j/\Q (g i j) H
def FV(g:Int->Int->V):R2:=λx y H Q=>∃i j,x=.int i/\y=.int j/\Q (g i j) H
def rU(g:Int->V):V->Hp->VK->Prop:=λx H Q=>∃i,x=.int i/\Q (g i) H
section
variable{X:Cx}{a b c:Expr}{ta tb tc:TE}{pos:Pos}
def JU(F:PE X a ta)(P:PE X b tb){B:WU}{s:Shared}{Z:St}{H:Hp}{R:V->V->Hp->Prop}(E:Inv X B Z H s)(h:ta Z H λx C=>tb Z C λy i=>R x y i){Q:WE}{f:Value->Value->Sem Value}(hf:∀v u z x y i,Inv X B Z i z->aQ x v->aQ y u->R x y i->wpAny (model X.prog X.w) X.A (f v u) Q X.xe z):
  wpAny (model X.prog X.w) X.A (eval a X.env) (λv j=>wpAny (model X.prog X.w) X.A (eval b X.env) (λu l=>wpAny (model X.prog X.w) X.A (f v u) Q X.xe l) X.xe j) X.xe s:=by
 refine mf (F B s Z H _ E h) λv G ⟨x,C,W,U,L⟩=>?_;refine mf (P B G Z C _ W L) λu z ⟨y,i,O,S,M⟩=>?_;exact hf v u z x y i O U S M
def NA{i:Operator}{r:R2}(L:OpR X (binaryOp i) r)(j:PE X a ta)(F:PE X b tb):PE X (.BinOp a i b pos) (Nz r ta tb):=by intro G s Z H Q f h;exact wpAny_BinOp (JU j F f h λv u l x y C B E z q=>L G l Z C x y v u Q B E z q)
def NB(j:Q8 X (unaryOp op) r)(l:PE X a ta):PE X (.UnaryOp op a pos) (V7 r ta):=by intro i s Z H Q f h;exact UnaryOp_ (mf (l i s Z H _ f h) λv u ⟨x,z,B,C,y⟩=>j i u Z z x v Q B C y)
def V8{f:Value->Value->Sem Value}{C:Int->Int->Prop}{g:Int->Int->Int}(rule:∀(i j:Int)(t u:Tok)(s:Shared)(Q:WE)(E:WE),C i j->Q (.int (g i j) s.toks) { s with toks:=s.toks+1}->wpAny (model X.prog X.w) X.A (f (.int i t) (.int j u)) Q E s):
  OpR X f (rI C λi j=>.int (g i j)):=by
 intro L s Z H x y v u Q l F B h;obtain⟨i,j,rfl,rfl,G,q⟩:=h;obtain⟨t,rfl⟩:=F;obtain⟨z,rfl⟩:=B;exact rule i j t z s _ _ G ⟨.int (g i j),H,l.tok _,⟨_,rfl⟩,q⟩
def NC{f:Value->Value->Sem Value}{g:Int->Int->Int}(rule:∀(i j:Int)(t u:Tok)(s:Shared)(Q:WE)(E:WE),Q (.int (g i j) s.toks) { s with toks:=s.toks+1}->wpAny (model X.prog X.w) X.A (f (.int i t) (.int j u)) Q E s):
  OpR X f (FV λi j=>.int (g i j)):=by
 intro F s Z H x y v u Q l C B h;obtain⟨i,j,rfl,rfl,q⟩:=h;obtain⟨t,rfl⟩:=C;obtain⟨z,rfl⟩:=B;exact rule i j t z s _ _ ⟨.int (g i j),H,l.tok _,⟨_,rfl⟩,q⟩
def FW{f:Value->Value->Sem Value}{g:Int->Int->Bool}(rule:∀(i j:Int)(t u:Tok)(s:Shared)(Q:WE)(E:WE),Q (.bool (g i j)) s->wpAny (model X.prog X.w) X.A (f (.int i t) (.int j u)) Q E s):
  OpR X f (FV λi j=>.bl (g i j)):=by
 intro F s Z H x y v u Q l C B h;obtain⟨i,j,rfl,rfl,q⟩:=h;obtain⟨t,rfl⟩:=C;obtain⟨z,rfl⟩:=B;exact rule i j t z s _ _ ⟨.bl (g i j),H,l,rfl,q⟩
def jq(i j:Int):Prop:=0<=j/\j<=1000000/\i.natAbs<2^64
def JV:OpR X (binaryOp .Add) (FV λi j=>.int (i+j)):=NC λ_ _ _ _ _ _ _ q=>add_int q
def JW:OpR X (binaryOp .Sub) (FV λi j=>.int (i-j)):=NC λ_ _ _ _ _ _ _ q=>sub_int q
def JX:OpR X (binaryOp .Pow) (rI jq λi j=>.int (i^j.toNat)):=V8 λ_ _ _ _ _ _ _ f q=>pow_int_small f.1 f.2.1 f.2.2 q
def V9{f:Value->Sem Value}{g:Int->Int}(rule:∀(i:Int)(t:Tok)(s:Shared)(Q:WE)(E:WE),Q (.int (g i) s.toks) { s with toks:=s.toks+1}->wpAny (model X.prog X.w) X.A (f (.int i t)) Q E s):
  Q8 X f (rU λi=>.int (g i)):=by
 intro u s Z H x v Q j l h;obtain⟨i,rfl,q⟩:=h;obtain⟨t,rfl⟩:=l;exact rule i t s _ _ ⟨.int (g i),H,j.tok _,⟨_,rfl⟩,q⟩
def JY:Q8 X (unaryOp .USub) (rU λi=>.int (-i)):=V9 λ_ _ _ _ _ q=>neg_int q
def Bc{i:WU}{Z:St}{H:Hp}{s:Shared}{Q:VK}{k j:Bool}(f:Inv X i Z H s)(q:Q (.bl k) H)(e:k=j):EP X i Z Q (.bool j) s:=by subst e;exact⟨.bl k,H,f,rfl,q⟩
def ND:OpR X (compareOp .Lt) (FV λi j=>.bl (decide (i<j))):=FW λ_ _ _ _ _ _ _ q=>lt_int q
def NE:OpR X (compareOp .LtE) (FV λi j=>.bl (decide (i<=j))):=FW λ_ _ _ _ _ _ _ q=>le_int q
def NF:OpR X (compareOp .Gt) (FV λi j=>.bl (decide (j<i))):=FW λ_ _ _ _ _ _ _ q=>gt_int q
def NG:OpR X (compareOp .GtE) (FV λi j=>.bl (decide (j<=i))):=FW λ_ _ _ _ _ _ _ q=>ge_int q
def JZ:OpR X (compareOp .Is) (λx y H Q=>y=.non/\Q (.bl (decide (x=.non))) H):=by
 intro l s Z H x y v u Q f i j h;obtain⟨rfl,q⟩:=h;cases j;refine is_none_gen (Bc f q ?_);cases x<;>first
  |(obtain⟨t,rfl⟩:=i;rfl)
def FX:OpR X (compareOp .IsNot) (λx y H Q=>y=.non/\Q (.bl (!decide (x=.non))) H):=by
 intro l s Z H x y v u Q f i j h;obtain⟨rfl,q⟩:=h;cases j;refine isnot_none_gen (Bc f q ?_);cases x<;>first
  |(obtain⟨t,rfl⟩:=i;rfl)
def Fd(b:Expr)(h:op≠.In:=by decide)(f:op≠.NotIn:=by decide):behindInMarks op b=T:=by
 have e1:(op==CmpOp.In)=T:=by cases op<;>first | rfl | exact absurd rfl h
 have e2:(op==CmpOp.NotIn)=T:=by cases op<;>first | rfl | exact absurd rfl f
 cases b<;>simp[behindInMarks,e1,e2]
def FY{f:CmpOp}{r:R2}(M:OpR X (compareOp f) r)(j:PE X a ta)(G:PE X b tb)(B:behindInMarks f b=T):PE X (.Compare a [f] [b] pos) (Nz r ta tb):=by intro L s Z H Q i h;exact wpAny_Compare1 (JU j G i h λv u l x y E C F z q=>M L l Z E x y v u Q C F z q) B
def NH(t:TE):TT:=λZ H Q=>t Z H λx f=>∃k,x=.bl k/\Q k f
def FZ(ho:OpR X (compareOp op) r)(l:PE X a ta)(R:PE X b tb)(G:behindInMarks op b=T):PT X (.Compare a [op] [b] pos) (NH (Nz r ta tb)):=by
 intro f s Z H Q i h
 refine wpAny_isTrue_Compare1 (mf (l f s Z H _ i h) λv B ⟨x,W,I1,r1,C⟩=>mf (R f B Z W _ I1 C) λu F ⟨y,O,L,U,E⟩ =>
  mf (ho f F Z O x y v u _ L r1 U E) λc s3 ⟨z,j,P,M,k,e,S⟩=>?_) G
 subst e;cases M;exact wpAny_truthy_bool ⟨j,P,S⟩
def Av(r j:R2)(ta tb tc:TE):TE:=λZ H Q=>ta Z H λx l=>tb Z l λy i=>r x y i λz f=>∃k,z=.bl k /\
 (if k=I then tc Z f λu B=>j y u B Q else Q (.bl T) f)
def DE(ho:OpR X (compareOp op) r)(j:OpR X (compareOp op') r')(F:PE X a ta)(hb:PE X b tb)(hc:PE X c tc)(U:lastMarks [op,op'] [b,c]=T:=by with_unfolding_all rfl):PE X (.Compare a [op,op'] [b,c] pos) (Av r r' ta tb tc):=by
 intro f s Z H Q i h
 refine Compare_chain (mf (F f s Z H _ i h) λv G ⟨x,H1,I1,r1,L⟩=>chain_link (mf (hb f G Z H1 _ I1 L) λu S ⟨y,H2,W,E,R⟩ =>
  mf (ho f S Z H2 x y v u _ W r1 E R) λd s3 ⟨z,l,B,r3,k,e,C⟩=>?_)) U
 subst e;cases r3;refine wpAny_truthy_bool ?_
 cases k with
 |false=>exact ite_ff ⟨.bl T,l,B,rfl,C⟩
 |true=>exact ite_tt (chain_last (mf (hc f s3 Z l _ B C) λw' P ⟨z',M,I4,r4,O⟩=>j f P Z M y z' u w' Q I4 E r4 O))
def NI(K:hR)(x:V)(H:Hp)(k:Bool):Prop :=
 match x with
 |.non=>k=T
 |.bl b=>k=b
 |.int i=>k=(i != 0)
 |.str y=>y.length<=sizeLine/\k=((y.length:Int) != 0)
 |.byt y=>y.size<=sizeLine/\k=((y.size:Int) != 0)
 |.ref p=>(∃xs,SqL K H p xs/\k=!xs.isEmpty)\/(∃xs,SqT K H p xs/\k=!xs.isEmpty)\/∃f,H p=J (.dK f)/\k=!f.isEmpty
 |_=>False
def yJ{κ:Type}{f:List (κ×V)}{i:List (κ×Value)}(r:KV f i):(!i.isEmpty)=!f.isEmpty:=by cases r<;>rfl
def qv(r:aM xs its):(!its.toArray.isEmpty)=!xs.isEmpty:=by cases r<;>simp
def rn:(sizeLine:Nat)<2^63:=by rw[sizeLine_eq];decide
def wD:SF X (λx H Q=>∃k,NI X.K x H k/\Q k H):=by
 intro P s Z H x v Q f z h;obtain⟨k,e,q⟩:=h;have O:sizeLine=16777216:=sizeLine_eq
 cases x with
 |non =>
  cases z;have j:k=T:=e;subst j;exact truthy_none ⟨H,f,q⟩
 |bl b =>
  cases z;have j:k=b:=e;subst j;exact wpAny_truthy_bool ⟨H,f,q⟩
 |int i =>
  obtain⟨t,rfl⟩:=z;have j:k=(i != 0):=e;subst j;exact PySem.P.truthy_int ⟨H,f,q⟩
 |str y =>
  obtain⟨t,rfl⟩:=z;obtain⟨L,j⟩:y.length<=sizeLine/\k=((y.length:Int) != 0):=e;subst j;exact PySem.P.truthy_str ⋯ ⟨H,f.tok _,q⟩
 |byt y =>
  obtain⟨t,rfl⟩:=z;obtain⟨L,j⟩:y.size<=sizeLine/\k=((y.size:Int) != 0):=e;subst j;exact PySem.W.truthy_bytes ⋯ ⟨H,f.tok _,q⟩
 |ref p =>
  cases z;have j:(∃xs,SqL X.K H p xs/\k=!xs.isEmpty)\/(∃xs,SqT X.K H p xs/\k=!xs.isEmpty)\/∃l,H p=J (.dK l)/\k=!l.isEmpty:=e;rcases j with⟨xs,B,j⟩|⟨xs,B,j⟩|⟨l,B,j⟩
  .subst j;obtain⟨F,r,E,G⟩:=f.list B;have u:=r.length;exact wpAny_truthy_list E.isList (by simp only[x_];lia) ⟨H,f.tok _,by rw[qv r];exact q⟩
  .subst j;obtain⟨F,r,E,G⟩:=f.tuple B;have u:=r.length;exact truthy_tuple E (by simp only[x_];lia) ⟨H,f.tok _,by rw[qv r];exact q⟩
  .subst j;obtain⟨G,M,C,r,m⟩:l.length<=sizeLine/\(p==sysModules)=T/\∃C,KV l C/\s.heap.DictOf (gb X.prog X.w) p C:=f.hok p _ B;have u:l.length=C.length:=Paired.length r;exact wpAny_truthy_dict M m ⋯ ⟨H,f.tok _,by rw[yJ r];exact q⟩
 |_=>exact(show False from e).elim
def DI(u:PE X a ta)(B:∀f,isTrue a X.env f=(do let v <-f;standAt a.pos;holding [v] (truthy v))):
  PT X a (λZ H Q=>ta Z H λx j=>∃k,NI X.K x j k/\Q k j):=by
 intro l s Z H Q i h;exact isTrue_plain (mf (u l s Z H _ i h) λv y ⟨x,C,F,E,z⟩=>wD l y Z C x v Q F E z) (B _)
def zb:OpR X (binaryOp .Add) (λx y H Q=>∃i j,x=.str i/\y=.str j/\i.length+j.length<=sizeLine/\Q (.str (i++j)) H):=by intro E s Z H x y v u Q f B z h;obtain⟨i,j,rfl,rfl,C,q⟩:=h;obtain⟨t,rfl⟩:=B;obtain⟨l,rfl⟩:=z;exact add_str (λl tk=>⟨.str (i++j),H,f.tok _,⟨_,rfl⟩,q⟩) C
def iu(r:aM [x] us):∃u,us=[u]/\aQ x u:=by
 cases r with
 |cons i f=>cases f;exact⟨_,rfl,i⟩
def vals2(r:aM [x,y] us):∃u f,us=[u,f]/\aQ x u/\aQ y f:=by
 cases r with
 |cons l j =>
  cases j with
  |cons z i=>cases i;exact⟨_,_,rfl,l,z⟩
def DL:dQ X (.builtin "abs") (λxs H Q=>∃i,xs=[.int i]/\Q (.int (if i<0 then -i else i)) H):=by intro j s Z H xs l Q f r h;obtain⟨i,rfl,q⟩:=h;obtain⟨u,rfl,t,rfl⟩:=iu r;exact call_abs_int λu tk=>⟨.int (if i<0 then -i else i),H,f.tok _,⟨_,rfl⟩,q⟩
def AA(y:X.calm=I):dQ X (.builtin "max") (λxs H Q=>∃i j,xs=[.int i,.int j]/\Q (.int (if j>i then j else i)) H):=by
 intro C s Z H xs E Q f r h;obtain⟨i,j,rfl,q⟩:=h;obtain⟨u,B,rfl,⟨t,rfl⟩,⟨z,rfl⟩⟩:=vals2 r;refine max_two_ints (f.ok.hd y) λF tk k=>⟨_,H,f.kept k,?_,q⟩;by_cases l:j>i
 .rw[c_ l,c_ l];exact⟨_,rfl⟩
 .rw[g_ l,g_ l];exact⟨_,rfl⟩
def Bx(y:X.calm=I):dQ X (.builtin "min") (λxs H Q=>∃i j,xs=[.int i,.int j]/\Q (.int (if j<i then j else i)) H):=by
 intro C s Z H xs E Q f r h;obtain⟨i,j,rfl,q⟩:=h;obtain⟨u,B,rfl,⟨t,rfl⟩,⟨z,rfl⟩⟩:=vals2 r;refine min_two_ints (f.ok.hd y) λF tk k=>⟨_,H,f.kept k,?_,q⟩;by_cases l:j<i
 .rw[c_ l,c_ l];exact⟨_,rfl⟩
 .rw[g_ l,g_ l];exact⟨_,rfl⟩
def tD:dQ X (.type "int") (λxs H Q=>(∃i,xs=[.int i]/\Q (.int i) H)\/∃k,xs=[.bl k]/\Q (.int (if k then 1 else 0)) H):=by
 intro l s Z H xs y Q f r h;rcases h with⟨i,rfl,q⟩|⟨k,rfl,q⟩
 .obtain⟨u,rfl,t,rfl⟩:=iu r;exact call_int_int ⟨.int i,H,f,⟨_,rfl⟩,q⟩
 .obtain⟨u,rfl,j⟩:=iu r;cases j;exact call_int_bool ⟨.int (if k then 1 else 0),H,f.tok _,⟨_,rfl⟩,q⟩
def SG(K:hR)(x:V)(H:Hp)(n:Nat):Prop :=
 match x with
 |.str y=>y.length<=sizeLine/\n=y.length
 |.byt y=>y.size<=sizeLine/\n=y.size
 |.ref p=>(∃xs,SqL K H p xs/\n=xs.length)\/∃xs,SqT K H p xs/\n=xs.length
 |_=>False
def lY:dQ X (.builtin "len") (λxs H Q=>∃x n,xs=[x]/\SG X.K x H n/\Q (.int n) H):=by
 intro M s Z H xs O Q f r h;obtain⟨x,n,rfl,e,q⟩:=h;obtain⟨u,rfl,B⟩:=iu r;have L:=sizeLine_eq
 cases x with
 |str y =>
  obtain⟨t,rfl⟩:=B;obtain⟨F,j⟩:=e;subst j;exact len_str ⋯ ⟨.int _,H,f.tok _,⟨_,rfl⟩,q⟩
 |byt y =>
  obtain⟨t,rfl⟩:=B;obtain⟨F,j⟩:=e;subst j;exact PySem.W.len_bytes ⋯ ⟨.int _,H,f.tok _,⟨_,rfl⟩,q⟩
 |ref p =>
  cases B;have j:=e;rcases j with⟨xs,z,j⟩|⟨xs,z,j⟩
  .subst j;obtain⟨E,l,C,G⟩:=f.list z;have i:=l.length;exact Calls.call_len_list C.isList (by simp only[x_];lia) ⟨.int xs.length,H,f.tok _,⟨_,by simp only[x_];rw[i]⟩,q⟩
  .subst j;obtain⟨E,l,C,G⟩:=f.tuple z;have i:=l.length;exact len_tuple C (by simp only[x_];lia) ⟨.int xs.length,H,f.tok _,⟨_,by simp only[x_];rw[i]⟩,q⟩
 |_=>exact(e).elim
end
structure V_(h:Heap)(x dx C:Addr)(mA:WF):Prop where
 obj:h.get? x=J (PySem.W.instObj C dx)
 ns:h.Ns1 dx mA
 ne:dx≠x
def iY.some_of(r:iY (J v) o):∃u,o=J u/\aQ v u:=by
 cases o with
 |none=>exact(r).elim
 |some u=>exact⟨u,rfl,r⟩
def iY.none_of(r:iY Y o):o=Y:=by
 cases o with
 |none=>rfl
 |some u=>exact(show False from r).elim
structure Room(k:Nat)(A:Around):Prop where
 hd:A.handled=Y
 dp:A.depth+3*k+105<recursionLimit
 un:A.units+16*k+200<cLine
 gd:A.guards=J []
def Room.mono(r:Room k A)(h:j<=k):Room j A:=⟨r.hd,by have:=r.dp;lia,by have:=r.un;lia,r.gd⟩
def Room.deeper(r:Room (k+1) A)(env:Env):Room k (A.deeper env) :=
 ⟨r.hd,by have:=r.dp;show A.depth+1+3*k+105<_;lia,by have:=r.un;show A.units+3+16*k+200<_;lia,r.gd⟩
def zx{A:Around}{C:Addr}{f:WT}{a:List (Str×Value)}:(A.under (.builtin "type.__call__" ⟨.ref C::f,a⟩)).depth=A.depth+1:=rfl
def yN{A:Around}{C:Addr}{f:WT}{a:List (Str×Value)}:(A.under (.builtin "type.__call__" ⟨.ref C::f,a⟩)).units=A.units+1:=rfl
def Room.make(r:Room (k+1) A)(C:Addr)(f:WT)(a:List (Str×Value)):Room k (A.under (.builtin "type.__call__" ⟨.ref C::f,a⟩)) :=
 ⟨r.hd,by have:=r.dp;rw[zx];lia,by have:=r.un;rw[yN];lia,r.gd⟩
def Room.depth(r:Room k A):A.depth<recursionLimit:=by have:=r.dp;lia
def Room.units(r:Room k A):A.units+64<cLine:=by have:=r.un;lia
def NJ:TA:=λ_ H Q=>Q [] H
def yK(f:TE)(i:TA):TA:=λZ H Q=>f Z H λx j=>i Z j λxs a=>Q (x::xs) a
section
variable{X:Cx}{e:Expr}{es:WX}{te:TE}{t:TA}{pos:Pos}
def lm:PA X [] NJ:=λ_ _ _ _ H Q a h=>Calls.spliced_nil ⟨[],H,a,.nil,h⟩
def eM(i:PE X e te)(hr:PA X es t)(E:starEach (e::es) X.env=(T,eval e X.env)::starEach es X.env:=by rfl):PA X (e::es) (yK te t):=by intro pos f s Z H Q a h;rw[E];show wpAny _ _ (spliced ((T,eval e X.env)::backTo pos (starEach es X.env))) _ _ s;refine Calls.spliced_cons (mf (i f s Z H _ a h) λu j ⟨x,F,L,G,l⟩=>?_);exact mf (hr pos f j Z F _ L l) λO M ⟨xs,B,z,C,y⟩=>⟨x::xs,B,z,.cons G C,y⟩
def SH(t:TA):TE:=λZ H Q=>t Z H λxs a=>xs.length<=sizeLine/\∀p,a p=Y->Q (.ref p) (mj a p (.tup xs))
def SI(t:TA):TE:=λZ H Q=>t Z H λxs a=>xs.length<=sizeLine/\∀p,a p=Y->Q (.ref p) (mj a p (.lst xs))
def AL{x1}(h:PA X es t):PE X (.Tuple es x1 pos) (SH t):=by intro j s Z H Q f hq;refine wpAny_Tuple_spliced (mf (h pos j s Z H _ f hq) λy a ⟨xs,l,i,r,z,q⟩=>⟨by rw[<-r.length];exact z,?_⟩);have hf:=i.hok.fresh (l_ _);refine⟨.ref a.heap.objs.size,mj l a.heap.objs.size (.tup xs),i.laid (t':=a.toks) (λb u e=>nj _ e) (l_ _) ?_,rfl,q _ hf⟩;exact⟨z,y,r,⟨_,zj _ rfl,rfl,⟨_,rfl⟩,rfl⟩⟩
def J0(h:PA X es t):PE X (.List es pos) (SI t):=by intro j s Z H Q f hq;refine wpAny_List_spliced (mf (h pos j s Z H _ f hq) λy a ⟨xs,l,i,r,z,q⟩=>⟨by rw[<-r.length];exact z,?_⟩);have hf:=i.hok.fresh (l_ _);refine⟨.ref a.heap.objs.size,mj l a.heap.objs.size (.lst xs),i.laid (t':=a.toks) (λb u e=>nj _ e) (l_ _) ?_,rfl,q _ hf⟩;exact⟨z,y,0,r,zj _ rfl⟩
end
abbrev Sp:=List V->Hp->VK->XK->Prop
abbrev Fe:=List Env->Hp->Shared->XK->Value->Shared->Prop
structure Env0(P:Program)(w:World)(K:hR)(mg:WF)(base:Heap)(A:Around)(outer:List Env)(s:Shared)(H:Hp):Prop where
 frames:A.frames=J outer
 mod:Mod K mg base
 bs:∀b o,base.get? b=J o->s.heap.get? b=J o/\H b=Y
 bsz:base.objs.size<=s.heap.objs.size
 funs:s.heap.FunFrames base outer
 frf:∀b∈DS outer,H b=Y
 hok:HOk P w H s.heap
 bare:AllBare s.gens
 tree:P.given.tree=Y
inductive CE(outer:List Env)(P:Program)(w:World)(H:Hp)(s:Shared)(Q:VK)(u:Value)(s':Shared):Prop
 |mk(v:V)(H':Hp)(o:s'.os=s.os)(b:AllBare s'.gens)(n:Un (DS outer) [] H H' s.heap s'.heap)(k:HOk P w H' s'.heap)(r:aQ v u)(q:Q v H'):CE outer P w H s Q u s'
def CR(f:Fe)(outer:List Env)(P:Program)(w:World)(H:Hp)(s:Shared)(Q:VK)(E:XK)(r:Result)(a:Shared):Prop :=
 match r with
 |.ok (.ret u)=>CE outer P w H s Q u a
 |.ok _=>False
 |.error e=>f outer H s E e a
structure FnOk(P:Program)(w:World)(K:hR)(mg:WF)(base:Heap)(CX:Fe)(k:Nat)(f:Addr)(fd:FuncData)(ps:WM)(sp:Sp):Prop where
 len:∀vs H Q E,sp vs H Q E->vs.length=ps.length
 run:∀(A:Around)(outer:List Env)(s:Shared)(H:Hp)(args:Args)(us:WT)(vs:List V)(Q:VK)(E:XK),Room k A->Env0 P w K mg base A outer s H->BindsTo s fd args (ps.zip us)->aM vs us->sp vs H Q E ->
  codeAny (model P w) A (.call (.ref f) args) (CR CX outer P w H s Q E) s
def FnOk.mono{P:Program}{w:World}{K:hR}{mg:WF}{base:Heap}{u:Fe}{j k:Nat}{f:Addr}{fd:FuncData}{l:WM}{i:Sp}(F:FnOk P w K mg base u j f fd l i)(h:j<=k):
  FnOk P w K mg base u k f fd l i:=⟨F.len,λA outer s H a z y Q E hr=>F.run A outer s H a z y Q E (hr.mono h)⟩
def FnOk.imp{P:Program}{w:World}{K:hR}{mg:WF}{base:Heap}{y:Fe}{k:Nat}{f:Addr}{fd:FuncData}{u:WM}{l i:Sp}(F:FnOk P w K mg base y k f fd u l)(h:∀a H Q E,i a H Q E->l a H Q E):FnOk P w K mg base y k f fd u i :=
 ⟨λa H Q E q=>F.len a H Q E (h _ _ _ _ q),λA outer s H j G a Q E hr C z hv B=>F.run A outer s H j G a Q E hr C z hv (h _ _ _ _ B)⟩
def Env0.make{P:Program}{w:World}{K:hR}{mg:WF}{base:Heap}{A:Around}{outer:List Env}{s:Shared}{H:Hp}(e:Env0 P w K mg base A outer s H)(C:Addr)(f:WT)(a:List (Str×Value)):
  Env0 P w K mg base (A.under (.builtin "type.__call__" ⟨.ref C::f,a⟩)) outer s H:=⟨by first | exact e.frames | (simpa using e.frames),e.mod,e.bs,e.bsz,e.funs,e.frf,e.hok,e.bare,e.tree⟩
section
variable{X:Cx}{Oz:List (Addr × Obj)}{Z:St}{H:Hp}{s s':Shared}
def Inv.env0(a:Inv X Oz Z H s):Env0 X.prog X.w X.K X.mg X.base X.A X.stack s H :=
 ⟨a.ok.frames,a.ok.mod,a.bs,oh a.ok.bsz a.sz,a.stack,a.stkFree,a.hok,a.bare,a.ok.tree⟩
def Inv.after(a:Inv X Oz Z H s)(h:CE X.stack X.prog X.w H s Q u s'):EP X Oz Z Q u s':=by obtain⟨v,j,os,bare,un,hok,r,q⟩:=h;obtain⟨f,g,d,t,i⟩:=s';obtain rfl:=os;exact⟨v,j,a.call (h':=f) (g':=g) (d':=d) (t':=t) un hok bare (λb z=>absurd z (by simp)),r,q⟩
end
def lU(K:hR)(fd:FuncData)(f:WM)(i:WT):Prop :=
 ∀(s:Shared)(a:WT),K.In s.heap->(a++i).length=f.length->BindsTo s fd ⟨a,[]⟩ (f.zip (a++i))
def lU.all{K:hR}{fd:FuncData}{f:WM}(h:∀a:WT,a.length=f.length->bindArgs fd ⟨a,[]⟩=pure (f.zip a)):lU K fd f []:=λs a _ i=>by
 rw[Nh]at i ⊢;exact .of_eq (h a i)
structure pj(N P:WM)(sc:Scope):Prop where
 kind:sc.kind=.function
 co:sc.isCoroutine=T
 gen:sc.isGenerator=T
 nd:N.Nodup
 pre:N.take P.length=P
 par:∀x∈P,sc.names.lookup x=J .local\/sc.names.lookup x=J .cell
 nofree:∀y∈sc.names,y.2≠.free
def sU{kindOf:Str->Option NameKind}{x:Str}:∀{binds:List (Str×Value)}{m:WF},(∀v,(x,v)∉binds)->bindL kindOf binds m x=m x
 |[],_,_=>rfl
 |(n,v)::r,m,h=>by
  unfold bindL;rw[sU λw a=>h w (ml _ a)];split
  .have:x≠n:=by rintro rfl;exact h v En
   simp[this]
  .rfl
def tV{kindOf:Str->Option NameKind}{x:Str}:∀{binds:List (Str×Value)}{m:WF},(∀v,(x,v)∉binds)->bindC kindOf binds m x=m x
 |[],_,_=>rfl
 |(n,v)::r,m,h=>by
  unfold bindC;rw[tV λw a=>h w (ml _ a)];split
  .rfl
  .have:x≠n:=by rintro rfl;exact h v En
   simp[this]
def tL{kindOf:Str->Option NameKind}{x:Str}{v:Value}:∀{P:WM}{a:WT}{i:Nat}{m:WF},P.Nodup->P[i]?=J x->a[i]?=J v->kindOf x=J .local ->
  bindL kindOf (P.zip a) m x=J v
 |p::P,w::a,0,m,nd,j,f,l=>by
  simp at j f;subst j;subst f;show bindL kindOf ((p,w)::P.zip a) m p=_;unfold bindL;rw[sU λv hv=>(vz.mp nd).1 (QW hv).1,c_ l];simp
 |p::P,w::a,i+1,m,nd,j,f,l=>by
  unfold bindL;exact tL (vz.mp nd).2 (by simpa using j) (by simpa using f) l
def ua{kindOf:Str->Option NameKind}{x:Str}{v:Value}:∀{P:WM}{a:WT}{i:Nat}{m:WF},P.Nodup->P[i]?=J x->a[i]?=J v->kindOf x≠J .local ->
  bindC kindOf (P.zip a) m x=J v
 |p::P,w::a,0,m,nd,j,f,l=>by
  simp at j f;subst j;subst f;show bindC kindOf ((p,w)::P.zip a) m p=_;unfold bindC;rw[tV λv hv=>(vz.mp nd).1 (QW hv).1,g_ l];simp
 |p::P,w::a,i+1,m,nd,j,f,l=>by
  unfold bindC;exact ua (vz.mp nd).2 (by simpa using j) (by simpa using f) l
def start(N:WM)(a:List V):St:=a.map J++List.replicate (N.length-a.length) Y
def sM(u:Fe)(P:Program)(w:World)(K:hR)(mg:WF)(base:Heap)(N:WM)(i:Str)(a:Scope)(f:Addr)(l:Value)(A:Around)(outer:List Env)(s:Shared)(H:Hp)(E:XK):Cx where
 prog:=P
 w:=w
 K:=K
 mg:=mg
 base:=base
 A:=A.deeper (envOfC i a s.heap.objs.size f l)
 N:=N
 s₀:=s
 H₀:=H
 env:=envOfC i a s.heap.objs.size f l
 outer:=outer
 stack:=envOfC i a s.heap.objs.size f l::outer
 ex:=[]
 calm:=I
 fn:=λ_=>I
 pn:=[]
 xe:=λe z=>wpAny (model P w) (A.deeper (envOfC i a s.heap.objs.size f l)) (leaving (envOfC i a s.heap.objs.size f l) e) (λ_ j=>u outer H s E e j) (λy j=>u outer H s E y j) z
def wI{a:Scope}{n:Nat}{x:Str}(h:a.names.lookup x=J .cell):∃c,(cellsFrom n a.names []).lookup x=J c:=by have q:=PySem.W.cellsFrom_some a.names n [] (.inl h);exact Option.isSome_iff_exists.mp q
def Bn{CX:Fe}{P:Program}{w:World}{K:hR}{mg:WF}{base:Heap}{N C:WM}{l:Str}{j:Scope}{f:Addr}{R:Value}{A:Around}{outer:List Env}{s X:Shared}{H:Hp}{E:XK}{W:WT}{F:List V}(S:pj N C j)(hd:A.handled=Y)(e0:Env0 P w K mg base A outer s H)(hl:F.length=C.length)(r:aM F W)(x:InCallC s s.heap.objs.size (bindL (envOfC l j s.heap.objs.size f R).kindOf (C.zip W) λ_=>Y) (cellsFrom (s.heap.objs.size+1) j.names []) (bindC (envOfC l j s.heap.objs.size f R).kindOf (C.zip W) λ_=>Y) X):
  Inv (sM CX P w K mg base N l j f R A outer s H E) [] (start N F) H X:=by
 have ac:C.length<=N.length:=by have:=congrArg List.length S.pre;rw[Jx]at this;lia
 obtain⟨U,tk,rfl,hk⟩:=x.done;have G:∀b:Addr,b∉(sM CX P w K mg base N l j f R A outer s H E).ex:=λb z=>absurd (show b∈([]:WS)from z) (by simp)
 refine⟨⟨e0.mod,S.kind,rfl,rfl,l_ _,λy z c U B=>?_,λy L=>?_,λy c _ h=>?_,λ_=>hd,Around.frames_deeper e0.frames,.inr ⟨rfl,rfl⟩,λb z=>absurd z (G b),e0.bs,e0.bsz,λb _ _=>G b,λb z=>absurd z (G b),e0.funs,e0.frf,e0.tree,⟨_,_,rfl,S.gen,S.co,rfl,rfl⟩⟩,
  rfl,e0.bare,Un.kept hk,⟨_,x.toInCall.ns,λi y v U B h3=>?_⟩,λy c h=>⟨_,x.cell y c h⟩,e0.hok.fresh (l_ _),λy c h=>?_,λp O=>absurd (show p∈([]:WU)from O) (by simp),e0.hok.kept hk,?_⟩
 .exact name_of_addr x.apart (PySem.mem_of_lookup U) (PySem.mem_of_lookup B)
 .rcases L with L|L
  .exact wI L
  .exact absurd rfl (S.nofree _ (PySem.mem_of_lookup L))
 .exact MF (x.above y c (PySem.mem_of_lookup h))
 .have Q:i<F.length:=by
   unfold start at B;by_cases Q:i<F.length
   .exact Q
   .rw[Ek (by simpa using Q)]at B;rw[Jn]at B
    split at B<;>cases B
  have ha:F[i]?=J v:=by
   unfold start at B;rw[qr (by simpa using Q),se]at B
   cases e:F[i]? with
   |none=>rw[e]at B;cases B
   |some a=>rw[e]at B;cases B;rfl
  obtain⟨u,Z,rv⟩:=r.get ha;have O:C[i]?=J y:=by rw[<-S.pre,RY ⋯];exact U
  have M:C.Nodup:=by rw[<-S.pre];exact S.nd.sublist (List.take_sublist _ _)
  refine⟨u,rv,?_⟩;rcases S.par y (x3 O)with k|k
  .exact .inl ⟨k,tL M O Z k⟩
  .obtain⟨c,e⟩:=wI k;refine .inr ⟨.inl k,c,e,?_⟩;have q:=x.cell y c e;rw[ua M O Z (by show j.names.lookup y≠_;rw[k];decide)]at q;exact q
 .exact e0.hok.fresh (MF (x.above y c (PySem.mem_of_lookup h)))
 .unfold start;show _=N.length;rw[Fz,qx,Nc];lia
def Ih{Z:Fe}{P:Program}{w:World}{K:hR}{mg:WF}{base:Heap}{k:Nat}{f:Addr}{G i:Str}{z:Arguments}{B:List Stmt}{a:Scope}{dV kV R pm l ct oc:Value}{an od:WK}{ai:Array (WV)}{N X:WM}{sp:Sp}(lk:K.lookup f=J ⟨oc,od,.func (PySem.W.fnOf G i z B a dV kV R pm an l ct),ai⟩)(ak:PySem.W.codeIn K l i=I)(S:pj N X a)(len:∀C H Q E,sp C H Q E->C.length=X.length)(M:∀(A:Around)(outer:List Env)(s:Shared)(H:Hp)(C:List V)(Q:VK)(E:XK),Room k (A.deeper (envOfC i a s.heap.objs.size f l))->sp C H Q E ->
   ∃t,PSs (sM Z P w K mg base N i a f l A outer s H E) B t/\t { nx:=λ_ F=>Q .non F,rt:=Q} (start N C) H):
  FnOk P w K mg base Z (k+1) f (PySem.W.fnOf G i z B a dV kV R pm an l ct) X sp:=by
 refine⟨len,λA outer s H ap us C Q E hr e0 hb r U=>?_⟩;have hl:=len _ _ _ _ U;have KX:=e0.mod.kin.keeps λb o e=>(e0.bs b o e).1;have al:=e0.mod.nolimit.keeps λb o e=>(e0.bs b o e).1;have L:∀y∈X.zip us,a.names.lookup y.1=J .local\/(a.names.lookup y.1=J .cell/\((cellsFrom (s.heap.objs.size+1) a.names []).lookup y.1).isSome=I):=λ⟨n,v⟩ hy=>by
  rcases S.par n (QW hy).1 with q|q
  .exact .inl q
  .exact .inr ⟨q,PySem.W.cellsFrom_some _ _ _ (.inl q)⟩
 refine codeAny_call_function hr.depth (KX _ _ lk) rfl S.co S.gen rfl (PySem.W.codeRec_of KX ak) (hb _ _ _ _ ?_);refine wpAny_newFunctionEnv_cells S.kind L λenv he s1 x=>?_;subst he;refine⟨al.keeps x.toInCall.keep,codeAny_func ?_⟩;obtain⟨t,ht,hq⟩:=M A outer s H C Q E (hr.deeper _) U;have ac:Inv (sM Z P w K mg base N i a f l A outer s H E) [] (start N C) H s1:=Bn S hr.hd e0 hl r x;refine wpAny_mono (ht [] s1 (start N C) H _ ac hq) (λfl s' O=>?_) λe s' O=>O;have fin:∀{W:St}{F:Hp}{v:V}{u:Value},Inv (sM Z P w K mg base N i a f l A outer s H E) [] W F s'->aQ v u->Q v F->CE outer P w H s Q u s' :=
  λ{W F v u} j rv q=>⟨v,F,j.os,j.bare,j.base,j.hok,rv,q⟩
 cases fl with
 |ret u =>
  obtain⟨v,W,F,j,rv,q⟩:=O;exact fin j rv q
 |next =>
  obtain⟨W,F,j,q⟩:=O;exact fin (v:=V.non) j rfl q
 |brk =>
  obtain⟨_,_,_,q⟩:=O;exact False.elim q
 |cont =>
  obtain⟨_,_,_,q⟩:=O;exact False.elim q
section
variable{X:Cx}{x:Str}{p pos:Pos}{e:Expr}{es:WX}{t:TA}{id T:String}{r:List V->Hp->VK->Prop}
def SJ(r:List V->Hp->VK->Prop)(t:TA):TE:=λZ H Q=>t Z H λf a=>r f a Q
def pX(E:dQ X (.builtin id) r)(hg:Gl X x)(z:X.mg x=Y)(hv:bootBuiltins x=J (.builtin id))(l:PA X (e::es) t)(C:x≠"__name__":=by decide)(i:(x==("__debug__":Str))=false:=by decide)(B:starEach (e::es) X.env=(false,eval e X.env)::starEach es X.env:=by rfl)(f:(backTo pos (starEach es X.env)).any (·.1)=false:=by rfl):PE X (.Call (.Name x p) (e::es) [] pos) (SJ r t):=by
 intro j s Z H Q a h;refine wpAny_Call_Name_kw (iK a hg z hv ?_ C i);exact PyProof.Rows.callWith_builtin1 (mf (l pos j s Z H _ a h) λM u ⟨G,F,O,L,y⟩=>E j u Z F G M Q O L y) B f
def t6(E:dQ X (.type T) r)(hg:Gl X x)(z:X.mg x=Y)(hv:bootBuiltins x=J (.type T))(l:PA X (e::es) t)(C:x≠"__name__":=by decide)(i:(x==("__debug__":Str))=false:=by decide)(B:starEach (e::es) X.env=(false,eval e X.env)::starEach es X.env:=by rfl)(f:(backTo pos (starEach es X.env)).any (·.1)=false:=by rfl):PE X (.Call (.Name x p) (e::es) [] pos) (SJ r t):=by
 intro j s Z H Q a h;refine wpAny_Call_Name_kw (iK a hg z hv ?_ C i);exact PyProof.Rows.callWith_type1 (mf (l pos j s Z H _ a h) λM u ⟨G,F,O,L,y⟩=>E j u Z F G M Q O L y) B f
end
end L2
namespace HT
open PyProof.Rows
section
open PySem.SeqAt
open PySem.AutoSeq1 (wpAny_loadPart')
open PySem.MeetsSeq PySem.MeetsSeq2 PySem.MeetsSeq3
end
section
variable{prog:Program}{w:World}{A:Around}{E:WE}{s:Shared}
def F0(L:IsTup s.heap t vs.toArray)(M:IsTup s.heap b ws.toArray)(hv:vs≠[])(R:ws=[]->Q (.ref t) s)(P:ws≠[]->Q (.ref s.heap.objs.size) { s with heap:=s.heap.push { cls:=.type "tuple",data:=.seq (vs++ws).toArray}})(z:vs.length+ws.length<=sizeLine):wpAny (model prog w) A (binaryOp .Add (.ref t) (.ref b)) Q E s:=by
 obtain⟨⟨cls,C,G,B⟩,j,O,n,hd⟩:=id L;obtain⟨⟨F,i,data2,f⟩,a,y,H,u⟩:=id M;subst O hd y u;have e:vs.toArray++ws.toArray=(vs++ws).toArray:=by simp
 by_cases l:ws=[]
 .exact concat_meets ⟨_,j,rfl⟩ ⟨_,a,rfl⟩ noFill_tuple_add seq_tuple_add PySem.F.slot_tuple_add PySem.F.entry_tuple_add (PySem.F.args_tuple_add_2 _ _)
   (tuple_addW1 t b vs.toArray ws.toArray n H C i B f (by simpa using hv) (by simp[l])) ⟨j,a,R l⟩
 .refine concat_meets ⟨_,j,rfl⟩ ⟨_,a,rfl⟩ noFill_tuple_add seq_tuple_add PySem.F.slot_tuple_add PySem.F.entry_tuple_add (PySem.F.args_tuple_add_2 _ _)
   (tuple_addW2 t b vs.toArray ws.toArray n H C i B f (by simpa using hv) (by simpa using l) (by exact z)) ⟨j,a,?_⟩
  rw[e];exact P l
def n7(n d:Nat):WW->Nat
 |none=>d
 |some v=>if v<0 then(v+(n:Int)).toNat else min v.toNat n
def lW(n d:Nat):n7 n d Y=d:=rfl
def oJ(n d k:Nat):n7 n d (J (k:Int))=min k n:=rfl
def xE(v:Int)(n d:Nat):(if v<0 then max (v+(n:Int)) 0 else min v (n:Int))=((n7 n d (J v):Nat):Int):=by
 show(if v<0 then max (v+(n:Int)) 0 else min v (n:Int))=(((if v<0 then(v+(n:Int)).toNat else min v.toNat n):Nat):Int)
 grind
def yD(lo a:WW)(n:Nat):Builtin.Slice.sliceAdjust lo a 1 (n:Int)=(((n7 n 0 lo:Nat):Int),((n7 n n a:Nat):Int)):=by
 refine Prod.ext ?_ ?_
 .cases lo with
  |none=>rfl
  |some v=>exact xE v n 0
 .cases a with
  |none=>rfl
  |some v=>exact xE v n n
def zG(i j:Nat):Builtin.Slice.slicePlaces (i:Int) (j:Int) 1=j-i:=by
 unfold Builtin.Slice.slicePlaces;have a:(1:Int)>0:=by lia
 simp only[a,if_true,Int.ediv_one]
 split<;>lia
def qG(p:IsPart v o)(h:Q o s):wpAny (model prog w) A (Builtin.Slice.slicePartIndex v) Q E s:=by
 cases p with
 |none=>exact slicePart_none h
 |int i t=>exact slicePart_int h
def pI{j:Addr}{vl l:Value}{lo a:WW}{n:Nat}{Q:Int×Int×Nat->Shared->Prop}(B:s.heap.IsSliceOf j vl l .none)(u:IsPart vl lo)(y:IsPart l a)(h:Q (((n7 n 0 lo:Nat):Int),1,n7 n n a-n7 n 0 lo) s):wpAny (model prog w) A (Builtin.Slice.sliceApplied (.ref j) (pure (n:Int))) Q E s:=by
 obtain⟨os,i,z,f⟩:=id B;refine f_ (f_ (wpAny_field i f rfl (f_ (wpAny_field i f rfl (f_ (wpAny_field i f rfl (nc ?_)))))));refine f_ (slicePart_none ?_);refine f_ (qG u (f_ (qG y (f_ (nc ?_)))));show wpAny _ _ (match Builtin.Slice.sliceAdjust lo a 1 (n:Int)with | (lo,a)=>pure (lo,(1:Int),Builtin.Slice.slicePlaces lo a 1)) _ _ s;rw[yD lo a n];show wpAny _ _ (pure (((n7 n 0 lo:Nat):Int),(1:Int),Builtin.Slice.slicePlaces ((n7 n 0 lo:Nat):Int) ((n7 n n a:Nat):Int) 1)) _ _ s;rw[zG];exact nc h
def DC(xs:Array Value)(i k:Nat):((List.range k).filterMap λ(m:Nat)=>xs[((i:Int)+(m:Int)*1).toNat]?).toArray=((xs.toList.drop i).take k).toArray:=by
 have e:(λ(m:Nat)=>xs[((i:Int)+(m:Int)*1).toNat]?)=λm=>xs[i+m]?:=by grind
 rw[e]
 have:=pick_run xs i k
 rw[List.filterMap_map]at this;have e2:((λx=>xs[x]?)∘λx=>i+x)=λm=>xs[i+m]?:=rfl;rw[e2]at this;rw[this]
def pd{t l:Addr}{items:Array Value}{vl C:Value}{lo a:WW}{Q:WE}(i:IsTup s.heap t items)(B:s.heap.IsSliceOf l vl C .none)(H:IsPart vl lo)(G:IsPart C a)(L:¬(n7 items.size 0 lo=0/\n7 items.size items.size a=items.size))(h:Q (.ref s.heap.objs.size) { s with heap:=s.heap.push { cls:=.type "tuple",data:=.seq ((items.toList.drop (n7 items.size 0 lo)).take (n7 items.size items.size a-n7 items.size 0 lo)).toArray}})(F:items.size<=sizeLine):wpAny (model prog w) A (getItem (.ref t) (.ref l)) Q E s:=by
 have f:sizeOk (.seq ((items.toList.drop (n7 items.size 0 lo)).take (n7 items.size items.size a-n7 items.size 0 lo)).toArray):=by show((items.toList.drop (n7 items.size 0 lo)).take (n7 items.size items.size a-n7 items.size 0 lo)).toArray.size<=sizeLine;rw[x_,Jx,QV,Array.length_toList];lia
 obtain⟨os,z,j,M⟩:=id B;have y:s.TypeIs (.ref l) "slice":=⟨os,z,j⟩;unfold getItem
 try with_reducible refine wpAny_holding ?_
 refine f_ (wpAny_sequenceKey i.typeIs (by decide) ?_)
 refine f_ (wpAny_callSpecial?_slot i.typeIs PyProof.Rows.slot_tuple_getitem
  (wpAny_call_entry PyProof.Rows.slot_tuple_getitem i.typeIs entry_tuple_getitem ?_ (args_tuple_getitem _ _)))
 show wpAny _ _ (Builtin.Tuple.tupleItemsOf (.ref t) >>= _) _ _ s;refine f_ (tupleItemsOf_ i ?_);refine f_ (wpAny_typeOf y ?_);refine f_ (pI B H G ?_);have u:¬((((n7 items.size 0 lo:Nat):Int)==0&&(1:Int)==1&&(n7 items.size items.size a-n7 items.size 0 lo)==items.size)=I):=by intro q;rw[DX,DX]at q;have O:=eq_of_beq q.1.1;have P:=eq_of_beq q.2;exact L ⟨⋯,⋯⟩
 show wpAny _ _ (if(((n7 items.size 0 lo:Nat):Int)==0&&(1:Int)==1&&(n7 items.size items.size a-n7 items.size 0 lo)==items.size)=I then _ else _) _ _ s;rw[g_ u,DC]
 first
  |exact f_ (m:=Builtin.Tuple.tupleExact _) (wpAny_newObj_type (f_ (nc (nc ⟨_,rfl,nc h⟩))) f)
end
end HT
namespace L2
open PySem.Spec PyProof.Rows
abbrev TO:=St->Hp->(WW->Hp->Prop)->Prop
def PO(X:Cx)(e:Option Expr)(t:TO):Prop :=
 ∀(a:WU)(s:Shared)(Z:St)(H:Hp)(Q:WW->Hp->Prop),Inv X a Z H s->t Z H Q ->
  wpAny (model X.prog X.w) X.A (evalPart e X.env) (λu i=>∃o f,Inv X a Z f i/\IsPart u o/\Q o f) X.xe s
def F1:TO:=λ_ H Q=>Q Y H
def NK(t:TE):TO:=λZ H Q=>t Z H λx a=>∃i,x=.int i/\Q (J i) a
section
variable{X:Cx}{e:Expr}{te:TE}{lo hi:Option Expr}{tl th:TO}{pos p2:Pos}
def F2:PO X Y F1:=by intro f s Z H Q a h;rw[evalPart_none];exact nc ⟨Y,H,a,.none,h⟩
def F3(h:PE X e te):PO X (J e) (NK te):=by intro j s Z H Q a z;refine mf (h j s Z H _ a z) λu C ⟨x,l,B,y,f⟩=>?_;obtain⟨i,rfl,q⟩:=f;obtain⟨t,rfl⟩:=y;exact⟨J i,l,B,.int i t,q⟩
def Q9(X:Cx)(r:V->WW->WW->Hp->VK->Prop):Prop :=
 ∀(f:WU)(s:Shared)(Z:St)(H:Hp)(x:V)(v vl i:Value)(lo hi:WW)(j:Addr)(Q:VK),Inv X f Z H s->aQ x v->s.heap.IsSliceOf j vl i .none->IsPart vl lo->IsPart i hi->r x lo hi H Q ->
  ∃a id,typeLookup (.type a) "__getitem__"=pure (J (.builtin id))/\s.TypeIs v a/\wpAny (model X.prog X.w) X.A (getItem v (.ref j)) (EP X f Z Q) X.xe s
def Wa(r:V->WW->WW->Hp->VK->Prop)(te:TE)(tl th:TO):TE:=λZ H Q=>te Z H λx i=>tl Z i λl f=>th Z f λu a=>r x l u a Q
def Ck(hr:Q9 X r)(S:PE X e te)(hl:PO X lo tl)(P:PO X hi th):PE X (.Subscript e (.Slice lo hi Y p2) pos) (Wa r te tl th):=by intro f s Z H Q j h;refine Subscript_ (mf (S f s Z H _ j h) λv z ⟨x,W,I1,r1,C⟩=>?_);refine wpAny_Slice (mf (hl f z Z W _ I1 C) λvl F ⟨l,L,G,pl,E⟩=>mf (P f F Z L _ G E) λi a ⟨u,y,M,O,R⟩=>?_);refine nc ?_;have U:Inv X f Z y { a with heap:=a.heap.push { cls:=.type "slice",data:=.fields #[vl,i,.none]}}:=M.kept (t':=a.toks) λb ob q=>nj _ q;obtain⟨ac,id,hT,B,hg⟩:=hr f { a with heap:=a.heap.push { cls:=.type "slice",data:=.fields #[vl,i,.none]}} Z y x v vl i l u a.heap.objs.size Q U r1 (Heap.IsSliceOf.new ..) pl O R;exact tail_any B hT hg (by with_unfolding_all rfl)
def pV(xs:List V)(lo hi:WW):List V:=(xs.drop (HT.n7 xs.length 0 lo)).take (HT.n7 xs.length xs.length hi-HT.n7 xs.length 0 lo)
def pA(xs:List V)(lo hi:WW):(pV xs lo hi).length<=xs.length:=by unfold pV;rw[Jx,QV];lia
def SK(K:hR):V->WW->WW->Hp->VK->Prop:=λx lo hi H Q=>∃a xs,x=.ref a/\SqT K H a xs /\
 ¬(HT.n7 xs.length 0 lo=0/\HT.n7 xs.length xs.length hi=xs.length)/\∀p,H p=Y->Q (.ref p) (mj H p (.tup (pV xs lo hi)))
def J1:Q9 X (SK X.K):=by
 intro M s Z H x v vl O lo hi L Q i z C E B h;obtain⟨a,xs,rfl,y,F,q⟩:=h;cases z;obtain⟨j,r,l,u⟩:=i.tuple y;have f:j.toArray.size=xs.length:=by exact r.length.symm
 refine⟨"tuple",_,PyProof.Rows.slot_tuple_getitem.lookup,l.typeIs,?_⟩;refine HT.pd l C E B (by rw[f];exact F) ?_ (by rw[f];exact u);rw[f];refine⟨.ref s.heap.objs.size,_,i.laid (t':=s.toks) (λb G q=>nj _ q) (l_ _) ?_,rfl,q _ (i.hok.fresh (l_ _))⟩;exact⟨oh (pA xs lo hi) u,_,(r.drop (HT.n7 xs.length 0 lo)).take (HT.n7 xs.length xs.length hi-HT.n7 xs.length 0 lo),jB.new _ _⟩
def NL(K:hR):R2:=λx y H Q=>∃a b xs ys,x=.ref a/\y=.ref b/\SqT K H a xs/\SqT K H b ys/\xs≠[]/\xs.length+ys.length<=sizeLine /\
 (ys=[]->Q (.ref a) H)/\(ys≠[]->∀p,H p=Y->Q (.ref p) (mj H p (.tup (xs++ys))))
def aM.nil_iff(r:aM xs us):us=[]↔xs=[]:=by
 cases r with
 |nil=>simp
 |cons _ _=>simp
def F4:OpR X (binaryOp .Add) (NL X.K):=by intro U s Z H x y v u Q f M G h;obtain⟨a,b,xs,ys,rfl,rfl,C,O,L,B,E,F⟩:=h;cases M;cases G;obtain⟨P,j,R,_⟩:=f.tuple C;obtain⟨l,i,p2,_⟩:=f.tuple O;refine HT.F0 R p2 (λz=>L (j.nil_iff.mp z)) (λz=>⟨.ref a,H,f,rfl,E (i.nil_iff.mp z)⟩) (λz=>?_) (by rw[<-j.length,<-i.length];exact B);refine⟨.ref s.heap.objs.size,_,f.laid (t':=s.toks) (λb S q=>nj _ q) (l_ _) ?_,rfl,F (λw=>z (i.nil_iff.mpr w)) _ (f.hok.fresh (l_ _))⟩;exact⟨by rw[Fz];exact B,_,j.append i,jB.new _ _⟩
end
def vR(n:Nat)(i:Int):WH:=if 0<=i then(if i<n then J i.toNat else Y)else if -(n:Int)<=i then J (i+n).toNat else Y
def o_{α:Type}(xs:List α)(i:Int):Option α:=(vR xs.length i).bind λj=>xs[j]?
def oM(h:vR n i=J j):seqIndex? i n=J j/\j<n /\ -(n:Int)<=i/\i<n:=by
 unfold vR at h;by_cases f:0<=i
 .rw[c_ f]at h;by_cases a:i<n
  .rw[c_ a]at h;have e:=Option.some.inj h;exact⟨by rw[seqIndex_of f a,e],⋯,⋯,a⟩
  .rw[g_ a]at h;cases h
 .rw[g_ f]at h;by_cases a:-(n:Int)<=i
  .rw[c_ a]at h;have e:=Option.some.inj h;exact⟨by rw[seqIndex_neg ⋯ a,e],⋯,a,⋯⟩
  .rw[g_ a]at h;cases h
def sK(h:o_ xs i=J v):∃j,seqIndex? i xs.length=J j/\xs[j]?=J v/\j<xs.length /\ -(xs.length:Int)<=i/\i<xs.length:=by
 unfold o_ at h
 cases e:vR xs.length i with
 |none=>rw[e]at h;cases h
 |some j =>
  rw[e]at h;obtain⟨l,a,u,f⟩:=oM e;exact⟨j,l,h,a,u,f⟩
def bZ{α:Type}{xs:List α}{j:Nat}{v:α}(h:xs[j]?=J v):o_ xs (j:Int)=J v:=by
 have a:=(pf.mp h).1;have e:vR xs.length (j:Int)=J j:=by
  unfold vR
  simp_all
 unfold o_;rw[e];exact h
def kX(b:Expr):Prop:=∀o i,subscripted b T o i=operate [o,i] (getItem o i)
def IxR(X:Cx)(r:R2):Prop :=
 ∀(f a:Expr)(i:WU)(s:Shared)(Z:St)(H:Hp)(x y:V)(v u:Value)(Q:VK),Inv X i Z H s->aQ x v->aQ y u->r x y H Q ->
  subscripted a T v u=operate [v,u] (getItem v u)->wpAny (model X.prog X.w) X.A (subscriptTail f a v u) (EP X i Z Q) X.xe s
def MN(X:Cx)(id:String)(r:V->List V->Hp->VK->Prop):Prop :=
 ∀(a:WU)(s:Shared)(Z:St)(H:Hp)(x:V)(xs:List V)(v:Value)(f:WT)(Q:VK),Inv X a Z H s->aQ x v->aM xs f->r x xs H Q ->
  wpAny (model X.prog X.w) X.A (call (.builtin id) (v::f)) (EP X a Z Q) X.xe s
section
variable{X:Cx}{a b:Expr}{ta tb:TE}{pos:Pos}
def IxR.or(h:IxR X r)(E:IxR X r'):IxR X (λx y H Q=>r x y H Q\/r' x y H Q):=by
 intro i f z s Z H x y v u Q j l B q C;rcases q with q|q
 .exact h i f z s Z H x y v u Q j l B q C
 .exact E i f z s Z H x y v u Q j l B q C
def NM{r:R2}(hr:IxR X r)(i:PE X a ta)(E:PE X b tb)(F:kX b):PE X (.Subscript a b pos) (Nz r ta tb):=by intro G s Z H Q f h;exact Subscript_ (JU i E f h λv u j x y B z C l q=>hr a b G j Z B x y v u Q z C l q (F _ _))
def NN(K:hR):R2:=λx y H Q=>∃p xs i v,x=.ref p/\y=.int i/\SqL K H p xs/\o_ xs i=J v/\Q v H
def NO(K:hR):R2:=λx y H Q=>∃p xs i v,x=.ref p/\y=.int i/\SqT K H p xs/\o_ xs i=J v/\Q v H
def NQ:R2:=λx y H Q=>∃z i c,x=.str z/\y=.int i/\z.length<=sizeLine/\o_ z.cps.toList i=J c/\Q (.str ⟨#[c]⟩) H
def F5:IxR X (NN X.K):=by
 intro C E W s Z H x y v u Q f R P h L;obtain⟨p,xs,i,z,rfl,rfl,hq,U,q⟩:=h;cases R;obtain⟨t,rfl⟩:=P;obtain⟨G,r,F,hz⟩:=f.list hq;obtain⟨j,l,h2,h3,S,h5⟩:=sK U;obtain⟨w,M,rw'⟩:=r.get h2;have hl:=r.length;have hn:=rn;have fin:EP X W Z Q w s:=⟨z,H,f,rw',q⟩;by_cases O:0<=i
 .have B:i.toNat=j:=by
   rw[seqIndex_of O h5]at l;exact Option.some.inj l
  exact item_listR F.isList O ⋯ (by rw[B];simpa using M) fin L
 .have B:(i+(G.toArray.size:Int)).toNat=j:=by
   rw[seqIndex_neg ⋯ S]at l;rw[x_,<-hl];exact Option.some.inj l
  exact subscriptTail_builtinR F.isList.typeIs slot_list_getitem.lookup
   (wpAny_getItem_list_neg F.isList ⋯ (by rw[x_]<;>lia) ⋯ (by rw[B];simpa using M) ⟨rfl,fin⟩) L
def J2:IxR X (NO X.K):=by
 intro l B O s Z H x y v u Q f F E h G;obtain⟨p,xs,i,z,rfl,rfl,hq,L,q⟩:=h;cases F;obtain⟨t,rfl⟩:=E;obtain⟨R,r,C,hz⟩:=f.tuple hq;obtain⟨j,U,S,h3,W,h5⟩:=sK L;obtain⟨w,M,rw'⟩:=r.get S;have P:=r.length;have hn:=rn;have fin:EP X O Z Q w s:=⟨z,H,f,rw',q⟩;exact subscriptTail_builtinR C.typeIs slot_tuple_getitem.lookup
  (getItem_tuple C ⋯ ⋯ (by rw[x_,<-P];exact U) (by simpa using M) ⟨rfl,fin⟩) G
def J3:IxR X NQ:=by
 intro f l W s Z H x y v u Q B F E h L;obtain⟨z,i,c,rfl,rfl,hz,M,q⟩:=h;obtain⟨t,rfl⟩:=F;obtain⟨S,rfl⟩:=E;obtain⟨j,C,R,h3,G,O⟩:=sK M;have P:z.cps.toList.length=z.length:=by simp[Str.length]
 rw[P]at C G O;have U:=rn
 exact tail_any (typeIs_str s z t) slot_str_getitem.lookup (getItem_str (by
  have e1:decide (i < -(2^63:Int))=T:=decide_eq_false ⋯;have e2:decide (i>=2^63)=T:=decide_eq_false ⋯
  rw[e1,e2,Bool.or_false]) (by rw[C];simpa using R) ⟨.str ⟨#[c]⟩,H,B.tok _,⟨_,rfl⟩,q⟩) L
def Wb(K:hR):R2:=λx y H Q=>NN K x y H Q\/NO K x y H Q\/NQ x y H Q
def J4:IxR X (Wb X.K):=F5.or (J2.or J3)
def zI(f:WT)(n j:Nat)(u:Value):Obj.mapSeq (·.setIfInBounds j u) { cls:=.type "list",data:=.seq f.toArray n}={ cls:=.type "list",data:=.seq (f.set j u).toArray n}:=by simp[Obj.mapSeq]
def Inv.lst{j:WU}{Z:St}{H:Hp}{s:Shared}{p:Addr}{xs:List V}(i:Inv X j Z H s)(h:H p=J (.lst xs)):
  ∃(f:WT) (n:Nat),aM xs f/\s.heap.get? p=J { cls:=.type "list",data:=.seq f.toArray n}/\xs.length<=sizeLine:=by
 obtain⟨z,f,n,r,e⟩:=i.hok p _ h;exact⟨f,n,r,e,z⟩
def Inv.lstUpd{z:WU}{Z:St}{H:Hp}{s:Shared}{p:Addr}{xs ys:List V}{j i:WT}{n y:Nat}{f:Obj->Obj}(l:Inv X z Z H s)(h:H p=J (.lst xs))(E:s.heap.get? p=J { cls:=.type "list",data:=.seq j.toArray n})(hf:f { cls:=.type "list",data:=.seq j.toArray n}={ cls:=.type "list",data:=.seq i.toArray y})(r:aM ys i)(C:ys.length<=sizeLine)(t:Nat):
  Inv X z Z (mj H p (.lst ys)) { s with heap:=s.heap.update p f,toks:=t}:=by
 have e:(s.heap.update p f).get? p=J { cls:=.type "list",data:=.seq i.toArray y}:=by rw[QM f E (by rw[hf]<;>rfl),hf]
 refine l.write (by rw[h];trivial) (.inl rfl) (λb u B q=>(RZ _ _ (Ne.symm B)).trans q) ⟨_,e⟩ ?_;exact⟨C,i,y,r,e⟩
def NR:V->V->V->Hp->(Hp->Prop)->Prop:=λo i v H Q=>∃p xs k j,o=.ref p/\i=.int k/\H p=J (.lst xs)/\vR xs.length k=J j/\Q (mj H p (.lst (xs.set j v)))
def C9:Nu X NR:=by
 intro Oz s Z H o i v ov W u Q f R U P h;obtain⟨p,xs,k,j,rfl,rfl,G,O,q⟩:=h;cases R;obtain⟨t,rfl⟩:=U;obtain⟨l,n,r,z,S⟩:=f.lst G;obtain⟨y,h2,M,F⟩:=oM O;have B:=r.length;have hn:=rn;have E :=
  f.lstUpd G z (zI l n j u) (r.set P j) (by rw[Sf];exact S) s.toks
 by_cases L:0<=k
 .have C:k.toNat=j:=by
   rw[seqIndex_of L F]at y;exact Option.some.inj y
  exact PySem.W.ki_setAt z L ⋯ (by rw[x_,<-B];exact F) (by rw[C];exact⟨_,E,q⟩)
 .have C:(k+(l.toArray.size:Int)).toNat=j:=by
   rw[seqIndex_neg ⋯ M]at y;rw[x_,<-B];exact Option.some.inj y
  exact PySem.W.ki_setBack z ⋯ (by rw[x_,<-B];exact M) ⋯ (by rw[C];exact⟨_,E,q⟩)
def v4(lo f:WW)(n:Nat):(sliceBounds lo f Y n).1=((HT.n7 n 0 lo:Nat):Int)/\(sliceBounds lo f Y n).2.1=((HT.n7 n n f:Nat):Int)/\(sliceBounds lo f Y n).2.2=1:=by
 refine⟨?_,?_,rfl⟩
 .cases lo with
  |none=>simp[sliceBounds,HT.n7]
  |some i =>
   simp only[sliceBounds,HT.n7,Option.getD_none,show(1:Int)>0 by decide,if_true];by_cases h:i<0
   .simp only[h,if_true]<;>lia
   .simp only[h,if_false]<;>lia
 .cases f with
  |none=>simp[sliceBounds,HT.n7]
  |some i =>
   simp only[sliceBounds,HT.n7,Option.getD_none,show(1:Int)>0 by decide,if_true];by_cases h:i<0
   .simp only[h,if_true]<;>lia
   .simp only[h,if_false]<;>lia
def uq(f:WT)(lo i:WW):slicePick f.toArray lo i Y=((f.drop (HT.n7 f.length 0 lo)).take (HT.n7 f.length f.length i-HT.n7 f.length 0 lo)).toArray:=by obtain⟨u,j,l⟩:=v4 lo i f.toArray.size;unfold slicePick;rw[u,j,l];simp only[sliceRange_one,pick_run]<;>rfl
def SM(K:hR):V->WW->WW->Hp->VK->Prop:=λx lo f H Q=>∃a xs,x=.ref a/\SqL K H a xs/\∀p,H p=Y->Q (.ref p) (mj H p (.lst (pV xs lo f)))
def yu:Q9 X (SM X.K):=by intro M s Z H x v vl O lo l L Q f y B C z h;obtain⟨a,xs,rfl,u,q⟩:=h;cases y;obtain⟨F,r,j,E⟩:=f.list u;have i:=r.length;refine⟨"list",_,slot_list_getitem.lookup,j.isList.typeIs,?_⟩;refine wpAny_getItem_list_slice j.isList B C z .none (by simp) ?_ (by rw[x_]<;>lia);rw[uq,<-i];refine⟨.ref s.heap.objs.size,_,f.laid (t':=s.toks) (λb G q=>nj _ q) (l_ _) ?_,rfl,q _ (f.hok.fresh (l_ _))⟩;exact⟨oh (pA xs lo l) E,_,0,(r.drop (HT.n7 xs.length 0 lo)).take (HT.n7 xs.length xs.length l-HT.n7 xs.length 0 lo),zj _ rfl⟩
def vH:dQ X (.type "list") (λxs H Q=>∃p ys,xs=[.ref p]/\(SqL X.K H p ys\/SqT X.K H p ys)/\∀l,H l=Y->Q (.ref l) (mj H l (.lst ys))):=by
 intro O s Z H xs P Q i r h;obtain⟨p,ys,rfl,hq,q⟩:=h;obtain⟨u,rfl,M⟩:=iu r;cases M;have fin:∀(f:WT),aM ys f->ys.length<=sizeLine->∀(j:Heap)(y:Nat),(∀b L,s.heap.get? b=J L->j.get? b=J L) ->
   j.get? s.heap.objs.size=J { cls:=.type "list",dict:=Y,data:=.seq f.toArray y,slots:=#[]}->EP X O Z Q (.ref s.heap.objs.size) { s with heap:=j}:=λf z C j y kp e =>
  ⟨.ref s.heap.objs.size,_,i.laid (t':=s.toks) kp (l_ _) (show ObjOk X.prog X.w _ j _ (.lst ys) from⟨C,f,y,z,e⟩),rfl,q _ (i.hok.fresh (l_ _))⟩
 rcases hq with hq|hq
 .obtain⟨f,z,F,C⟩:=i.list hq;have B:=z.length;obtain⟨o,G,E,n,hd⟩:=F.isList;exact call_list_seq p (.inl rfl) G E hd (λj y kp e=>fin f z C j y kp e) (by simp only[x_]<;>lia)
 .obtain⟨f,z,F,C⟩:=i.tuple hq;have B:=z.length;obtain⟨o,G,E,n,hd⟩:=F;exact call_list_seq p (.inr rfl) G E hd (λj y kp e=>fin f z C j y kp e) (by simp only[x_]<;>lia)
def mT:dQ X (.type "tuple") (λxs H Q=>∃p ys,xs=[.ref p]/\((SqL X.K H p ys/\∀l,H l=Y->Q (.ref l) (mj H l (.tup ys)))\/(SqT X.K H p ys/\Q (.ref p) H))):=by
 intro L s Z H xs M Q f r h;obtain⟨p,ys,rfl,h⟩:=h;obtain⟨u,rfl,F⟩:=iu r;cases F;rcases h with⟨hq,q⟩|⟨hq,q⟩
 .obtain⟨i,j,y,B⟩:=f.list hq;have z:=j.length;refine call_tuple_list y.isList (λG kp=>?_) (by simp only[x_]<;>lia);have C:=f.kept (t':=s.toks) kp;have E :=
   C.laid (t':=s.toks) (λb o e=>nj _ e) (l_ _) (show ObjOk X.prog X.w _ _ _ (.tup ys) from⟨B,i,j,jB.new _ _⟩)
  exact⟨.ref G.objs.size,_,E,rfl,q _ (C.hok.fresh (l_ _))⟩
 .obtain⟨i,j,y,B⟩:=f.tuple hq;exact call_tuple_same y ⟨.ref p,H,f,rfl,q⟩
def SO(K:hR)(f:String)(x:V)(H:Hp):Prop:=match x with
 |.str _=>f="str"
 |.int _=>f="int"
 |.ref p=>(f="list"/\∃xs,SqL K H p xs)\/(f="tuple"/\∃o,K.lookup p=J o/\o.cls=.type "tuple"/\o.dict=Y) \/
   (f="dict"/\((∃i,H p=J (.dK i))\/∃i,H p=J (.dT i)))\/(f="set"/\∃S n,H p=J (.set S n))
 |_=>False
def J5{E:WU}{Z:St}{H:Hp}{s:Shared}{l:String}{x:V}{v:Value}(f:Inv X E Z H s)(r:aQ x v)(ty:SO X.K l x H):
  s.TypeIs v l/\∀a,v=.ref a->∃y,s.heap.get? a=J y/\y.dict=Y:=by
 cases x with
 |str z =>
  obtain⟨t,rfl⟩:=r;cases(ty);exact⟨typeIs_str s z t,λ_ e=>nomatch e⟩
 |int i =>
  obtain⟨t,rfl⟩:=r;cases(ty);exact⟨typeIs_int s i t,λ_ e=>nomatch e⟩
 |ref p =>
  cases r;rcases ty with⟨rfl,xs,hq⟩|⟨rfl,o,j,C,hd⟩|⟨rfl,j⟩|⟨rfl,S,n,j⟩
  .obtain⟨F,_,B,_⟩:=f.list hq;refine⟨B.isList.typeIs,λa e=>?_⟩;cases e;obtain⟨o,n,e,c,hd,_⟩:=B;exact⟨o,e,hd⟩
  .refine⟨⟨o,f.kIn p o j,C⟩,λa e=>?_⟩;cases e;exact⟨o,f.kIn _ o j,hd⟩
  .have z:∃o,s.heap.get? p=J o/\o.ExactDict:=by
    rcases j with⟨u,j⟩|⟨u,j⟩
    .obtain⟨_,_,_,_,o,_,_,e,ex,_⟩:=f.hok p _ j;exact⟨o,e,ex⟩
    .obtain⟨_,_,_,_,o,_,_,e,ex,_⟩:=f.hok p _ j;exact⟨o,e,ex⟩
   obtain⟨o,e,ex⟩:=z;refine⟨⟨o,e,ex.1⟩,λa e2=>?_⟩;cases e2;exact⟨o,e,ex.2.1⟩
  .obtain⟨o,_,_,_,e,ex,_⟩:=f.hok p _ j;refine⟨⟨o,e,ex.1⟩,λa e2=>?_⟩;cases e2;exact⟨o,e,ex.2.1⟩
 |_=>exact False.elim ty
def Wd(K:hR)(f:String)(r:V->List V->Hp->VK->Prop)(to:TE)(t:TA):TE:=λZ H Q=>to Z H λx i=>SO K f x i/\t Z i λxs j=>r x xs j Q
variable{o e:Expr}{es:WX}{to:TE}{t:TA}{name:Str}{apos cpos:Pos}{T id:String}{r:V->List V->Hp->VK->Prop}
def NS(U:PlainAttrs T)(slot:Slot T name id)(z:typeOf (.builtin id)=pure (.type "method_descriptor"))(P:MN X id r)(ho:PE X o to)(F:PA X (e::es) t)(i:attributeBase o name X.env (eval o X.env)=eval o X.env:=by rfl)(l:((backTo cpos (starEach (e::es) X.env)).all (λx=>!x.1)&&(backToKw cpos (keywordEach [] X.env)).all (λx=>x.1.isSome)
   && decide ((e::es).length+([]:List Keyword).length+(if([]:List Keyword).isEmpty then 0 else 1)<30))=I:=by rfl)(j:(apos.endLine==cpos.line)=I:=by rfl)(hs:starEach (e::es) X.env=(false,eval e X.env)::starEach es X.env:=by rfl)(f:(backTo cpos (starEach es X.env)).any (·.1)=false:=by rfl):
  PE X (.Call (.Attribute o name apos) (e::es) [] cpos) (Wd X.K T r to t):=by
 intro u s Z H Q y h;refine wpAny_Call_method_late i l j rfl (mf (ho u s Z H _ y h) λv G ⟨x,H1,E,B,ty,L⟩=>?_);obtain⟨h1,h2⟩:=J5 E B ty;refine⟨T,id,U,slot,z,h1,h2,?_⟩;have C:=F cpos u G Z H1 _ E L;rw[hs]at C ⊢;refine Calls.callWith_builtin (by show(false||(backTo cpos (starEach es X.env)).any (·.1))=false;rw[f]<;>rfl) (Calls.evalArgs_plain ?_);exact mf C λus O ⟨vs,S,R,W,M⟩=>P u O Z S x vs v us Q R B W M
end
def U_(X:Cx)(id:String)(r:V->List V->Hp->VK->Prop):Prop :=
 ∀(a:WU)(s:Shared)(Z:St)(H:Hp)(x:V)(xs:List V)(v:Value)(f:WT)(Q:VK),Inv X a Z H s->aQ x v->aM xs f->r x xs H Q ->
  wpAny (model X.prog X.w) X.A (call (.builtin id) (v::f)) (EP X a Z Q) X.xe s
def aM.zero(h:aM [] us):us=[]:=by cases h;rfl
def aM.one(h:aM [x] us):∃u,us=[u]/\aQ x u:=by cases h with|cons r t=>exact⟨_,by rw[aM.zero t],r⟩
def aM.two(h:aM [x,y] us):∃u v,us=[u,v]/\aQ x u/\aQ y v:=by cases h with|cons r t=>obtain⟨v,e,q⟩:=aM.one t;exact⟨_,v,by rw[e],r,q⟩
def aM.rep(h:aM xs us):∀k:Nat,aM (List.replicate k xs).flatten (List.replicate k us).flatten
 |0=>.nil
 |k+1=>by
  exact aM.append h (aM.rep h k)
def tK(a:WT):∀(k:Nat)(f:WT),
  List.foldl (λj i=>j++i) f.toArray (List.replicate k a.toArray)=(f++(List.replicate k a).flatten).toArray
 |0,f=>by simp
 |k+1,f=>by
  have e:f.toArray++a.toArray=(f++a).toArray:=by simp
  have e2:(f++a)++(List.replicate k a).flatten=f++(List.replicate (k+1) a).flatten:=by rw[Jq,List.flatten_cons,QT]
  rw[<-e2,<-tK a k (f++a),<-e,Jq,List.foldl_cons]
section
variable{X:Cx}{Oz:List (Addr × Obj)}{Z:St}{H:Hp}{s:Shared}{l b:Addr}{xs ys zs:List V}
def Inv.lset{a its':WT}{n:Nat}{f:Array Value->Array Value}{z:Nat}(i:Inv X Oz Z H s)(y:H l=J (.lst xs))(e:s.heap.get? l=J { cls:=.type "list",data:=.seq a.toArray n})(hf:f a.toArray=its'.toArray)(hv:aM ys its')(j:ys.length<=sizeLine):
  Inv X Oz Z (mj H l (.lst ys)) { s with heap:=s.heap.update l (Obj.mapSeq f),toks:=z}:=by
 have q:=PySem.IsL.update e f;rw[hf]at q;refine i.write (x:=l) (e:=l) (by rw[y];exact trivial) (.inl rfl) (λE u C B=>(RZ s.heap (Obj.mapSeq f) (Ne.symm C)).trans B) ⟨_,q⟩ ?_;exact⟨j,its',_,hv,q⟩
def Inv.lnew(a:Inv X Oz Z H s)(hv:aM ys its)(f:ys.length<=sizeLine):
  Inv X Oz Z (mj H s.heap.objs.size (.lst ys)) { s with heap:=s.heap.push { cls:=.type "list",data:=.seq its.toArray},toks:=t'} :=
 a.laid (λ_ _ q=>nj _ q) (l_ _) ⟨f,its,0,hv,zj _ rfl⟩
def Inv.fresh(a:Inv X Oz Z H s):H s.heap.objs.size=Y:=a.hok.fresh (l_ _)
def Inv.lstM(f:Inv X Oz Z H s)(i:H l=J (.lst xs)):xs.length<=sizeLine/\∃(a:WT) (n:Nat),aM xs a/\xs.length=a.length/\s.heap.get? l=J { cls:=.type "list",data:=.seq a.toArray n}:=by obtain⟨z,a,n,r,e⟩:=f.hok l _ i;exact⟨z,a,n,r,r.length,e⟩
def pS(h:n<=sizeLine):Builtin.List.listTooLong n=T:=by unfold Builtin.List.listTooLong;exact decide_eq_false ⋯
end
section
variable{X:Cx}
def F6:V->List V->Hp->VK->Prop:=λx a H Q=>∃l xs y,x=.ref l/\a=[y]/\H l=J (.lst xs)/\xs.length<sizeLine/\Q .non (mj H l (.lst (xs++[y])))
def tR:U_ X "list.append" F6:=by
 intro E s Z H x G v O Q a j C h;obtain⟨l,xs,y,rfl,rfl,i,L,q⟩:=h;cases j;obtain⟨u,rfl,B⟩:=C.one;obtain⟨z,f,n,r,M,e⟩:=a.lstM i;refine call_meets F.slot_list_append ⟨_,e,rfl⟩ F.entry_list_append (F.args_list_append_2 _ _) (PySem.list_append l f.toArray n u (by rw[x_];lia)) ⟨e,?_⟩;refine⟨.non,_,a.lset (its':=f++[u]) i e (by simp) (r.append (.cons B .nil)) ?_,rfl,q⟩
 grind
def F7:V->List V->Hp->VK->Prop:=λx f H Q=>∃l b xs a,x=.ref l/\f=[.ref b]/\H l=J (.lst xs)/\H b=J (.lst a)/\xs.length+a.length<=sizeLine/\Q .non (mj H l (.lst (xs++a)))
def Al:U_ X "list.extend" F7:=by
 intro U s Z H x W v us Q i C L h;obtain⟨l,b,xs,R,rfl,rfl,B,O,hz,q⟩:=h;cases C;obtain⟨u,rfl,E⟩:=L.one;cases E;obtain⟨z,f,n,r,hl,e⟩:=i.lstM B;obtain⟨S,a,P,G,M,e2⟩:=i.lstM O;have y:f.toArray.size+a.toArray.size<=sizeLine:=by rw[x_,x_];lia
 have j:¬(!f.toArray.isEmpty&&Builtin.List.listTooLong (f.toArray.size+a.toArray.size))=I:=by rw[pS y,Bool.and_false];exact Ng
 refine call_meets F.slot_list_extend ⟨_,e,rfl⟩ F.entry_list_extend (F.args_list_extend_2 _ _)
  (AutoSeq1.list_extend_list_list_0 l f.toArray n b a.toArray P j (by rw[x_];lia) ⋯) ⟨e,e2,?_⟩
 refine⟨.non,_,i.lset (its':=f++a) B e (by simp) (r.append G) ?_,rfl,q⟩;rw[Fz];lia
def SQ:R2:=λx y H Q=>∃l b xs a,x=.ref l/\y=.ref b/\H l=J (.lst xs)/\H b=J (.lst a)/\xs.length+a.length<=sizeLine/\∀p,H p=Y->Q (.ref p) (mj H p (.lst (xs++a)))
def J7:OpR X (binaryOp .Add) SQ:=by
 intro P s Z H x y v u Q a B j h;obtain⟨l,b,xs,M,rfl,rfl,G,F,R,q⟩:=h;cases B;cases j;obtain⟨z,i,n,r,S,e⟩:=a.lstM G;obtain⟨O,f,U,C,E,e2⟩:=a.lstM F;refine PySem.P.add_list e e2 ?_ (by rw[x_,x_];lia);have L:i.toArray++f.toArray=(i++f).toArray:=by simp
 rw[L];exact⟨.ref _,_,a.lnew (t':=s.toks) (r.append C) (by rw[Fz];lia),rfl,q _ a.fresh⟩
def SS:R2:=λx y H Q=>∃l k xs,x=.ref l/\y=.int k/\H l=J (.lst xs) /\ -(2^63)<=k/\k<2^63/\xs.length*k.toNat<=sizeLine /\
 ∀p,H p=Y->Q (.ref p) (mj H p (.lst (List.replicate k.toNat xs).flatten))
def xT{α:Type}(xs:List α)(k:Nat):(List.replicate k xs).flatten.length=k*xs.length:=by simp
def J8:OpR X (binaryOp .Mult) SS:=by
 intro Oz s Z H x y v u Q i R P h;obtain⟨l,k,xs,rfl,rfl,W,h1,h2,O,q⟩:=h;cases R;obtain⟨t,rfl⟩:=P;obtain⟨z,f,n,r,U,e⟩:=i.lstM W;have E:f.toArray.size*k.toNat<=sizeLine:=by rw[x_,<-U];exact O
 have G:¬f.toArray.size*k.toNat>(2^63-1)/8:=by
  have:(sizeLine:Nat)<=(2^63-1)/8:=by decide
  lia
 have B:¬(!Builtin.List.listFitsIndex k)=I:=by rw[fitsIndex_both h1 h2];exact Ng
 have j:¬Builtin.List.listTooLong (f.toArray.size*k.toNat)=I:=by rw[pS E];exact Ng
 have C:List.foldl (λM L=>M++L) #[] (List.replicate (if f.toArray.isEmpty=I then 0 else k.toNat) f.toArray)=(List.replicate k.toNat f).flatten.toArray:=by
  have f0:∀m:Nat,List.foldl (λM L=>M++L) #[] (List.replicate m f.toArray)=(List.replicate m f).flatten.toArray:=λm=>by
   have:=tK f m []
   exact this
  rw[f0]
  cases f with
  |nil=>simp
  |cons a r'=>rw[g_ (by simp)]
 refine wpAny_binaryOp_repeat_ref (by decide) ⟨_,e,rfl⟩ (λS=>typeIs_int S k t) noFill_list_mul F.fills_int_mul F.slot_int_rmul repeat_list F.slot_int_index.lookup
  (call_meets F.slot_int_rmul (typeIs_int s k t) F.entry_int_rmul (F.args_int_rmul_2 _ _) (int___rmul___int_list k t l f.toArray n)
   ⟨e,rfl,⟨_,e,rfl⟩,call_meets F.slot_list_mul ⟨_,e,rfl⟩ F.entry_list_mul (F.args_list_mul_2 _ _) (AutoListH.list___mul___list_int_3 l f.toArray n k t B G j) ⟨e,?_⟩⟩)
 rw[C];exact⟨.ref _,_,i.lnew (t':=s.toks) (r.rep k.toNat) (by rw[xT,Nat.mul_comm];exact O),rfl,q _ i.fresh⟩
end
end L2
namespace Att
open PySem.W PySem.Calls PyProof.Rows
def rA:∀(ns:WN)(f:WT),WellAll P h f (ns.map WData.int)->IntsAre f ns:=by
 intro ns
 induction ns with
 |nil =>
  intro f w;rw[EZ]at w;cases w;exact .nil
 |cons n ns i =>
  intro f w;rw[k_]at w
  cases w with
  |cons a b =>
   cases a;exact .cons _ _ (i _ b)
def Ag{l:OpenLaw}{n:Nat}(G:l.most=J n){P:Params}{h:Heap}{f:List WData}{j:WT}(i:l.row.toRowW.claim.pre f=I)(B:WellAll P h j f):
  ∃a E ns,j=[Value.ref a]/\f=[WData.list (ns.map WData.int)]/\h.get? a=J { cls:=.type "list",data:=.seq E.toArray}/\IntsAre E ns/\ns.length<=n:=by
 have C:=(pre_splitW i).1;have H:=(pre_splitW i).2;obtain⟨d,r,rfl,R,O⟩:=hasAllW_cons C;obtain rfl:=hasAllW_nil O;obtain⟨xs,rfl,Q⟩:=hasW_list R;obtain⟨ns,rfl⟩:=items_int Q;have u:ns.length<=n:=by
  have z:(WTm.not (.lt (.lit (.int (n:Int))) (.len (.arg 0)))).holds [] { args:=[.list (ns.map .int)]}=I:=by have z:=(holds_andW H).1;rw[G]at z;exact z
  have S:=condW_of z (w_not (w_lt w_lit (w_len_list (w_arg rfl))))
  simp_all
 cases B with
 |cons F M =>
  cases M
  cases F with
  |list L y=>exact⟨_,_,ns,rfl,rfl,L,rA ns _ y,u⟩
def BP(l:OpenLaw)(a:List WData):l.row.toRowW.claim.post a (.bool I) a=I :=
 postW_of
  (show WShape.has [] (.bool I) .bool=I by first | rfl | decide | simp)
  (w_eq_bool (w_res rfl) w_lit) rfl
def wN{l:OpenLaw}{n:Nat}{q:Program}{loose:WM}{XP:(Str->WV)->Heap->Prop}{U:World->Heap->Prop}{d:DefRec}(hn:l.most=J n)(R:d.params.defaults=[])(call:∀(w:World)(s₀ i:Shared)(mg O:WF)(B:Addr)(o:Obj)(pm F j:Value)(a:Addr)(y:WT)(ns:WN),
   Ground q loose [] XP w s₀ mg O i.heap->U w i.heap ->
   i.heap.get? B=J o->o.data=.func (docDef d.name d.params d.body d.scope pm F j)->i.heap.CodeRec F d.name->mg d.name=J (.ref B) ->
   i.heap.get? a=J { cls:=.type "list",data:=.seq y.toArray}->IntsAre y ns->ns.length<=n->i.gens=#[] ->
   codeAny (model l.prog w) callerA (.call (.ref B) ⟨[.ref a],[]⟩) (λr H=>r=.ok (.ret (.bool I))/\OldK i.heap H.heap/\H.os=i.os/\AllBare H.gens) i):
  WalkO q loose XP U l.row.toRowW d [] (λf y=>PySem.call f y):=by
 intro w s₀ i mg O G L B o pm F j dV kV ho hd P W Q hg X Z as z S ai M ac;obtain rfl:=Dflts.none W R;obtain rfl:=Dflts.noKw W;obtain⟨a,y,ns,rfl,rfl,E,u,C⟩:=Ag hn z M;refine enter_call (codeAny_mono (call w s₀ i mg O B o pm F j a y ns G L ho (fd_plain hd) P Q E u C hg) λr H hq=>?_);obtain⟨rfl,h2,h3,h4⟩:=hq;exact⟨.inl ⟨.bool I,.bool I,[],rfl,λ_=>rfl,.bool I,BP l _,λ_=>⟨List.Pairwise.nil,λ_ hm=>(nomatch hm)⟩⟩,h2,h3,h4⟩
end Att
namespace L2
open PySem.Spec PyProof.Rows
def tz:∀{a:WT}{ns:WN},IntsAre a ns->aM (ns.map V.int) a
 |_,_,.nil=>.nil
 |_,_,.cons n t h=>.cons ⟨t,rfl⟩ (tz h)
def J9(H:Hp):Prop:=∀b,H b=Y\/∃o xs,H b=J (.frz o (.lst xs))
def Dg{P:Program}{w:World}{K:hR}{mg mb:WF}{CX:Fe}{k:Nat}{fa a:Addr}{fd:FuncData}{x:Str}{sp:Sp}{f:Shared}{O:WT}{ns:WN}(KX:K.In f.heap)(U:f.heap.Ns mainGlobals mg)(l:f.heap.Ns builtinsNs mb)(ak:∀x:Str,x≠"__name__"->mb x=bootBuiltins x)(S:f.heap.NoLimit)(C:f.heap.NoSeer)(ai:P.given.tree=Y)(hg:f.gens=#[])(ha:f.heap.get? a=J { cls:=.type "list",data:=.seq O.toArray})(hi:IntsAre O ns)(hl:ns.length<=sizeLine)(hr:Room k callerA)(F:∀base:Heap,K.In base->base.Ns mainGlobals mg->FnOk P w K mg base CX k fa fd [x] sp)(M:∀(s:Shared) (u:Value),BindsTo s fd ⟨[u],[]⟩ [(x,u)])(al:∀H:Hp,J9 H->SqL K H a (ns.map V.int)->sp [.ref a] H (λv _=>v=.bl I) λ_ _ _=>False)(ar:∀H e y,CX [] H f (λ_ _ _=>False) e y->False):
  codeAny (model P w) callerA (.call (.ref fa) ⟨[.ref a],[]⟩) (λr y=>r=.ok (.ret (.bool I))/\OldK f.heap y.heap/\y.os=f.os/\AllBare y.gens) f:=by
 have rv:=tz hi;have ac:=hi.length;have L:∀H:Hp,J9 H->SqL K H a (ns.map V.int)->HOk P w H f.heap->(∀b,H b≠Y->b=a)->(H a≠Y->K.lookup a=Y) ->
   codeAny (model P w) callerA (.call (.ref fa) ⟨[.ref a],[]⟩) (λr y=>r=.ok (.ret (.bool I))/\OldK f.heap y.heap/\y.os=f.os/\AllBare y.gens) f:=by
  intro H hO hS hok hA hK;have i:∀{b:Addr}{o:Obj},f.heap.get? b=J o->H b=Y->(mq f.heap H).get? b=J o:=λe n=>CL e n;have ap:∀{b:Addr}{o:Obj}{R:Array DictEntry}{Q:Nat},f.heap.get? b=J o->o.data=.dict R Q->H b=Y:=λ{b o R Q} e d=>by
   cases q:H b with
   |none=>rfl
   |some u =>
    have e':b=a:=hA b (by rw[q];simp);subst e';rw[ha]at e;cases e;have d':Data.seq O.toArray _=Data.dict R Q:=d;cases d'
  have j:∀{b:Addr}{m:WF},f.heap.Ns b m->(mq f.heap H).Ns b m:=λ{b m} ⟨o,R,Q,e,d,r⟩=>⟨o,R,Q,i e (ap e d),d,r⟩
  have X:K.In (mq f.heap H):=λb o e=>i (KX b o e) (by
   cases q:H b with
   |none=>rfl
   |some u =>
    have e':b=a:=hA b (by rw[q];simp);subst e'
    rw[hK (by rw[q];simp)]at e;cases e)
  have hM:Mod K mg (mq f.heap H):=⟨X,j U,⟨mb,j l,ak⟩,let ⟨G,E,B⟩:=S;⟨G,j E,B⟩,let ⟨G,E,B⟩:=C.statics;⟨G,j E,B⟩,let ⟨G,E,B⟩:=C.mods;⟨G,j E,B⟩,let ⟨G,E,B⟩:=C.imp;⟨G,j E,B⟩,let ⟨G,bm,ob,E,B,h3,h4,h5⟩:=C.main;⟨G,bm,ob,j E,B,i h3 (by
   cases q:H bm with
   |none=>rfl
   |some u =>
    have e':bm=a:=hA bm (by rw[q];simp);subst e';rw[ha]at h3;cases h3
    exact absurd (show Value.type "list"=Value.type "module" from h4) (by decide)),h4,h5⟩⟩
  have e0:Env0 P w K mg (mq f.heap H) callerA [] f H:=⟨rfl,hM,λb o e=>FP e,Nat.le_of_eq (BN _ _),trivial,λb l=>absurd (show b∈([]:WS)from l) (by simp),hok,.of_eq hg,ai⟩;refine codeAny_mono ((F _ X (j U)).run callerA [] f H ⟨[.ref a],[]⟩ [.ref a] [.ref a] _ _ hr e0 (M f (.ref a)) (.cons rfl .nil) (al H hO hS)) λr y h=>?_
  cases r with
  |error e=>exact(ar H e y h).elim
  |ok fl =>
   cases fl with
   |next=>exact False.elim h
   |brk=>exact False.elim h
   |cont=>exact False.elim h
   |ret u =>
    obtain⟨v,H',os,bare,un,W,r',q⟩:=h;have q':v=.bl I:=q;subst q';obtain rfl:u=Value.bool I:=r';refine⟨rfl,OldK.of_keep λb o e=>?_,os,bare⟩
    cases q:H b with
    |none=>exact un.keep b o e q (by intro z;exact absurd (show b∈([]:WS)from z) (by simp)) (by simp)
    |some u =>
     rcases hO b with z|⟨ob,xs,z⟩
     .rw[q]at z;cases z
     .have z2:=un.frzs b ob _ z;obtain⟨e1,_⟩:=hok b _ z;obtain⟨e2,_⟩:=W b _ z2;rw[e]at e1;cases e1;exact e2
 cases hk:K.lookup a with
 |some o =>
  have e:=KX a o hk;rw[ha]at e;cases e;refine L (λ_=>Y) (λ_=>.inl rfl) (.inr ⟨_,O.toArray,_,hk,rfl,rfl,rfl,by rw[x_,ac];exact hl,by simpa using rv⟩) (λb u z=>by have Z:(Y:Option HO)=J u:=z;cases Z) (λb z=>absurd rfl z) λz=>absurd rfl z
 |none =>
  refine L (λb=>if b=a then J (.frz { cls:=.type "list",data:=.seq O.toArray} (.lst (ns.map V.int)))else Y) (λb=>?_) (.inl (.inr ⟨{ cls:=.type "list",data:=.seq O.toArray},c_ rfl⟩)) (λb u z=>?_) (λb z=>?_) λ_=>hk
  .by_cases l:b=a
   .exact .inr ⟨_,_,c_ l⟩
   .exact .inl (g_ l)
  .by_cases l:b=a
   .have Z:=(c_ l).symm.trans z;cases Z;subst l;exact⟨ha,by rw[qx];exact hl,O,_,rv,ha⟩
   .have Z:=(g_ l).symm.trans z;cases Z
  .by_cases l:b=a
   .exact l
   .exact absurd (g_ l) z
abbrev n4{K:hR}{h:Heap}(_:K.In h):hR:=K
def F8{l:PySem.W.OpenLaw}{n k:Nat}{q:Program}{loose:WM}{XP:(Str->WV)->Heap->Prop}{S:World->Heap->Prop}{d:DefRec}{K:Params->hR}{CX:World->Fe}{sp:World->Sp}{x:Str}(hn:l.most=J n)(E:n<=sizeLine)(P:d.params.defaults=[])(hr:Room k callerA)(hi:PyProof.Rows.importsNone q=I)(R:l.prog.given.tree=Y)(Z:∀(w:World)(h:Heap),S w h->(K w.params).In h)(F:∀(w:World)(mg:WF)(B:Addr)(h:Heap),(K w.params).In h->h.Ns mainGlobals mg->mg d.name=J (.ref B) ->
   ∃fd:FuncData,(∀(s:Shared)(u:Value),BindsTo s fd ⟨[u],[]⟩ [(x,u)]) /\
    ∀base:Heap,(K w.params).In base->base.Ns mainGlobals mg->FnOk l.prog w (K w.params) mg base (CX w) k B fd [x] (sp w))(M:∀(w:World)(H:Hp)(a:Addr)(ns:WN),ns.length<=n->J9 H->SqL (K w.params) H a (ns.map V.int)->sp w [.ref a] H (λv _=>v=.bl I) λ_ _ _=>False)(Q:∀(w:World)(H:Hp)(s:Shared)(e:Value)(L:Shared),CX w [] H s (λ_ _ _=>False) e L->False):
  PySem.W.WalkO q loose XP S l.row.toRowW d [] (λf W=>PySem.call f W):=by
 refine Att.wN hn P λw s₀ y mg mb B o pm cd ac a W ns G C ho hd ai O z j i hg=>?_;have U:=Z w _ C;obtain⟨fd,hb,X⟩:=F w mg B _ U G.T.g O;exact Dg U G.T.g G.T.b G.T.builtins G.T.nolimit (G.T.seer hi) R hg z j (oh i E) hr X hb (λH hO hS=>M w H a ns i hO hS) λH e L=>Q w H y e L
def hU(s:Stmt):Arguments:=match s with
 |.FunctionDef _ a _ _ _ _ _ _ _ _=>a
 |_=>{ posonlyargs:=[],args:=[],vararg:=Y,kwonlyargs:=[],kw_defaults:=[],kwarg:=Y,defaults:=[]}
def aI(s:Stmt):List Stmt:=match s with
 |.FunctionDef _ _ b _ _ _ _ _ _ _=>b
 |_=>[]
def am(s:Stmt):Scope:=match s with
 |.FunctionDef _ _ _ _ _ _ a _ _ _=>a
 |_=>{ kind:=.function,names:=[],isGenerator:=T,isCoroutine:=T}
abbrev MP:Fe:=λ_ _ _ _ _ _=>False
structure Fun(K:hR)(x qual:Str)(st:Stmt)(f:Addr)(fd:FuncData):Prop where
 ex:∃(oc:Value)(od:WK)(kV doc pm:Value)(an:WK)(cdv ct:Value)(osl:Array (WV)),
  fd=PySem.W.fnOf x qual (hU st) (aI st) (am st) .none kV doc pm an cdv ct/\K.lookup f=J ⟨oc,od,.func fd,osl⟩/\PySem.W.codeIn K cdv qual=I
 kp:PySem.W.keepIn K (.ref f)=I
section
variable{P:Program}{w:World}{K:hR}{mg:WF}{base:Heap}
def Fun.ok{x a:Str}{st:Stmt}{f:Addr}{fd:FuncData}{N u:WM}{k:Nat}{l:Sp}(F:Fun K x a st f fd)(S:pj N u (am st))(len:∀vs H Q E,l vs H Q E->vs.length=u.length)(j:∀(i:Value)(A:Around)(outer:List Env)(s:Shared)(H:Hp)(vs:List V)(Q:VK)(E:XK),Room k (A.deeper (envOfC a (am st) s.heap.objs.size f i))->l vs H Q E ->
   ∃t,PSs (sM MP P w K mg base N a (am st) f i A outer s H E).nox (aI st) t/\t { nx:=λ_ B=>Q .non B,rt:=Q} (start N vs) H):FnOk P w K mg base MP (k+1) f fd u l:=by
 obtain⟨M,L,kV,C,pm,an,i,ct,G,rfl,lk,z⟩:=F.ex;refine Ih lk z S len λA outer s H vs Q E hr y=>?_;obtain⟨t,h,q⟩:=j i A outer s H vs Q E hr y;exact⟨t,h.nox,q⟩
def Fun.binds{x a:Str}{st:Stmt}{f:Addr}{fd:FuncData}{l:WM}(F:Fun K x a st f fd)(h:∀(kV j pm:Value)(an:WK)(i ct:Value)(u:WT),u.length=l.length->bindArgs (PySem.W.fnOf x a (hU st) (aI st) (am st) .none kV j pm an i ct) ⟨u,[]⟩=pure (l.zip u)):lU K fd l []:=by
 obtain⟨C,B,kV,j,pm,an,i,ct,y,rfl,lk,z⟩:=F.ex;exact .all (h kV j pm an i ct)
def B3{x qual:Str}{st:Stmt}{f:Addr}{y:Value}{u an:WK}{j:Array (WV)}{kV i pm a ct:Value}(l:K.lookup f=J ⟨y,u,.func (PySem.W.fnOf x qual (hU st) (aI st) (am st) .none kV i pm an a ct),j⟩)(c:PySem.W.codeIn K a qual=I)(k:PySem.W.keepIn K (.ref f)=I):Fun K x qual st f (PySem.W.fnOf x qual (hU st) (aI st) (am st) .none kV i pm an a ct):=⟨⟨y,u,kV,i,pm,an,a,ct,j,rfl,l,c⟩,k⟩
end
end L2
namespace MM
open PySem.Spec PyProof.Rows L2
inductive PV where
 |non | bl (b:Bool) | int (i:Int) | str (x:Str) | tup (xs:List PV) | frl (xs:List PV) | loc (n:Nat)
abbrev _root_.WL:=List PV
abbrev _root_.W0:=Option PV
structure EB where
 cls:Str
 fs:List (Str×PV):=[]
inductive MO where
 |lst(xs:WL)
 |dic(fz:Bool)(ks:WN)(xs:WL)
 |exc(x:EB)
def MO.fzd:MO->Bool
 |.dic fz _ _=>fz
 |_=>T
abbrev MH:=List MO
abbrev pq:=List (W0)
inductive Out(α:Type) where
 |ok(a:α)(h:MH)
 |exc(x:EB)(h:MH)
 |bad
abbrev _root_.WZ:=Out PV
def Out.bind{α β:Type}(o:Out α)(f:α->MH->Out β):Out β:=match o with
 |.ok a h=>f a h
 |.exc x h=>.exc x h
 |.bad=>.bad
@[simp]theorem Out.bind_ok(a:α)(h:MH)(f:α->MH->Out β):(Out.ok a h).bind f=f a h:=rfl
@[simp]theorem Out.bind_exc(x:EB)(h:MH)(f:α->MH->Out β):(Out.exc x h).bind f=.exc x h:=rfl
@[simp]theorem Out.bind_bad(f:α->MH->Out β):(Out.bad:Out α).bind f=.bad:=rfl
inductive SOut where
 |nx(Z:pq)(h:MH)
 |rt(v:PV)(h:MH)
 |bk(Z:pq)(h:MH)
 |ct(Z:pq)(h:MH)
 |exc(x:EB)(Z:pq)(h:MH)
 |rse(x:EB)(Z:pq)(h:MH)
 |bad
def Out.ne{α:Type}(o:Out α):Out α:=match o with
 |.exc _ _=>.bad
 |o=>o
@[simp]theorem Out.ne_ok(a:α)(h:MH):(Out.ok a h).ne=.ok a h:=rfl
@[simp]theorem Out.ne_bad:(Out.bad:Out α).ne=.bad:=rfl
@[simp]theorem Out.ne_ne(o:Out α):o.ne.ne=o.ne:=by cases o<;>rfl
def SqF(K:hR)(H:Hp)(a:Addr)(ys:List V):Prop :=
 (∃o,H a=J (.frz o (.lst ys))) \/
  ∃(o:Obj) (f:Array Value) (n:Nat),K.lookup a=J o/\o.cls=.type "list"/\o.dict=Y/\o.data=.seq f n/\f.size<=sizeLine/\aM ys f.toList
def SqF.sq{K:hR}{H:Hp}{a:Addr}{ys:List V}(h:SqF K H a ys):SqL K H a ys:=by
 rcases h with h|h
 .exact .inl (.inr h)
 .exact .inr h
mutual
inductive RP(K:hR)(U:WS)(H:Hp):PV->V->Prop where
 |non:RP K U H .non .non
 |bl(b:Bool):RP K U H (.bl b) (.bl b)
 |int(i:Int):RP K U H (.int i) (.int i)
 |str(x:Str):RP K U H (.str x) (.str x)
 |tup{xs:WL}{a:Addr}{ys:List V}(s:SqT K H a ys)(r:RPs K U H xs ys):RP K U H (.tup xs) (.ref a)
 |frl{xs:WL}{a:Addr}{ys:List V}(s:SqF K H a ys)(r:RPs K U H xs ys):RP K U H (.frl xs) (.ref a)
 |loc{n:Nat}{a:Addr}(e:U[n]?=J a):RP K U H (.loc n) (.ref a)
inductive RPs(K:hR)(U:WS)(H:Hp):WL->List V->Prop where
 |nil:RPs K U H [] []
 |cons{x:PV}{y:V}{xs:WL}{ys:List V}(r:RP K U H x y)(t:RPs K U H xs ys):RPs K U H (x::xs) (y::ys)
end
structure Le(U:WS)(H:Hp)(U':WS)(H':Hp):Prop where
 pre:∃m,U'=U++m
 tup:∀a xs,H a=J (.tup xs)->H' a=J (.tup xs)
 frz:∀a o u,H a=J (.frz o u)->H' a=J (.frz o u)
def Le.refl(U:WS)(H:Hp):Le U H U H:=⟨⟨[],by simp⟩,λ_ _ h=>h,λ_ _ _ h=>h⟩
def Le.trans(a:Le U H U1 H1)(b:Le U1 H1 U2 H2):Le U H U2 H2:=by obtain⟨m,e⟩:=a.pre;obtain⟨f,i⟩:=b.pre;exact⟨⟨m++f,by rw[i,e,QT]⟩,λc xs h=>b.tup c xs (a.tup c xs h),λc o u h=>b.frz c o u (a.frz c o u h)⟩
def Le.get{U f:WS}{H i:Hp}(l:Le U H f i){n:Nat}{a:Addr}(e:U[n]?=J a):f[n]?=J a:=by obtain⟨m,j⟩:=l.pre;rw[j,qr (pf.mp e).1];exact e
def Le.sqt{K:hR}{U i:WS}{H f:Hp}(l:Le U H i f){a:Addr}{xs:List V}(h:SqT K H a xs):SqT K f a xs:=by
 rcases h with(h|⟨o,h⟩)|h
 .exact .inl (.inl (l.tup _ _ h))
 .exact .inl (.inr ⟨o,l.frz _ _ _ h⟩)
 .exact .inr h
def Le.sqf{K:hR}{U i:WS}{H f:Hp}(l:Le U H i f){a:Addr}{xs:List V}(h:SqF K H a xs):SqF K f a xs:=by
 rcases h with⟨o,h⟩|h
 .exact .inl ⟨o,l.frz _ _ _ h⟩
 .exact .inr h
section
variable{K:hR}{U U':WS}{H H':Hp}
def RP.le(l:Le U H U' H'){x:PV}{y:V}(r:RP K U H x y):RP K U' H' x y :=
 RP.rec .non .bl .int .str (λs _ i=>.tup (l.sqt s) i) (λs _ i=>.frl (l.sqf s) i) (λe=>.loc (l.get e)) .nil (λ_ _ a b=>.cons a b) r
def RPs.le(l:Le U H U' H')(r:RPs K U H xs ys):RPs K U' H' xs ys:=by
 induction xs generalizing ys with
 |nil=>cases r;exact .nil
 |cons x xs f=>cases r with|cons a t=>exact .cons (a.le l) (f t)
def RPs.length(r:RPs K U H xs ys):xs.length=ys.length:=by
 induction xs generalizing ys with
 |nil=>cases r;rfl
 |cons x xs f=>cases r with|cons a t=>exact congrArg (·+1) (f t)
def RPs.get{xs:WL}{ys:List V}{i:Nat}{x:PV}(r:RPs K U H xs ys)(e:xs[i]?=J x):∃y,ys[i]?=J y/\RP K U H x y:=by
 induction xs generalizing ys i with
 |nil=>cases e
 |cons x xs f =>
  cases r with
  |cons a t =>
   cases i with
   |zero=>cases e;exact⟨_,rfl,a⟩
   |succ i=>have z:=@f _ i t e;exact z
def RPs.set(r:RP K U H x u)(i:Nat)(q:RPs K U H xs us):RPs K U H (xs.set i x) (us.set i u):=by
 induction xs generalizing us i with
 |nil=>cases q;exact .nil
 |cons x xs f =>
  cases q with
  |cons a t =>
   cases i with
   |zero=>exact .cons r t
   |succ i=>exact .cons a (f i t)
def RPs.append(r:RPs K U H xs us)(s:RPs K U H ys ws):RPs K U H (xs++ys) (us++ws):=by
 induction xs generalizing us with
 |nil=>cases r;exact s
 |cons x xs f=>cases r with|cons a t=>exact .cons a (f t)
def RPs.take(n:Nat)(r:RPs K U H xs us):RPs K U H (xs.take n) (us.take n):=by
 induction n generalizing xs us with
 |zero=>exact .nil
 |succ n f =>
  cases xs with
  |nil=>cases r;exact .nil
  |cons x xs=>cases r with|cons a t=>exact .cons a (f t)
def RPs.drop(n:Nat)(r:RPs K U H xs us):RPs K U H (xs.drop n) (us.drop n):=by
 induction n generalizing xs us with
 |zero=>exact r
 |succ n f =>
  cases xs with
  |nil=>cases r;exact .nil
  |cons x xs=>cases r with|cons a t=>exact f t
def RPs.ints:∀(ns:WN),RPs K U H (ns.map PV.int) (ns.map V.int)
 |[]=>.nil
 |n::r=>.cons (.int n) (RPs.ints r)
end
def NT(a C:Addr)(h:Heap):Prop:=∃o f,h.get? a=J o/\o.cls=.ref C/\o.data=.fields f
abbrev E0:=Str->WV
def kz(a:WN)(ys:List V):List (vv×V):=(a.map Sum.inl).zip ys
def dO(fz:Bool)(a:Option HO)(u:HO):Prop:=match fz with
 |false=>a=J u
 |true=>∃o,a=J (.frz o u)
def RO(K:hR)(mg:E0)(U:WS)(H:Hp)(a:Addr):MO->Option HO->Prop
 |.lst xs,f=>∃ys,f=J (.lst ys)/\RPs K U H xs ys
 |.dic fz i xs,f=>∃ys:List V,ys.length=i.length/\RPs K U H xs ys/\dO fz f (.dK (kz i ys))
 |.exc x,f=>x.fs=[]/\∃C,mg x.cls=J (.ref C)/\f=J (.ext (NT a C))
def oq{fz:Bool}{P:Program}{w:World}{H:Hp}{h:Heap}{a:Addr}{f:List (vv×V)}(ok:HOk P w H h)(e:dO fz (H a) (.dK f)):f.length<=sizeLine/\(a==sysModules)=T/\∃i,KV f i/\h.DictOf (gb P w) a i:=by
 cases fz with
 |false=>exact(ok a _ e)
 |true =>
  obtain⟨o,e⟩:=e;exact(ok a _ e).2
structure RH(K:hR)(mg:E0)(U:WS)(H:Hp)(h:MH):Prop where
 len:U.length=h.length
 nd:U.Nodup
 at':∀(n:Nat)(a:Addr)(o:MO),U[n]?=J a->h[n]?=J o->RO K mg U H a o (H a)
def RO.le{K:hR}{mg:E0}{U j:WS}{H f:Hp}{a:Addr}(l:Le U H j f){o:MO}{i:Option HO}(r:RO K mg U H a o i):RO K mg j f a o i:=by
 cases o with
 |lst xs=>obtain⟨ys,e,r⟩:=r;exact⟨ys,e,r.le l⟩
 |dic fz u xs=>obtain⟨ys,e,r,q⟩:=r;exact⟨ys,e,r.le l,q⟩
 |exc x=>exact r
def RO.some{K:hR}{mg:E0}{U:WS}{H:Hp}{a:Addr}{o:MO}{f:Option HO}(r:RO K mg U H a o f):f≠Y:=by
 cases o with
 |lst xs=>obtain⟨ys,e,_⟩:=r;rw[e];simp
 |dic fz i xs =>
  obtain⟨ys,_,_,q⟩:=r
  cases fz with
  |false=>rw[show f=_ from q];simp
  |true=>obtain⟨o,q⟩:=q;rw[q];simp
 |exc x=>obtain⟨_,C,_,e⟩:=r;rw[e];simp
def RO.plain{K:hR}{mg:E0}{U:WS}{H:Hp}{a:Addr}{o:MO}{f:Option HO}(r:RO K mg U H a o f)(hf:o.fzd=T):(∀xs,f≠Option.some (.tup xs))/\∀p u,f≠Option.some (.frz p u):=by
 cases o with
 |lst xs=>obtain⟨ys,e,_⟩:=r;rw[e];exact⟨(λ_ z=>nomatch z),(λ_ _ z=>nomatch z)⟩
 |dic fz i xs =>
  obtain⟨ys,_,_,q⟩:=r
  cases fz with
  |false=>rw[show f=_ from q];exact⟨(λ_ z=>nomatch z),(λ_ _ z=>nomatch z)⟩
  |true=>cases hf
 |exc x=>obtain⟨_,C,_,e⟩:=r;rw[e];exact⟨(λ_ z=>nomatch z),(λ_ _ z=>nomatch z)⟩
section
variable{K:hR}{mg:E0}{U:WS}{H:Hp}{h:MH}
def RH.obj(r:RH K mg U H h){n:Nat}{a:Addr}(e:U[n]?=J a):∃o,h[n]?=J o/\RO K mg U H a o (H a):=by
 have f:n<h.length:=by rw[<-r.len];exact(pf.mp e).1
 exact⟨h[n],by simp,r.at' n a _ e (by simp)⟩
def RH.new(r:RH K mg U H h){p:Addr}(j:H p=Y){o:MO}{ho:HO}(L:RO K mg U H p o (J ho)):RH K mg (U++[p]) (mj H p ho) (h++[o])/\Le U H (U++[p]) (mj H p ho):=by
 have f:∀n a,U[n]?=J a->a≠p:=λn a e z=>by
  obtain⟨E,_,q⟩:=r.obj e;rw[z,j]at q;exact q.some rfl
 have l:Le U H (U++[p]) (mj H p ho):=⟨⟨[p],rfl⟩,λa xs e=>by rw[aN (bR e j)];exact e,λa M u e=>by rw[aN (bR e j)];exact e⟩;refine⟨⟨by simp[r.len],?_,λn a E e1 e2=>?_⟩,l⟩
 .rw[Ia];refine⟨r.nd,by simp,λa F b G=>?_⟩;obtain⟨n,e⟩:=Jp.mp F;have B:b=p:=by simpa using G
  rw[B];exact f n a e
 .by_cases i:n<U.length
  .rw[qr i]at e1;rw[qr (by rw[<-r.len];exact i)]at e2;rw[aN (f n a e1)];exact(r.at' n a E e1 e2).le l
  .rw[Ek ⋯]at e1;rw[Ek (by rw[<-r.len];lia)]at e2;have C:n-U.length=0:=by
    grind
   rw[C]at e1;have y:n-h.length=0:=by have:=r.len;lia
   rw[y]at e2;simp at e1 e2;subst e1;subst e2;rw[ba];exact L.le l
def RH.put(r:RH K mg U H h){n:Nat}{a:Addr}(e:U[n]?=J a){o:MO}{ho:HO}(F:RO K mg U H a o (J ho))(hd:∃o0,h[n]?=J o0/\o0.fzd=T:=by exact⟨_,by assumption,rfl⟩):RH K mg U (mj H a ho) (h.set n o)/\Le U H U (mj H a ho):=by
 obtain⟨o0,j,q⟩:=r.obj e;obtain⟨Q,i,hf⟩:=hd;rw[i]at j;cases j;obtain⟨B,C⟩:=q.plain hf
 have l:Le U H U (mj H a ho):=⟨⟨[],by simp⟩,λb xs z=>by
   have:b≠a:=by rintro rfl;exact B _ z
   rw[aN this];exact z,λb O u z=>by
   have:b≠a:=by rintro rfl;exact C _ _ z
   rw[aN this];exact z⟩
 refine⟨⟨by simp[r.len],r.nd,λm b G e1 e2=>?_⟩,l⟩;by_cases f:m=n
 .subst f;rw[e]at e1;cases e1;rw[ba]
  have:m<h.length:=by rw[<-r.len];exact(pf.mp e).1
  rw[C_ this]at e2;cases e2;exact F.le l
 .rw[qa (λz=>f z.symm)]at e2;have E:b≠a:=by
   rintro rfl;have M:=pf.mp e;have L:=pf.mp e1;obtain⟨P,y⟩:=M;obtain⟨R,g2⟩:=L;exact f ((List.getElem_inj r.nd).mp (g2.trans y.symm))
  rw[aN E];exact(r.at' m b G e1 e2).le l
def RH.tup(r:RH K mg U H h){p:Addr}(i:H p=Y)(ys:List V):RH K mg U (mj H p (.tup ys)) h/\Le U H U (mj H p (.tup ys)):=by
 have f:∀n a,U[n]?=J a->a≠p:=λn a e z=>by
  obtain⟨y,_,q⟩:=r.obj e;rw[z,i]at q;exact q.some rfl
 have l:Le U H U (mj H p (.tup ys)):=⟨⟨[],by simp⟩,λa xs e=>by rw[aN (bR e i)];exact e,λa j u e=>by rw[aN (bR e i)];exact e⟩;exact⟨⟨r.len,r.nd,λn a o e1 e2=>by rw[aN (f n a e1)];exact(r.at' n a o e1 e2).le l⟩,l⟩
end
def RS(K:hR)(U:WS)(H:Hp)(a:pq)(Z:L2.St):Prop :=
 Z.length=a.length/\∀(i:Nat)(v:PV),a[i]?=J (J v)->∃f,Z[i]?=J (J f)/\RP K U H v f
def RS.le{K:hR}{U a:WS}{H f:Hp}{σp:pq}{Z:L2.St}(l:Le U H a f)(r:RS K U H σp Z):RS K a f σp Z :=
 ⟨r.1,λi v e=>by obtain⟨j,u,q⟩:=r.2 i v e;exact⟨j,u,q.le l⟩⟩
def RS.set{K:hR}{U:WS}{H:Hp}{a:pq}{Z:L2.St}(r:RS K U H a Z)(i:Nat){v:PV}{l:V}(q:RP K U H v l):RS K U H (a.set i (J v)) (Z.set i (J l)):=by
 refine⟨by simp[r.1],λj u e=>?_⟩;by_cases f:j=i
 .subst f;by_cases y:j<a.length
  .rw[C_ y]at e;cases e;exact⟨l,C_ (by rw[r.1];exact y),q⟩
  .rw[Di (by simp;lia)]at e;cases e
 .rw[qa (λz=>f z.symm)]at e;obtain⟨E,C,B⟩:=r.2 j u e;exact⟨E,by rw[qa (λz=>f z.symm)];exact C,B⟩
def Va(B:Heap)(fs:WS)(h:Heap):Prop:=∀b o,h.get? b=J o->b∉fs->∃a,B.get? b=J a
def SU(l:List Env)(H:Hp)(a:Heap)(C f:Addr)(h:Heap):Prop :=
 ∃B t,Heap.FlyingW B l f (.ref C) (.ref t) h/\(∀b o,H b=J o->∃i,B.get? b=J i)/\Va B (DS l) a/\H f=Y
structure Ff(X:Cx)(h:Heap):Prop where
 old:∀b o,X.s₀.heap.get? b=J o->b∉X.ex->∃o',h.get? b=J o'
 cell:∀x c,X.env.cells.lookup x=J c->∃o,h.get? c=J o
 pin:∀p∈X.pn,∃o,h.get? p.1=J o
def Inv.bears{X:Cx}{i:WU}{Z:L2.St}{H:Hp}{s:Shared}(a:Inv X i Z H s):Ff X s.heap :=
 ⟨λb o e n=>a.base.there b o e n,λx c e=>let⟨_,o,j,_⟩:=a.cell x c e;⟨o,j⟩,λp f=>⟨_,(a.pin p (Fy _ f)).1⟩⟩
def XP(X:Cx)(l:pq)(U:WS)(H:Hp)(x:EB)(h:MH):Prop:=∀(u C:Addr)(i:WS)(a:Hp)(y:L2.St)(j:Shared)(f:Heap),x.fs=[]->X.mg x.cls=J (.ref C)->Le U H i a->RH X.K X.mg i a h->RS X.K i a l y ->
 Inv X [] y a j->Ff X f->SU X.stack a f C u j.heap->X.xe (.ref u) j
structure Ii(h h':Heap)(e C:Addr):Prop where
 keeps:∀b o,h.get? b=J o->h'.get? b=J o
 new:h.get? e=Y
 there:∃t dx,h'.get? e=J { cls:=.ref C,dict:=dx,data:=.fields #[.ref t,.none,.none,.none,.bool T,.none]}
def XM(X:Cx)(j:pq)(U:WS)(H:Hp)(x:EB)(h:MH):Prop:=∀(l C:Addr)(f:WS)(a:Hp)(y:L2.St)(i:Shared)(u:Heap),x.fs=[]->X.mg x.cls=J (.ref C)->Le U H f a->RH X.K X.mg f a h->RS X.K f a j y ->
 Inv X [] y a { i with heap:=u}->Ii u i.heap l C->X.xe (.ref l) i
def XP.le(l:Le U H U' H')(q:XP X σp U H x h):XP X σp U' H' x h :=
 λj C i f z u a e1 e2 y=>q j C i f z u a e1 e2 (l.trans y)
def XM.le(l:Le U H U' H')(q:XM X σp U H x h):XM X σp U' H' x h :=
 λj C i f z u a e1 e2 y=>q j C i f z u a e1 e2 (l.trans y)
abbrev Rl(α β:Type):=WS->Hp->α->β->Prop
def Ful{α β:Type}(X:Cx)(R:Rl α β)(i:pq)(U:WS)(H:Hp)(o:Out α)(Q:β->Hp->Prop):Prop:=match o with
 |.ok v j=>∀f a l,Le U H f a->RH X.K X.mg f a j->R f a v l->Q l a
 |.exc x j=>XP X i U H x j
 |.bad=>False
def kF{α β:Type}(X:Cx)(R:Rl α β)(U:WS)(H:Hp)(o:Out α)(Q:β->Hp->Prop):Prop:=match o with
 |.ok v j=>∀f a i,Le U H f a->RH X.K X.mg f a j->R f a v i->Q i a
 |_=>False
def Ful.zero(f:Ful X R σp U H o.ne Q):kF X R U H o Q:=by
 cases o with
 |ok v h=>exact f
 |exc x h=>exact f
 |bad=>exact f
def Ful.le(l:Le U H U1 H1)(f:Ful X R σp U H o Q):Ful X R σp U1 H1 o Q:=by
 cases o with
 |ok v h=>exact λi j a u=>f i j a (l.trans u)
 |exc x h=>exact XP.le l f
 |bad=>exact f
def Ful.bind{α β γ δ:Type}{X:Cx}{R:Rl α β}{S:Rl γ δ}{a:pq}{U:WS}{H:Hp}{o:Out α}{f:α->MH->Out γ}{Q:δ->Hp->Prop}{z:β->Hp->Prop}(q:Ful X S a U H (o.bind f) Q)(k:∀j i v u y,o=.ok v y->Le U H j i->RH X.K X.mg j i y->R j i v u->Ful X S a j i (f v y) Q->z u i):Ful X R a U H o z:=by
 cases o with
 |ok v h=>exact λC B u l r w=>k C B v u h rfl l r w (Ful.le l q)
 |exc x h=>exact q
 |bad=>exact q
abbrev RV'(X:Cx):Rl PV V:=λU H=>RP X.K U H
abbrev RVs'(X:Cx):Rl (WL) (List V):=λU H=>RPs X.K U H
abbrev NU{α:Type}:Rl α α:=λ_ _ x y=>x=y
abbrev Mx(α:Type):=pq->MH->Out α
inductive tM{α β:Type}(X:Cx)(R:Rl α β)(m:Mx α)(Z:L2.St)(H:Hp)(Q:β->Hp->Prop):Prop
 |mk(U:WS)(σp:pq)(h:MH)(rs:RS X.K U H σp Z)(rh:RH X.K X.mg U H h)(q:Ful X R σp U H (m σp h) Q):tM X R m Z H Q
def ME(X:Cx)(e:Expr)(m:Mx PV):Prop:=PE X e (tM X (RV' X) m)
def MT(X:Cx)(e:Expr)(m:Mx Bool):Prop:=PT X e (tM X NU m)
def MW(X:Cx)(e:Expr)(m:Mx Bool):Prop:=PW X e (tM X NU m)
def MA(X:Cx)(a:WX)(m:Mx (WL)):Prop:=PA X a (tM X (RVs' X) m)
def PE.imp(h:PE X e t)(i:∀Z H Q,t' Z H Q->t Z H Q):PE X e t':=λf s Z H Q a q=>h f s Z H Q a (i Z H Q q)
def PT.imp(h:PT X e t)(i:∀Z H Q,t' Z H Q->t Z H Q):PT X e t':=λf s Z H Q a q=>h f s Z H Q a (i Z H Q q)
def PW.imp(h:PW X e t)(i:∀Z H Q,t' Z H Q->t Z H Q):PW X e t':=λa j s Z H Q f q=>h a j s Z H Q f (i Z H Q q)
def PA.imp(h:PA X e t)(i:∀Z H Q,t' Z H Q->t Z H Q):PA X e t':=λa j s Z H Q f q=>h a j s Z H Q f (i Z H Q q)
def PS.imp(h:PS X e t)(i:∀D Z H,t' D Z H->t D Z H):PS X e t':=λf s Z H D a q=>h f s Z H D a (i D Z H q)
def PSs.imp(h:PSs X e t)(i:∀D Z H,t' D Z H->t D Z H):PSs X e t':=λf s Z H D a q=>h f s Z H D a (i D Z H q)
def bD(X:Cx)(U:WS)(H:Hp)(o:SOut)(D:Ends):Prop:=match o with
 |.nx a j=>∀i f l,Le U H i f->RH X.K X.mg i f j->RS X.K i f a l->D.nx l f
 |.bk a j=>∀i f l,Le U H i f->RH X.K X.mg i f j->RS X.K i f a l->D.bk l f
 |.ct a j=>∀i f l,Le U H i f->RH X.K X.mg i f j->RS X.K i f a l->D.ct l f
 |.rt v j=>∀i f u,Le U H i f->RH X.K X.mg i f j->RP X.K i f v u->D.rt u f
 |.exc x a j=>XP X a U H x j
 |.rse x a j=>XM X a U H x j
 |.bad=>False
def bD.le(l:Le U H U1 H1)(f:bD X U H o D):bD X U1 H1 o D:=by
 cases o with
 |nx a h=>exact λj u i y=>f j u i (l.trans y)
 |bk a h=>exact λj u i y=>f j u i (l.trans y)
 |ct a h=>exact λj u i y=>f j u i (l.trans y)
 |rt v h=>exact λj u i y=>f j u i (l.trans y)
 |exc x a h=>exact XP.le l f
 |rse x a h=>exact XM.le l f
 |bad=>exact f
abbrev n_:=pq->MH->SOut
inductive Q_(X:Cx)(m:n_)(D:Ends)(Z:L2.St)(H:Hp):Prop
 |mk(U:WS)(σp:pq)(h:MH)(rs:RS X.K U H σp Z)(rh:RH X.K X.mg U H h)(q:bD X U H (m σp h) D):Q_ X m D Z H
def MS(X:Cx)(st:Stmt)(m:n_):Prop:=PS X st (Q_ X m)
def DT(X:Cx)(st:List Stmt)(m:n_):Prop:=PSs X st (Q_ X m)
section
variable{X:Cx}{N W G:WM}{k:Nat}
structure Good(X:Cx)(N W G:WM)(k:Nat):Prop where
 hN:X.N=N
 nd:N.Nodup
 loc:∀x∈N,Loc X.env.scope x
 fn:∀x∈W,X.fn x=I\/X.env.scope.names.lookup x=J .local
 gl:∀x∈G,Gl X x
 dbg:∀x∈N++G,(x==("__debug__":Str))=T/\(x==("__classdict__":Str))=T/\x≠"__name__"
 calm:X.calm=I
 room:Room k X.A
 po:PassesOwn (model X.prog X.w) X.A X.env X.xe
def Good.x(g:Good X N W G k){i:Nat}{x:Str}(a:N[i]?=J x):X.N[i]?=J x:=by rw[g.hN];exact a
def aO{l:WM}{i:Nat}{x:Str}(a:l[i]?=J x):x∈l:=x3 a
def rJ(X:Cx)(g:PV->PV->MH->WZ):R2:=λa f H Q=>∃U h x y,RH X.K X.mg U H h/\RP X.K U H x a/\RP X.K U H y f/\kF X (RV' X) U H (g x y h) Q
abbrev B0(X:Cx)(f:Value->Value->Sem Value)(g:PV->PV->MH->WZ):Prop:=OpR X f (rJ X g)
def uJ(X:Cx)(g:PV->MH->WZ):V->Hp->VK->Prop:=λa H Q=>∃U h x,RH X.K X.mg U H h/\RP X.K U H x a/\kF X (RV' X) U H (g x h) Q
abbrev Vb(X:Cx)(f:Value->Sem Value)(g:PV->MH->WZ):Prop:=Q8 X f (uJ X g)
def cJ(X:Cx)(g:WL->MH->WZ):List V->Hp->VK->Prop:=λa H Q=>∃U h xs,RH X.K X.mg U H h/\RPs X.K U H xs a/\kF X (RV' X) U H (g xs h) Q
abbrev dg(X:Cx)(f:Value)(g:WL->MH->WZ):Prop:=dQ X f (cJ X g)
def ao(i:Nat):Mx PV:=λZ h=>match Z[i]? with
 |some (J v)=>.ok v h
 |_=>.bad
def mC(v:PV):Mx PV:=λ_ h=>.ok v h
def AR(g:Good X N W G k)(i:Nat){x:Str}{u:Pos}(j:N[i]?=J x):ME X (.Name x u) (ao i):=by
 have d:=g.dbg x (Fy _ (aO j));have hv:MK X.env.scope x:=by
  rcases g.loc x (aO j)with q|q
  .exact .inl q
  .exact .inr (.inl q)
 refine PE.imp (n5 (g.x j) hv d.1 d.2.1) λZ H Q l=>?_;obtain⟨U,a,h,z,C,f⟩:=l;unfold ao at f
 cases e:a[i]? with
 |none=>rw[e]at f;exact f.elim
 |some o =>
  rw[e]at f
  cases o with
  |none=>exact f.elim
  |some v =>
   obtain⟨y,B,r⟩:=z.2 i v e;exact⟨y,B,f U H y (Le.refl _ _) C r⟩
def aL:ME X (.Constant (.int i) j pos) (mC (.int i)):=PE.imp JE λ_ H _ ⟨U,_,_,_,a,f⟩=>f U H _ (Le.refl _ _) a (.int i)
def NV:ME X (.Constant (.bool i) j pos) (mC (.bl i)):=PE.imp Nj λ_ H _ ⟨U,_,_,_,a,f⟩=>f U H _ (Le.refl _ _) a (.bl i)
def J_:ME X (.Constant .none j pos) (mC .non):=PE.imp Bt λ_ H _ ⟨U,_,_,_,a,f⟩=>f U H _ (Le.refl _ _) a .non
def aH(f:PV->PV->MH->WZ)(l i:Mx PV):Mx PV:=λZ h=>(l Z h).bind λx j=>(i Z j).bind λy a=>(f x y a).ne
def NW(f:PV->MH->WZ)(i:Mx PV):Mx PV:=λZ h=>(i Z h).bind λx a=>(f x a).ne
def vE{f:PV->PV->MH->WZ}{u z:Mx PV}{Z:L2.St}{H:Hp}{Q:VK}(q:tM X (RV' X) (aH f u z) Z H Q):Nz (rJ X f) (tM X (RV' X) u) (tM X (RV' X) z) Z H Q:=by obtain⟨U,a,h,l,rh,q⟩:=q;refine⟨U,a,h,l,rh,Ful.bind q λB H1 x x' R _ E i M C=>?_⟩;refine⟨B,a,R,l.le E,i,Ful.bind C λO H2 y y' P _ S j L F=>?_⟩;exact⟨O,P,x,y,j,M.le S,L,F.zero⟩
def aV(j:B0 X (binaryOp op) f)(i:ME X a ma)(l:ME X b mb):ME X (.BinOp a op b pos) (aH f ma mb) :=
 PE.imp (NA j i l) λ_ _ _ q=>vE q
def NX(l:Vb X (unaryOp op) f)(u:ME X a ma):ME X (.UnaryOp op a pos) (NW f ma) :=
 PE.imp (NB l u) λ_ _ _ ⟨U,j,h,F,z,q⟩=>⟨U,j,h,F,z,Ful.bind q λy M x H E _ L i B C=>⟨y,E,x,i,B,C.zero⟩⟩
def Ka(j:B0 X (compareOp op) f)(i:ME X a ma)(l:ME X b mb)(u:behindInMarks op b=T):ME X (.Compare a [op] [b] pos) (aH f ma mb) :=
 PE.imp (FY j i l u) λ_ _ _ q=>vE q
def mB(m:Mx PV):Mx Bool:=λZ h=>(m Z h).bind λv a=>match v with
 |.bl b=>.ok b a
 |_=>.bad
def NY(q:tM X NU (mB m) Z H Q):tM X (RV' X) m Z H λx i=>∃c,x=.bl c/\Q c i:=by
 obtain⟨U,f,h,u,z,q⟩:=q;refine⟨U,f,h,u,z,Ful.bind q λl i x C E _ B a y j=>?_⟩
 cases y with
 |bl b=>exact⟨b,rfl,j l i b (Le.refl _ _) a rfl⟩
 |_=>exact j.elim
def AK(j:B0 X (compareOp op) f)(l:ME X a ma)(u:ME X b mb)(z:behindInMarks op b=T):MT X (.Compare a [op] [b] pos) (mB (aH f ma mb)) :=
 PT.imp (FZ j l u z) λZ H Q q=>by
  obtain⟨U,i,h,y,B,q⟩:=NY q;exact vE ⟨U,i,h,y,B,q⟩
def Kb(h:ME X e m)(f:∀a,isTrue e X.env a=(do let v <-a;standAt e.pos;holding [v] (truthy v)):=by intro _;rfl):MT X e (mB m) :=
 PT.imp (JF h f) λ_ _ _ q=>NY q
def Kc(m:Mx Bool):Mx Bool:=λZ h=>(m Z h).bind λb a=>.ok (!b) a
def Kd(h:MT X e m):MT X (.UnaryOp .Not e pos) (Kc m) :=
 PT.imp (JI h) λ_ _ _ ⟨U,f,h,z,j,q⟩=>⟨U,f,h,z,j,Ful.bind q λi y x B E _ C a l u=>by
  cases l;exact u i y _ (Le.refl _ _) a rfl⟩
def Ke(a b:Mx Bool):Mx Bool:=λZ h=>(a Z h).bind λx f=>if x=I then b Z f else .ok T f
def SV(a b:Mx Bool):Mx Bool:=λZ h=>(a Z h).bind λx f=>if x=I then .ok I f else b Z f
section
variable{a b:Expr}{rest:WX}{ma mb:Mx Bool}{pos:Pos}
def F9(f:MT X a ma):MW X (.BoolOp .And [a] pos) ma:=FR f
def Kg(f:MT X a ma):MW X (.BoolOp .Or [a] pos) ma:=JG f
def Kh(y:MT X a ma)(C:MW X (.BoolOp .And (b::rest) pos) mb):MW X (.BoolOp .And (a::b::rest) pos) (Ke ma mb) :=
 PW.imp (JH y C) λZ H Q ⟨U,i,h,u,L,q⟩=>⟨U,i,h,u,L,Ful.bind q λj E x M F _ z f B l=>by
  cases B
  cases x with
  |true=>exact⟨j,i,F,u.le z,f,l⟩
  |false=>exact l j E _ (Le.refl _ _) f rfl⟩
def NZ(y:MT X a ma)(C:MW X (.BoolOp .Or (b::rest) pos) mb):MW X (.BoolOp .Or (a::b::rest) pos) (SV ma mb) :=
 PW.imp (Nk y C) λZ H Q ⟨U,i,h,u,L,q⟩=>⟨U,i,h,u,L,Ful.bind q λj E x M F _ z f B l=>by
  cases B
  cases x with
  |true=>exact l j E _ (Le.refl _ _) f rfl
  |false=>exact⟨j,i,F,u.le z,f,l⟩⟩
def MW.mt(h:MW X e m):MT X e m:=PW.pt h
end
def zu(a b:Mx PV):Mx PV:=λZ h=>(a Z h).bind λx f=>match x with
 |.bl c=>if c=I then b Z f else .ok (.bl T) f
 |_=>.bad
def Ki(a b:Mx PV):Mx PV:=λZ h=>(a Z h).bind λx f=>match x with
 |.bl c=>if c=I then .ok (.bl I) f else b Z f
 |_=>.bad
def yX(a:Mx PV):Mx PV:=λZ h=>(a Z h).bind λx f=>match x with
 |.bl c=>.ok (.bl (!c)) f
 |_=>.bad
section
variable{a b:Expr}{rest:WX}{ma mb:Mx PV}{pos:Pos}
def Kj(f:ME X a ma):ME X (.BoolOp op [a] pos) ma:=JJ f
def Kk(y:ME X a ma)(C:ME X (.BoolOp .And (b::rest) pos) mb):ME X (.BoolOp .And (a::b::rest) pos) (zu ma mb) :=
 PE.imp (JK y C) λZ H Q ⟨U,i,h,u,L,q⟩=>⟨U,i,h,u,L,Ful.bind q λl E x M F _ z f B j=>by
  cases B with
  |bl c =>
   refine⟨c,rfl,?_⟩
   cases c with
   |true=>exact⟨l,i,F,u.le z,f,j⟩
   |false=>exact j l E _ (Le.refl _ _) f (.bl T)
  |_=>exact j.elim⟩
def N0(y:ME X a ma)(C:ME X (.BoolOp .Or (b::rest) pos) mb):ME X (.BoolOp .Or (a::b::rest) pos) (Ki ma mb) :=
 PE.imp (No y C) λZ H Q ⟨U,i,h,u,L,q⟩=>⟨U,i,h,u,L,Ful.bind q λl E x M F _ z f B j=>by
  cases B with
  |bl c =>
   refine⟨c,rfl,?_⟩
   cases c with
   |true=>exact j l E _ (Le.refl _ _) f (.bl I)
   |false=>exact⟨l,i,F,u.le z,f,j⟩
  |_=>exact j.elim⟩
def Kl(l:ME X a ma):ME X (.UnaryOp .Not a pos) (yX ma) :=
 PE.imp (JL l) λZ H Q ⟨U,i,h,y,C,q⟩=>⟨U,i,h,y,C,Ful.bind q λu B x F L _ E f z j=>by
  cases z with
  |bl c=>exact⟨c,rfl,j u B _ (Le.refl _ _) f (.bl _)⟩
  |_=>exact j.elim⟩
def Km(c:Mx Bool)(a b:Mx PV):Mx PV:=λZ h=>(c Z h).bind λx f=>if x=I then a Z f else b Z f
def Kn(F:MT X c mc)(B:ME X a ma)(E:ME X b mb):ME X (.IfExp c a b pos) (Km mc ma mb) :=
 PE.imp (Dy F B E) λZ H Q ⟨U,f,h,j,L,q⟩=>⟨U,f,h,j,L,Ful.bind q λl O x M z _ y i C u=>by
  cases C
  cases x with
  |true=>exact⟨l,f,z,j.le y,i,u⟩
  |false=>exact⟨l,f,z,j.le y,i,u⟩⟩
end
def hG:Mx (WL):=λ_ h=>.ok [] h
def aq(a:Mx PV)(r:Mx (WL)):Mx (WL):=λZ h=>(a Z h).bind λx i=>(r Z i).bind λxs f=>.ok (x::xs) f
def aW:MA X [] hG:=PA.imp lm λZ H Q ⟨U,a,h,i,f,q⟩=>q U H _ (Le.refl _ _) f .nil
def aJ(l:ME X e m)(hr:MA X es ms)(O:starEach (e::es) X.env=(T,eval e X.env)::starEach es X.env:=by rfl):MA X (e::es) (aq m ms) :=
 PA.imp (eM l hr O) λZ H Q ⟨U,a,h,j,S,q⟩=>⟨U,a,h,j,S,Ful.bind q λu H1 x x' P _ B f L z =>
  ⟨u,a,P,j.le B,f,Ful.bind z λM F y y' h2 _ R i E C=>C M F _ (Le.refl _ _) i (.cons (L.le R) E)⟩⟩
def v_(xs:WL)(h:MH):WZ:=if xs.length<=sizeLine then .ok (.loc h.length) (h++[.lst xs])else .bad
def mm(xs:WL)(h:MH):WZ:=if xs.length<=sizeLine then .ok (.tup xs) h else .bad
def oG{U:WS}{H:Hp}{h:MH}{xs:WL}{ys:List V}{Q:VK}(i:RH X.K X.mg U H h)(a:RPs X.K U H xs ys)(f:kF X (RV' X) U H (v_ xs h) Q):ys.length<=sizeLine/\∀p,H p=Y->Q (.ref p) (mj H p (.lst ys)):=by
 unfold v_ at f
 split at f
 .rename_i j
  refine⟨by rw[<-a.length];exact j,λp l=>?_⟩;obtain⟨y,u⟩:=i.new l (o:=.lst xs) ⟨ys,rfl,a⟩;refine f _ _ _ u y (.loc ?_);rw[<-i.len];simp
 .exact f.elim
def x0{U:WS}{H:Hp}{h:MH}{xs:WL}{ys:List V}{Q:VK}(y:RH X.K X.mg U H h)(i:RPs X.K U H xs ys)(f:kF X (RV' X) U H (mm xs h) Q):ys.length<=sizeLine/\∀p,H p=Y->Q (.ref p) (mj H p (.tup ys)):=by
 unfold mm at f
 split at f
 .rename_i j
  refine⟨by rw[<-i.length];exact j,λp l=>?_⟩;obtain⟨u,a⟩:=y.tup l ys;exact f _ _ _ a u (.tup (.inl (.inl ba)) (i.le a))
 .exact f.elim
def Ko{a:pq}{U:WS}{H:Hp}{h:MH}{xs:WL}{Q:VK}(f:Ful X (RV' X) a U H (v_ xs h) Q):kF X (RV' X) U H (v_ xs h) Q:=by
 unfold v_ at f ⊢
 split at f
 .rw[c_ (by assumption)];exact f
 .exact f.elim
def Kr{a:pq}{U:WS}{H:Hp}{h:MH}{xs:WL}{Q:VK}(f:Ful X (RV' X) a U H (mm xs h) Q):kF X (RV' X) U H (mm xs h) Q:=by
 unfold mm at f ⊢
 split at f
 .rw[c_ (by assumption)];exact f
 .exact f.elim
def iU(m:Mx (WL)):Mx PV:=λZ h=>(m Z h).bind v_
def cR(m:Mx (WL)):Mx PV:=λZ h=>(m Z h).bind mm
def Aa(h:MA X es ms):ME X (.List es pos) (iU ms) :=
 PE.imp (J0 h) λZ H Q ⟨U,f,h,j,u,q⟩=>⟨U,f,h,j,u,Ful.bind q λy C x B E _ z a l i=>oG a l (Ko i)⟩
def Ks(h:MA X es ms):ME X (.Tuple es j pos) (cR ms) :=
 PE.imp (AL h) λZ H Q ⟨U,f,h,l,y,q⟩=>⟨U,f,h,l,y,Ful.bind q λz E x C F _ B a u i=>x0 a u (Kr i)⟩
def SOut.then(o:SOut)(k:n_):SOut:=match o with
 |.nx Z h=>k Z h
 |o=>o
def cD(a b:n_):n_:=λZ h=>(a Z h).then b
def q7:n_:=λZ h=>.nx Z h
def lb:DT X [] q7:=PSs.imp FS λD Z H ⟨U,a,h,f,i,q⟩=>q U H Z (Le.refl _ _) i f
def F_{st:Stmt}{m:n_}(h:MS X st m):DT X [st] m:=sR h
def bD.then{U:WS}{H:Hp}{o:SOut}{k:n_}{D:Ends}(q:bD X U H (o.then k) D):bD X U H o { D with nx:=λZ H=>Q_ X k D Z H}:=by
 cases o with
 |nx a h=>exact λf i j l r s=>⟨f,a,h,s,r,bD.le l q⟩
 |_=>exact q
def Ce{st:Stmt}{a:List Stmt}{m u:n_}(j:MS X st m)(i:DT X a u):DT X (st::a) (cD m u) :=
 PSs.imp (uH j i) λD Z H ⟨U,f,h,l,y,q⟩=>⟨U,f,h,l,y,bD.then q⟩
def dy(m:Mx PV):n_:=λZ h=>match m Z h with
 |.ok v a=>.rt v a
 |.exc x a=>.exc x Z a
 |.bad=>.bad
def Kt(j:ME X e m):MS X (.Return (J e) pos) (dy m) :=
 PS.imp (JM j) λD Z H ⟨U,a,h,i,l,q⟩=>⟨U,a,h,i,l,by
  unfold dy at q
  cases e:m a h with
  |ok v f=>rw[e]at q;exact q
  |exc x f=>rw[e]at q;exact q
  |bad=>rw[e]at q;exact q⟩
def zv{α:Type}(m:Mx α)(k:α->n_):n_:=λZ h=>match m Z h with
 |.ok v a=>k v Z a
 |.exc x a=>.exc x Z a
 |.bad=>.bad
def bD.ex{α β:Type}{R:Rl α β}{m:Mx α}{k:α->n_}{U:WS}{H:Hp}{a:pq}{h:MH}{D:Ends}{Q:β->Hp->Prop}(q:bD X U H (zv m k a h) D)(w:∀i f v j y,Le U H i f->RH X.K X.mg i f y->R i f v j->bD X i f (k v a y) D->Q j f):Ful X R a U H (m a h) Q:=by
 unfold zv at q
 cases e:m a h with
 |ok v u=>rw[e]at q;exact λi f j l r z=>w i f v j u l r z (bD.le l q)
 |exc x u=>rw[e]at q;exact q
 |bad=>rw[e]at q;exact q
def j3(m:Mx PV):n_:=zv m λ_=>q7
def lh{e:Expr}{m:Mx PV}{a:Pos}(y:ME X e m)(u:swapsWith e Y a.line X.env=pure T:=by rfl):MS X (.Expr e a) (j3 m) :=
 PS.imp (yt y u) λD Z H ⟨U,f,h,i,C,q⟩=>⟨U,f,h,i,C,bD.ex q λj B v E F l r z w=>w j B Z (Le.refl _ _) r (i.le l)⟩
def E1(c:Mx Bool)(a b:n_):n_:=zv c λx=>if x=I then a else b
def o8{c:Expr}{a b:List Stmt}{B:Mx Bool}{y C:n_}{j:Pos}(M:MT X c B)(F:DT X a y)(L:DT X b C):MS X (.If c a b j) (E1 B y C) :=
 PS.imp (Nr M F L) λD Z H ⟨U,f,h,i,O,q⟩=>⟨U,f,h,i,O,bD.ex q λu Q v P E l r z w=>by
  cases z
  cases v with
  |true=>exact⟨u,f,E,i.le l,r,w⟩
  |false=>exact⟨u,f,E,i.le l,r,w⟩⟩
def b9(i:Nat)(m:Mx PV):n_:=zv m λv Z h=>.nx (Z.set i (J v)) h
def vU(g:Good X N W G k)(i:Nat){x:Str}{e:Expr}{m:Mx PV}{f a:Pos}(B:N[i]?=J x)(M:W[i]?=J x)(F:ME X e m)(E:swapsWith e (J (.Name x a)) f.line X.env=pure T:=by rfl):
  MS X (.Assign [.Name x a] e f) (b9 i m):=by
 refine PS.imp (Am (by rw[g.hN];exact g.nd) (g.x B) (g.loc x (aO B)) F E (g.fn x (aO M))) λD Z H u=>?_;obtain⟨U,j,h,y,O,q⟩:=u;exact⟨U,j,h,y,O,bD.ex q λC L v P Q l r z w=>w C L _ (Le.refl _ _) r ((y.le l).set i z)⟩
end
section
variable{X:Cx}{N W G:WM}{k:Nat}
abbrev Mg:=PV->n_
def qj(X:Cx)(U:WS)(H:Hp)(o:SOut)(Q:L2.St->Hp->Prop):Prop:=match o with
 |.nx a j=>∀i f l,Le U H i f->RH X.K X.mg i f j->RS X.K i f a l->Q l f
 |.exc x a j=>XP X a U H x j
 |_=>False
def qj.le(l:Le U H U1 H1)(f:qj X U H o Q):qj X U1 H1 o Q:=by
 cases o with
 |nx a h=>exact λj u i y=>f j u i (l.trans y)
 |exc x a h=>exact XP.le l f
 |_=>exact f
inductive tG(X:Cx)(g:Mg)(v':V)(Z:L2.St)(H:Hp)(Q:L2.St->Hp->Prop):Prop
 |mk(U:WS)(σp:pq)(h:MH)(v:PV)(rs:RS X.K U H σp Z)(rh:RH X.K X.mg U H h)(rv:RP X.K U H v v')(q:qj X U H (g v σp h) Q):tG X g v' Z H Q
def MG(X:Cx)(a:Expr)(g:Mg):Prop:=PG X a (tG X g)
def PG.imp(h:PG X e t)(i:∀v Z H Q,t' v Z H Q->t v Z H Q):PG X e t':=λf s Z H v u Q a r q=>h f s Z H v u Q a r (i v Z H Q q)
def lR(i:Nat):Mg:=λv Z h=>.nx (Z.set i (J v)) h
def xz(g:Good X N W G k)(i:Nat)(a:N[i]?=J x)(f:W[i]?=J x):MG X (.Name x pos) (lR i) :=
 PG.imp (ya (by rw[g.hN];exact g.nd) (g.x a) (g.loc x (aO a)) (g.fn x (aO f))) λz Z H Q ⟨U,j,h,v,u,y,l,q⟩=>q U H _ (Le.refl _ _) y (u.set i l)
abbrev Ga:=WL->n_
inductive Vc(X:Cx)(g:Ga)(v':List V)(Z:L2.St)(H:Hp)(Q:L2.St->Hp->Prop):Prop
 |mk(U:WS)(σp:pq)(h:MH)(v:WL)(rs:RS X.K U H σp Z)(rh:RH X.K X.mg U H h)(rv:RPs X.K U H v v')(q:qj X U H (g v σp h) Q):Vc X g v' Z H Q
def N3(X:Cx)(a:WX)(g:Ga):Prop:=PGs X a (Vc X g)
def PGs.imp(h:PGs X e t)(i:∀v Z H Q,t' v Z H Q->t v Z H Q):PGs X e t':=λf s Z H v u Q a r q=>h f s Z H v u Q a r (i v Z H Q q)
def yH:Ga:=λa Z h=>match a with
 |[]=>.nx Z h
 |_=>.bad
def nu(a:Mg)(r:Ga):Ga:=λi Z h=>match i with
 |v::f=>(a v Z h).then (r f)
 |[]=>.bad
def ff:N3 X [] yH:=PGs.imp FT λu Z H Q a=>by
 obtain⟨U,f,h,v,j,l,i,q⟩:=a
 cases i with
 |nil=>exact⟨rfl,q U H Z (Le.refl _ _) l j⟩
 |cons _ _=>exact q.elim
def bn(j:MG X e a)(M:N3 X es r)(E:(assignEach (e::es) X.env).map (·.2)=assign e X.env::(assignEach es X.env).map (·.2):=by rfl):N3 X (e::es) (nu a r) :=
 PGs.imp (Do j M E) λS Z H Q i=>by
  obtain⟨U,f,h,v,z,R,C,q⟩:=i
  cases C with
  |nil=>exact q.elim
  |@cons x y xs ys B F =>
   refine⟨_,_,rfl,U,f,h,x,z,R,B,?_⟩;dsimp only[nu]at q
   cases e:a x f h with
   |nx P j=>rw[e]at q;exact λO H' Z' l L u=>⟨O,P,j,xs,u,L,F.le l,qj.le l q⟩
   |_=>rw[e]at q;exact q
def yM(r:Ga)(n:Nat):Mg:=λv Z h=>match v with
 |.tup xs=>if xs.length=n then r xs Z h else .bad
 |_=>.bad
def gA(g:Good X N W G k){a:WX}{j:Nat}{r:Ga}{n:Nat}{u:Pos}(h:N3 X a r)(C:(assignEach a X.env).length=n:=by rfl)(i:(assignEach a X.env).findIdx? (·.1)=Y:=by rfl):
  MG X (.Tuple a j u) (yM r n) :=
 PG.imp (JN g.calm h C i) λL Z H Q l=>by
  obtain⟨U,f,h,v,z,F,B,q⟩:=l
  cases B with
  |tup s y =>
   dsimp only[yM]at q
   split at q
   .rename_i E
    exact⟨_,_,rfl,s,by rw[<-y.length];exact E,U,f,h,_,z,F,y,q⟩
   .exact q.elim
  |_=>exact q.elim
def nI(m:Mx PV)(g:Mg):n_:=zv m λv Z h=>match g v Z h with
 |.nx f a=>.nx f a
 |.exc x f a=>.exc x f a
 |_=>.bad
def qR{f e:Expr}{m:Mx PV}{g:Mg}{i:Pos}(C:ME X e m)(hg:MG X f g)(B:swapsWithSole [f] e i.line X.env=pure T:=by rfl)(E:swappedStores [f] e X.env=pure Y:=by rfl)(j:(assignEach [f] X.env).map (·.2)=[assign f X.env]:=by rfl):MS X (.Assign [f] e i) (nI m g) :=
 PS.imp (JP C hg B E j) λD Z H ⟨U,a,h,u,F,q⟩=>⟨U,a,h,u,F,bD.ex q λy M v L j l r z w=>⟨y,a,j,v,u.le l,r,z,by
  cases e:g v a j with
  |_=>rw[e]at w;exact w⟩⟩
def Ku(i j:Nat)(m:Mx (WL)):n_:=zv m λa Z h=>match a with
 |[v,w]=>.nx ((Z.set i (J v)).set j (J w)) h
 |_=>.bad
def Kv(g:Good X N W G k)(i j:Nat)(O:N[i]?=J x)(E:N[j]?=J y)(u:i≠j)(C:MA X [a,b] m)(M:X.env.scope.names.lookup x=J .local)(L:X.env.scope.names.lookup y=J .local)(S:swappedStores [.Tuple [.Name x px,.Name y py] kt pt] (.Tuple [a,b] k2 pt2) X.env=pure (J [x,y]))(P:swapsWithSole [.Tuple [.Name x px,.Name y py] kt pt] (.Tuple [a,b] k2 pt2) pos.line X.env=pure T:=by rfl):
  MS X (.Assign [.Tuple [.Name x px,.Name y py] kt pt] (.Tuple [a,b] k2 pt2) pos) (Ku i j m) :=
 PS.imp (JQ g.calm (by rw[g.hN];exact g.nd) (g.x O) (g.x E) u M L C S P) λD Z H ⟨U,f,h,B,rh,q⟩=>⟨U,f,h,B,rh,bD.ex q λF R v v' h1 l r z w=>by
  cases z with
  |nil=>exact w.elim
  |cons z1 z =>
   cases z with
   |nil=>exact w.elim
   |cons Q z =>
    cases z with
    |nil=>exact⟨_,_,rfl,w F R _ (Le.refl _ _) r (((B.le l).set i z1).set j Q)⟩
    |cons _ _=>exact w.elim⟩
def pN(o i v:PV)(h:MH):Option MH:=match o,i with
 |.loc n,.int j=>(match h[n]? with
  |some (.lst xs)=>(vR xs.length j).map λp=>h.set n (.lst (xs.set p v))
  |_=>Y)
 |_,_=>Y
def FE(mo a:Mx PV):Mg:=λv=>zv mo λo=>zv a λi Z h=>match pN o i v h with
 |some f=>.nx Z f
 |none=>.bad
def qS(ho:ME X o mo)(hi:ME X i mi)(ha:∀v,assign (.Subscript o i pos) X.env v=(do
   let ov <-holding [v] (eval o X.env)
   let y <-holding [v,ov] (eval i X.env)
   standAt pos
   holding [v,ov,y] (setItem ov y v)
   release [v,ov,y] []):=by intro _;rfl):MG X (.Subscript o i pos) (FE mo mi) :=
 PG.imp (JO ho hi C9 ha) λv' Z H Q L=>by
  obtain⟨U,f,h,v,E,rh,rv,q⟩:=L;refine⟨U,f,h,E,rh,?_⟩;unfold FE zv at q
  cases e:mo f h with
  |exc x P=>rw[e]at q;exact q
  |bad=>rw[e]at q;exact q
  |ok ov P =>
   rw[e]at q;intro U1 H1 o' l B ro;refine⟨U1,f,P,E.le l,B,?_⟩;dsimp only at q
   cases e2:mi f P with
   |exc x h2=>rw[e2]at q;exact XP.le l q
   |bad=>rw[e2]at q;exact q
   |ok y h2 =>
    rw[e2]at q;intro U2 H2 i' z u ri;have M:=ro.le z;have F:=(rv.le l).le z;unfold pN at q
    cases M with
    |@loc n a S =>
     cases ri with
     |int j =>
      dsimp only at q;obtain⟨ob,eo,O⟩:=u.obj S;rw[eo]at q
      cases ob with
      |dic fz ks xs=>exact q.elim
      |exc x=>exact q.elim
      |lst xs =>
       obtain⟨ys,ey,R⟩:=O;dsimp only at q
       cases C:vR xs.length j with
       |none=>rw[C]at q;exact q.elim
       |some p =>
        rw[C]at q;refine⟨a,ys,j,p,rfl,rfl,ey,by rw[<-R.length];exact C,?_⟩;obtain⟨r3,l3⟩:=u.put S (o:=.lst (xs.set p v)) ⟨_,rfl,RPs.set F p R⟩;exact q U2 _ Z (l.trans (z.trans l3)) r3 (E.le (l.trans (z.trans l3)))
     |_=>exact q.elim
    |_=>exact q.elim
structure MIt where
 xs:WL
 gd:List (Nat×WL):=[]
def MIt.ok(a:MIt)(h:MH):Prop:=∀p∈a.gd,h[p.1]?=J (.lst p.2)
def qk(X:Cx):Rl MIt It:=λy z f a=>∀U H h (i:Nat),Le y z U H->RH X.K X.mg U H h->f.ok h ->
 (i<f.xs.length->a.go i H/\∀u j,a.yld i H u j->∃l x,Le U H l j/\RH X.K X.mg l j h/\f.xs[i]?=J x/\RP X.K l j x u)/\(f.xs.length<=i->a.stop i H)
def MI(X:Cx)(f a:Expr)(m:Mx MIt):Prop:=PI X f a (tM X (qk X) m)
def PI.imp(h:PI X tg e t)(i:∀Z H Q,t' Z H Q->t Z H Q):PI X tg e t':=λf s Z H Q a q=>h f s Z H Q a (i Z H Q q)
def xL(i:MIt)(g:Mg)(b:n_):WL->n_
 |[]=>λZ h=>if i.ok h then .nx Z h else .bad
 |x::r=>λZ h=>if i.ok h then (match g x Z h with
   |.nx j l=>(match b j l with
    |.nx f a=>xL i g b r f a
    |.ct f a=>xL i g b r f a
    |.bk f a=>.nx f a
    |.rt v a=>.rt v a
    |.exc e f a=>.exc e f a
    |.rse e f a=>.rse e f a
    |.bad=>.bad)
   |.exc e j l=>.exc e j l
   |_=>.bad)else .bad
def i4(f:Mx MIt)(g:Mg)(b:n_):n_:=zv f λa=>xL a g b a.xs
def iG(gd:Good X N W G k)(hi:MI X tg iter mi)(hg:MG X tg g)(hb:DT X body mb)(hs:∀x,foldedSetIterable iter X.env x=pure x:=by intro _;rfl):MS X (.For tg iter body [] pos) (i4 mi g mb):=by
 refine PS.imp (JT gd.po gd.calm hi hg hb hs) λD Z H ⟨U,j,h,rs,rh,q⟩=>⟨U,j,h,rs,rh,bD.ex q λU1 H1 l al h1 l1 ak jr w=>?_⟩;refine⟨λi m Z H=>m=l.xs.length-i/\i<=l.xs.length/\∃U j h,Le U1 H1 U H/\RS X.K U H j Z/\RH X.K X.mg U H h/\bD X U H (xL l g mb (l.xs.drop i) j h) D,⟨_,rfl,Eo _,U1,j,h1,Le.refl _ _,rs.le l1,ak,w⟩,?_⟩;rintro i m Z2 H2 ⟨rfl,hi,U2,E,R,l2,Q,F,u⟩;by_cases B:i<l.xs.length
 .have ed:=QH B;rw[ed]at u;unfold xL at u
  split at u
  .rename_i hok
   obtain⟨j1,j2⟩:=jr U2 H2 R i l2 F hok;obtain⟨go,yl⟩:=j1 B;refine .inr ⟨go,λZ3 P=>∃S C h3,Le U1 H1 S P/\RS X.K S P C Z3/\RH X.K X.mg S P h3/\bD X S P (xL l g mb (l.xs.drop (i+1)) C h3) D,λZ3 P z=>⟨_,by ext,rfl,B,z⟩,λx' H' y=>?_⟩;obtain⟨U',x,l',ai,ex,rx⟩:=yl x' H' y;have ac:x=l.xs[i]:=by rw[yZ B]at ex;exact(Option.some.inj ex).symm
   subst ac;refine⟨U',E,R,_,Q.le l',ai,rx,?_⟩;have f:=bD.le l' u
   cases eg:g l.xs[i] E R with
   |nx Z4 h4 =>
    rw[eg]at f;intro U5 H5 Z5 l5 r5 s5;refine⟨U5,Z4,h4,s5,r5,?_⟩;have a:=bD.le l5 f;have l6:=l2.trans (l'.trans l5);dsimp only at a
    cases em:mb Z4 h4 with
    |nx M L=>rw[em]at a;exact λU7 H7 Z7 O r7 s7=>⟨U7,M,L,l6.trans O,s7,r7,bD.le O a⟩
    |ct M L=>rw[em]at a;exact λU7 H7 Z7 O r7 s7=>⟨U7,M,L,l6.trans O,s7,r7,bD.le O a⟩
    |bk M L=>rw[em]at a;exact a
    |rt v L=>rw[em]at a;exact a
    |exc e M L=>rw[em]at a;exact a
    |rse e M L=>rw[em]at a;exact a
    |bad=>rw[em]at a;exact a
   |exc e Z4 h4=>rw[eg]at f;exact f
   |_=>rw[eg]at f;exact f.elim
  .exact u.elim
 .have e:i=l.xs.length:=by ext
  rw[e,List.drop_length]at u;unfold xL at u
  split at u
  .rename_i hok
   obtain⟨j1,j2⟩:=jr U2 H2 R i l2 F hok;exact .inl ⟨j2 (by ext),u U2 H2 Z2 (Le.refl _ _) F Q⟩
  .exact u.elim
def Ij(v:PV)(h:MH):Out MIt:=match v with
 |.loc n=>(match h[n]? with
  |some (.lst xs)=>.ok ⟨xs,[(n,xs)]⟩ h
  |_=>.bad)
 |.frl xs=>.ok ⟨xs,[]⟩ h
 |_=>.bad
def N4(m:Mx PV):Mx MIt:=λZ h=>(m Z h).bind Ij
def xN(P:∀j f h,Le U H j f->RH X.K X.mg j f h->(⟨xs,gd⟩:MIt).ok h->∃ys,SqL X.K f a ys/\RPs X.K j f xs ys):qk X U H ⟨xs,gd⟩ (Sz X.K a):=by
 intro j f h i l M ok;obtain⟨ys,C,E⟩:=P j f h l M ok;refine⟨λB=>?_,λB=>⟨ys,C,by rw[<-E.length];exact B⟩⟩;have F:=yZ B;obtain⟨y,L,O⟩:=E.get F;refine⟨⟨ys,y,C,L⟩,λR Q u=>?_⟩;obtain⟨e,z⟩:=u;subst e
 have:=z ys C
 rw[L]at this;cases this;exact⟨j,_,Le.refl _ _,M,F,O⟩
def Gb(R:ME X l m):MI X tg l (N4 m) :=
 PI.imp (FU R) λZ H Q ⟨U,u,h,M,rh,q⟩=>⟨U,u,h,M,rh,Ful.bind q λE F x x' h1 _ l1 f O i=>by
  cases O with
  |@loc n a e =>
   obtain⟨L,eo,B⟩:=f.obj e;dsimp only[Ij]at i;rw[eo]at i
   cases L with
   |dic fz ks xs=>exact i.elim
   |exc x=>exact i.elim
   |lst xs =>
    obtain⟨ys,ey,ry⟩:=B;refine⟨a,rfl,⟨ys,SqL.of ey⟩,i E F _ (Le.refl _ _) f (xN λS P h' l j ok=>?_)⟩;obtain⟨z,y,C⟩:=j.at' n a _ (l.get e) (ok (n,xs) (by simp));exact⟨z,SqL.of y,C⟩
  |frl s r =>
   exact⟨_,rfl,⟨_,s.sq⟩,i E F _ (Le.refl _ _) f (xN λS P h' l j ok=>⟨_,(l.sqf s).sq,r.le l⟩)⟩
  |_=>exact i.elim⟩
def N5(m:Mx PV):Mx MIt:=λZ h=>(m Z h).bind λv a=>match v with
 |.tup xs=>.ok ⟨xs,[]⟩ a
 |_=>.bad
def Kw(hl:ME X l m):MI X tg l (N5 m) :=
 PI.imp (JS hl) λZ H Q ⟨U,j,h,S,rh,q⟩=>⟨U,j,h,S,rh,Ful.bind q λO H1 x x' h1 _ l1 f rx F=>by
  cases rx with
  |@tup xs a ys s r =>
   refine⟨_,rfl,⟨_,s⟩,F O H1 _ (Le.refl _ _) f ?_⟩;intro U' H' h' i l C ok;have B:=l.sqt s;have P:=r.le l;refine⟨λu=>?_,λu=>⟨ys,B,by rw[<-r.length];exact u⟩⟩;have L:=yZ u;obtain⟨y,M,R⟩:=P.get L;refine⟨⟨ys,y,B,M⟩,λx' H2 E=>?_⟩;obtain⟨e,z⟩:=E;subst e
   have:=z ys B
   rw[M]at this;cases this;exact⟨U',_,Le.refl _ _,C,L,R⟩
  |_=>exact F.elim⟩
def bI(lo:Int)(n:Nat):WL:=(List.range n).map λ(i:Nat)=>PV.int (lo+(i:Int))
def dD(lo:Int)(n:Nat):(bI lo n).length=n:=by simp[bI]
def Gc(lo:Int)(n:Nat):qk X U H ⟨bI lo n,[]⟩ (Q7 lo n):=by intro u C h i l y ok;have f:=dD lo n;refine⟨λa=>⟨by rw[f]at a;exact a,λB z j=>?_⟩,λa=>by rw[f]at a;exact a⟩;obtain⟨e1,e2⟩:=j;subst e1;subst e2;rw[f]at a;exact⟨u,.int (lo+i),Le.refl _ _,y,by simp[bI,a],.int _⟩
def d8(m:Mx (WL)):Mx MIt:=λZ h=>(m Z h).bind λa f=>match a with
 |[.int j]=>if -(2^62)<=j/\j<2^62 then .ok ⟨bI 0 j.toNat,[]⟩ f else .bad
 |_=>.bad
def t7(hg:Gl X "range")(F:X.mg "range"=Y)(z:MA X [a] m)(M:starEach [a] X.env=[(T,eval a X.env)]:=by rfl):MI X tg (.Call (.Name "range" p) [a] [] pos) (d8 m):=by
 refine PI.imp (B5 hg F z M) λZ H Q ⟨U,l,h,E,P,q⟩=>⟨U,l,h,E,P,Ful.bind q λC O x S h1 _ R i L f=>?_⟩
 cases L with
 |nil=>exact f.elim
 |cons y B =>
  cases B with
  |nil =>
   cases y with
   |int j =>
    dsimp only at f
    split at f
    .rename_i u
     exact⟨j,rfl,u.1,u.2,f C O _ (Le.refl _ _) i (Gc 0 j.toNat)⟩
    .exact f.elim
   |_=>exact f.elim
  |cons r2 t2=>cases y<;>exact f.elim
def cO(c:Mx Bool)(b:n_):Nat->n_
 |0=>λ_ _=>.bad
 |n+1=>zv c λx=>if x=I then (λZ h=>match b Z h with
   |.nx f a=>cO c b n f a
   |.ct f a=>cO c b n f a
   |.bk f a=>.nx f a
   |.rt v a=>.rt v a
   |.exc e f a=>.exc e f a
   |.rse e f a=>.rse e f a
   |.bad=>.bad)else q7
def Kx(c:Mx Bool)(b:n_):n_:=λZ h=>if z:∃n,cO c b n Z h≠.bad then cO c b (Classical.choose z) Z h else .bad
def nE:∀{n:Nat}{Z:pq}{h:MH},cO c b n Z h≠.bad->cO c b (n+1) Z h=cO c b n Z h
 |n+1,Z,h,q=>by
  rw[cO]at q;rw[cO]
  conv=>rhs;rw[cO]
  unfold zv at q ⊢
  cases e:c Z h with
  |exc x a=>rfl
  |bad=>rfl
  |ok x a =>
   rw[e]at q
   cases x with
   |false=>rfl
   |true =>
    simp only[if_true]at q ⊢
    cases em:b Z a with
    |nx i f=>rw[em]at q;exact nE q
    |ct i f=>rw[em]at q;exact nE q
    |_=>rfl
def xU(q:cO c b n Z h≠.bad)(l:n<=m):cO c b m Z h=cO c b n Z h:=by
 induction l with
 |refl=>rfl
 |step l a=>rw[nE (by rw[a];exact q),a]
def nP(q:cO c b n Z h≠.bad):Kx c b Z h=cO c b n Z h:=by
 have z:∃n,cO c b n Z h≠.bad:=⟨n,q⟩;unfold Kx;rw[dif_pos z];have a:=Classical.choose_spec z;rcases Nat.le_total n (Classical.choose z)with l|l
 .exact xU q l
 .exact (xU a l).symm
def Cv(gd:Good X N W G k)(hc:MT X c mc)(hb:DT X body mb):MS X (.While c body [] pos) (Kx mc mb):=by
 refine PS.imp (B9 gd.po hc hb) λD Z H y=>?_;obtain⟨U,a,h,S,rh,q⟩:=y;refine⟨λm Z H=>∃U a h,RS X.K U H a Z/\RH X.K X.mg U H h/\bD X U H (cO mc mb m a h) D,?_,?_⟩
 .unfold Kx at q
  split at q
  .exact⟨_,U,a,h,S,rh,q⟩
  .exact q.elim
 .rintro m Z1 H1 ⟨R,f,h1,j,u,L⟩
  cases m with
  |zero=>exact L.elim
  |succ m =>
   refine⟨R,f,h1,j,u,bD.ex L λM H2 v v' P Q O z w=>?_⟩;cases z
   cases v with
   |false=>exact w M H2 Z1 (Le.refl _ _) O (j.le Q)
   |true =>
    rw[c_ rfl]at w ⊢;refine⟨λZ H=>∃U a h,RS X.K U H a Z/\RH X.K X.mg U H h/\bD X U H (cO mc mb m a h) D,λZ' H' z=>⟨m,R9 _,z⟩,M,f,P,j.le Q,O,?_⟩
    cases em:mb f P with
    |nx l i=>rw[em]at w;exact λC H7 Z7 E F B=>⟨C,l,i,B,F,bD.le E w⟩
    |ct l i=>rw[em]at w;exact λC H7 Z7 E F B=>⟨C,l,i,B,F,bD.le E w⟩
    |bk l i=>rw[em]at w;exact w
    |rt v i=>rw[em]at w;exact w
    |exc e l i=>rw[em]at w;exact w
    |rse e l i=>rw[em]at w;exact w
    |bad=>rw[em]at w;exact w
def du(f:PV->Option PyData):WL->Option (List PyData)
 |[]=>J []
 |x::r=>match f x,du f r with
  |some d,J a=>J (d::a)
  |_,_=>Y
def rd:Nat->MH->PV->Option PyData
 |0,_,v=>(match v with
  |.non=>J .none
  |.bl b=>J (.bool b)
  |.int i=>J (.int i)
  |.str x=>J (.str x)
  |_=>Y)
 |n+1,h,v=>(match v with
  |.non=>J .none
  |.bl b=>J (.bool b)
  |.int i=>J (.int i)
  |.str x=>J (.str x)
  |.tup xs=>(du (rd n h) xs).map PyData.tuple
  |.frl xs=>(du (rd n h) xs).map PyData.list
  |.loc m=>(match h[m]? with
   |some (.lst xs)=>(du (rd n h) xs).map PyData.list
   |_=>Y))
def iw{y:Heap}{f:PV->Option PyData}{K:hR}{U:WS}{H:Hp}(hf:∀v l u d,RP K U H v l->aQ l u->f v=J d->∃j,Reads y u d j):
  ∀{xs:WL}{ys:List V}{i:WT}{a:List PyData},RPs K U H xs ys->aM ys i->du f xs=J a->∃j,ReadsAll y i a j:=by
 intro xs
 induction xs with
 |nil =>
  intro ys i a r v e;cases r;cases v;cases e;exact⟨_,.nil⟩
 |cons x xs C =>
  intro ys i a r v e;cases r with|cons r t=>cases v with|cons v w =>
  simp only[du]at e
  split at e
  .rename_i d E e1 e2
   cases e;obtain⟨L,z⟩:=hf _ _ _ _ r v e1;obtain⟨F,B⟩:=C t w e2;exact⟨_,.cons z B⟩
  .cases e
def ib{P:WU}{Z:L2.St}{H:Hp}{s:Shared}{U:WS}{h:MH}(f:Inv X P Z H s)(rh:RH X.K X.mg U H h):
  ∀(n:Nat)(v:PV)(z:V)(u:Value)(d:PyData),RP X.K U H v z->aQ z u->rd n h v=J d->∃B,Reads s.heap u d B:=by
 intro n
 induction n with
 |zero =>
  intro v z u d rp r e
  cases rp with
  |non=>cases e;cases r;exact⟨_,.none⟩
  |bl b=>cases e;cases r;exact⟨_,.bool b⟩
  |int i=>cases e;obtain⟨t,rfl⟩:=r;exact⟨_,.int i t⟩
  |str i=>cases e;obtain⟨t,rfl⟩:=r;exact⟨_,.str i t⟩
  |_=>cases e
 |succ n C =>
  intro v z u d rp r e
  cases rp with
  |non=>cases e;cases r;exact⟨_,.none⟩
  |bl b=>cases e;cases r;exact⟨_,.bool b⟩
  |int i=>cases e;obtain⟨t,rfl⟩:=r;exact⟨_,.int i t⟩
  |str i=>cases e;obtain⟨t,rfl⟩:=r;exact⟨_,.str i t⟩
  |@tup xs a ys s E =>
   cases r;simp only[rd]at e
   cases q:du (rd n h) xs with
   |none=>rw[q]at e;cases e
   |some L =>
    rw[q]at e;cases e;obtain⟨y,j,⟨o,e1,e2,m,e3⟩,_⟩:=f.tuple s;obtain⟨B,l⟩:=iw (C) E j q;exact⟨_,.tuple e1 e2 e3 (by simpa using l)⟩
  |@frl xs a ys s E =>
   cases r;simp only[rd]at e
   cases q:du (rd n h) xs with
   |none=>rw[q]at e;cases e
   |some L =>
    rw[q]at e;cases e;obtain⟨y,j,⟨o,m,e1,e2,_,e3⟩,_⟩:=f.list s.sq;obtain⟨B,l⟩:=iw (C) E j q;exact⟨_,.list e1 e2 e3 (by simpa using l)⟩
  |loc Q =>
   cases r;simp only[rd]at e;obtain⟨M,S,F⟩:=rh.obj Q;rw[S]at e
   cases M with
   |dic fz ks xs=>cases e
   |exc x=>cases e
   |lst xs =>
    obtain⟨ys,R,O⟩:=F;dsimp only at e
    cases q:du (rd n h) xs with
    |none=>rw[q]at e;cases e
    |some L =>
     rw[q]at e;cases e;obtain⟨y,j,⟨o,m',e1,e2,_,e3⟩,_⟩:=f.list (SqL.of (K:=X.K) R);obtain⟨B,l⟩:=iw (C) O j q;exact⟨_,.list e1 e2 e3 (by simpa using l)⟩
def Ep(x y:PV)(h:MH):WZ:=match rd 60 h x,rd 60 h y with
 |some a,J b=>if SeqAt.shaped a=I/\SeqAt.shaped b=I then .ok (.bl (PyData.eqv a b)) h else .bad
 |_,_=>.bad
def EC(x y:PV)(h:MH):WZ:=match rd 60 h x,rd 60 h y with
 |some a,J b=>if SeqAt.shaped a=I/\SeqAt.shaped b=I then .ok (.bl (!PyData.eqv a b)) h else .bad
 |_,_=>.bad
def Ik(hr:Room k X.A):B0 X (compareOp .Eq) Ep:=by
 intro R s Z H E M u v Q f i j ⟨U,h,x,y,l,F,B,q⟩;unfold Ep at q
 split at q
 .rename_i a b O C
  split at q
  .rename_i z
   obtain⟨_,L⟩:=ib f l 60 x E u a F i O;obtain⟨_,P⟩:=ib f l 60 y M v b B j C;exact eq_dataH L P z.1 z.2 hr.units ⟨.bl _,H,f,rfl,q U H _ (Le.refl _ _) l (.bl _)⟩
  .exact q.elim
 .exact q.elim
def Il(hr:Room k X.A):B0 X (compareOp .NotEq) EC:=by
 intro R s Z H E M u v Q f i j ⟨U,h,x,y,l,F,B,q⟩;unfold EC at q
 split at q
 .rename_i a b O C
  split at q
  .rename_i z
   obtain⟨_,L⟩:=ib f l 60 x E u a F i O;obtain⟨_,P⟩:=ib f l 60 y M v b B j C;exact ne_dataH L P z.1 z.2 hr.units ⟨.bl _,H,f,rfl,q U H _ (Le.refl _ _) l (.bl _)⟩
  .exact q.elim
 .exact q.elim
def p9(f:Int->Int->PV):PV->PV->MH->WZ:=λx y h=>match x,y with
 |.int i,.int j=>.ok (f i j) h
 |_,_=>.bad
def rF(M:OpR X F (FV f))(l:∀U H i j,RP X.K U H (g i j) (f i j)):B0 X F (p9 g):=by
 intro L s Z H P R u v Q z a B ⟨U,h,x,y,O,E,C,q⟩;unfold p9 at q
 split at q
 .cases E;cases C;exact M L s Z H _ _ u v Q z a B ⟨_,_,rfl,rfl,q U H _ (Le.refl _ _) O (l U H _ _)⟩
 .exact q.elim
def Fg:=p9 λi j=>.bl (decide (i<j))
def Ky:=p9 λi j=>.bl (decide (i<=j))
def Fh:=p9 λi j=>.bl (decide (j<i))
def Fi:=p9 λi j=>.bl (decide (j<=i))
def Im:B0 X (compareOp .Lt) Fg:=rF ND λ_ _ _ _=>.bl _
def N6:B0 X (compareOp .LtE) Ky:=rF NE λ_ _ _ _=>.bl _
def Io:B0 X (compareOp .Gt) Fh:=rF NF λ_ _ _ _=>.bl _
def N7:B0 X (compareOp .GtE) Fi:=rF NG λ_ _ _ _=>.bl _
def Kz(neg:Bool):PV->PV->MH->WZ:=λx y h=>match y with
 |.non=>(match x with
  |.non=>.ok (.bl (!neg)) h
  |_=>.ok (.bl neg) h)
 |.bl b=>(match x with
  |.bl c=>.ok (.bl (if neg then !(c==b)else c==b)) h
  |.non=>.ok (.bl neg) h
  |.int _=>.ok (.bl neg) h
  |.str _=>.ok (.bl neg) h
  |.tup _=>.ok (.bl neg) h
  |_=>.bad)
 |_=>.bad
def mh(x y:PV)(h:MH):WZ:=match x,y with
 |.int i,.int j=>if IntMulOk i j then .ok (.int (i*j)) h else .bad
 |.loc n,.int j=>(match h[n]? with
  |some (.lst xs)=>if -(2^63)<=j/\j<2^63 then v_ (List.flatten (List.replicate j.toNat xs)) h else .bad
  |_=>.bad)
 |_,_=>.bad
def ED(x y:PV)(h:MH):WZ:=match x,y with
 |.int i,.int j=>if j≠0 then .ok (.int (i.fdiv j)) h else .bad
 |_,_=>.bad
def ol(x y:PV)(h:MH):WZ:=match x,y with
 |.int i,.int j=>if j≠0 then .ok (.int (i.fmod j)) h else .bad
 |_,_=>.bad
def u_(x y:PV)(h:MH):WZ:=match x,y with
 |.int i,.int j=>if jq i j then .ok (.int (i^j.toNat)) h else .bad
 |_,_=>.bad
def ln(x y:PV)(h:MH):WZ:=match x,y with
 |.int i,.int j=>.ok (.int (i+j)) h
 |.str a,.str b=>if a.length+b.length<=sizeLine then .ok (.str (a++b)) h else .bad
 |.loc n,.loc m=>(match h[n]?,h[m]? with
  |some (.lst xs),J (.lst ys)=>v_ (xs++ys) h
  |_,_=>.bad)
 |.tup xs,.tup ys=>if xs≠[]then mm (xs++ys) h else .bad
 |_,_=>.bad
def Fj:=p9 λi j=>.int (i-j)
def Fk(x:PV)(h:MH):WZ:=match x with
 |.int i=>.ok (.int (-i)) h
 |_=>.bad
def KA:B0 X (binaryOp .Sub) Fj:=rF JW λ_ _ _ _=>.int _
def KC:Vb X (unaryOp .USub) Fk:=by
 intro l s Z H z u Q f a ⟨U,h,x,y,j,q⟩
 cases j with
 |int i=>exact JY l s Z H _ u Q f a ⟨i,rfl,q U H _ (Le.refl _ _) y (.int _)⟩
 |_=>exact q.elim
def We{i:WU}{Z:L2.St}{H:Hp}{s:Shared}(hr:Room k X.A)(a:Inv X i Z H s):PylongRoom (model X.prog X.w) X.A s:=by obtain⟨e,l,z,f,y,u,j⟩:=a.ok.top;exact PylongRoom.of a.nolimit (by have:=hr.dp;show X.A.depth+100<_;ext) (SeerAt.of (a.ok.mod.seer.keeps a.bk) a.ok.tree (a.ok.frames.trans (congrArg J z)) f y u j)
def yF(hr:Room k X.A):B0 X (binaryOp .FloorDiv) ED:=by
 intro M s Z H L O u v Q a f l ⟨U,h,x,y,E,C,B,q⟩;unfold ED at q
 split at q
 .rename_i i j
  cases C;cases B;obtain⟨t,rfl⟩:=f;obtain⟨F,rfl⟩:=l;by_cases z:j≠0
  .rw[c_ z]at q;exact floordiv_int z ⟨.int _,H,a.tok _,⟨_,rfl⟩,q U H _ (Le.refl _ _) E (.int _)⟩ (.inr (We hr a))
  .rw[g_ z]at q;exact q.elim
 .exact q.elim
def eY:B0 X (binaryOp .Mod) ol:=by
 intro F s Z H E L u v Q f a i ⟨U,h,x,y,B,l,j,q⟩;unfold ol at q
 split at q
 .cases l;cases j
  split at q
  .rename_i z
   obtain⟨t,rfl⟩:=a;obtain⟨C,rfl⟩:=i;exact mod_int' z ⟨.int _,H,f.tok _,⟨_,rfl⟩,q U H _ (Le.refl _ _) B (.int _)⟩
  .exact q.elim
 .exact q.elim
def uI:B0 X (binaryOp .Pow) u_:=by
 intro E s Z H L M u v Q f a l ⟨U,h,x,y,F,B,z,q⟩;unfold u_ at q
 split at q
 .rename_i i j
  cases B;cases z
  split at q
  .rename_i C
   exact JX E s Z H _ _ u v Q f a l ⟨i,j,rfl,rfl,C,q U H _ (Le.refl _ _) F (.int _)⟩
  .exact q.elim
 .exact q.elim
def cY:B0 X (binaryOp .Add) ln:=by
 intro M s Z H x' y' u v Q l f B ⟨U,h,x,y,C,rx,E,q⟩
 cases rx with
 |int i =>
  cases E with
  |int j=>exact JV M s Z H _ _ u v Q l f B ⟨i,j,rfl,rfl,q U H _ (Le.refl _ _) C (.int _)⟩
  |_=>exact q.elim
 |str a =>
  cases E with
  |str b =>
   dsimp only[ln]at q
   split at q
   .rename_i hl
    exact zb M s Z H _ _ u v Q l f B ⟨a,b,rfl,rfl,hl,q U H _ (Le.refl _ _) C (.str _)⟩
   .exact q.elim
  |_=>exact q.elim
 |@loc n a e =>
  cases E with
  |@loc m b e2 =>
   dsimp only[ln]at q;obtain⟨o1,h1,F⟩:=C.obj e;obtain⟨o2,h2,L⟩:=C.obj e2;rw[h1,h2]at q
   cases o1 with
   |dic fz ks xs=>exact q.elim
   |exc x=>exact q.elim
   |lst xs =>
    cases o2 with
    |dic fz ks xs=>exact q.elim
    |exc x=>exact q.elim
    |lst ys =>
     obtain⟨R,ex,P⟩:=F;obtain⟨S,ey,ac⟩:=L;obtain⟨z1,z2⟩:=oG C (P.append ac) q;exact J7 M s Z H _ _ u v Q l f B ⟨a,b,R,S,rfl,rfl,ex,ey,by rw[<-Fz];exact z1,z2⟩
  |_=>exact q.elim
 |tup s1 F =>
  cases E with
  |tup s2 L =>
   dsimp only[ln]at q
   split at q
   .rename_i O
    obtain⟨z1,z2⟩:=x0 C (F.append L) q;refine F4 M s Z H _ _ u v Q l f B ⟨_,_,_,_,rfl,rfl,s1,s2,?_,by rw[<-Fz];exact z1,λz=>?_,λ_=>z2⟩
    .rintro rfl;cases F;exact O rfl
    .subst z;cases L;unfold mm at q
     split at q
     .exact q U H _ (Le.refl _ _) C (by rw[Nh];exact .tup s1 F)
     .exact q.elim
   .exact q.elim
  |_=>exact q.elim
 |_=>cases E<;>exact q.elim
def RPs.rep{K:hR}{U:WS}{H:Hp}{xs:WL}{ys:List V}(r:RPs K U H xs ys):∀n:Nat,RPs K U H (List.replicate n xs).flatten (List.replicate n ys).flatten
 |0=>.nil
 |n+1=>by exact r.append (RPs.rep r n)
def iJ:B0 X (binaryOp .Mult) mh:=by
 intro R s Z H x' y' u v Q l f z ⟨U,h,x,y,F,M,C,q⟩
 cases M with
 |int i =>
  cases C with
  |int j =>
   dsimp only[mh]at q
   split at q
   .rename_i O
    obtain⟨t,rfl⟩:=f;obtain⟨t',rfl⟩:=z;exact PyProof.Rows.mul_int ⟨.int _,H,l.tok _,⟨_,rfl⟩,q U H _ (Le.refl _ _) F (.int _)⟩ O
   .exact q.elim
  |_=>exact q.elim
 |@loc n a e =>
  cases C with
  |int j =>
   dsimp only[mh]at q;obtain⟨o1,h1,S⟩:=F.obj e;rw[h1]at q
   cases o1 with
   |dic fz ks xs=>exact q.elim
   |exc x=>exact q.elim
   |lst xs =>
    dsimp only at q
    split at q
    .rename_i L
     obtain⟨E,ex,B⟩:=S;obtain⟨z1,P⟩:=oG F (B.rep j.toNat) q;refine J8 R s Z H _ _ u v Q l f z ⟨a,j,E,rfl,rfl,ex,L.1,L.2,?_,P⟩;rw[xT]at z1;rw[Nat.mul_comm];exact z1
    .exact q.elim
  |_=>exact q.elim
 |_=>cases C<;>exact q.elim
def re{f:WU}{Z:L2.St}{H:Hp}{s:Shared}{Q:VK}{x':V}{u:Value}{b c:Bool}(a:Inv X f Z H s)(r:aQ x' u)(i:plainIs u (.bool b)=I)(j:(u == .bool b)=c)(q:Q (.bl c) H):
  wpAny (model X.prog X.w) X.A (compareOp .Is u (.bool b)) (EP X f Z Q) X.xe s:=by
 exact f_ (wpAny_isSame_plain i (nc (by rw[j];exact⟨.bl c,H,a,rfl,q⟩)))
def nY{f:WU}{Z:L2.St}{H:Hp}{s:Shared}{Q:VK}{x':V}{u:Value}{b c:Bool}(a:Inv X f Z H s)(r:aQ x' u)(i:plainIs u (.bool b)=I)(j:(!(u == .bool b))=c)(q:Q (.bl c) H):
  wpAny (model X.prog X.w) X.A (compareOp .IsNot u (.bool b)) (EP X f Z Q) X.xe s:=by
 exact f_ (wpAny_isSame_plain i (nc (by rw[j];exact⟨.bl c,H,a,rfl,q⟩)))
def N8:B0 X (compareOp .Is) (Kz T):=by
 intro C s Z H F L u v Q f a l ⟨U,h,x,y,j,z,B,q⟩
 cases B with
 |non =>
  refine JZ C s Z H _ _ u v Q f a l ⟨rfl,?_⟩;cases z<;>exact q U H _ (Le.refl _ _) j (by first | exact .bl I | exact .bl T)
 |bl b =>
  cases l
  cases z with
  |non=>cases a;exact re (x':=.non) f rfl (by cases b<;>rfl) (by cases b<;>rfl) (q U H _ (Le.refl _ _) j (.bl T))
  |bl c=>cases a;exact re (x':=.bl c) f rfl (by cases b<;>cases c<;>rfl) (by cases b<;>cases c<;>rfl) (q U H _ (Le.refl _ _) j (.bl _))
  |int i=>obtain⟨t,rfl⟩:=a;exact re (x':=.int i) f ⟨_,rfl⟩ (by cases b<;>rfl) (by cases b<;>rfl) (q U H _ (Le.refl _ _) j (.bl T))
  |str i=>obtain⟨t,rfl⟩:=a;exact re (x':=.str i) f ⟨_,rfl⟩ (by cases b<;>rfl) (by cases b<;>rfl) (q U H _ (Le.refl _ _) j (.bl T))
  |tup E M=>cases a;exact re (x':=.ref _) f rfl (by cases b<;>rfl) (by cases b<;>rfl) (q U H _ (Le.refl _ _) j (.bl T))
  |_=>exact q.elim
 |_=>exact q.elim
def KD:B0 X (compareOp .IsNot) (Kz I):=by
 intro C s Z H F L u v Q f a l ⟨U,h,x,y,j,z,B,q⟩
 cases B with
 |non =>
  refine FX C s Z H _ _ u v Q f a l ⟨rfl,?_⟩;cases z<;>exact q U H _ (Le.refl _ _) j (by first | exact .bl I | exact .bl T)
 |bl b =>
  cases l
  cases z with
  |non=>cases a;exact nY (x':=.non) f rfl (by cases b<;>rfl) (by cases b<;>rfl) (q U H _ (Le.refl _ _) j (.bl I))
  |bl c=>cases a;exact nY (x':=.bl c) f rfl (by cases b<;>cases c<;>rfl) (by cases b<;>cases c<;>rfl) (q U H _ (Le.refl _ _) j (.bl _))
  |int i=>obtain⟨t,rfl⟩:=a;exact nY (x':=.int i) f ⟨_,rfl⟩ (by cases b<;>rfl) (by cases b<;>rfl) (q U H _ (Le.refl _ _) j (.bl I))
  |str i=>obtain⟨t,rfl⟩:=a;exact nY (x':=.str i) f ⟨_,rfl⟩ (by cases b<;>rfl) (by cases b<;>rfl) (q U H _ (Le.refl _ _) j (.bl I))
  |tup E M=>cases a;exact nY (x':=.ref _) f rfl (by cases b<;>rfl) (by cases b<;>rfl) (q U H _ (Le.refl _ _) j (.bl I))
  |_=>exact q.elim
 |_=>exact q.elim
def bz(x y:PV)(h:MH):WZ:=match y with
 |.int i=>(match x with
  |.loc n=>(match h[n]? with
   |some (.lst xs)=>(match o_ xs i with
    |some v=>.ok v h
    |none=>.bad)
   |_=>.bad)
  |.tup xs=>(match o_ xs i with
   |some v=>.ok v h
   |none=>.bad)
  |.frl xs=>(match o_ xs i with
   |some v=>.ok v h
   |none=>.bad)
  |.str z=>(match o_ z.cps.toList i with
   |some c=>if z.length<=sizeLine then .ok (.str ⟨#[c]⟩) h else .bad
   |none=>.bad)
  |_=>.bad)
 |_=>.bad
def sj{K:hR}{U:WS}{H:Hp}{xs:WL}{ys:List V}{i:Int}{v:PV}(r:RPs K U H xs ys)(e:o_ xs i=J v):∃a,o_ ys i=J a/\RP K U H v a:=by
 unfold o_ at e ⊢;rw[<-r.length]
 cases q:vR xs.length i with
 |none=>rw[q]at e;cases e
 |some j =>
  rw[q]at e;exact r.get e
def Ip{a b:Expr}{ma mb:Mx PV}{ac:Pos}(ha:ME X a ma)(hb:ME X b mb)(hs:kX b):ME X (.Subscript a b ac) (aH bz ma mb):=by
 refine PE.imp (NM J4 ha hb hs) λZ H Q q=>?_;obtain⟨U,B,h,rs,rh,q⟩:=q;refine⟨U,B,h,rs,rh,Ful.bind q λU1 H1 x x' h1 _ l1 P rx q1=>⟨U1,B,h1,rs.le l1,P,Ful.bind q1 λM L y y' h2 _ l2 l ry f=>?_⟩⟩;have R:=rx.le l2
 cases ry with
 |int i =>
  cases R with
  |@loc n a e =>
   obtain⟨ob,eo,S⟩:=l.obj e;dsimp only[bz]at f;rw[eo]at f
   cases ob with
   |dic fz ks xs=>exact f.elim
   |exc x=>exact f.elim
   |lst xs =>
    obtain⟨ys,ey,E⟩:=S;dsimp only at f
    cases j:o_ xs i with
    |none=>rw[j]at f;exact f.elim
    |some v =>
     rw[j]at f;obtain⟨u,F,C⟩:=sj E j;exact .inl ⟨a,ys,i,u,rfl,rfl,SqL.of ey,F,f M L _ (Le.refl _ _) l C⟩
  |@tup xs a ys O E =>
   dsimp only[bz]at f
   cases j:o_ xs i with
   |none=>rw[j]at f;exact f.elim
   |some v =>
    rw[j]at f;obtain⟨u,F,C⟩:=sj E j;exact .inr (.inl ⟨_,_,i,u,rfl,rfl,O,F,f M L _ (Le.refl _ _) l C⟩)
  |@frl xs a ys O E =>
   dsimp only[bz]at f
   cases j:o_ xs i with
   |none=>rw[j]at f;exact f.elim
   |some v =>
    rw[j]at f;obtain⟨u,F,C⟩:=sj E j;exact .inl ⟨_,_,i,u,rfl,rfl,O.sq,F,f M L _ (Le.refl _ _) l C⟩
  |str z =>
   dsimp only[bz]at f
   cases j:o_ z.cps.toList i with
   |none=>rw[j]at f;exact f.elim
   |some c =>
    rw[j]at f;dsimp only at f
    split at f
    .rename_i hz
     exact .inr (.inr ⟨z,i,c,rfl,rfl,hz,j,f M L _ (Le.refl _ _) l (.str _)⟩)
    .exact f.elim
  |_=>exact f.elim
 |_=>exact f.elim
def va(f:WL->MH->WZ)(m:Mx (WL)):Mx PV:=λZ h=>(m Z h).bind λxs a=>(f xs a).ne
section
variable{x:Str}{id T:String}{e:Expr}{es:WX}{f:WL->MH->WZ}{m:Mx (WL)}{p pos:Pos}
def Iq{Z:L2.St}{H:Hp}{Q:VK}(q:tM X (RV' X) (va f m) Z H Q):SJ (cJ X f) (tM X (RVs' X) m) Z H Q:=by obtain⟨U,i,h,u,B,q⟩:=q;exact⟨U,i,h,u,B,Ful.bind q λj F x E z _ C a y l=>⟨j,z,x,a,y,l.zero⟩⟩
def wg(g:Good X N W G k)(j:Nat)(i:G[j]?=J x)(u:dg X (.builtin id) f)(y:X.mg x=Y)(hv:bootBuiltins x=J (.builtin id))(l:MA X (e::es) m)(z:starEach (e::es) X.env=(false,eval e X.env)::starEach es X.env:=by rfl)(a:(backTo pos (starEach es X.env)).any (·.1)=false:=by rfl):ME X (.Call (.Name x p) (e::es) [] pos) (va f m) :=
 have d:=g.dbg x (xn _ (aO i))
 PE.imp (pX u (g.gl x (aO i)) y hv l d.2.2 d.1 z a) λ_ _ _ q=>Iq q
def tT(g:Good X N W G k)(j:Nat)(i:G[j]?=J x)(u:dg X (.type T) f)(y:X.mg x=Y)(hv:bootBuiltins x=J (.type T))(l:MA X (e::es) m)(z:starEach (e::es) X.env=(false,eval e X.env)::starEach es X.env:=by rfl)(a:(backTo pos (starEach es X.env)).any (·.1)=false:=by rfl):ME X (.Call (.Name x p) (e::es) [] pos) (va f m) :=
 have d:=g.dbg x (xn _ (aO i))
 PE.imp (t6 u (g.gl x (aO i)) y hv l d.2.2 d.1 z a) λ_ _ _ q=>Iq q
end
def DZ(xs:WL)(h:MH):WZ:=match xs with
 |[.int i]=>.ok (.int (if i<0 then -i else i)) h
 |_=>.bad
def zQ(xs:WL)(h:MH):WZ:=match xs with
 |[.int i,.int j]=>.ok (.int (if j<i then j else i)) h
 |_=>.bad
def Er(xs:WL)(h:MH):WZ:=match xs with
 |[.int i,.int j]=>.ok (.int (if j>i then j else i)) h
 |_=>.bad
def Ge(xs:WL)(h:MH):WZ:=match xs with
 |[.int i]=>.ok (.int i) h
 |[.bl b]=>.ok (.int (if b then 1 else 0)) h
 |_=>.bad
def s_(xs:WL)(h:MH):WZ:=match xs with
 |[.loc n]=>(match h[n]? with
  |some (.lst ys)=>.ok (.int ys.length) h
  |_=>.bad)
 |[.tup ys]=>.ok (.int ys.length) h
 |[.frl ys]=>.ok (.int ys.length) h
 |[.str z]=>if z.length<=sizeLine then .ok (.int z.length) h else .bad
 |_=>.bad
def uS:dg X (.builtin "abs") DZ:=by
 intro l s Z H xs u Q a r ⟨U,h,z,y,rp,q⟩
 cases rp with
 |nil=>exact q.elim
 |cons f j =>
  cases j with
  |cons _ _=>cases f<;>exact q.elim
  |nil =>
   cases f with
   |int i=>exact DL l s Z H _ u Q a r ⟨i,rfl,q U H _ (Le.refl _ _) y (.int _)⟩
   |_=>exact q.elim
def wE{f:WL->MH->WZ}{F:Int->Int->Int}{r:List V->Hp->VK->Prop}{u:Value}(hf:∀i j h,f [.int i,.int j] h=.ok (.int (F i j)) h)(B:∀xs h,(∀i j,xs≠[.int i,.int j])->f xs h=.bad)(L:dQ X u (λxs H Q=>∃i j,xs=[.int i,.int j]/\Q (.int (F i j)) H)):dg X u f:=by
 intro M s Z H xs P Q a r ⟨U,h,l,R,rp,q⟩;by_cases z:∃i j,l=[.int i,.int j]
 .obtain⟨i,j,rfl⟩:=z
  cases rp with
  |cons O y=>cases y with
   |cons C E =>
    cases E;cases O;cases C;rw[hf]at q;exact L M s Z H _ P Q a r ⟨i,j,rfl,q U H _ (Le.refl _ _) R (.int _)⟩
 .rw[B l h λi j e=>z ⟨i,j,e⟩]at q;exact q.elim
def qN(g:Good X N W G k):dg X (.builtin "min") zQ:=wE (r:=λ_ _ _=>True) (λ_ _ _=>rfl) (λxs h z=>by unfold zQ;split<;>first | rfl | exact absurd rfl (z _ _)) (Bx g.calm)
def Ak(g:Good X N W G k):dg X (.builtin "max") Er:=wE (r:=λ_ _ _=>True) (λ_ _ _=>rfl) (λxs h z=>by unfold Er;split<;>first | rfl | exact absurd rfl (z _ _)) (AA g.calm)
def KG:dg X (.type "int") Ge:=by
 intro f s Z H xs l Q a r ⟨U,h,z,u,rp,q⟩
 cases rp with
 |nil=>exact q.elim
 |cons j y =>
  cases y with
  |cons _ _=>cases j<;>exact q.elim
  |nil =>
   cases j with
   |int i=>exact tD f s Z H _ l Q a r (.inl ⟨i,rfl,q U H _ (Le.refl _ _) u (.int _)⟩)
   |bl b=>exact tD f s Z H _ l Q a r (.inr ⟨b,rfl,q U H _ (Le.refl _ _) u (.int _)⟩)
   |_=>exact q.elim
def oj:dg X (.builtin "len") s_:=by
 intro l s Z H xs u Q f r ⟨U,h,R,j,rp,q⟩
 cases rp with
 |nil=>exact q.elim
 |cons C F =>
  cases F with
  |cons _ _=>cases C<;>exact q.elim
  |nil =>
   cases C with
   |@loc n a e =>
    obtain⟨E,O,B⟩:=j.obj e;dsimp only[s_]at q;rw[O]at q
    cases E with
    |dic fz P xs=>exact q.elim
    |exc x=>exact q.elim
    |lst xs =>
     obtain⟨ys,M,i⟩:=B;exact lY l s Z H _ u Q f r ⟨_,_,rfl,.inl ⟨ys,SqL.of M,rfl⟩,by rw[<-i.length];exact q U H _ (Le.refl _ _) j (.int _)⟩
   |tup y i=>exact lY l s Z H _ u Q f r ⟨_,_,rfl,.inr ⟨_,y,rfl⟩,by rw[<-i.length];exact q U H _ (Le.refl _ _) j (.int _)⟩
   |frl y i=>exact lY l s Z H _ u Q f r ⟨_,_,rfl,.inl ⟨_,y.sq,rfl⟩,by rw[<-i.length];exact q U H _ (Le.refl _ _) j (.int _)⟩
   |str z =>
    dsimp only[s_]at q
    split at q
    .rename_i L
     exact lY l s Z H _ u Q f r ⟨_,_,rfl,⟨L,rfl⟩,q U H _ (Le.refl _ _) j (.int _)⟩
    .exact q.elim
   |_=>exact q.elim
def Gf(h:MH):PV->Option String
 |.non=>J "NoneType"
 |.bl _=>J "bool"
 |.int _=>J "int"
 |.str _=>J "str"
 |.tup _=>J "tuple"
 |.frl _=>J "list"
 |.loc n=>match h[n]? with
  |some (.lst _)=>J "list"
  |some (.dic _ _ _)=>J "dict"
  |_=>Y
def dU(t:String)(a:String):Bool:=t==a||(t == "bool" && a == "int")
def nt(a:List String)(x:PV)(h:MH):WZ:=match Gf h x with
 |some t=>.ok (.bl (a.any (dU t))) h
 |none=>.bad
def Gg(a:String):Prop:=∀K:hR,∀t∈["NoneType","bool","int","str","tuple","list","dict"],PySem.W.kitOne K (.type t) (.type a)=J (dU t a)
def qu(z:∀K,PySem.W.kitOne K (.type "NoneType") (.type b)=J (dU "NoneType" b))(f:∀K,PySem.W.kitOne K (.type "bool") (.type b)=J (dU "bool" b))(y:∀K,PySem.W.kitOne K (.type "int") (.type b)=J (dU "int" b))(u:∀K,PySem.W.kitOne K (.type "str") (.type b)=J (dU "str" b))(l:∀K,PySem.W.kitOne K (.type "tuple") (.type b)=J (dU "tuple" b))(i:∀K,PySem.W.kitOne K (.type "list") (.type b)=J (dU "list" b))(j:∀K,PySem.W.kitOne K (.type "dict") (.type b)=J (dU "dict" b)):Gg b:=by
 intro K t a;simp only[nw,Fa,or_false]at a;rcases a with rfl|rfl|rfl|rfl|rfl|rfl|rfl
 .exact z K
 .exact f K
 .exact y K
 .exact u K
 .exact l K
 .exact i K
 .exact j K
def Gh:Gg "int":=qu (λ_=>rfl) (λ_=>rfl) (λ_=>rfl) (λ_=>rfl) (λ_=>rfl) (λ_=>rfl) (λ_=>rfl)
def Df:Gg "bool":=qu (λ_=>rfl) (λ_=>rfl) (λ_=>rfl) (λ_=>rfl) (λ_=>rfl) (λ_=>rfl) (λ_=>rfl)
def Ds:Gg "list":=qu (λ_=>rfl) (λ_=>rfl) (λ_=>rfl) (λ_=>rfl) (λ_=>rfl) (λ_=>rfl) (λ_=>rfl)
def Bv:Gg "tuple":=qu (λ_=>rfl) (λ_=>rfl) (λ_=>rfl) (λ_=>rfl) (λ_=>rfl) (λ_=>rfl) (λ_=>rfl)
def xS{Q:WU}{Z:L2.St}{H:Hp}{s:Shared}{U:WS}{h:MH}{x:PV}{E:V}{u:Value}{t:String}(f:Inv X Q Z H s)(rh:RH X.K X.mg U H h)(O:RP X.K U H x E)(j:aQ E u)(e:Gf h x=J t):
  t∈["NoneType","bool","int","str","tuple","list","dict"]/\u≠.builtin "__main__.__loader__#opaque"/\∃L,PySem.W.KitX X.K u (.type t) L/\L s.heap:=by
 cases O with
 |non=>cases e;cases j;exact⟨by simp,(λz=>nomatch z),_,PySem.W.kitx_none,trivial⟩
 |bl b=>cases e;cases j;exact⟨by simp,(λz=>nomatch z),_,PySem.W.kitx_bool,trivial⟩
 |int i=>cases e;obtain⟨t,rfl⟩:=j;exact⟨by simp,(λz=>nomatch z),_,PySem.W.kitx_int,trivial⟩
 |str i=>cases e;obtain⟨t,rfl⟩:=j;exact⟨by simp,(λz=>nomatch z),_,PySem.W.kitx_str,trivial⟩
 |tup B S =>
  cases e;cases j;obtain⟨y,F,⟨o,e1,e2,_⟩,_⟩:=f.tuple B;exact⟨by simp,(λz=>nomatch z),_,PySem.W.kitx_tuple,⟨o,e1,e2⟩⟩
 |frl B S =>
  cases e;cases j;obtain⟨y,F,⟨o,m,e1,e2,_,e3⟩,_⟩:=f.list B.sq;exact⟨by simp,(λz=>nomatch z),_,PySem.W.kitx_list,⟨o,e1,e2⟩⟩
 |@loc n a R =>
  obtain⟨M,eo,l⟩:=rh.obj R;dsimp only[Gf]at e;rw[eo]at e;cases j
  cases M with
  |lst xs =>
   cases e;obtain⟨ys,C,_⟩:=l;obtain⟨y,F,⟨o,m,e1,e2,_,e3⟩,_⟩:=f.list (SqL.of C);exact⟨by simp,(λz=>nomatch z),_,PySem.W.kitx_list,⟨o,e1,e2⟩⟩
  |dic fz ks xs =>
   cases e;obtain⟨zs,_,_,C⟩:=l;obtain⟨_,_,vs,_,p⟩:=oq f.hok C;obtain⟨o,es,ep,P,h2,_⟩:=p;exact⟨by simp,(λz=>nomatch z),_,PySem.W.kitx_dict,⟨o,P,h2.1⟩⟩
  |exc x=>cases e
def KH(g:Good X N W G k){a:Expr}{m:Mx PV}{f:String}{c:Str}{i j:Nat}{p q z:Pos}(hi:G[i]?=J "isinstance")(hm:X.mg "isinstance"=Y)(S:G[j]?=J c)(hc:X.mg c=Y)(hv:bootBuiltins c=J (.type f))(hT:Gg f)(ha:ME X a m)(he:starEach [a,.Name c q] X.env=(T,eval a X.env)::starEach [.Name c q] X.env:=by rfl)(R:starEach [.Name c q] X.env=[(T,eval (.Name c q) X.env)]:=by rfl)(F:(backTo z (starEach [.Name c q] X.env)).any (·.1)=T:=by rfl):
  ME X (.Call (.Name "isinstance" p) [a,.Name c q] [] z) (NW (nt [f]) m):=by
 have d1:=g.dbg _ (xn _ (aO hi));have d:=g.dbg c (xn _ (aO S));have l:dQ X (.builtin "isinstance") (λxs H Q=>∃y,xs=[y,.ty f]/\uJ X (nt [f]) y H Q):=by
  intro Oz s Z H xs us Q u r ⟨y,e,U,h,x,B,M,q⟩;subst e
  cases r with
  |cons r1 t1=>cases t1 with
   |cons r2 t2 =>
    cases t2;obtain rfl:=(r2);unfold nt at q
    cases O:Gf h x with
    |none=>rw[O]at q;exact q.elim
    |some t =>
     rw[O]at q;obtain⟨ht,C,Hq,Za,hz⟩:=xS u B M r1 O
     exact PySem.W.kia_one Za u.kIn hz (hT X.K t ht) C λtk=>⟨.bl _,H,u.tok _,rfl,by
      have q':=q U H _ (Le.refl _ _) B (.bl _)
      simpa using q'⟩
 refine PE.imp (pX l (g.gl _ (aO hi)) hm PyProof.Rows.Boot.«isinstance» (eM ha (eM (sI (v:=.ty f) (g.gl c (aO S)) hc hv rfl d.2.2 d.1) lm R) he) d1.2.2 d1.1 he F) λZ H Q P=>?_;obtain⟨U,L,h,rs,B,q⟩:=P;exact⟨U,L,h,rs,B,Ful.bind q λU1 H1 x y h1 _ l1 E M q1=>⟨y,rfl,U1,h1,x,E,M,q1.zero⟩⟩
def KI(K:hR)(mg:E0)(F:WL->MH->WZ):Sp:=λu H Q E=>∃U l h,RPs K U H l u/\RH K mg U H h/\match F l h with
 |.ok v i=>∀f a j,Le U H f a->RH K mg f a i->RP K f a v j->Q j a
 |.exc x i=>∀C f a,x.fs=[]->mg x.cls=J (.ref C)->Le U H f a->RH K mg f a i->E (.ref C) Y a
 |.bad=>False
def MQ(P:Program)(w:World):Fe:=λouter H s E e a=>∃i C f,e=.ref i/\a.os=s.os/\AllBare a.gens/\Un (DS outer) [] H f s.heap a.heap/\HOk P w f a.heap/\SU outer f s.heap C i a.heap/\E (.ref C) Y f
structure Cal(X:Cx)(x:Str)(ps:WM)(F:WL->MH->WZ)(k:Nat):Prop where
 ex:∃f fd,X.mg x=J (.ref f)/\PySem.W.keepIn X.K (.ref f)=I/\lU X.K fd ps []/\FnOk X.prog X.w X.K X.mg X.base (MQ X.prog X.w) k f fd ps (KI X.K X.mg F)
def Cal.to(c:Cal X x ps F i)(e1:g.prog=X.prog)(e2:g.w=X.w)(e3:g.K=X.K)(e4:g.mg=X.mg)(e5:g.base=X.base):Cal g x ps F i:=by obtain⟨f,fd,a,b,d,e⟩:=c.ex;refine⟨f,fd,by rw[e4];exact a,by rw[e3];exact b,by rw[e3];exact d,?_⟩;rw[e1,e2,e3,e4,e5];exact e
def fR(F:WL->MH->WZ)(m:Mx (WL)):Mx PV:=λZ h=>(m Z h).bind F
def xW(g:Good X N W G k){x:Str}{j:Nat}(hj:G[j]?=J x){ps:WM}{F:WL->MH->WZ}(C:Cal X x ps F k){e:Expr}{es:WX}{m:Mx (WL)}{p R:Pos}(ha:MA X (e::es) m)(he:starEach (e::es) X.env=(T,eval e X.env)::starEach es X.env:=by rfl)(al:(backTo R (starEach es X.env)).any (·.1)=T:=by rfl):ME X (.Call (.Name x p) (e::es) [] R) (fR F m):=by
 obtain⟨f,fd,hm,hk,hb,F'⟩:=C.ex;have d:=g.dbg x (xn _ (aO hj));intro Oz s Z H Q S ⟨U,ac,h,rs,rh,q⟩;refine wpAny_Call_Name_kw (oR S (g.gl x (aO hj)) hm ?_ d.1)
 refine PySem.W.callWith_K S.ok.mod.kin hk (mf (ha R Oz s Z H (λvs B=>∃y xs O,Le U H y B/\RH X.K X.mg y B O/\RPs X.K y B xs vs/\Ful X (RV' X) ac y B (F xs O) Q) S
  ⟨U,ac,h,rs,rh,Ful.bind q λy B xs vs O _ l1 L rx M=>⟨y,xs,O,l1,L,rx,M⟩⟩) λus P ⟨vs,B,I1,r,y,xs,O,l1,L,rx,M⟩=>⟨I1.kIn,?_⟩) he al
 have run:∀E:XK,KI X.K X.mg F vs B Q E->(∀ea C i l,l.os=P.os->AllBare l.gens->Un (DS X.stack) [] B i P.heap l.heap->HOk X.prog X.w i l.heap->SU X.stack i P.heap C ea l.heap->E (.ref C) Y i->X.xe (.ref ea) l) ->
   wpAny (model X.prog X.w) X.A (call (.ref f) us) (EP X Oz Z Q) X.xe P:=λE ak hE=>by
  have hl:(us++[]).length=ps.length:=by rw[Nh,<-r.length];exact F'.len _ _ _ _ ak
  have ai:=hb P us I1.kIn hl;rw[Nh]at ai;refine wpAny_call (codeAny_mono (F'.run X.A X.stack P B ⟨us,[]⟩ us vs Q E g.room I1.env0 ai r ak) λr l hq=>?_)
  cases r with
  |error e =>
   obtain⟨ea,C,i,rfl,a1,a2,a3,a4,a5,a6⟩:=hq;exact hE ea C i l a1 a2 a3 a4 a5 a6
  |ok fl =>
   cases fl with
   |ret u=>exact I1.after hq
   |next=>exact False.elim hq
   |brk=>exact False.elim hq
   |cont=>exact False.elim hq
 cases eF:F xs O with
 |bad=>rw[eF]at M;exact M.elim
 |ok v h' =>
  rw[eF]at M;exact run (λ_ _ _=>False) ⟨y,xs,O,rx,L,by rw[eF];exact M⟩ λ_ _ _ _ _ _ _ _ _ z=>z.elim
 |exc x' h' =>
  rw[eF]at M;refine run (λc _ i=>∃C U',c=.ref C/\x'.fs=[]/\X.mg x'.cls=J (.ref C)/\Le y B U' i/\RH X.K X.mg U' i h') ⟨y,xs,O,rx,L,by rw[eF];exact λC U' i a b c d=>⟨C,U',rfl,a,b,c,d⟩⟩ λea C i l a1 a2 a3 a4 a5 a6=>?_;obtain⟨C',U',eC,b1,b2,b3,b4⟩:=a6;cases eC;have IX:=I1.call' (s':=l) a1 a3 a4 a2 (λb z=>absurd z (by simp));have ap:=Inv.unpinned (Oz:=[]) IX;exact M ea C U' i Z l P.heap b1 b2 b3 b4 (rs.le (l1.trans b3)) ap (Inv.bears I1) a5
def bG(n:Nat)(a:WL):pq:=a.map J++List.replicate (n-a.length) Y
def cX(n i:Nat)(m:n_):WL->MH->WZ:=λf h=>if f.length=i then (match m (bG n f) h with
 |.nx _ a=>.ok .non a
 |.rt v a=>.ok v a
 |.exc x _ a=>.exc x a
 |.rse x _ a=>.exc x a
 |_=>.bad)else .bad
def Cu{K:hR}{U:WS}{H:Hp}{N:WM}{a:WL}{j:List V}(r:RPs K U H a j):RS K U H (bG N.length a) (L2.start N j):=by
 have y:=r.length;refine⟨by simp[bG,L2.start,y],λi v e=>?_⟩;unfold bG at e;by_cases f:i<a.length
 .rw[qr (by simpa using f),se]at e
  cases q:a[i]? with
  |none=>rw[q]at e;cases e
  |some x =>
   rw[q]at e;cases e;obtain⟨l,z,u⟩:=r.get q;refine⟨l,?_,u⟩;unfold L2.start;rw[qr (by simp;lia),se,z];rfl
 .rw[Ek (by simpa using f),Jn]at e
  split at e<;>cases e
def vj{B h:Heap}(k:B.StaysIn h){b:Addr}{o a:Obj}(e1:B.get? b=J a)(e2:h.get? b=J o):a=o:=by
 have:=k b a e1
 rw[e2]at this;exact(Option.some.inj this).symm
def yy{X:Cx}{Z':L2.St}{M:Hp}{O:Shared}{E B:Heap}(f:Inv X [] Z' M O)(S:X.ex=[])(hB:B.StaysIn O.heap)(C:B.StaysIn E)(U:O.heap.UpToSlots E)(H:∀b o,X.s₀.heap.get? b=J o->b∉X.fs->∃i,B.get? b=J i)(L:∀b o,M b=J o->∃i,B.get? b=J i):Un X.fs [] X.H₀ M X.s₀.heap E/\HOk X.prog X.w M E:=by
 have j:∀b:Addr,b∉X.ex:=λb=>by rw[S];simp
 have kp:∀b o i,B.get? b=J i->O.heap.get? b=J o->E.get? b=J o:=λb o i e1 e2=>by
  have:=vj hB e1 e2
  subst this;exact C b i e1
 refine⟨⟨λb o e n hf _=>?_,λb o e n hf _=>?_,λb o e n _=>f.base.free b o e n (j b),λb o e _=>?_,f.base.tups,f.base.frzs,f.base.tbls⟩,λa o e=>?_⟩
 .obtain⟨i,l⟩:=H b o e hf;exact kp b o i l (f.base.keep b o e n hf (j b))
 .obtain⟨Z,e1⟩:=f.base.slot b o e n hf (j b);obtain⟨_,oF,F,Q⟩:=f.ok.funs.mem hf;rw[e]at F;cases F;obtain⟨y,e2⟩:=U b _ e1 (λR z=>Q R z);exact⟨y,e2⟩
 .by_cases hf:b∈X.fs
  .obtain⟨_,oF,F,Q⟩:=f.ok.funs.mem hf;rw[e]at F;cases F;obtain⟨Z,e1⟩:=f.base.slot b o e (f.ok.frf b hf) hf (j b);obtain⟨y,e2⟩:=U b _ e1 (λR z=>Q R z);exact⟨_,e2⟩
  .obtain⟨i,l⟩:=H b o e hf;exact⟨i,C b i l⟩
 .refine (f.hok a o e).stay (λb u P z=>?_) (λ_ z=>z) λ_ _ z=>z;rcases P with rfl|P
  .obtain⟨i,l⟩:=L _ _ e;exact kp _ u i l z
  .obtain⟨i,l⟩:=L _ _ P;exact kp _ u i l z
def _root_.L2.ObjOk.has(x:ObjOk P w H h a o):∃u,h.get? a=J u:=by
 cases o with
 |lst xs=>obtain⟨_,_,_,_,e⟩:=x;exact⟨_,e⟩
 |tup xs=>obtain⟨_,_,_,o,e,_⟩:=x;exact⟨o,e⟩
 |dK i=>obtain⟨_,_,_,_,o,_,_,e,_⟩:=x;exact⟨o,e⟩
 |dT i=>obtain⟨_,_,_,_,o,_,_,e,_⟩:=x;exact⟨o,e⟩
 |set S n=>obtain⟨o,_,_,_,e,_⟩:=x;exact⟨o,e⟩
 |ins C z fs=>obtain⟨_,_,_,e,_⟩:=x;exact⟨_,e⟩
 |own y=>obtain⟨o,e⟩:=x;exact⟨o,e⟩
 |xd fs=>obtain⟨_,⟨o,_,_,e,_⟩,_⟩:=x;exact⟨o,e⟩
 |rng lo l=>obtain⟨_,_,_,e⟩:=x;exact⟨_,e⟩
 |frz j u=>obtain⟨e,_⟩:=x;exact⟨_,e⟩
 |tbl B=>exact⟨_,(x)⟩
 |met f y=>exact⟨_,(x)⟩
 |ext φ=>obtain⟨_,⟨o,e⟩,_⟩:=x;exact⟨o,e⟩
def vC{M:Model}{A:Around}{E:WE}{s:Shared}{base h:Heap}{env:Env}{outer:List Env}{L e C:Addr}{Q:Unit->Shared->Prop}(j:A.frames=J (env::outer))(hf:env.frame=J L)(a:base.StaysIn h)(O:h.FunFrames base (env::outer))(i:Ii h s.heap e C)(P:∀f t,Heap.FlyingW base outer e (.ref C) (.ref t) f->s.heap.UpToSlots f->Q () { s with heap:=f}):wpAny M A (leaving env (.ref e)) Q E s:=by
 obtain⟨t,R,F⟩:=i.there;have u:base.get? e=Y:=by
  cases q:base.get? e with
  |none=>rfl
  |some o=>have:=a e o q;rw[i.new]at this;cases this
 refine wpAny_leaving_firstW j (O.of_keeps λb o l _=>⟨o,i.keeps b o l,rfl⟩) hf F (λb o l=>i.keeps b o (a b o l)) u rfl rfl rfl λf hL=>?_;obtain⟨H,⟨_,_,z⟩,B,y⟩:=hL;exact P f t ⟨H,u,z,B⟩ y
structure hH(X:Cx):Prop where
 stk:X.stack=X.env::X.outer
 fr:X.env.frame=J X.env.locals
 ex:X.ex=[]
def SW{P:Program}{w:World}{K:hR}{mg:WF}{base:Heap}{x a:Str}{st:Stmt}{f:Addr}{fd:FuncData}{ps:WM}{m:n_}(Fu:Fun K x a st f fd)(S:pj N ps (am st))(hl:∀y∈N,Loc (am st) y)(a1:∀y∈G,(am st).names.lookup y=J .globalImplicit)(dbg:∀x∈N++G,(x==("__debug__":Str))=T/\(x==("__classdict__":Str))=T/\x≠"__name__")(hb:∀X:Cx,X.prog=P->X.w=w->X.K=K->X.mg=mg->X.base=base->X.env.scope=am st->Good X N N G k->hH X->DT X (aI st) m):
  FnOk P w K mg base (MQ P w) (k+1) f fd ps (KI K mg (cX N.length ps.length m)):=by
 have len:∀vs H Q E,KI K mg (cX N.length ps.length m) vs H Q E->vs.length=ps.length:=by
  rintro vs H Q E ⟨U,zs,h,r,rh,q⟩;rw[<-r.length];unfold cX at q;by_cases hp:zs.length=ps.length
  .exact hp
  .rw[g_ hp]at q;exact q.elim
 obtain⟨oc,od,kV,a7,pm,an,R,ct,a8,rfl,lk,a5⟩:=Fu.ex;refine Ih lk a5 S len λA outer s H vs Q E hr a4=>?_;obtain⟨U,zs,h,r,rh,q⟩:=a4;refine⟨_,hb _ rfl rfl rfl rfl rfl rfl ⟨rfl,S.nd,hl,λ_ _=>.inl rfl,a1,dbg,rfl,hr,PassesOwn.leaving⟩ ⟨rfl,rfl,rfl⟩,U,bG N.length zs,h,Cu r,rh,?_⟩;unfold cX at q;by_cases hp:zs.length=ps.length
 .rw[c_ hp]at q
  cases e:m (bG N.length zs) h with
  |nx Z' h'=>rw[e]at q;exact λU' O Z' l r' s'=>q U' O .non l r' .non
  |rt v h'=>rw[e]at q;exact q
  |bk Z h'=>rw[e]at q;exact q.elim
  |ct Z h'=>rw[e]at q;exact q.elim
  |bad=>rw[e]at q;exact q.elim
  |exc x Z h' =>
   rw[e]at q;intro ea C U' O Z' s' a9 ai al l ak a0 j a3 ay;obtain⟨B,t,ar,F,as,ap⟩:=ay;refine wpAny_leaves_onW j.ok.frames rfl ar λaF i sm=>?_;have L:∀b o,s.heap.get? b=J o->b∉DS outer->∃ob,B.get? b=J ob:=λb o eb hf=>by
    obtain⟨o',e'⟩:=a3.old b o eb (by show b∉([]:WS);simp);refine as b o' e' λhm=>?_;rcases nw.mp (j.stkSub b hm)with z|z
    .exact absurd (pa eb) (by rw[z];exact Ez _)
    .exact hf z
   obtain⟨un,ac⟩:=yy j rfl ar.1 i.1 sm L F;exact⟨ea,C,O,rfl,j.os,j.bare,un,ac,⟨B,t,i,F,L,ap⟩,q C U' O ai al l ak⟩
  |rse x Z h' =>
   rw[e]at q;intro ea C U' O Z' s' h0 ai al l ak a0 j M;have a6:=j.stack;have ax:∀env∈(envOfC a (am st) s.heap.objs.size f R::outer),∀b,env.frame=J b->b∈DS (envOfC a (am st) s.heap.objs.size f R::outer):=λenv he b hb=>Ju.mpr ⟨env,he,hb⟩;refine vC j.ok.frames rfl (λb o z=>PySem.W.of_hideAll _ z)
    (PySem.W.funFrames_hide a6 ax) M λaF t i sm=>?_
   have sub:=λb hm=>nw.mp (j.stkSub b hm);have L:∀b o,s.heap.get? b=J o->b∉DS outer->∃ob,(PySem.W.hideAll h0 (DS (envOfC a (am st) s.heap.objs.size f R::outer))).get? b=J ob:=λb o eb hf=>by
    obtain⟨o',e'⟩:=j.base.there b o eb (by show b∉([]:WS);simp);refine⟨o',PySem.W.hideAll_get _ e' λhm=>?_⟩;rcases sub b hm with z|z
    .exact absurd (pa eb) (by rw[z];exact Ez _)
    .exact hf z
   have F:∀b o,O b=J o->∃ob,(PySem.W.hideAll h0 (DS (envOfC a (am st) s.heap.objs.size f R::outer))).get? b=J ob:=λb o eb=>by
    obtain⟨u,eu⟩:=(j.hok b o eb).has;refine⟨u,PySem.W.hideAll_get _ eu λhm=>?_⟩
    have:=j.stkFree b hm
    rw[eb]at this;cases this
   have a2:=(Heap.UpToSlots.of_keeps M.keeps).trans sm;obtain⟨un,ac⟩:=yy j rfl (λb o z=>PySem.W.of_hideAll _ z) i.1 a2 L F;have ap:O ea=Y:=by
    cases z:O ea with
    |none=>rfl
    |some o =>
     obtain⟨u,eu⟩:=(j.hok ea o z).has;rw[M.new]at eu;cases eu
   exact⟨ea,C,O,rfl,j.os,j.bare,un,ac,⟨_,t,i,F,L,ap⟩,q C U' O ai al l ak⟩
 .rw[g_ hp]at q;exact q.elim
def sv(v:PV)(h:MH):Out MIt:=match v with
 |.loc n=>(match h[n]? with
  |some (.lst xs)=>.ok ⟨xs,[(n,xs)]⟩ h
  |_=>.bad)
 |.frl xs=>.ok ⟨xs,[]⟩ h
 |.tup xs=>.ok ⟨xs,[]⟩ h
 |_=>.bad
def d3(m:Mx PV):Mx MIt:=λZ h=>(m Z h).bind sv
def fH(y:ME X l m):MI X tg l (d3 m):=by
 intro u s Z H R f ⟨U,a,h,j,B,q⟩;by_cases z:∃xs i,m a h=.ok (.tup xs) i
 .obtain⟨xs,i,e⟩:=z;refine Kw y u s Z H R f ⟨U,a,h,j,B,?_⟩;unfold d3 at q;unfold N5;rw[e]at q ⊢;exact q
 .refine Gb y u s Z H R f ⟨U,a,h,j,B,?_⟩;unfold d3 at q;unfold N4
  cases e:m a h with
  |ok v i =>
   rw[e]at q
   cases v with
   |tup xs=>exact absurd ⟨xs,i,e⟩ z
   |_=>exact q
  |exc x i=>rw[e]at q;exact q
  |bad=>rw[e]at q;exact q
def Inv.bigM{f:WU}{Z:L2.St}{H:Hp}{s:Shared}(a:Inv X f Z H s):sysModules<s.heap.objs.size:=by have h:mainGlobals<s.heap.objs.size:=(a.mod.glob.keeps a.bk).lt;exact Q0 (by decide) h
def ES:Mx PV:=λ_ h=>.ok (.loc h.length) (h++[.dic T [] []])
def yz:ME X (.Dict [] [] pos) ES:=λy s Z H Q a f=>by
 obtain⟨U,j,h,z,i,q⟩:=f;have hf:=a.hok.fresh (l_ _);obtain⟨u,l⟩:=i.new hf (o:=.dic T [] []) ⟨[],rfl,.nil,rfl⟩;refine wpAny_Dict_empty ⟨.ref s.heap.objs.size,_,a.laid (t':=s.toks) (λ_ _ q=>nj _ q) (l_ _) ?_,rfl,q _ _ _ l u (.loc (by rw[<-i.len];simp))⟩;exact⟨Eo _,beq_eq_false_iff_ne.mpr (Ne.symm (zt (Inv.bigM a))),[],.nil,Heap.DictOf.new s.heap⟩
structure FnAt(P:Program)(w:World)(K:hR)(mg:WF)(base:Heap)(x:Str)(ps:WM)(F:WL->MH->WZ)(k:Nat):Prop where
 ex:∃f fd,mg x=J (.ref f)/\PySem.W.keepIn K (.ref f)=I/\lU K fd ps []/\FnOk P w K mg base (MQ P w) k f fd ps (KI K mg F)/\∃oc od osl,K.lookup f=J ⟨oc,od,.func fd,osl⟩
def FnAt.mono{P:Program}{w:World}{K:hR}{mg:WF}{base:Heap}{x:Str}{l:WM}{F:WL->MH->WZ}{i j:Nat}(c:FnAt P w K mg base x l F i)(h:i<=j):FnAt P w K mg base x l F j :=
 let⟨f,fd,a,b,d,e,z⟩:=c.ex;⟨f,fd,a,b,d,e.mono h,z⟩
def FnAt.cal{P:Program}{w:World}{K:hR}{mg:WF}{base:Heap}{x:Str}{j:WM}{F:WL->MH->WZ}{i:Nat}(c:FnAt P w K mg base x j F i){X:Cx}(e1:X.prog=P)(e2:X.w=w)(e3:X.K=K)(e4:X.mg=mg)(e5:X.base=base):Cal X x j F i:=by subst e1;subst e2;subst e3;subst e4;subst e5;obtain⟨f,fd,a,b,d,e,_⟩:=c.ex;exact⟨f,fd,a,b,d,e⟩
structure b_(K:hR)(x:Str)(st:Stmt):Prop where
 ex:∃f fd,PySem.W.nsIn K mainGlobals x=J (J (.ref f))/\Fun K x x st f fd
def Fl{K:hR}{x:Str}{st:Stmt}{f:Addr}{u:Value}{j an:WK}{z:Array (WV)}{kV y pm i ct:Value}(a:PySem.W.nsIn K mainGlobals x=J (J (.ref f)))(l:K.lookup f=J ⟨u,j,.func (PySem.W.fnOf x x (hU st) (aI st) (am st) .none kV y pm an i ct),z⟩)(c:PySem.W.codeIn K i x=I)(kp:PySem.W.keepIn K (.ref f)=I):b_ K x st :=
 ⟨f,_,a,B3 l c kp⟩
def ig(x:Str)(st:Stmt)(j:WM):Prop:=∀(kV a pm:Value)(an:WK)(f ct:Value)(i:WT),i.length=j.length->bindArgs (PySem.W.fnOf x x (hU st) (aI st) (am st) .none kV a pm an f ct) ⟨i,[]⟩=pure (j.zip i)
def rE{P:Program}{w:World}{K:hR}{mg:WF}{base:Heap}{x:Str}{st:Stmt}{i:WM}{m:n_}(kin:K.In base)(ns:base.Ns mainGlobals mg)(D:b_ K x st)(S:pj N i (am st))(B:ig x st i)(M:∀y∈N,(am st).names.lookup y=J .local\/(am st).names.lookup y=J .cell)(l:∀y∈G,(am st).names.lookup y=J .globalImplicit)(dbg:∀x∈N++G,(x==("__debug__":Str))=T/\(x==("__classdict__":Str))=T/\x≠"__name__")(F:∀X:Cx,X.prog=P->X.w=w->X.K=K->X.mg=mg->X.base=base->X.env.scope=am st->Good X N N G k->hH X->DT X (aI st) m):
  FnAt P w K mg base x i (cX N.length i.length m) (k+1):=by
 obtain⟨f,fd,a,j⟩:=D.ex;have L:=j.ex;obtain⟨E,z,kV,H,pm,an,C,ct,u,e1,e2,_⟩:=L;exact⟨f,fd,PySem.W.mg_of kin ns a,j.kp,j.binds B,SW j S M l dbg F,E,z,u,e2⟩
def KJ{P:Program}{w:World}{K:hR}{mg:WF}{h:Heap}{x y:Str}{st:Stmt}{F:WL->MH->WZ}{C:Addr}(D:b_ K x st)(B:ig x st [y])(l:mg x=J (.ref C))(kin:K.In h)(ns:h.Ns mainGlobals mg)(H:∀base:Heap,K.In base->base.Ns mainGlobals mg->FnAt P w K mg base x [y] F k):
  ∃fd:FuncData,(∀(s:Shared)(u:Value),BindsTo s fd ⟨[u],[]⟩ [(y,u)])/\∀base:Heap,K.In base->base.Ns mainGlobals mg->FnOk P w K mg base (MQ P w) k C fd [y] (KI K mg F):=by
 obtain⟨f,fd,a,Q⟩:=D.ex;have e:=l.symm.trans (PySem.W.mg_of kin ns a);obtain⟨oc,S,kV,j,pm,an,i,ct,O,e1,e2,e3⟩:=Q.ex;refine⟨fd,λs u=>.of_eq ?_,λbase kb R=>?_⟩
 .rw[e1];exact B kV j pm an i ct [u] rfl
 .obtain⟨U,E,Z,g2,g3,g4,L,M,z,g5⟩:=(H base kb R).ex
  grind
def N9(K:hR):Sp:=λi H Q _=>∃(a:Addr)(ns:WN),i=[.ref a]/\SqF K H a (ns.map V.int)/\ns.length<=63/\∀f,Q (.bl I) f
def KL{l:PySem.W.OpenLaw}{q:Program}{loose:WM}{XP:(Str->WV)->Heap->Prop}{P:World->Heap->Prop}{d:DefRec}{K:Params->hR}{x:Str}{F:WL->MH->WZ}(hn:l.most=J 63)(O:d.params.defaults=[])(hr:Room k callerA)(hi:PyProof.Rows.importsNone q=I)(B:l.prog.given.tree=Y)(hY:∀(w:World)(h:Heap),P w h->(K w.params).In h)(U:∀(w:World)(mg:WF)(i:Addr)(h:Heap),(K w.params).In h->h.Ns mainGlobals mg->mg d.name=J (.ref i) ->
   ∃fd:FuncData,(∀(s:Shared)(u:Value),BindsTo s fd ⟨[u],[]⟩ [(x,u)])/\∀base:Heap,(K w.params).In base->base.Ns mainGlobals mg->FnOk l.prog w (K w.params) mg base (MQ l.prog w) k i fd [x] (KI (K w.params) mg F))(Z:∀ns:WN,ns.length<=63->∃S,F [.frl (ns.map .int)] []=.ok (.bl I) S):
  PySem.W.WalkO q loose XP P l.row.toRowW d [] (λf R=>PySem.call f R):=by
 refine L2.F8 (x:=x) (CX:=λw=>MQ l.prog w) (sp:=λw=>N9 (K w.params)) hn (by decide) O hr hi B hY (λw mg i h hK j L=>?_) (λw H a ns C hO hS=>?_) λw H s e s' z=>?_
 .obtain⟨fd,hb,hF⟩:=U w mg i h hK j L;refine⟨fd,hb,λbase kb nb=>(hF base kb nb).imp λR H Q E z=>?_⟩;obtain⟨a,ns,rfl,M,C,hq⟩:=z;obtain⟨S,e⟩:=Z ns C;refine⟨[],[.frl (ns.map .int)],[],.cons (.frl M (RPs.ints ns)) .nil,⟨rfl,QZ,λn a o z _=>by simp at z⟩,?_⟩;rw[e];intro U' H' v' _ _ r;cases r;exact hq H'
 .have M:SqF (K w.params) H a (ns.map V.int):=by
   rcases hS with(z|z)|z
   .rcases hO a with y|⟨o,xs,y⟩
    .rw[y]at z;cases z
    .rw[y]at z;cases z
   .exact .inl z
   .exact .inr z
  exact⟨a,ns,rfl,M,C,λ_=>rfl⟩
 .obtain⟨_,_,_,_,_,_,_,_,_,z⟩:=z;exact z
end
section
variable{α:Type}{Z:pq}{h:MH}
@[simp]theorem Vd:mC v Z h=.ok v h:=rfl
@[simp]theorem Ab{v:PV}{r:pq}:ao 0 (J v::r) h=.ok v h:=rfl
@[simp]theorem Aq{i:Nat}{o:W0}{r:pq}:ao (i+1) (o::r) h=ao i r h:=by simp[ao]
@[simp]theorem Gi:aH f a b Z h=(a Z h).bind λx h1=>(b Z h1).bind λy h2=>(f x y h2).ne:=rfl
@[simp]theorem SX:NW f a Z h=(a Z h).bind λx h1=>(f x h1).ne:=rfl
@[simp]theorem KN:va f a Z h=(a Z h).bind λx h1=>(f x h1).ne:=rfl
@[simp]theorem v3:fR f a Z h=(a Z h).bind f:=rfl
@[simp]theorem kQ:hG Z h=.ok [] h:=rfl
@[simp]theorem eA:aq a r Z h=(a Z h).bind λx h1=>(r Z h1).bind λxs h2=>.ok (x::xs) h2:=rfl
@[simp]theorem Gj:iU a Z h=(a Z h).bind v_:=rfl
@[simp]theorem Ra:cR a Z h=(a Z h).bind mm:=rfl
@[simp]theorem Rb:ES Z h=.ok (.loc h.length) (h++[.dic T [] []]):=rfl
@[simp]theorem Ve:mB a Z h=(a Z h).bind λv h1=>match v with|.bl b=>.ok b h1|_=>.bad:=rfl
@[simp]theorem Rc:Kc a Z h=(a Z h).bind λb h1=>.ok (!b) h1:=rfl
@[simp]theorem Re:Ke a b Z h=(a Z h).bind λx h1=>if x=I then b Z h1 else .ok T h1:=rfl
@[simp]theorem SY:SV a b Z h=(a Z h).bind λx h1=>if x=I then .ok I h1 else b Z h1:=rfl
@[simp]theorem N_:zu a b Z h=(a Z h).bind λx h1=>match x with|.bl c=>if c=I then b Z h1 else .ok (.bl T) h1|_=>.bad:=rfl
@[simp]theorem Rf:Ki a b Z h=(a Z h).bind λx h1=>match x with|.bl c=>if c=I then .ok (.bl I) h1 else b Z h1|_=>.bad:=rfl
@[simp]theorem Oa:yX a Z h=(a Z h).bind λx h1=>match x with|.bl c=>.ok (.bl (!c)) h1|_=>.bad:=rfl
@[simp]theorem Rg:Km c a b Z h=(c Z h).bind λx h1=>if x=I then a Z h1 else b Z h1:=rfl
@[simp]theorem Ob:q7 Z h=.nx Z h:=rfl
@[simp]theorem dz:cD a b Z h=(a Z h).then b:=rfl
@[simp]theorem aw:(SOut.nx Z h).then k=k Z h:=rfl
@[simp]theorem xM:(SOut.rt v h).then k=.rt v h:=rfl
@[simp]theorem then_bk:(SOut.bk Z h).then k=.bk Z h:=rfl
@[simp]theorem then_ct:(SOut.ct Z h).then k=.ct Z h:=rfl
@[simp]theorem CN:(SOut.rse x Z h).then k=.rse x Z h:=rfl
@[simp]theorem DG:(SOut.exc x Z h).then k=.exc x Z h:=rfl
@[simp]theorem Ca:SOut.bad.then k=.bad:=rfl
def Out.rt(o:WZ)(Z:pq):SOut:=match o with
 |.ok v a=>.rt v a
 |.exc x a=>.exc x Z a
 |.bad=>.bad
@[simp]theorem Vf:(Out.ok v h).rt Z=.rt v h:=rfl
@[simp]theorem S1:(Out.exc x h:WZ).rt Z=.exc x Z h:=rfl
@[simp]theorem S2:(Out.bad:WZ).rt Z=.bad:=rfl
@[simp]theorem sA:dy m Z h=(m Z h).rt Z:=rfl
def Out.go{α:Type}(o:Out α)(Z:pq)(k:α->n_):SOut:=match o with
 |.ok v a=>k v Z a
 |.exc x a=>.exc x Z a
 |.bad=>.bad
@[simp]theorem aA:(Out.ok v h).go Z k=k v Z h:=rfl
@[simp]theorem go_exc:(Out.exc x h:Out α).go Z k=.exc x Z h:=rfl
@[simp]theorem go_bad:(Out.bad:Out α).go Z k=.bad:=rfl
@[simp]theorem KO:zv m k Z h=(m Z h).go Z k:=rfl
@[simp]theorem pZ:j3 m Z h=(m Z h).go Z λ_=>q7:=rfl
@[simp]theorem BX:E1 c a b Z h=(c Z h).go Z λx=>if x=I then a else b:=rfl
@[simp]theorem jo:b9 i m Z h=(m Z h).go Z λv Z h=>.nx (Z.set i (J v)) h:=rfl
@[simp]theorem Rh:Ku i j m Z h=(m Z h).go Z λvs Z h=>match vs with|[v,w]=>.nx ((Z.set i (J v)).set j (J w)) h|_=>.bad:=rfl
@[simp]theorem Ri:nI m g Z h=(m Z h).go Z λv Z h=>match g v Z h with|.nx Z2 h2=>.nx Z2 h2|.exc x Z2 h2=>.exc x Z2 h2|_=>.bad:=rfl
@[simp]theorem S3:lR i v Z h=.nx (Z.set i (J v)) h:=rfl
@[simp]theorem S4:yH [] Z h=.nx Z h:=rfl
@[simp]theorem S5:nu a r (v::vs) Z h=(a v Z h).then (r vs):=rfl
@[simp]theorem S6:yM r n (.tup xs) Z h=if xs.length=n then r xs Z h else .bad:=rfl
@[simp]theorem hZ:i4 mi g b Z h=(mi Z h).go Z λit=>xL it g b it.xs:=rfl
@[simp]theorem sx:d3 m Z h=(m Z h).bind sv:=rfl
@[simp]theorem Oc:d8 m Z h=(m Z h).bind λvs h1=>match vs with
 |[.int j]=>if -(2^62)<=j/\j<2^62 then .ok ⟨bI 0 j.toNat,[]⟩ h1 else .bad
 |_=>.bad:=rfl
@[simp]theorem KP:FE mo mi v Z h=(mo Z h).go Z λo=>zv mi λi Z h=>match pN o i v h with
 |some h2=>.nx Z h2
 |none=>.bad:=rfl
def SOut.fin(o:SOut):WZ:=match o with
 |.nx _ a=>.ok .non a
 |.rt v a=>.ok v a
 |.exc x _ a=>.exc x a
 |.rse x _ a=>.exc x a
 |_=>.bad
@[simp]theorem fin_exc:(SOut.exc x Z h).fin=.exc x h:=rfl
@[simp]theorem fin_rse:(SOut.rse x Z h).fin=.exc x h:=rfl
@[simp]theorem bH:(SOut.rt v h).fin=.ok v h:=rfl
@[simp]theorem AT:(SOut.nx Z h).fin=.ok .non h:=rfl
theorem gz(e:ps.length=np):cX n np m ps h=(m (bG n ps) h).fin:=by unfold cX;rw[c_ e];rfl
end
section
variable{h:MH}{i j:Int}
@[simp]theorem Od:ln (.int i) (.int j) h=.ok (.int (i+j)) h:=rfl
@[simp]theorem Oe:Fj (.int i) (.int j) h=.ok (.int (i-j)) h:=rfl
@[simp]theorem Rj:Fk (.int i) h=.ok (.int (-i)) h:=rfl
@[simp]theorem Rk:Fg (.int i) (.int j) h=.ok (.bl (decide (i<j))) h:=rfl
@[simp]theorem Rm:Ky (.int i) (.int j) h=.ok (.bl (decide (i<=j))) h:=rfl
@[simp]theorem Rn:Fh (.int i) (.int j) h=.ok (.bl (decide (j<i))) h:=rfl
@[simp]theorem Ro:Fi (.int i) (.int j) h=.ok (.bl (decide (j<=i))) h:=rfl
@[simp]theorem Rq:Ep (.int i) (.int j) h=.ok (.bl (decide (i=j))) h:=rfl
@[simp]theorem Rr:EC (.int i) (.int j) h=.ok (.bl (!decide (i=j))) h:=rfl
@[simp]theorem Rs:Ep (.bl a) (.bl b) h=.ok (.bl (a==b)) h:=by simp[Ep,rd,SeqAt.shaped,PyData.canLay0,PyData.depth,PyData.eqv]
@[simp]theorem Rt:EC (.bl a) (.bl b) h=.ok (.bl (!(a==b))) h:=by simp[EC,rd,SeqAt.shaped,PyData.canLay0,PyData.depth,PyData.eqv]
theorem ie(a:j≠0):ol (.int i) (.int j) h=.ok (.int (i.fmod j)) h:=by simp[ol,a]
def x4(a:j≠0):ED (.int i) (.int j) h=.ok (.int (i.fdiv j)) h:=by simp[ED,a]
def jn(a:-(2^64)<i/\i<2^64):mh (.int i) (.int j) h=.ok (.int (i*j)) h:=by simp[mh,IntMulOk.of_left (intBits_le_64 a.1 a.2)]
def Gk(a:-(2^64)<j/\j<2^64):mh (.int i) (.int j) h=.ok (.int (i*j)) h:=by simp[mh,IntMulOk.of_right (intBits_le_64 a.1 a.2)]
def vy(a:0<=j/\j<=1000000/\i.natAbs<2^64):u_ (.int i) (.int j) h=.ok (.int (i^j.toNat)) h:=by simp[u_,jq,a]
@[simp]theorem S7:DZ [.int i] h=.ok (.int (if i<0 then -i else i)) h:=rfl
@[simp]theorem Ru:zQ [.int i,.int j] h=.ok (.int (if j<i then j else i)) h:=rfl
@[simp]theorem Rv:Er [.int i,.int j] h=.ok (.int (if j>i then j else i)) h:=rfl
@[simp]theorem S8:Ge [.int i] h=.ok (.int i) h:=rfl
@[simp]theorem S9:Ge [.bl b] h=.ok (.int (if b then 1 else 0)) h:=rfl
@[simp]theorem Of:s_ [.frl xs] h=.ok (.int xs.length) h:=rfl
@[simp]theorem Og:s_ [.tup xs] h=.ok (.int xs.length) h:=rfl
theorem jd(a:xs.length<=1000):mm xs h=.ok (.tup xs) h:=by unfold mm;rw[c_ (oh a (by decide))]
def rc(a:xs.length<=1000):v_ xs h=.ok (.loc h.length) (h++[.lst xs]):=by unfold v_;rw[c_ (oh a (by decide))]
@[simp]theorem S_:mm [] h=.ok (.tup []) h:=jd (by decide)
@[simp]theorem Ta:mm [a] h=.ok (.tup [a]) h:=jd (by simp)
@[simp]theorem Tb:mm [a,b] h=.ok (.tup [a,b]) h:=jd (by simp)
@[simp]theorem Tc:mm [a,b,c] h=.ok (.tup [a,b,c]) h:=jd (by simp)
theorem gq(a:m<n):vR n (m:Int)=J m:=by unfold vR;rw[c_ ⋯,c_ ⋯];simp
@[simp]theorem Vg:o_ (a::r) 0=J a:=bZ (j:=0) rfl
@[simp]theorem Vh:o_ (a::b::r) 1=J b:=bZ (j:=1) rfl
@[simp]theorem Vi:o_ (a::b::c::r) 2=J c:=bZ (j:=2) rfl
@[simp]theorem Vj:o_ (a::b::c::d::r) 3=J d:=bZ (j:=3) rfl
def Out.ofO(o:W0)(h:MH):WZ:=match o with
 |some v=>.ok v h
 |none=>.bad
@[simp]theorem Oh:Out.ofO (J v) h=.ok v h:=rfl
@[simp]theorem Oi:bz (.tup xs) (.int i) h=Out.ofO (o_ xs i) h:=rfl
@[simp]theorem Oj:bz (.frl xs) (.int i) h=Out.ofO (o_ xs i) h:=rfl
theorem fW(e:h[n]?=J (.lst xs)):bz (.loc n) (.int i) h=Out.ofO (o_ xs i) h:=by simp only[bz,e];rfl
def lO(e:h[n]?=J (.lst xs)):pN (.loc n) (.int i) v h=(vR xs.length i).map λp=>h.set n (.lst (xs.set p v)):=by simp only[pN,e]
def sY(e:h[n]?=J (.lst xs)):sv (.loc n) h=.ok ⟨xs,[(n,xs)]⟩ h:=by simp only[sv,e]
@[simp]theorem MR:sv (.tup xs) h=.ok ⟨xs,[]⟩ h:=rfl
@[simp]theorem MU:sv (.frl xs) h=.ok ⟨xs,[]⟩ h:=rfl
@[simp]theorem fh:(⟨xs,[]⟩:MIt).ok h↔True:=⟨λ_=>trivial,λ_ p hp=>nomatch hp⟩
@[simp]theorem Rw:(⟨xs,[(n,zs)]⟩:MIt).ok h↔h[n]?=J (.lst zs):=by
 constructor
 .intro q;exact q (n,zs) (by simp)
 .intro q p hp;have e:=Jv.mp hp;subst e;exact q
end
def SOut.turn(o:SOut)(k:n_):SOut:=match o with
 |.nx f a=>k f a
 |.ct f a=>k f a
 |.bk f a=>.nx f a
 |.rt v a=>.rt v a
 |.exc e f a=>.exc e f a
 |.rse e f a=>.rse e f a
 |.bad=>.bad
@[simp]theorem Ct:(SOut.rse x Z h).turn k=.rse x Z h:=rfl
@[simp]theorem Ch:(SOut.exc x Z h).turn k=.exc x Z h:=rfl
@[simp]theorem turn_nx:(SOut.nx Z h).turn k=k Z h:=rfl
@[simp]theorem turn_ct:(SOut.ct Z h).turn k=k Z h:=rfl
@[simp]theorem turn_bk:(SOut.bk Z h).turn k=.nx Z h:=rfl
@[simp]theorem turn_rt:(SOut.rt v h).turn k=.rt v h:=rfl
theorem hX(e:it.ok h):xL it g b [] Z h=.nx Z h:=by rw[xL];dsimp only;rw[c_ e]
def fT(e:it.ok h)(a:g x Z h=.nx Z1 h1):xL it g b (x::r) Z h=(b Z1 h1).turn (xL it g b r):=by rw[xL];dsimp only;rw[c_ e,a];rfl
def vm(j:Nat->Shared->Prop)(turn:∀n s,j n s->wpAny (model prog w) A (pyNext it) (λr a=>match r with
   |none=>R (.ok .next) a
   |some v=>wpAny (model prog w) A (letOwnedTupleGo target it v) (λ_ i=>wpAny (model prog w) A (assign target env v) (λ_ C =>
     wpAny (model prog w) A (forIn ifs I λc r=>if r=I then do let ok <-isTrue c env (eval c env);pure (ForInStep.yield ok)else pure (ForInStep.yield r)) (λok f =>
      if ok=I then wpAny (model prog w) A (eval elt env) (λx u =>
       wpAny (model prog w) A (call (.builtin "list.append") [acc,x]) (λ_ B=>∃m,m<n/\j m B) (λ_ _=>False) u) (λ_ _=>False) f
      else ∃m,m<n/\j m f) (λ_ _=>False) C) (λ_ _=>False) i) (λ_ _=>False) a) (λ_ _=>False) s)(n:Nat)(h:j n s):
  codeAny (model prog w) A (.compLoop (.ListComp elt [⟨target,iter,ifs,0⟩] scope pos) 0 it acc env) R s:=by
 refine codeAny_loop rfl j (λn s L=>?_) n h;refine wpAny_noted ?_;rw[compTurn_list];refine f_ (wpAny_standAt (f_ (wpAny_mono (turn n s L) (λr a y=>?_) λ_ _ l=>l.elim)))
 cases r with
 |none=>exact nc y
 |some v =>
  refine f_ (wpAny_mono y (λ_ i E=>?_) λ_ _ l=>l.elim);refine f_ (wpAny_mono E (λ_ C H=>f_ (wpAny_mono H (λok f z=>?_) λ_ _ l=>l.elim)) λ_ _ l=>l.elim)
  cases ok with
  |false=>exact nc ⟨rfl,z⟩
  |true =>
   exact f_ (f_ (wpAny_mono z (λx u G=>f_ (wpAny_mono G (λ_ B F=>nc (nc ⟨rfl,F⟩)) λ_ _ l=>l.elim)) λ_ _ l=>l.elim))
def mx(env:Env):List (Str×NameKind)->List (Str×Addr)->List (Str×Addr)
 |[],a=>a
 |(n,k)::r,a=>mx env r (if(k==NameKind.free)=I then(n,(env.cells.lookup n).getD 0)::a else a)
def ul(h:∀y∈scope.names,y.2=.free->∃c,env.cells.lookup y.1=J c):closureFor scope env=pure (mx env scope.names []):=by
 have u:∀(l:List (Str×NameKind))(f:List (Str×Addr)),(∀y∈l,y.2=.free->∃c,env.cells.lookup y.1=J c) ->
   (forIn l f λ(x:Str×NameKind)(r:List (Str×Addr))=>if(x.2==NameKind.free)=I then(do let a <-cellOf env x.1;pure (ForInStep.yield ((x.1,a)::r)):Sem _)else pure (ForInStep.yield r))=(pure (mx env l f):Sem _):=by
  intro l
  induction l with
  |nil=>intro f _;rfl
  |cons y l B =>
   intro f C;obtain⟨n,k⟩:=y;rw[List.forIn_cons];have F:=λz G=>C z (ml _ G);by_cases i:(k==NameKind.free)=I
   .obtain⟨c,E⟩:=C (n,k) En (by simpa using i);rw[c_ i];have j:cellOf env n=pure c:=by unfold cellOf;rw[E]
    rw[j];refine(B ((n,c)::f) F).trans ?_;simp only[mx,i,if_true,E,FA]
   .rw[g_ i];refine(B f F).trans ?_;simp[mx,i]
 exact(congrArg (λz=>z >>= λr=>pure r) (u scope.names [] h)).trans rfl
def pC:∀(l:List (Str×NameKind))(f:List (Str×Addr)),(∀a,f.lookup x=J a->a=(env.cells.lookup x).getD 0)->(∀a,(mx env l f).lookup x=J a->a=(env.cells.lookup x).getD 0)/\((∃k,(x,k)∈l/\k=.free)\/(∃a,f.lookup x=J a)->∃a,(mx env l f).lookup x=J a):=by
 intro l
 induction l with
 |nil =>
  intro f h;refine⟨h,λz=>?_⟩;rcases z with⟨k,z,_⟩|z
  .cases z
  .exact z
 |cons y r u =>
  intro f h;obtain⟨n,k⟩:=y;have F:∀a,(if(k==NameKind.free)=I then(n,(env.cells.lookup n).getD 0)::f else f).lookup x=J a->a=(env.cells.lookup x).getD 0:=λa i=>by
   split at i
   .rw[FM]at i
    split at i
    .rename_i e
     have:x=n:=by simpa using e
     subst this;exact(Option.some.inj i).symm
    .exact h a i
   .exact h a i
  obtain⟨E,C⟩:=u _ F;refine⟨E,λz=>C ?_⟩;rcases z with⟨B,z,j⟩|⟨a,z⟩
  .rcases nw.mp z with e|e
   .cases e;right;subst j;exact⟨(env.cells.lookup x).getD 0,by simp⟩
   .exact .inl ⟨B,e,j⟩
  .right;split
   .rw[FM];split
    .exact⟨_,rfl⟩
    .exact⟨a,z⟩
   .exact⟨a,z⟩
def cZ{env:Env}(u:env.scope.kind=.function):∀{names:List (Str×NameKind)}{x:Str}{k:NameKind},names.lookup x=J k ->
  (names.map λ(n,k)=>if(k==NameKind.free&&env.scope.kind == .function&&env.kindOf n==J .cell)then(n,NameKind.cell)else(n,k)).lookup x=J (if k=.free/\env.kindOf x=J .cell then .cell else k):=by
 intro names
 induction names with
 |nil=>intro x k h;simp at h
 |cons y r f =>
  intro x k h;obtain⟨n,i⟩:=y;have j:=@f x k;show List.lookup x ((if(i==NameKind.free&&env.scope.kind == .function&&env.kindOf n==J .cell)=I then(n,NameKind.cell)else(n,i))::_)=_
  cases a:x==n with
  |true =>
   have e:x=n:=by simpa using a
   subst e;simp only[FM,a]at h;cases h;by_cases z:k=.free/\env.kindOf x=J .cell
   .rw[c_ (by simp[z.1,z.2,u]),c_ z];simp
   .rw[g_ (by simp[u];intro B C;exact z ⟨B,C⟩),g_ z];simp
  |false =>
   simp only[FM,a]at h;by_cases l:(i==NameKind.free&&env.scope.kind == .function&&env.kindOf n==J .cell)=I
   .rw[c_ l];simp only[FM,a];exact j h
   .rw[g_ l];simp only[FM,a];exact j h
def eU(X:Cx)(a:Scope)(cl:List (Str×Addr))(f:Shared)(i:Hp)(l:WS)(j:WM):Cx :=
 { X with N:=j,s₀:=f,H₀:=i,env:=compEnvC a cl f.heap.objs.size X.env,outer:=X.stack,ex:=l,fn:=λx=>decide (a.names.lookup x=J .cell),pn:=[],xe:=λ_ _=>False}
structure CA(X:Cx)(N:WM)(scope:Scope)(vars frees:WM)(fm:WQ):Prop where
 kind:scope.kind=.function
 cell:∀y∈scope.names,y.2=.cell->scope.names.lookup y.1=J .cell
 names:∀y∈scope.names,y.2=.local->scope.names.lookup y.1=J .local
 hv:∀x∈vars,scope.names.lookup x=J .local\/scope.names.lookup x=J .cell
 hf:∀x∈frees,scope.names.lookup x=J .free
 all:∀y∈scope.names,y.2=.free->y.1∈frees
 fm:fm.map (λi=>N[i]?)=frees.map J
 cl:∀x∈frees,X.env.kindOf x=J .cell
def Fm(a:Nat)(fm:WQ)(Z:pq):pq:=List.replicate a Y++fm.map λi=>(Z[i]?).getD Y
def B_(a:MIt)(n:Nat)(j:Mg)(mt:Mx Bool)(i:Mx PV):WL->pq->MH->Out Unit
 |[],_,h=>if a.ok h then .ok () h else .bad
 |x::r,Z,h=>if a.ok h then (match j x Z h with
  |.nx f y=>(mt f y).ne.bind λb l=>if b=I then (i f l).ne.bind λv u=>(match u[n]? with
    |some (.lst ys)=>if ys.length<sizeLine then B_ a n j mt i r f (u.set n (.lst (ys++[v])))else .bad
    |_=>.bad)else B_ a n j mt i r f l
  |_=>.bad)else .bad
def ce(y:Nat)(fm:WQ)(i:Mx MIt)(u:Mg)(mt:Mx Bool)(j:Mx PV):Mx PV:=λZ h =>
 (i Z h).bind λf a=>(B_ f a.length u mt j f.xs (Fm y fm Z) (a++[.lst []])).bind λ_ l=>.ok (.loc a.length) l
def FF(X:Cx)(a:WX)(m:Mx Bool):Prop :=
 ∀(f:WU)(s:Shared)(Z:L2.St)(H:Hp)(Q:Bool->Hp->Prop),Inv X f Z H s->tM X NU m Z H Q ->
  wpAny (model X.prog X.w) X.A (forIn a I λc r=>if r=I then do let ok <-isTrue c X.env (eval c X.env);pure (ForInStep.yield ok)else pure (ForInStep.yield r)) (TP X f Z Q) X.xe s
def ot:Mx Bool:=λ_ h=>.ok I h
def gf:FF X [] ot:=λj s Z H Q a ⟨U,f,h,l,i,q⟩=>wpAny_tests_nil ⟨H,a,q U H I (Le.refl _ _) i rfl⟩
def xI(h:MT X c m):FF X [c] m:=λf s Z H Q a q=>wpAny_tests_one (h f s Z H Q a q)
inductive CS(X:Cx)(U:WS)(H:Hp)(σp:pq)(gt:Mg)(mt:Mx Bool)(me:Mx PV)(Z0:pq)(Q:VK)(J:It)(H1:Hp):Prop
 |mk(U1:WS)(it:MIt)(h1:MH)(l:Le U H U1 H1)(rh:RH X.K X.mg U1 H1 h1)(j:qk X U1 H1 it J)(q:Ful X (RV' X) σp U1 H1 ((B_ it h1.length gt mt me it.xs Z0 (h1++[.lst []])).bind λ_ h3=>.ok (.loc h1.length) h3) Q):CS X U H σp gt mt me Z0 Q J H1
inductive CI(X Y:Cx)(it:MIt)(tn:Nat->Heap->Prop)(fp U0:WS)(H0:Hp)(σp:pq)(n1:Nat)(gt:Mg)(mt:Mx Bool)(me:Mx PV)(Q:VK)(n:Nat)(s6:Shared):Prop
 |mk(i:Nat)(Z6:L2.St)(H6:Hp)(U6:WS)(σp6:pq)(h6:MH)(e:n=it.xs.length-i)(l:i<=it.xs.length)(v:Inv Y [] Z6 H6 s6)(t:tn i s6.heap)(f:∀b∈fp,H6 b=none)(le:Le U0 H0 U6 H6)(rs:RS X.K U6 H6 σp6 Z6)(rh:RH X.K X.mg U6 H6 h6)
   (q:Ful X (RV' X) σp U6 H6 ((B_ it n1 gt mt me (it.xs.drop i) σp6 h6).bind λ_ h3=>.ok (.loc n1) h3) Q):CI X Y it tn fp U0 H0 σp n1 gt mt me Q n s6
def uc(j:Q (newEnv scope s.heap.objs.size globals (cellsFrom (s.heap.objs.size+1) scope.names closure) qual Y .none (J env) builtinsNs) { s with heap:=pushCells (s.heap.push { cls:=.type "dict",data:=.dict #[]}) scope.names}):
  wpAny M A (newFunctionEnv scope globals closure [] qual Y .none (J env)) Q E s:=by
 simp only[newFunctionEnv,Option.isSome_some,if_true];refine f_ (wpAny_alloc ?_);refine f_ (wpAny_layCells _ (λf kind a=>by cases i:kind==NameKind.cell<;>simp) _ _ _ _ ?_);rw[show({ s with heap:=s.heap.push { cls:=.type "dict",data:=.dict #[]}}:Shared).heap.objs.size=s.heap.objs.size+1 from EY ..];exact f_ (nc (nc j))
def eG:∀(names:List (Str×NameKind))(n:Nat)(a:List (Str×Addr)),cellsFrom n names a=cellsFrom n names []++a
 |[],n,a=>rfl
 |(x,k)::r,n,a=>by
  unfold cellsFrom;split
  .rw[eG r (n+1) ((x,n)::a),eG r (n+1) [(x,n)]];simp
  .exact eG r n a
def gM:∀(names:List (Str×NameKind))(n:Nat)(x:Str),(∃c,(x,c)∈cellsFrom n names [])↔(x,NameKind.cell)∈names
 |[],n,x=>by simp[cellsFrom]
 |(y,k)::r,n,x=>by
  unfold cellsFrom;split
  .rename_i i
   have f:k=NameKind.cell:=by simpa using i
   subst f;rw[eG];constructor
   .rintro⟨c,a⟩;rcases DY.mp a with a|a
    .exact ml _ ((gM r (n+1) x).mp ⟨c,a⟩)
    .have:x=y:=by simp at a;exact a.1
     rw[this];exact En
   .intro h;rcases nw.mp h with e|h
    .have:x=y:=by simpa using e
     subst this;exact⟨n,xn _ (by simp)⟩
    .obtain⟨c,a⟩:=(gM r (n+1) x).mpr h;exact⟨c,Fy _ a⟩
  .rw[gM r n x];constructor
   .exact ml _
   .grind
def pP{α:Type}:∀(a b:List (Str×α))(x:Str),(a++b).lookup x=(a.lookup x).or (b.lookup x):= by grind
def CY{α:Type}:∀(a:List (Str×α))(x:Str),a.lookup x=Y->∀c,(x,c)∉a:= by grind
section
variable{X:Cx}{N W G:WM}{k:Nat}
def sW(g:Good X N W G k){tg ar cd:Expr}{ck:WX}{f:Scope}{c3:Pos}{B frees G':WM}{fm:WQ}{mi:Mx MIt}{gt:Mg}{mt:Mx Bool}{me:Mx PV}(C:CA X N f B frees fm)(nd:(B++frees).Nodup)(eC:∀x∈G',f.names.lookup x=J .globalImplicit)(dbg:∀x∈(B++frees)++G',(x==("__debug__":Str))=T/\(x==("__classdict__":Str))=T/\x≠"__name__")(hi:MI X tg ar mi)(hY:∀al:Cx,al.prog=X.prog->al.w=X.w->al.K=X.K->al.mg=X.mg->al.base=X.base->al.env.scope=relabel f X.env->Good al (B++frees) B G' k->MG al tg gt/\FF al ck mt/\ME al cd me)(hs:∀x,foldedSetIterable ar X.env x=pure x){use:Option (Value->Sem Unit)}{Qv:WE}{pp:Pos}{Oz:WU}{s:Shared}{Z:L2.St}{H:Hp}{Q:VK}(c5:Inv X Oz Z H s)(tm:tM X (RV' X) (ce B.length fm mi gt mt me) Z H Q)(fin:∀(dx C:Addr) (H6:Hp) (s7:Shared) (m7:WF),Inv X Oz Z H6 s7->H6 C=Y->s7.heap.Ns C m7->C≠X.env.locals->X.s₀.heap.objs.size<=C->C∉X.fs->(∀x c,X.env.cells.lookup x=J c->c≠C)->(∀p∈X.pn++Oz,p.1≠C)->Q (.ref dx) H6 ->
   compPost (model X.prog X.w) X.A X.xe use Qv (.ref dx) C (.ok .next) s7):
  wpAny (model X.prog X.w) X.A (comprehension (.ListComp cd [⟨tg,ar,ck,0⟩] f c3) f X.env pp (newList []) T (eval ar X.env) use) Qv X.xe s:=by
 obtain⟨U,ai,h,rs,rh,q⟩:=tm;have bv:∀y∈f.names,y.2=.free->∃c,X.env.cells.lookup y.1=J c:=λy hy e=>c5.ok.has y.1 (.inl (C.cl _ (C.all y hy e)));refine wpAny_comprehension_free (use:=use) rfl hs (ul bv) C.kind C.names ?_;generalize c1:mx X.env f.names []=cl;have et:∀x a,cl.lookup x=J a->X.env.cells.lookup x=J a\/((X.env.cells.lookup x)=Y/\a=0):=λx a e=>by
  rw[<-c1]at e
  have:=(pC (env:=X.env) (x:=x) f.names [] (λa z=>by simp at z)).1 a e
  cases z:X.env.cells.lookup x with
  |none=>right;rw[z]at this;exact⟨rfl,this⟩
  |some c=>left;rw[z]at this;rw[this];rfl
 have dV:∀x∈frees,∃c,cl.lookup x=J c/\X.env.cells.lookup x=J c:=λx hx=>by
  obtain⟨c,hc⟩:=c5.ok.has x (.inl (C.cl x hx));have hm:(∃kk,(x,kk)∈f.names/\kk=.free):=⟨.free,PySem.mem_of_lookup (C.hf x hx),rfl⟩;obtain⟨a,ha⟩:=(pC (env:=X.env) (x:=x) f.names [] (λa z=>by simp at z)).2 (.inl hm);rw[c1]at ha;rcases et x a ha with z|⟨z,_⟩
  .rw[hc]at z;cases z;exact⟨c,ha,hc⟩
  .rw[hc]at z;cases z
 have dk:∀x a,cl.lookup x=J a->X.env.cells.lookup x=J a/\x∈frees:=λx a e=>by
   have only:∀(l:List (Str×NameKind))(cs:List (Str×Addr))(x:Str)(a:Addr),(mx X.env l cs).lookup x=J a->(x,NameKind.free)∈l\/cs.lookup x=J a:=by
    intro l
    induction l with
    |nil=>intro cs x a e;exact .inr e
    |cons y l ih =>
     intro cs x a e;obtain⟨n,kk⟩:=y;rcases ih _ x a e with z|z
     .exact .inl (ml _ z)
     .split at z
      .rename_i hk
       have e9:kk=NameKind.free:=by simpa using hk
       rw[FM]at z
       split at z
       .rename_i e'
        have:x=n:=by simpa using e'
        subst this;subst e9;exact .inl En
       .exact .inr z
      .exact .inr z
   have e':=e;rw[<-c1]at e';rcases only _ _ x a e' with z'|z'
   .refine⟨?_,C.all _ z' rfl⟩;rcases et x a e with z|⟨z,_⟩
    .exact z
    .obtain⟨c,hc⟩:=bv _ z' rfl;rw[z]at hc;cases hc
   .simp at z'
 have start:=hi Oz s Z H (CS X U H ai gt mt me (Fm B.length fm ai) Q) c5
  ⟨U,ai,h,rs,rh,Ful.bind q λU1 H1 it eS h1 _ l1 cp jr q1=>⟨U1,it,h1,l1,cp,jr,q1⟩⟩
 refine wpAny_mono start (λx g0 dj=>wpAny_mono dj (λhu F d0=>?_) λ_ _ e=>e) λ_ _ e=>e;obtain⟨er,fp,tn,eS,H2,rfl,I2,ac,eq,f2,U1,it,h1,l1,cp,jr,q1⟩:=d0;refine wpAny_newObj_type ?_;have e6:H2 F.heap.objs.size=Y:=I2.hok.fresh (l_ _);have M:=I2.lnew (ys:=[]) (its:=[]) (t':=F.toks) .nil (Eo _);obtain⟨ek,l3⟩:=cp.new e6 (o:=.lst []) (ho:=.lst []) ⟨[],rfl,.nil⟩;generalize e7:({ F with heap:=F.heap.push { cls:=.type "list",data:=.seq ([]:WT).toArray},toks:=F.toks}:Shared)=E at M;generalize ds:mj H2 F.heap.objs.size (.lst [])=L at M ek l3;have gy:L F.heap.objs.size=J (.lst []):=by rw[<-ds];exact ba
 have fk:E.heap=F.heap.push { cls:=.type "list",data:=.seq ([]:WT).toArray}:=by rw[<-e7]
 have cc:tn 0 E.heap:=ac.keep _ _ _ eq λb _ o e=>by rw[fk];exact nj _ e
 have a8:∀b∈fp,jF X Oz L b:=λb S=>by
  obtain⟨a0,a1⟩:=f2 b S;refine⟨?_,a1⟩;obtain⟨o,eo,_⟩:=ac.obj _ _ eq b S;rw[<-ds,aN (zt (pa eo))];exact a0
 have dd:wpAny (model X.prog X.w) X.A (newFunctionEnv f X.env.globals cl [] X.env.qual Y .none (J X.env)) (λw_ es =>
    codeAny (model X.prog X.w) X.A (.compStart (.ListComp cd [⟨tg,ar,ck,0⟩] f c3) 0 (.ref er) (.ref F.heap.objs.size) { w_ with scope:=relabel f X.env}) (compPost (model X.prog X.w) X.A X.xe use Qv (.ref F.heap.objs.size) w_.locals) es) X.xe E:=by
  refine uc ?_;have O:∀b o,E.heap.get? b=J o->(pushCells (E.heap.push { cls:=.type "dict",data:=.dict #[]}) f.names).get? b=J o:=λb o e=>pushCells_keeps _ _ b o (nj _ e);have ec:=(Heap.Ns.new E.heap (.type "dict")).keeps (pushCells_keeps f.names _);have br:=cellsFrom_ok f.names (E.heap.push { cls:=.type "dict",data:=.dict #[]}) (E.heap.objs.size+1) [] ⟨λ_ _ hm=>(nomatch hm),List.Pairwise.nil⟩ (by rw[EY];exact l_ _);rw[EY]at br;rw[eG];have ci:=gM f.names (E.heap.objs.size+1);generalize cellsFrom (E.heap.objs.size+1) f.names []=cn at br ci ⊢;generalize pushCells (E.heap.push { cls:=.type "dict",data:=.dict #[]}) f.names=h' at O ec br ⊢;dsimp only[newEnv];have a3:∀x c,(cn++cl).lookup x=J c->((x,c)∈cn/\f.names.lookup x=J .cell/\E.heap.objs.size<c/\h'.IsCell c Y)\/(X.env.cells.lookup x=J c/\f.names.lookup x=J .free):=λx c e=>by
   rw[pP]at e
   cases z:cn.lookup x with
   |some c' =>
    rw[z]at e
    have:c'=c:=by simpa using e
    subst this;have m:=PySem.mem_of_lookup z;obtain⟨q1,q2⟩:=br.empty x c' m;exact .inl ⟨m,C.cell _ ((ci x).mp ⟨c',m⟩) rfl,q2,q1⟩
   |none =>
    rw[z]at e;obtain⟨q1,q2⟩:=dk x c (by simpa using e);exact .inr ⟨q1,C.hf x q2⟩
  have dt:∀x c,x∈frees->cl.lookup x=J c->(cn++cl).lookup x=J c:=λx c hx e=>by
   rw[pP]
   cases z:cn.lookup x with
   |none=>simpa using e
   |some c' =>
    have:=C.cell _ ((ci x).mp ⟨c',PySem.mem_of_lookup z⟩) rfl
    rw[C.hf x hx]at this;cases this
  have old:∀x c,X.env.cells.lookup x=J c->c<E.heap.objs.size:=λx c e=>by
   obtain⟨v,qc⟩:=M.cell x c e;exact qc.lt
  have ok:(eU X f (cn++cl) E L fp (B++frees)).Ok:=by
   refine⟨M.ok.mod,C.kind,M.ok.glob,M.ok.blt,l_ _,λx y c h1 h2=>?_,λx hx=>?_,λx c hx e=>?_,M.ok.hd,M.ok.frames,.inl rfl,
    λb S=>⟨?_,λx c e z=>?_⟩,M.bs,oh M.ok.bsz M.sz,λb o e S=>?_,λb S z=>?_,M.stack,M.stkFree,M.ok.tree,M.ok.top⟩
   .rcases a3 x c h1 with⟨a1,_,a2,_⟩|⟨a1,_⟩<;>rcases a3 y c h2 with⟨b1,_,b2,_⟩|⟨b1,_⟩
    .exact PySem.name_of_addr br.apart a1 b1
    .exact absurd (Q0 a2 (old y c b1)) (Ez _)
    .exact absurd (Q0 b2 (old x c a1)) (Ez _)
    .exact M.ok.inj x y c a1 b1
   .
    have bm:(relabel f X.env).names.lookup x=J .cell\/(relabel f X.env).names.lookup x=J .free:=hx
    cases e:f.names.lookup x with
    |none =>
     exfalso;have nn:∀(l:List (Str×NameKind)),l.lookup x=Y->(l.map λ(n,k)=>if(k==NameKind.free&&X.env.scope.kind == .function&&X.env.kindOf n==J .cell)then(n,NameKind.cell)else(n,k)).lookup x=Y:=by
      intro l
      induction l with
      |nil=>intro _;rfl
      |cons y l ih =>
       intro hl;obtain⟨n,kk⟩:=y;rw[FM]at hl
       split at hl
       .cases hl
       .rename_i ft
        rw[k_];dsimp only
        split<;>(rw[FM];simp only[ft];exact ih hl)
     have e2:=nn f.names e;rcases bm with z|z
     .rw[show(relabel f X.env).names.lookup x=Y from e2]at z;cases z
     .rw[show(relabel f X.env).names.lookup x=Y from e2]at z;cases z
    |some kk =>
     have e2:=cZ (env:=X.env) M.ok.kind e;have hk:kk=.free\/kk=.cell:=by
      rcases bm with z|z
      .rw[show(relabel f X.env).names.lookup x=_ from e2]at z;have z':=Option.some.inj z;by_cases zz:kk=.free/\X.env.kindOf x=J .cell
       .exact .inl zz.1
       .rw[g_ zz]at z';exact .inr z'
      .rw[show(relabel f X.env).names.lookup x=_ from e2]at z;have z':=Option.some.inj z;by_cases zz:kk=.free/\X.env.kindOf x=J .cell
       .exact .inl zz.1
       .rw[g_ zz]at z';exact .inl z'
     rcases hk with hk|hk
     .subst hk;have hf:=C.all _ (PySem.mem_of_lookup e) rfl;obtain⟨c,h1,_⟩:=dV x hf;exact⟨c,dt x c hf h1⟩
     .subst hk;obtain⟨c,hc⟩:=(ci x).mpr (PySem.mem_of_lookup e);show ∃c,(cn++cl).lookup x=J c;rw[pP]
      cases z:cn.lookup x with
      |some c'=>exact⟨c',rfl⟩
      |none=>exact absurd hc (CY cn x z c)
   .have bm:=of_decide_eq_true hx;rcases a3 x c e with⟨_,_,q,_⟩|⟨_,q⟩
    .exact MF q
    .rw[q]at bm;cases bm
   .obtain⟨o,eo,_⟩:=ac.obj _ _ cc b S;exact zt (pa eo)
   .rcases a3 x c e with⟨_,_,q,_⟩|⟨q,_⟩
    .obtain⟨o,eo,_⟩:=ac.obj _ _ cc b S;exact absurd (Q0 q (z▸pa eo)) (Ez _)
    .exact (a8 b S).2.2.2.2.1 x c q z
   .obtain⟨_,_,_,h4,_⟩:=a8 b S;rcases h4 with h4|h4
    .exact M.ok.noex b o e h4
    .exact absurd (t_ (pa e) (oh M.ok.bsz h4)) (Ez _)
   .obtain⟨_,h2,h3,_⟩:=a8 b S;rcases nw.mp (M.stkSub b z)with e|e
    .exact h2 e
    .exact h3 e
  obtain⟨mX,g1,lX⟩:=M.loc;have gv:Le U H (U1++[F.heap.objs.size]) L:=l1.trans l3
  let ax:L2.St:=List.replicate B.length Y++fm.map λi=>(Z[i]?).getD Y
  have f4:fm.length=frees.length:=by have:=congrArg List.length C.fm;simpa using this
  have dv:Inv (eU X f (cn++cl) E L fp (B++frees)) [] ax L { E with heap:=h',toks:=E.toks}:=by
   refine⟨ok,rfl,M.bare,Un.kept O,⟨_,ec,λi x v hN hv gx=>?_⟩,λx c e=>?_,?_,λx c e=>?_,λp hp=>absurd (show p∈([]:WU)from hp) (by simp),M.hok.kept O,?_⟩
   .have db:(B++frees)[i]?=J x:=hN;have d1:B.length<=i:=by
     by_cases z:B.length<=i
     .exact z
     .exfalso;have as:ax[i]?=J (J v):=hv;rw[qr (by simp;ext),Jn]at as
      split at as<;>cases as
    have as:ax[i]?=J (J v):=hv;rw[Ek (by simpa using d1),Nc,se]at as;rw[Ek d1]at db
    cases ej:fm[i-B.length]? with
    |none=>rw[ej]at as;cases as
    |some j =>
     rw[ej]at as;have ef:=congrArg (λl=>l[i-B.length]?) C.fm;simp only[se,ej,db,Ib]at ef;have fa:N[j]?=J x:=by simpa using ef
     have ev:Z[j]?=J (J v):=by
      have:(Z[j]?).getD Y=J v:=by simpa using as
      cases z:Z[j]? with
      |none=>rw[z]at this;cases this
      |some o=>rw[z]at this;simp at this;rw[this]
     have hx:x∈frees:=x3 db;have eu:MK X.env.scope x:=.inr (.inl (C.cl x hx));obtain⟨u,ru,de⟩:=lX j x v (by rw[g.hN];exact fa) ev eu;refine⟨u,ru,.inr ⟨?_,?_⟩⟩
     .left;show(relabel f X.env).names.lookup x=J .cell
      have:=cZ (env:=X.env) M.ok.kind (C.hf x hx)
      rw[c_ ⟨rfl,C.cl x hx⟩]at this;exact this
     .rcases de with⟨hk,_⟩|⟨_,c,hc,c4⟩
      .rw[C.cl x hx]at hk;cases hk
      .obtain⟨c',h1,h2⟩:=dV x hx;rw[hc]at h2;cases h2;obtain⟨o,eo,ed⟩:=c4;exact⟨c,dt x c hx h1,o,O _ _ eo,ed⟩
   .rcases a3 x c e with⟨_,_,_,q⟩|⟨q,_⟩
    .exact⟨Y,q⟩
    .obtain⟨v,o,eo,ed⟩:=M.cell x c q;exact⟨v,o,O _ _ eo,ed⟩
   .exact M.hok.fresh (l_ _)
   .rcases a3 x c e with⟨_,_,q,_⟩|⟨q,_⟩
    .exact M.hok.fresh (MF q)
    .exact M.freeC x c q
   .show ax.length=(B++frees).length;simp[ax,f4]
  have gY:Good (eU X f (cn++cl) E L fp (B++frees)) (B++frees) B G' k:=by
   refine⟨rfl,nd,λx hx=>?_,λx hx=>?_,λx hx=>?_,dbg,g.calm,g.room,PassesOwn.never⟩
   .rcases DY.mp hx with z|z
    .rcases C.hv x z with z|z
     .left
      have:=cZ (env:=X.env) M.ok.kind z
      rw[g_ (λq=>nomatch q.1)]at this;exact this
     .right
      have:=cZ (env:=X.env) M.ok.kind z
      rw[g_ (λq=>nomatch q.1)]at this;exact this
    .right
     have:=cZ (env:=X.env) M.ok.kind (C.hf x z)
     rw[c_ ⟨rfl,C.cl x z⟩]at this;exact this
   .rcases C.hv x hx with z|z
    .right
     have:=cZ (env:=X.env) M.ok.kind z
     rw[g_ (λq=>nomatch q.1)]at this;exact this
    .exact .inl (decide_eq_true z)
   .have:=cZ (env:=X.env) M.ok.kind (eC x hx)
    rw[g_ (λq=>nomatch q.1)]at this;exact this
  obtain⟨hg,ht,he⟩:=hY (eU X f (cn++cl) E L fp (B++frees)) rfl rfl rfl rfl rfl rfl gY;have fg:RS X.K (U1++[F.heap.objs.size]) L (Fm B.length fm ai) ax:=by
   refine⟨by simp[ax,Fm],λi v e=>?_⟩;unfold Fm at e;by_cases z:B.length<=i
   .rw[Ek (by simpa using z),Nc,se]at e
    cases ej:fm[i-B.length]? with
    |none=>rw[ej]at e;cases e
    |some j =>
     rw[ej]at e;have ev:ai[j]?=J (J v):=by
      have:(ai[j]?).getD Y=J v:=by simpa using e
      cases z:ai[j]? with
      |none=>rw[z]at this;cases this
      |some o=>rw[z]at this;simp at this;rw[this]
     obtain⟨v',e',rv⟩:=rs.2 j v ev;refine⟨v',?_,rv.le gv⟩;show ax[i]?=_;rw[Ek (by simpa using z),Nc,se,ej];simp[e']
   .rw[qr (by simp;ext),Jn]at e
    split at e<;>cases e
  have q3:Ful X (RV' X) ai (U1++[F.heap.objs.size]) L ((B_ it h1.length gt mt me it.xs (Fm B.length fm ai) (h1++[.lst []])).bind λ_ h3=>.ok (.loc h1.length) h3) Q:=Ful.le l3 q1;have b3:(U1++[F.heap.objs.size])[h1.length]?=J F.heap.objs.size:=by rw[<-cp.len];simp
  have cv:∀b5:Shared,b5={ E with heap:=h',toks:=E.toks}->codeAny (model X.prog X.w) X.A (.compLoop (.ListComp cd [⟨tg,ar,ck,0⟩] f c3) 0 (.ref er) (.ref F.heap.objs.size) (compEnvC f (cn++cl) E.heap.objs.size X.env))
    (compPost (model X.prog X.w) X.A X.xe use Qv (.ref F.heap.objs.size) E.heap.objs.size) b5:=by
   rintro b5 rfl;refine vm (CI X (eU X f (cn++cl) E L fp (B++frees)) it tn fp (U1++[F.heap.objs.size]) L ai h1.length gt mt me Q) ?_ it.xs.length
    ⟨0,ax,L,_,_,_,rfl,Eo _,dv,ac.keep _ _ _ cc (λb _ o e=>O b o e),λb S=>(a8 b S).1,Le.refl _ _,fg,ek,by simpa using q3⟩
   intro n s6 J6;refine lp λP z=>?_;obtain⟨i,Z6,H6,U6,b0,h6,rfl,g5,I6,el,ei,l6,ga,c6,q6⟩:=J6;have a9:∀{H':Hp},(∀b∈fp,H' b=Y)->∀b∈fp,jF (eU X f (cn++cl) E L fp (B++frees)) [] H' b:=λ{H'} hn b S =>
    ⟨hn b S,(ok.exf b S).1,ok.exfs b S,.inl S,(ok.exf b S).2,λp hp=>absurd (show p∈([]:WU)from hp) (by simp)⟩
   by_cases b6:i<it.xs.length
   .have ed:it.xs.drop i=it.xs[i]::it.xs.drop (i+1):=QH b6;rw[ed]at q6;simp only[B_]at q6;by_cases hok:it.ok h6
    .rw[c_ hok]at q6;obtain⟨j1,_⟩:=jr U6 H6 h6 i (l3.trans l6) c6 hok;obtain⟨go,yl⟩:=j1 b6;refine z (mf (ac.item (eU X f (cn++cl) E L fp (B++frees)) rfl rfl rfl g.calm i [] s6 Z6 H6 (λ_ _=>False) I6 (a9 ei) el go) λr s7 f0=>?_);obtain⟨u,hr,h7⟩:=f0;subst hr;refine mf h7 λ_ s8 fo=>lp λP z=>?_;obtain⟨x8,H8,I8,r8,y8,cQ,gp⟩:=fo;obtain⟨U8,x,l8,f5,ex,rx⟩:=yl x8 H8 y8;have ez:x=it.xs[i]:=by rw[yZ b6]at ex;exact(Option.some.inj ex).symm
     subst ez;have f3:=I8.pinned (a9 gp) (ac.obj _ _ cQ);have q8:=Ful.le l8 q6;have back:∀{Z9:L2.St}{H9:Hp}{s9:Shared},Inv (eU X f (cn++cl) E L fp (B++frees)) ([]++m8 fp s8.heap) Z9 H9 s9->Inv (eU X f (cn++cl) E L fp (B++frees)) [] Z9 H9 s9/\tn (i+1) s9.heap/\∀b∈fp,H9 b=Y:=λ{Z9 H9 s9} I9=>by
      refine⟨I9.unpinned,ac.keep _ _ _ cQ λb S o e=>(I9.pin (b,o) (xn _ (xn _ (i8 S e)))).1,λb S=>?_⟩;obtain⟨o,e,d⟩:=ac.obj _ _ cQ b S;exact(I9.pin (b,o) (xn _ (xn _ (i8 S e)))).2.1
     cases eg:gt it.xs[i] b0 h6 with
     |nx R h9 =>
      rw[eg]at q8;dsimp only at q8
      refine z (mf (hg _ s8 Z6 H8 x8 u (λZ' H'=>∃U',Le U8 H8 U' H'/\RH X.K X.mg U' H' h9/\RS X.K U' H' R Z') f3 r8 ⟨U8,b0,h6,_,ga.le l8,f5,rx,by
       show qj _ _ _ (gt it.xs[i] b0 h6) _
       rw[eg];exact λU' H' Z' l r s=>⟨U',l,r,s⟩⟩) λ_ s9 f8=>lp λP z=>?_)
      obtain⟨Z9,H9,I9,U9,l9,gn,cm⟩:=f8;have q9:=Ful.le l9 q8
      cases em:mt R h9 with
      |ok b aF =>
       rw[em,Out.ne_ok]at q9;rw[Out.bind_ok]at q9
       refine z (mf (ht _ s9 Z9 H9 (λb' H'=>b'=b/\∃U',Le U9 H9 U' H'/\RH X.K X.mg U' H' aF) I9 ⟨U9,R,h9,cm,gn,by
        show Ful _ _ _ _ _ (mt R h9) _
        rw[em];exact λU' H' v' l r e=>⟨e.symm,U',l,r⟩⟩) λb' f6 fl=>?_)
       obtain⟨c2,eh,eb,cy,a7,cx⟩:=fl;subst eb;have ak:=Ful.le a7 q9
       cases b' with
       |false =>
        rw[g_ Ng]at ak ⊢;obtain⟨dq,ep,en⟩:=back eh;exact⟨_,by ext,i+1,Z9,c2,cy,R,aF,rfl,b6,dq,ep,en,l6.trans (l8.trans (l9.trans a7)),cm.le a7,cx,ak⟩
       |true =>
        rw[c_ rfl]at ak ⊢;refine lp λP z=>?_
        cases ee:me R aF with
        |ok v d2 =>
         rw[ee,Out.ne_ok]at ak;rw[Out.bind_ok]at ak
         refine z (mf (he _ f6 Z9 c2 (λv' H'=>∃U',Le cy c2 U' H'/\RH X.K X.mg U' H' d2/\RP X.K U' H' v v') eh ⟨cy,R,aF,cm.le a7,cx,by
          show Ful _ _ _ _ _ (me R aF) _
          rw[ee];exact λU' H' v' l r e=>⟨U',l,r,e⟩⟩) λeF gk gs=>lp λP z=>?_)
         obtain⟨v',da,f1,dF,ea,c7,cw,dr⟩:=gs;have ay:=Ful.le c7 ak;have b4:Le (U1++[F.heap.objs.size]) L ea da:=l6.trans (l8.trans (l9.trans (a7.trans c7)));obtain⟨oa,f7,ew⟩:=cw.obj (b4.get b3);rw[f7]at ay
         cases oa with
         |dic fz ks xs=>exact ay.elim
         |exc x=>exact ay.elim
         |lst ys =>
          dsimp only at ay;by_cases ca:ys.length<sizeLine
          .rw[c_ ca]at ay;obtain⟨cB,ey,ry⟩:=ew;obtain⟨d5,dc⟩:=cw.put (b4.get b3) (o:=.lst (ys++[v])) (ho:=.lst (cB++[v'])) ⟨_,rfl,ry.append (.cons dr .nil)⟩;have ap:=tR (X:=eU X f (cn++cl) E L fp (B++frees)) _ gk Z9 da (.ref F.heap.objs.size) [v'] (.ref F.heap.objs.size) [eF] (λ_ H'=>H'=mj da F.heap.objs.size (.lst (cB++[v']))) f1 rfl (.cons dF .nil) ⟨F.heap.objs.size,cB,v',rfl,rfl,ey,by rw[<-ry.length];exact ca,rfl⟩;refine z (mf ap λ_ hj fx=>lp λP z=>?_);obtain⟨_,hh,gg,_,eH⟩:=fx;subst eH;obtain⟨df,dn,di⟩:=back gg;exact z ⟨_,by ext,i+1,Z9,_,ea,R,_,rfl,b6,df,dn,di,b4.trans dc,(cm.le a7).le (c7.trans dc),d5,Ful.le dc ay⟩
          .rw[g_ ca]at ay;exact ay.elim
        |exc x d2=>rw[ee]at ak;exact ak.elim
        |bad=>rw[ee]at ak;exact ak.elim
      |exc x aF=>rw[em]at q9;exact q9.elim
      |bad=>rw[em]at q9;exact q9.elim
     |_=>rw[eg]at q8;exact q8.elim
    .rw[g_ hok]at q6;exact q6.elim
   .have e:i=it.xs.length:=by ext
    rw[e,List.drop_length]at q6;simp only[B_]at q6;by_cases hok:it.ok h6
    .rw[c_ hok]at q6;obtain⟨_,j2⟩:=jr U6 H6 h6 i (l3.trans l6) c6 hok;refine z (mf (ac.done (eU X f (cn++cl) E L fp (B++frees)) rfl rfl rfl g.calm i [] s6 Z6 H6 (λ_ _=>False) I6 (a9 ei) el (j2 (by ext))) λr s7 e8=>?_);obtain⟨hr,I7⟩:=e8;subst hr;obtain⟨m7,fv,_⟩:=I7.loc;have IX:=M.call' (s':=s7) (ch:=fp) I7.os I7.base I7.hok I7.bare λb S=>by
      obtain⟨_,a2,_,a4,a5,a6⟩:=a8 b S;exact⟨a4,a2,a5,a6⟩
     exact fin _ _ H6 s7 m7 IX I7.free fv (Ev M.lt) M.sz (M.nofs (l_ _)) (λx c e z=>by
      obtain⟨v,qc⟩:=M.cell x c e
      exact absurd qc.lt (by rw[z];exact Ez _)) (λp hp z=>absurd (pa (M.pin p hp).1) (by rw[z];exact Ez _)) (q6 U6 H6 _ (Le.refl _ _) c6 (.loc (l6.get b3)))
    .rw[g_ hok]at q6;exact q6.elim
  exact codeAny_compStart_list (cv _ rfl) (ac.self X.A 0 _ _ _ (ac.keep _ _ _ cc (λb _ o e=>O b o e)) (cv _ rfl))
 exact dd
def rQ(g:Good X N W G k){z j l:Expr}{u:WX}{i:Scope}{M:Pos}{f frees L:WM}{fm:WQ}{S:Mx MIt}{R:Mg}{mt:Mx Bool}{P:Mx PV}(C:CA X N i f frees fm)(nd:(f++frees).Nodup)(y:∀x∈L,i.names.lookup x=J .globalImplicit)(dbg:∀x∈(f++frees)++L,(x==("__debug__":Str))=T/\(x==("__classdict__":Str))=T/\x≠"__name__")(hi:MI X z j S)(U:∀a:Cx,a.prog=X.prog->a.w=X.w->a.K=X.K->a.mg=X.mg->a.base=X.base->a.env.scope=relabel i X.env->Good a (f++frees) f L k->MG a z R/\FF a u mt/\ME a l P)(hs:∀x,foldedSetIterable j X.env x=pure x:=by intro _;rfl):ME X (.ListComp l [⟨z,j,u,0⟩] i M) (ce f.length fm S R mt P):=by
 intro Oz s Z H Q F tm;refine sW g C nd y dbg hi U hs F tm λO D H6 s7 m7 IX hC ns hL hz ac E hp q=>?_;refine⟨m7,ns,λai B=>⟨.ref O,H6,?_,rfl,q⟩⟩;exact IX.turned (t':=s7.toks) (λb o hb e=>B.extBut b o hb e) hC hL (.inr hz) E hp
def rS(g:Good X N W G k)(i:Nat){y:Str}{py B:Pos}{Q u L:Expr}{F:WX}{a:Scope}{M:Pos}{j frees G':WM}{fm:WQ}{mi:Mx MIt}{gt:Mg}{mt:Mx Bool}{me:Mx PV}(O:N[i]?=J y)(hw:W[i]?=J y)(ak:swapsWith (.ListComp L [⟨Q,u,F,0⟩] a M) (J (.Name y py)) B.line X.env=pure I)(C:CA X N a j frees fm)(nd:(j++frees).Nodup)(ap:∀x∈G',a.names.lookup x=J .globalImplicit)(dbg:∀x∈(j++frees)++G',(x==("__debug__":Str))=T/\(x==("__classdict__":Str))=T/\x≠"__name__")(hi:MI X Q u mi)(hY:∀f:Cx,f.prog=X.prog->f.w=X.w->f.K=X.K->f.mg=X.mg->f.base=X.base->f.env.scope=relabel a X.env->Good f (j++frees) j G' k->MG f Q gt/\FF f F mt/\ME f L me)(hs:∀x,foldedSetIterable u X.env x=pure x:=by intro _;rfl):MS X (.Assign [.Name y py] (.ListComp L [⟨Q,u,F,0⟩] a M) B) (b9 i (ce j.length fm mi gt mt me)):=by
 intro Oz s Z H D ar tm;obtain⟨U,R,h,rs,rh,q⟩:=tm;rw[exec_Assign_Name_used _ _ _ _ ak];refine f_ (wpAny_standAt (f_ ?_))
 refine f_ (wpAny_mono (sW g C nd ap dbg hi hY hs ar
  ⟨U,R,h,rs,rh,bD.ex q λU1 H1 v v' h1 l r z w=>w U1 H1 _ (Le.refl _ _) r ((rs.le l).set i z)⟩ λE P H6 s7 m7 IX hC ns hL hz ai ac hp q6=>?_) (λ_ s' hq=>nc (nc hq)) λ_ _ e=>e)
 .obtain⟨o,es,ep,ho,hd,hr⟩:=id ns;have IP:Inv X (Oz++[(P,o)]) Z H6 s7:=IX.pins_of λp as=>(DY.mp as).elim (λz=>IX.pin p (xn _ z)) λz=>by
   have e:p=(P,o):=by simpa using z
   subst e;exact⟨ho,hC,hL,ai,λv z=>by rw[hd]at z;cases z⟩
  have st:=ya (pos:=py) (by rw[g.hN];exact g.nd) (g.x O) (g.loc y (aO O)) (g.fn y (aO hw)) (Oz++[(P,o)]) s7 Z H6 (.ref E) (.ref E) (λZ' H'=>Z'=Z.set i (J (.ref E))/\H'=H6) IP rfl ⟨rfl,rfl⟩;refine mf st λ_ s8 S=>?_;obtain⟨Z8,H8,I8,e1,e2⟩:=S;subst e1;subst e2;have pn:=I8.pin (P,o) (xn _ (xn _ (by simp)));refine⟨m7,⟨o,es,ep,pn.1,hd,hr⟩,λax al=>⟨_,_,?_,q6⟩⟩;exact(I8.unpinned).turned (t':=s8.toks) (λb o hb e=>al.extBut b o hb e) hC hL (.inr hz) ac hp
end
@[inline]abbrev jE:WT:=[.type "ValueError",.type "Exception",.type "BaseException",.type "object"]
section
variable{X:Cx}{N W G:WM}{k:Nat}
def rV{M:Model}{A:Around}{E:WE}{h:Heap}{gn:Array GenState}{d:Drawn}{t:Nat}{os:OsState}{ea C D N1 N2:Addr}{oe:Obj}{P q1 O q2:Str}{U y Z a:WT}{al L:Bool}{R H:WM}{B u:WT}{ai ac:Bool}{z i:Option Bool}{F ak:WK}{a0 a1 a2 a3 a5 b0 b1 b2 b3 b5:WV}{n1 n2:String}{Q:Bool->Shared->Prop}(hC:h.get? C=J (excClassObj P q1 C N1 U y al R B ai z F a0 a1 a2 a3 a5 n1))(hD:h.get? D=J (excClassObj O q2 D N2 Z a L H u ac i ak b0 b1 b2 b3 b5 n2))(he:h.get? ea=J oe)(l:oe.cls=.ref C)(hB:a.contains (.type "BaseException")=I)(j:(Value.ref C::y).contains (.ref D)=I)(hq:Q I ⟨h,gn,d,t,os⟩):wpAny M A (excMatches (.ref ea) (.ref D)) Q E ⟨h,gn,d,t,os⟩:=by
 have S:(Value.ref D::a).contains (.type "BaseException")=I:=by rw[List.contains_cons,hB,Sj]
 have f:=tc_notTuple
 repeat (first | (rw[l]) | with_reducible refine wpAny_loadPart_at hD ?_ | (with_reducible refine wpAny_isSubtype_exc hD ?_;rw[S]) | (with_reducible refine wpAny_isSubtype_exc hC ?_;rw[j]) | wp_step)
 exact hq
end
section
variable{X:Cx}{N W G:WM}{k:Nat}{Z:L2.St}{H:Hp}{s:Shared}
abbrev sH(X:Cx)(Oz:WU)(E:WE):Cx:={ X with pn:=X.pn++Oz,xe:=E}
def KQ(ok:X.Ok):(sH X Oz E).Ok :=
 ⟨ok.mod,ok.kind,ok.glob,ok.blt,ok.above,ok.inj,ok.has,ok.cab,ok.hd,ok.frames,ok.stk,ok.exf,ok.bs,ok.bsz,ok.noex,ok.exfs,ok.funs,ok.frf,ok.tree,ok.top⟩
def Cg(ok:(sH X Oz E).Ok):X.Ok :=
 ⟨ok.mod,ok.kind,ok.glob,ok.blt,ok.above,ok.inj,ok.has,ok.cab,ok.hd,ok.frames,ok.stk,ok.exf,ok.bs,ok.bsz,ok.noex,ok.exfs,ok.funs,ok.frf,ok.tree,ok.top⟩
def Inv.toPin(a:Inv X Oz Z H s):Inv (sH X Oz E) [] Z H s :=
 ⟨KQ a.ok,a.os,a.bare,a.base,a.loc,a.cell,a.free,a.freeC,λp f=>a.pin p (by simpa using f),a.hok,a.len⟩
def Inv.ofPin(a:Inv (sH X Oz E) [] Z H s):Inv X Oz Z H s :=
 ⟨Cg a.ok,a.os,a.bare,a.base,a.loc,a.cell,a.free,a.freeC,λp f=>a.pin p (by simpa using f),a.hok,a.len⟩
def rj{h a:Heap}{c:Addr}{v:WV}(f:h.UpToSlots a)(q:h.IsCell c v):a.IsCell c v:=by obtain⟨o,e,d⟩:=q;obtain⟨l,i⟩:=f c o e (λj z=>by rw[d]at z;cases z);exact⟨_,i,d⟩
def Inv.flown(f:Inv X [] Z H s){B h' P:Heap}(hB:B.StaysIn s.heap)(Q:B.StaysIn h')(M:s.heap.UpToSlots h')(O:Ff X P)(L:Va B (DS X.stack) P)(U:∀b o,H b=J o->∃j,B.get? b=J j):Inv X [] Z H { s with heap:=h'}:=by
 have kp:∀b o j,B.get? b=J j->s.heap.get? b=J o->h'.get? b=J o:=λb o j e1 e2=>by
  have:=vj hB e1 e2
  subst this;exact Q b j e1
 have nl:∀b o,X.s₀.heap.get? b=J o->b≠X.env.locals:=λb o e z=>absurd (t_ (pa e) f.ok.above) (by rw[z];exact Ez _);have E:∀b o,X.s₀.heap.get? b=J o->b∉X.fs->b∉X.ex->∃j,B.get? b=J j:=λb o e hf l=>by
  obtain⟨o',e'⟩:=O.old b o e l;refine L b o' e' λhm=>?_;rcases nw.mp (f.stkSub b hm)with z|z
  .exact nl b o e z
  .exact hf z
 obtain⟨m,hn,hl⟩:=f.loc;have S:∀b o,X.s₀.heap.get? b=J o->b∈X.fs->∀C,o.data≠.fields C:=λb o e hf C z=>by
  obtain⟨_,oF,eF,dF⟩:=f.ok.funs.mem hf;rw[e]at eF;cases eF;exact dF C z
 refine⟨f.ok,f.os,f.bare,⟨λb o e n hf l=>?_,λb o e n hf l=>?_,f.base.free,λb o e l=>?_,f.base.tups,f.base.frzs,f.base.tbls⟩,⟨m,M.ns hn,λi x v e1 e2 e3=>?_⟩,λx c e=>?_,f.free,f.freeC,λp hp=>?_,λa o e=>?_,f.len⟩
 .obtain⟨j,y⟩:=E b o e hf l;exact kp b o j y (f.base.keep b o e n hf l)
 .obtain⟨sl,e1⟩:=f.base.slot b o e n hf l;obtain⟨F,e2⟩:=M b _ e1 (λC z=>S b o e hf C z);exact⟨F,e2⟩
 .by_cases hf:b∈X.fs
  .obtain⟨sl,e1⟩:=f.base.slot b o e (f.ok.frf b hf) hf l;obtain⟨F,e2⟩:=M b _ e1 (λC z=>S b o e hf C z);exact⟨_,e2⟩
  .obtain⟨j,y⟩:=E b o e hf l;exact⟨j,Q b j y⟩
 .obtain⟨u,ru,R⟩:=hl i x v e1 e2 e3;refine⟨u,ru,?_⟩;rcases R with z|⟨z1,c,z2,z3⟩
  .exact .inl z
  .exact .inr ⟨z1,c,z2,rj M z3⟩
 .obtain⟨v,q⟩:=f.cell x c e;exact⟨v,rj M q⟩
 .obtain⟨e,n,ne,nf,d⟩:=f.pin p hp;refine⟨?_,n,ne,nf,d⟩;have ac:p∈X.pn:=by simpa using hp
  obtain⟨o',e'⟩:=O.pin p ac;obtain⟨j,y⟩:=L p.1 o' e' λhm=>by
   rcases nw.mp (f.stkSub p.1 hm)with z|z
   .exact ne z
   .exact nf z
  exact kp p.1 p.2 j y e
 .refine (f.hok a o e).stay (λb u hb z=>?_) (λ_ z=>z) λ_ _ z=>z;rcases hb with rfl|hb
  .obtain⟨j,y⟩:=U _ _ e;exact kp _ u j y z
  .obtain⟨j,y⟩:=U _ _ hb;exact kp _ u j y z
def Inv.track(f:Inv X C Z H s)(E:H a=Y)(S:X.s₀.heap.get? a=Y)(hL:a≠X.env.locals)(P:∀x c,X.env.cells.lookup x=J c->c≠a)(O:∀p∈X.pn++C,p.1≠a)(l:ObjOk X.prog X.w (mj H a (.ext φ)) s.heap a (.ext φ)):Inv X C Z (mj H a (.ext φ)) s:=by
 have y:∀b o,X.s₀.heap.get? b=J o->b≠a:=λb o e z=>by rw[z,S]at e;cases e
 have t:∀b u,H b=J u->mj H a (.ext φ) b=J u:=λb u e=>by rw[aN (bR e E)];exact e
 refine⟨f.ok,f.os,f.bare,⟨f.base.keep,f.base.slot,λb o e n L=>by rw[aN (y b o e)];exact f.base.free b o e n L,f.base.there,λb xs e=>t b _ (f.base.tups b xs e),λb o u e=>t b _ (f.base.frzs b o u e),λb Q e=>?_⟩,
  f.loc,f.cell,by rw[aN (Ne.symm hL)];exact f.free,λx c e=>by rw[aN (P x c e)];exact f.freeC x c e,λp i=>?_,λb u e=>?_,f.len⟩
 .obtain⟨j,U⟩:=f.base.tbls b Q e;exact⟨j,t b _ U⟩
 .obtain⟨R,F,M⟩:=f.pin p i;exact⟨R,by rw[aN (O p i)];exact F,M⟩
 .by_cases B:b=a
  .subst B;rw[ba]at e;cases e;exact l
  .rw[aN B]at e;exact(f.hok b u e).stay (λc v _ q=>q) (λc q=>t c _ q) λc xs q=>t c _ q
end
def pB(hf:∀v d,f v=J d->d.depth<=n/\d.hasDict=T):∀{xs:WL}{a:List PyData},du f xs=J a->PyData.depthAll a<=n/\PyData.hasDictAll a=T
 |[],a,e=>by cases e;simp[PyData.depthAll,PyData.hasDictAll]
 |x::r,a,e=>by
  simp only[du]at e
  split at e
  .rename_i d i e1 e2
   cases e;obtain⟨u,l⟩:=hf _ _ e1;obtain⟨y,j⟩:=pB hf e2;simp only[PyData.depthAll,PyData.hasDictAll,l,j];exact⟨⋯,rfl⟩
  .cases e
def vS:∀(n:Nat)(v:PV)(d:PyData),rd n h v=J d->d.depth<=n/\d.hasDict=T
 |0,v,d,e=>by
  cases v<;>simp only[rd]at e<;>cases e<;>simp[PyData.depth,PyData.hasDict]
 |n+1,v,d,e=>by
  have i:∀xs,(∀f,du (rd n h) xs=J f->PyData.depthAll f<=n/\PyData.hasDictAll f=T):=λxs f=>pB (vS n)
  cases v with
  |non=>cases e;simp[PyData.depth,PyData.hasDict]
  |bl b=>cases e;simp[PyData.depth,PyData.hasDict]
  |int b=>cases e;simp[PyData.depth,PyData.hasDict]
  |str b=>cases e;simp[PyData.depth,PyData.hasDict]
  |tup xs =>
   simp only[rd,Bi]at e;obtain⟨f,e1,rfl⟩:=e;obtain⟨a,b⟩:=i xs f e1;exact⟨by simp only[PyData.depth];lia,by simp only[PyData.hasDict,b]⟩
  |frl xs =>
   simp only[rd,Bi]at e;obtain⟨f,e1,rfl⟩:=e;obtain⟨a,b⟩:=i xs f e1;exact⟨by simp only[PyData.depth];lia,by simp only[PyData.hasDict,b]⟩
  |loc m =>
   simp only[rd]at e
   split at e
   .rename_i xs _
    simp only[Bi]at e;obtain⟨f,e1,rfl⟩:=e;obtain⟨a,b⟩:=i xs f e1;exact⟨by simp only[PyData.depth];lia,by simp only[PyData.hasDict,b]⟩
   .cases e
def uD{p:Str->Prop}{a:Str}{l:WM}(h:p a)(t:∀x∈l,p x):∀x∈a::l,p x:=λx f=>by
 rcases nw.mp f with rfl|z
 .exact h
 .exact t x z
section
variable{X:Cx}{N W G:WM}{k:Nat}
def Cal.at(e1:a.prog=X.prog)(e2:a.w=X.w)(e3:a.K=X.K)(e4:a.mg=X.mg)(e5:a.base=X.base)(c:Cal X x ps F i):Cal a x ps F i:=c.to e1 e2 e3 e4 e5
end
def KR(f:X.env.scope=sc)(G:scope.kind=.function)(u:∀y∈scope.names,y.2=.cell->scope.names.lookup y.1=J .cell)(F:∀y∈scope.names,y.2=.local->scope.names.lookup y.1=J .local)(E:∀x∈a,scope.names.lookup x=J .local\/scope.names.lookup x=J .cell)(C:∀x∈frees,scope.names.lookup x=J .free)(z:∀y∈scope.names,y.2=.free->y.1∈frees)(B:fm.map (λi=>N[i]?)=frees.map J)(j:∀x∈frees,sc.names.lookup x=J .cell):CA X N scope a frees fm :=
 ⟨G,u,F,E,C,z,B,λx l=>by rw[<-f]at j;exact j x l⟩
section
variable{Z:pq}{h:MH}
@[simp]theorem jL{nv:Nat}{fm:WQ}{mi:Mx MIt}{gt:Mg}{mt:Mx Bool}{me:Mx PV}:ce nv fm mi gt mt me Z h =
 (mi Z h).bind λit h1=>(B_ it h1.length gt mt me it.xs (Fm nv fm Z) (h1++[.lst []])).bind λ_ h3=>.ok (.loc h1.length) h3:=rfl
def lg{a:MIt}{n:Nat}{i:Mg}{mt:Mx Bool}{f:Mx PV}(e:a.ok h):B_ a n i mt f [] Z h=.ok () h:=by rw[B_,c_ e]
def kT{i:MIt}{n:Nat}{f:Mg}{mt:Mx Bool}{a:Mx PV}{x v:PV}{r ys:WL}{Z1:pq}{h1 h2 h3:MH}(e:i.ok h)(u:f x Z h=.nx Z1 h1)(l:mt Z1 h1=.ok I h2)(j:a Z1 h2=.ok v h3)(z:h3[n]?=J (.lst ys))(y:ys.length<1000):
  B_ i n f mt a (x::r) Z h=B_ i n f mt a r Z1 (h3.set n (.lst (ys++[v]))):=by
 rw[B_,c_ e,u];simp only[l,Out.ne_ok,Out.bind_ok,if_true,j,z];rw[c_ (t_ y (by decide))]
def Ir{o:MO}{g:MH}:(h++o::g)[h.length]?=J o:=by simp
def Ol{g:MH}{n:Nat}{o:MO}(e:h[n]?=J o):(h++g)[n]?=J o:=by rw[qr (pf.mp e).1];exact e
end
def Iu(f:Nat->WL->MH->WZ)(m:Mx PV)(l:Mx (WL)):Mx PV:=λZ h=>(m Z h).bind λo a=>match o with
 |.loc n=>(match a[n]? with
  |some (.lst _)=>(l Z a).bind λj i=>(f n j i).ne
  |_=>.bad)
 |_=>.bad
def ia(n:Nat)(a:WL)(h:MH):WZ:=match a,h[n]? with
 |[v],J (.lst xs)=>if xs.length<sizeLine then .ok .non (h.set n (.lst (xs++[v])))else .bad
 |_,_=>.bad
def kM(n:Nat)(a:WL)(h:MH):WZ:=match a with
 |[.loc m]=>(match h[n]?,h[m]? with
  |some (.lst xs),J (.lst ys)=>if xs.length+ys.length<=sizeLine then .ok .non (h.set n (.lst (xs++ys)))else .bad
  |_,_=>.bad)
 |[.tup ys]=>(match h[n]? with
  |some (.lst xs)=>if xs.length+ys.length<=sizeLine then .ok .non (h.set n (.lst (xs++ys)))else .bad
  |_=>.bad)
 |_=>.bad
section
variable{X:Cx}{N W G:WM}{k:Nat}
def MV(X:Cx)(f:Nat->WL->MH->WZ):V->List V->Hp->VK->Prop:=λx j H Q=>∃U h n a i,x=.ref a/\U[n]?=J a/\RH X.K X.mg U H h/\RPs X.K U H i j/\kF X (RV' X) U H (f n i h) Q
def tP:MN X "list.append" (MV X ia):=by
 intro F s Z H x vs v P Q f B C ⟨U,h,n,a,S,e,u,y,rp,q⟩;subst e;obtain⟨o,R,L⟩:=y.obj u;unfold ia at q
 cases rp with
 |nil=>exact q.elim
 |cons M z =>
  cases z with
  |cons _ _=>exact q.elim
  |nil =>
   rw[R]at q
   cases o with
   |lst xs =>
    dsimp only at q;by_cases j:xs.length<sizeLine
    .rw[c_ j]at q;obtain⟨ys,O,l⟩:=L;obtain⟨i,E⟩:=y.put u (o:=.lst (xs++[_])) ⟨_,rfl,l.append (.cons M .nil)⟩;exact tR F s Z H _ _ v P Q f B C ⟨a,ys,_,rfl,rfl,O,by rw[<-l.length];exact j,q U _ .non E i .non⟩
    .rw[g_ j]at q;exact q.elim
   |_=>exact q.elim
def uh(l b:Addr)(f:Array Value)(n:Nat)(a:Array Value)(j:¬(!f.isEmpty&&Builtin.List.listTooLong (f.size+a.size))=I)(u:f.size<=sizeLine)(y:f.size+a.size<=sizeLine+1):
  Meets (Builtin.«list.extend» ⟨[.ref l,.ref b],[]⟩) (λ_ R s=>s.heap.get? l=J { cls:=.type "list",data:=.seq f n}/\IsTup s.heap b a/\R (.ok (.ret Value.none)) { s with heap:=s.heap.update l (Obj.mapSeq λx=>x++a),toks:=s.toks}):=by
 intro prog w A R s ⟨z,⟨o,B,C,F,hd⟩,h⟩;have i:(f++a).size<=sizeLine+1:=by rw[Array.size_append];exact y
 show wpAny _ A.in1 (Builtin.List.listExtendWith (.ref l) (.ref b) .none) _ _ s;refine f_ (wpAny_typeOf ⟨o,B,C⟩ ?_);have E:(Builtin.List.listSameRef (.ref l) (.ref b)||Value.type "tuple" == Value.type "list" || Value.type "tuple" == Value.type "tuple")=I:=by simp
 simp only[E];refine f_ ?_;refine f_ (wpAny_seqItems B hd (nc ?_));refine f_ ?_;refine f_ (wpAny_seqItems z rfl (nc ?_));simp only[j];refine f_ (wpAny_updateSeq z rfl ?_ (hz:=u) (_hz':=i));exact nc h
def A6:MN X "list.extend" (MV X kM):=by
 intro Oz s Z H x vs v us Q j rx rv ⟨U,h,n,a,ps,e,en,M,rp,q⟩;subst e;obtain⟨o,eo,ro⟩:=M.obj en;unfold kM at q
 cases rp with
 |nil=>exact q.elim
 |cons r1 t1 =>
  cases t1 with
  |cons _ _=>cases r1<;>exact q.elim
  |nil =>
   cases r1 with
   |@loc m b em =>
    obtain⟨o2,ac,S⟩:=M.obj em;dsimp only at q;rw[eo,ac]at q
    cases o with
    |lst xs =>
     cases o2 with
     |lst E =>
      dsimp only at q;by_cases B:xs.length+E.length<=sizeLine
      .rw[c_ B]at q;obtain⟨ys,L,C⟩:=ro;obtain⟨O,ew,rw'⟩:=S;obtain⟨y,R⟩:=M.put en (o:=.lst (xs++E)) ⟨_,rfl,C.append rw'⟩;exact Al Oz s Z H _ _ v us Q j rx rv ⟨a,b,ys,O,rfl,rfl,L,ew,by rw[<-C.length,<-rw'.length];exact B,q U _ .non R y .non⟩
      .rw[g_ B]at q;exact q.elim
     |_=>exact q.elim
    |_=>exact q.elim
   |@tup E a2 O sq rr =>
    rw[eo]at q
    cases o with
    |lst xs =>
     dsimp only at q;by_cases B:xs.length+E.length<=sizeLine
     .rw[c_ B]at q;obtain⟨ys,L,C⟩:=ro;obtain⟨y,R⟩:=M.put en (o:=.lst (xs++E)) ⟨_,rfl,C.append rr⟩;cases rx;obtain⟨u,rfl,ru⟩:=rv.one;cases ru;obtain⟨z,i,n,r,al,e⟩:=j.lstM L;obtain⟨f,r2,pl,ap⟩:=j.tuple sq;have ai:ys.length+O.length<=sizeLine:=by rw[<-C.length,<-rr.length];exact B
      have ak:=r2.length;have P:i.toArray.size+f.toArray.size<=sizeLine:=by rw[x_,x_];lia
      have l:¬(!i.toArray.isEmpty&&Builtin.List.listTooLong (i.toArray.size+f.toArray.size))=I:=by rw[pS P,Bool.and_false];exact Ng
      refine call_meets F.slot_list_extend ⟨_,e,rfl⟩ F.entry_list_extend (F.args_list_extend_2 _ _) (uh a _ i.toArray n f.toArray l ⋯ ⋯) ⟨e,pl,?_⟩;refine⟨.non,_,j.lset (its':=i++f) L e (by simp) (r.append r2) ?_,rfl,q U _ .non R y .non⟩;rw[Fz];lia
     .rw[g_ B]at q;exact q.elim
    |_=>exact q.elim
   |_=>exact q.elim
variable{o e:Expr}{es:WX}{name:Str}{apos cpos:Pos}{id:String}{f:Nat->WL->MH->WZ}{m:Mx PV}{ma:Mx (WL)}
def Om{C:TA}(y:∀Z H Q,tM X (RVs' X) ma Z H Q->C Z H Q){Z:L2.St}{H:Hp}{Q:VK}(S:tM X (RV' X) (Iu f m ma) Z H Q):tM X (RV' X) m Z H (λx u=>SO X.K "list" x u/\C Z u λxs F=>MV X f x xs F Q):=by
 obtain⟨U,l,h,E,rh,q⟩:=S;refine⟨U,l,h,E,rh,?_⟩;refine Ful.bind q λO u x x' h1 _ P i rx j=>?_
 cases rx with
 |@loc n a L =>
  obtain⟨M,eo,ro⟩:=i.obj L;dsimp only at j;rw[eo]at j
  cases M with
  |lst xs =>
   obtain⟨ys,ey,ry⟩:=ro;refine⟨.inl ⟨rfl,ys,SqL.of ey⟩,y Z u _ ⟨O,l,h1,E.le P,i,?_⟩⟩;exact Ful.bind j λU2 F vs ac h2 _ l2 z B R=>⟨U2,h2,n,a,vs,rfl,l2.get L,z,B,R.zero⟩
  |_=>exact j.elim
 |_=>exact j.elim
def Iv(slot:Slot "list" name id)(u:typeOf (.builtin id)=pure (.type "method_descriptor"))(E:MN X id (MV X f))(B:ME X o m)(y:MA X (e::es) ma)(i:attributeBase o name X.env (eval o X.env)=eval o X.env:=by rfl)(l:((backTo cpos (starEach (e::es) X.env)).all (λx=>!x.1)&&(backToKw cpos (keywordEach [] X.env)).all (λx=>x.1.isSome)
   && decide ((e::es).length+([]:List Keyword).length+(if([]:List Keyword).isEmpty then 0 else 1)<30))=I:=by rfl)(j:(apos.endLine==cpos.line)=I:=by rfl)(C:starEach (e::es) X.env=(T,eval e X.env)::starEach es X.env:=by rfl)(a:(backTo cpos (starEach es X.env)).any (·.1)=T:=by rfl):
  ME X (.Call (.Attribute o name apos) (e::es) [] cpos) (Iu f m ma) :=
 PE.imp (NS PySem.F.plainAttrs_list slot u E B y i l j C a) λZ H Q q=>Om (λ_ _ _ z=>z) q
@[simp]theorem KS:Iu f m ma Z h=(m Z h).bind λo h1=>match o with
 |.loc n=>(match h1[n]? with
  |some (.lst _)=>(ma Z h1).bind λvs h2=>(f n vs h2).ne
  |_=>.bad)
 |_=>.bad:=rfl
end
structure Sh(L:Nat)(d:PyData):Prop where
 able:d.showable=I
 ok:PyData.strOk d.shown=I
 len:d.shown.length<=L
def bW(h:MH):PV->Option (WL)
 |.tup xs=>J xs
 |.frl xs=>J xs
 |.loc n=>(match h[n]? with
  |some (.lst xs)=>J xs
  |_=>Y)
 |_=>Y
section
variable{X:Cx}{N W G:WM}{k:Nat}
def k7(B:RH X.K X.mg U H h)(i:RP X.K U H x x')(e:bW h x=J xs):∃a ys,x'=.ref a/\(SqL X.K H a ys\/SqT X.K H a ys)/\RPs X.K U H xs ys:=by
 cases i with
 |tup s r=>cases e;exact⟨_,_,rfl,.inr s,r⟩
 |frl s r=>cases e;exact⟨_,_,rfl,.inl s.sq,r⟩
 |@loc n a u =>
  obtain⟨o,z,y⟩:=B.obj u;simp only[bW,z]at e
  cases o with
  |lst ys =>
   cases e;obtain⟨l,j,f⟩:=y;exact⟨a,l,rfl,.inl (SqL.of j),f⟩
  |_=>cases e
 |_=>cases e
def qY(f g:PV->PV->MH->WZ)(a b c:Mx PV):Mx PV:=λZ h=>(a Z h).bind λx u=>(b Z u).bind λy j=>(f x y j).ne.bind λz i=>match z with
 |.bl t=>if t=I then(c Z i).bind λw l=>(g y w l).ne else .ok (.bl T) i
 |_=>.bad
variable{a b c:Expr}{ma mb mc:Mx PV}{f g':PV->PV->MH->WZ}{op op':CmpOp}{pos:Pos}
def DA{Z:L2.St}{H:Hp}{Q:VK}(q:tM X (RV' X) (qY f g' ma mb mc) Z H Q):Av (rJ X f) (rJ X g') (tM X (RV' X) ma) (tM X (RV' X) mb) (tM X (RV' X) mc) Z H Q:=by
 obtain⟨U,i,h,C,rh,q⟩:=q;refine⟨U,i,h,C,rh,Ful.bind q λU1 H1 x x' h1 _ M u rx q1=>?_⟩;refine⟨U1,i,h1,C.le M,u,Ful.bind q1 λR H2 y y' h2 _ l2 E P q2=>?_⟩;refine⟨R,h2,x,y,E,rx.le l2,P,?_⟩;have B:Ful X (RV' X) i R H2 (f x y h2).ne (λz l=>∃k,z=.bl k/\(if k=I then tM X (RV' X) mc Z l λS O=>rJ X g' y' S O Q else Q (.bl T) l)):=Ful.bind q2 λU3 l z z' h3 _ l3 j rz F=>by
  cases rz with
  |bl t =>
   refine⟨t,rfl,?_⟩
   cases t with
   |true =>
    exact⟨U3,i,h3,C.le (M.trans (l2.trans l3)),j,Ful.bind F λU4 O w S h4 _ l4 L rw' q4=>⟨U4,h4,y,w,L,(P.le l3).le l4,rw',q4.zero⟩⟩
   |false =>
    exact F U3 l _ (Le.refl _ _) j (.bl _)
  |_=>exact F.elim
 exact B.zero
def Cb(l:B0 X (compareOp op) f)(i:B0 X (compareOp op') g')(j:ME X a ma)(y:ME X b mb)(u:ME X c mc)(z:lastMarks [op,op'] [b,c]=T:=by with_unfolding_all rfl):ME X (.Compare a [op,op'] [b,c] pos) (qY f g' ma mb mc) :=
 PE.imp (DE l i j y u z) λ_ _ _ q=>DA q
@[simp]theorem MX:qY f g' ma mb mc Z h=(ma Z h).bind λx h1=>(mb Z h1).bind λy h2=>(f x y h2).ne.bind λz h3=>match z with
 |.bl t=>if t=I then(mc Z h3).bind λw h4=>(g' y w h4).ne else .ok (.bl T) h3
 |_=>.bad:=rfl
def Gm(neg:Bool)(x y:PV)(h:MH):WZ:=match bW h y with
 |some ys=>(match rd 60 h x,du (rd 60 h) ys with
  |some d,J i=>if d.canLay0=I/\PyData.canLayAll0 i=I then .ok (.bl (if neg then !i.any (λe=>PyData.eqv e d)else i.any (λe=>PyData.eqv e d))) h else .bad
  |_,_=>.bad)
 |none=>.bad
def qy:∀{i:List PyData},PyData.canLayAll0 i=I->∀d∈i,d.canLay0=I
 |e::i,h,d,hd=>by
  simp only[PyData.canLayAll0,DX]at h;rcases nw.mp hd with rfl|hd
  .exact h.1
  .exact qy h.2 d hd
def tF(hf:∀u d i,Reads hp u d i->fq u=PyData.eqv d dx):∀{l:WT}{j:List PyData}{i:WS},ReadsAll hp l j i->l.any fq=j.any λe=>PyData.eqv e dx
 |_,_,_,.nil=>rfl
 |_,_,_,.cons r t=>by rw[MC,MC,hf _ _ _ r,tF hf t]
def tO:∀{l:WT}{j:List PyData}{y:WS},ReadsAll hp l j y->∀u∈l,∃d i,d∈j/\Reads hp u d i
 |_,_,_,.nil,u,h=>nomatch h
 |_,_,_,.cons r t,u,h=>by
  rcases nw.mp h with rfl|h
  .exact⟨_,_,En,r⟩
  .obtain⟨d,i,hd,hr⟩:=tO t u h;exact⟨d,i,ml _ hd,hr⟩
def fq(i:Heap)(j:PyData)(u:Value):Bool:=if z:∃d l,Reads i u d l then PyData.eqv z.choose j else T
def Iw(r:Reads hp u d i):fq hp dx u=PyData.eqv d dx:=by have z:∃d i,Reads hp u d i:=⟨d,i,r⟩;unfold fq;rw[dif_pos z];obtain⟨l,j⟩:=z.choose_spec;rw[<-(Reads.unique r _ _ j).1]
def Ix(hr:Room k X.A)(neg:Bool):B0 X (compareOp (if neg then .NotIn else .In)) (Gm neg):=by
 intro Oz s Z H x' y' u v Q j S ac ⟨U,h,x,y,M,rx,ry,q⟩;unfold Gm at q
 cases es:bW h y with
 |none=>rw[es]at q;exact q.elim
 |some ys =>
  rw[es]at q;dsimp only at q;obtain⟨a,zs,rfl,P,ai⟩:=k7 M ry es
  cases ex:rd 60 h x with
  |none=>rw[ex]at q;exact q.elim
  |some l =>
   rw[ex]at q
   cases ed:du (rd 60 h) ys with
   |none=>rw[ed]at q;exact q.elim
   |some ds =>
    rw[ed]at q;dsimp only at q;by_cases R:l.canLay0=I/\PyData.canLayAll0 ds=I
    .rw[c_ R]at q;cases ac;obtain⟨_,rX⟩:=ib j M 60 x x' u l rx S ex;have al:=(vS 60 x l ex).1;have z:∀(i:WT),aM zs i->(∀w∈i,SeqAt.EqAt X.A.in1 s w u (fq s.heap l w))/\i.any (fq s.heap l)=ds.any λe=>PyData.eqv e l:=λi B=>by
      obtain⟨as,RA⟩:=iw (λv v' u d r1 r2 e=>ib j M 60 v v' u d r1 r2 e) ai B ed;refine⟨λw C=>?_,tF (λu d as r=>Iw r) RA⟩;obtain⟨d,ak,hd,O⟩:=tO RA w C;rw[Iw O];refine SeqAt.eqAt_reads d l X.A.in1 s w u _ _ O rX (qy R.2 d hd) R.1 ?_
      have:=hr.un
      lia
     cases neg with
     |false =>
      rcases P with hq|hq
      .obtain⟨i,B,F,hz⟩:=j.list hq;obtain⟨E,L⟩:=z i B;refine SeqAt.in_listAt (fq s.heap l) F.isList (λw C=>E w (by simpa using C)) ⟨.bl _,H,j,rfl,?_⟩;rw[show i.toArray.any (fq s.heap l)=i.any (fq s.heap l) by simp,L];exact q U H _ (Le.refl _ _) M (.bl _)
      .obtain⟨i,B,F,hz⟩:=j.tuple hq;obtain⟨E,L⟩:=z i B;refine SeqAt.in_tupleAt (fq s.heap l) F (λw C=>E w (by simpa using C)) ⟨.bl _,H,j,rfl,?_⟩;rw[show i.toArray.any (fq s.heap l)=i.any (fq s.heap l) by simp,L];exact q U H _ (Le.refl _ _) M (.bl _)
     |true =>
      rcases P with hq|hq
      .obtain⟨i,B,F,hz⟩:=j.list hq;obtain⟨E,L⟩:=z i B;refine SeqAt.notIn_listAt (fq s.heap l) F.isList (λw C=>E w (by simpa using C)) ⟨.bl _,H,j,rfl,?_⟩;rw[show i.toArray.any (fq s.heap l)=i.any (fq s.heap l) by simp,L];exact q U H _ (Le.refl _ _) M (.bl _)
      .obtain⟨i,B,F,hz⟩:=j.tuple hq;obtain⟨E,L⟩:=z i B;refine SeqAt.notIn_tupleAt (fq s.heap l) F (λw C=>E w (by simpa using C)) ⟨.bl _,H,j,rfl,?_⟩;rw[show i.toArray.any (fq s.heap l)=i.any (fq s.heap l) by simp,L];exact q U H _ (Le.refl _ _) M (.bl _)
    .rw[g_ R]at q;exact q.elim
def EL(xs:WL)(h:MH):WZ:=match xs with
 |[x]=>(match bW h x with
  |some ys=>v_ ys h
  |none=>.bad)
 |_=>.bad
def D_(xs:WL)(h:MH):WZ:=match xs with
 |[x]=>(match bW h x with
  |some ys=>.ok (.tup ys) h
  |none=>.bad)
 |_=>.bad
def Gn:dg X (.type "list") EL:=by
 intro F s Z H xs M Q i r ⟨U,h,O,z,rp,q⟩
 cases rp with
 |nil=>exact q.elim
 |cons L B =>
  cases B with
  |cons _ _=>exact q.elim
  |nil =>
   rename_i x y
   unfold EL at q
   cases l:bW h x with
   |none=>simp only[l]at q;exact q.elim
   |some ys =>
    simp only[l]at q;obtain⟨a,E,rfl,u,j⟩:=k7 z L l;obtain⟨_,C⟩:=oG z j q;exact vH F s Z H _ M Q i r ⟨a,E,rfl,u,C⟩
def lE:dg X (.type "tuple") D_:=by
 intro F s Z H xs L Q i r ⟨U,h,S,C,rp,q⟩
 cases rp with
 |nil=>exact q.elim
 |cons P M =>
  cases M with
  |cons _ _=>exact q.elim
  |nil =>
   rename_i x y
   unfold D_ at q
   cases z:bW h x with
   |none=>simp only[z]at q;exact q.elim
   |some ys =>
    simp only[z]at q;obtain⟨a,u,rfl,B,j⟩:=k7 C P z;rcases B with hq|hq
    .refine mT F s Z H _ L Q i r ⟨a,u,rfl,.inl ⟨hq,λl R=>?_⟩⟩;obtain⟨O,E⟩:=C.tup R u;exact q U _ _ E O (.tup (SqT.of ba) (j.le E))
    .exact mT F s Z H _ L Q i r ⟨a,u,rfl,.inr ⟨hq,q U H _ (Le.refl _ _) C (.tup hq j)⟩⟩
def g9(xs:WL)(lo i:WW):WL:=(xs.drop (HT.n7 xs.length 0 lo)).take (HT.n7 xs.length xs.length i-HT.n7 xs.length 0 lo)
def KU(x:PV)(lo i:WW)(h:MH):WZ:=match x with
 |.tup xs=>if HT.n7 xs.length 0 lo=0/\HT.n7 xs.length xs.length i=xs.length then .bad else .ok (.tup (g9 xs lo i)) h
 |.frl xs=>.ok (.loc h.length) (h++[.lst (g9 xs lo i)])
 |.loc n=>(match h[n]? with
  |some (.lst xs)=>.ok (.loc h.length) (h++[.lst (g9 xs lo i)])
  |_=>.bad)
 |_=>.bad
def Wf(X:Cx)(f:PV->WW->WW->MH->WZ):V->WW->WW->Hp->VK->Prop:=λj lo i H Q=>∃U h x,RH X.K X.mg U H h/\RP X.K U H x j/\kF X (RV' X) U H (f x lo i h) Q
def sk{K:hR}{U:WS}{H:Hp}{xs:WL}{ys:List V}(r:RPs K U H xs ys)(lo i:WW):RPs K U H (g9 xs lo i) (pV ys lo i):=by unfold g9 pV;rw[r.length];exact(r.drop _).take _
def Oo:Q9 X (Wf X KU):=by
 intro P s Z H x' v vl vu lo i F Q j L O R M ⟨U,h,x,u,S,q⟩
 cases S with
 |tup E C =>
  unfold KU at q;dsimp only at q
  rename_i xs a ys
  by_cases z:HT.n7 xs.length 0 lo=0/\HT.n7 xs.length xs.length i=xs.length
  .rw[c_ z]at q;exact q.elim
  .rw[g_ z]at q;refine J1 P s Z H _ v vl vu lo i F Q j L O R M ⟨a,ys,rfl,E,by rw[<-C.length];exact z,λp B=>?_⟩;obtain⟨y,l⟩:=u.tup B (pV ys lo i);exact q U _ _ l y (.tup (SqT.of ba) ((sk C lo i).le l))
 |frl E C =>
  rename_i xs a ys
  refine yu P s Z H _ v vl vu lo i F Q j L O R M ⟨a,ys,rfl,E.sq,λp B=>?_⟩;obtain⟨y,l⟩:=u.new B (o:=.lst (g9 xs lo i)) ⟨_,rfl,sk C lo i⟩;exact q _ _ _ l y (.loc (by rw[<-u.len];simp))
 |@loc n a en =>
  obtain⟨o,eo,ro⟩:=u.obj en;unfold KU at q;dsimp only at q;rw[eo]at q
  cases o with
  |lst xs =>
   obtain⟨ys,ey,ry⟩:=ro;refine yu P s Z H _ v vl vu lo i F Q j L O R M ⟨a,ys,rfl,SqL.of ey,λp B=>?_⟩;obtain⟨y,l⟩:=u.new B (o:=.lst (g9 xs lo i)) ⟨_,rfl,sk ry lo i⟩;exact q _ _ _ l y (.loc (by rw[<-u.len];simp))
  |_=>exact q.elim
 |_=>exact q.elim
def MO'(X:Cx)(e:Option Expr)(m:Mx (WW)):Prop:=PO X e (tM X NU m)
def Vk:Mx (WW):=λ_ h=>.ok Y h
def Vl(m:Mx PV):Mx (WW):=λZ h=>(m Z h).bind λv j=>match v with
 |.int i=>.ok (J i) j
 |_=>.bad
def xq:MO' X Y Vk:=λl s Z H Q i ⟨U,j,h,y,u,q⟩=>F2 l s Z H Q i (q U H Y (Le.refl _ _) u rfl)
def yb(h:ME X e m):MO' X (J e) (Vl m):=λF s Z H Q u ⟨U,l,C,B,M,q⟩=>F3 h F s Z H Q u ⟨U,l,C,B,M,Ful.bind q λz L v O R _ P j E y=>by
 cases E with
 |int i=>exact⟨i,rfl,y z L (J i) (Le.refl _ _) j rfl⟩
 |_=>exact y.elim⟩
def Vm(m:Mx PV)(j u:Mx (WW)):Mx PV:=λZ h=>(m Z h).bind λx z=>(j Z z).bind λlo l=>(u Z l).bind λi y=>(KU x lo i y).ne
def Iy{e:Expr}{lo u:Option Expr}{m:Mx PV}{C E:Mx (WW)}{P:Pos}(he:ME X e m)(hl:MO' X lo C)(hu:MO' X u E):ME X (.Subscript e (.Slice lo u Y P) pos) (Vm m C E) :=
 PE.imp (Ck Oo he hl hu) λZ H Q ⟨U,i,h,l,rh,q⟩=>⟨U,i,h,l,rh,Ful.bind q λM H1 x x' h1 _ B j S O=>⟨M,i,h1,l.le B,j,Ful.bind O λU2 H2 lo ai h2 _ F y el R=>by
  subst el
  exact⟨U2,i,h2,l.le (B.trans F),y,Ful.bind R λU3 H3 u ac h3 _ l3 z L q3=>by
   subst L
   exact⟨U3,h3,x,z,(S.le F).le l3,q3.zero⟩⟩⟩⟩
end
section
variable{X:Cx}{N W G:WM}{k:Nat}
def B7{A:Around}{E:WE}{F:WU}{Z:L2.St}{H:Hp}{s:Shared}{a:Addr}{ys:List V}{Q:WE}(C:A.handled=Y)(y:Inv X F Z H s)(hq:SqL X.K H a ys\/SqT X.K H a ys)(h:∀(f:WT)(z:Heap)(It:Addr)(St:Nat->Heap->Prop),aM ys f->Walks X.prog X.w A It [It,a] [It] f.toArray.size (λi v=>f.toArray[i]?=J v) St->St 0 z->(∀b∈[It,a],b<z.objs.size)->(∀b o,s.heap.get? b=J o->z.get? b=J o)->s.heap.objs.size=It->Q (.ref It) { s with heap:=z}):
  wpAny (model X.prog X.w) A (pyIter (.ref a)) Q E s:=by
 have sz:∀(o:Obj),a<s.heap.objs.size->∀b∈[s.heap.objs.size,a],b<(s.heap.push o).objs.size:=λo j b u=>by
  rw[EY];rcases nw.mp u with rfl|u
  .exact R9 _
  .rcases nw.mp u with rfl|u
   .exact R7 j
   .cases u
 rcases hq with hq|hq
 .obtain⟨f,B,L,_⟩:=y.list hq;have l:=L.isList;have j:a<s.heap.objs.size:=by obtain⟨_,e,_⟩:=l;exact pa e
  exact wpAny_pyIter_list l (h f _ _ _ B (Walks.list C _ a (zt j) f.toArray) ⟨⟨_,zj _ rfl,rfl,rfl⟩,l.push _⟩ (sz _ j) (λb o e=>nj _ e) rfl)
 .obtain⟨f,B,l,_⟩:=y.tuple hq;have j:a<s.heap.objs.size:=by obtain⟨_,e,_⟩:=l;exact pa e
  exact wpAny_pyIter_tuple l (h f _ _ _ B (Walks.tuple C _ a (zt j) f.toArray) ⟨⟨_,zj _ rfl,rfl,rfl⟩,l.push _⟩ (sz _ j) (λb o e=>nj _ e) rfl)
def Op{s:Shared}{a f:Heap}{It:Addr}(l:∀b o,s.heap.get? b=J o->a.get? b=J o)(e:s.heap.objs.size=It)(i:∀b o,b∉[It]->a.get? b=J o->f.get? b=J o):∀b o,s.heap.get? b=J o->f.get? b=J o:=λb o q=>by
 refine i b o (λj=>?_) (l b o q)
 have:b=It:=by simpa using j
 exact absurd (pa q) (by rw[this,e];exact Ez _)
def kC:WL->Option (List Bool)
 |[]=>J []
 |.bl b::r=>(kC r).map (b::·)
 |_=>Y
def Go{K:hR}{U:WS}{H:Hp}:∀{xs:WL}{ys:List V}{bs:List Bool}{a:WT},RPs K U H xs ys->aM ys a->kC xs=J bs->a=bs.map Value.bool:=by
 intro xs
 induction xs with
 |nil=>intro ys bs a r v e;cases r;cases v;cases e;rfl
 |cons x xs i =>
  intro ys bs a r v e
  cases r with
  |cons y l =>
   cases v with
   |cons f j =>
    cases y with
    |bl b =>
     simp only[kC,Bi]at e;obtain⟨u,z,rfl⟩:=e;rw[i l j z,show _=Value.bool b from f];rfl
    |_=>cases e
def wM(bs:List Bool):TruthOf X.prog X.w A (λi v=>(bs.map Value.bool).toArray[i]?=J v) (λi=>bs.getD i T):=λi v s Q E a f=>by
 have:v=.bool (bs.getD i T):=by
  have a:(List.map Value.bool bs).toArray[i]?=J v:=a;rw[List.getElem?_toArray,se,Bi]at a;obtain⟨b,e,rfl⟩:=a
  simp_all
 subst this;exact wpAny_truthy_bool f
def AZ(bs:List Bool):(List.range bs.length).all (λi=>bs.getD i T)=bs.all id:=by
 induction bs with
 |nil=>rfl
 |cons b r a =>
  rw[DR,UU,List.all_cons,List.all_map,List.all_cons,<-a];rfl
def EF(xs:WL)(h:MH):WZ:=match xs with
 |[x]=>(match (bW h x).bind kC with
  |some bs=>.ok (.bl (bs.all id)) h
  |none=>.bad)
 |_=>.bad
def AW(g:Good X N W G k):dg X (.builtin "all") EF:=by
 intro Oz s Z H xs us Q f r ⟨U,h,ps,C,rp,q⟩
 cases rp with
 |nil=>exact q.elim
 |cons P E =>
  cases E with
  |cons _ _=>exact q.elim
  |nil =>
   rename_i x y
   unfold EF at q
   cases u:(bW h x).bind kC with
   |none=>simp only[u]at q;exact q.elim
   |some bs =>
    simp only[u]at q;obtain⟨ys,e1,e2⟩:=Jo.mp u;obtain⟨a,zs,rfl,z,l⟩:=k7 C P e1
    cases r with
    |cons M L =>
     cases L;cases M;refine call_all_walk (B7 g.room.hd f z λj h2 It St O Wk st S kp i=>?_);have B:=Go l O e2;refine⟨It,_,_,_,_,St,_,rfl,Wk,st,by rw[B];exact wM bs,λh' tk F=>?_⟩;have R:j.toArray.size=bs.length:=by rw[B];simp
     rw[R,AZ];exact⟨.bl _,H,f.kept (Op kp i F),rfl,q U H _ (Le.refl _ _) C (.bl _)⟩
end
def RH.loose{K:hR}{mg:E0}{U:WS}{H:Hp}{h:MH}(r:RH K mg U H h){p:Addr}(i:H p=Y)(j:HO):RH K mg U (mj H p j) h/\Le U H U (mj H p j):=by
 have f:∀n a,U[n]?=J a->a≠p:=λn a e z=>by
  obtain⟨B,_,q⟩:=r.obj e;rw[z,i]at q;exact q.some rfl
 have l:Le U H U (mj H p j):=⟨⟨[],by simp⟩,λa xs e=>by rw[aN (bR e i)];exact e,λa y u e=>by rw[aN (bR e i)];exact e⟩;exact⟨⟨r.len,r.nd,λn a o e1 e2=>by rw[aN (f n a e1)];exact(r.at' n a o e1 e2).le l⟩,l⟩
section
variable{X:Cx}{N W G:WM}{k:Nat}
def nJ(xs:WL)(i:Int)(v:PV):WL :=
 let k:=if i<0 then(i+(xs.length:Int)).toNat else min i.toNat xs.length
 xs.take k++v::xs.drop k
def oZ(n:Nat)(a:WL)(h:MH):WZ:=match a with
 |[.int i,v]=>(match h[n]? with
  |some (.lst xs)=>if(-(2^63)<=i/\i<2^63)/\xs.length<sizeLine then .ok .non (h.set n (.lst (nJ xs i v)))else .bad
  |_=>.bad)
 |_=>.bad
def At:MN X "list.insert" (MV X oZ):=by
 intro Oz s Z H x vs v us Q y rx rv ⟨U,h,n,a,ps,e,en,rh,rp,q⟩;subst e;obtain⟨o,eo,ro⟩:=rh.obj en;unfold oZ at q
 split at q
 .rename_i i F
  cases rp with
  |cons r1 t1 =>
   cases t1 with
   |cons r2 t2 =>
    cases t2;cases r1;rw[eo]at q
    cases o with
    |lst xs =>
     dsimp only at q;by_cases C:(-(2^63)<=i/\i<2^63)/\xs.length<sizeLine
     .rw[c_ C]at q;obtain⟨ys,ey,E⟩:=ro;cases rx
      cases rv with
      |cons S R=>cases R with
       |cons L M =>
        cases M
        rename_i v' u1 u2
        obtain⟨t,rfl⟩:=S;obtain⟨z,j,nn,r,u,e⟩:=y.lstM ey
        let f:=if i<0 then(i+(j.length:Int)).toNat else min i.toNat j.length
        have B:RPs X.K U H (nJ xs i F) (ys.take f++v'::ys.drop f):=by
         have:(if i<0 then(i+(xs.length:Int)).toNat else min i.toNat xs.length)=f:=by rw[E.length,u]
         unfold nJ;rw[this];exact(E.take f).append (.cons r2 (E.drop f))
        obtain⟨P,l'⟩:=rh.put en (o:=.lst (nJ xs i F)) ⟨_,rfl,B⟩;refine call_meets PySem.F.slot_list_insert ⟨_,e,rfl⟩ PySem.F.entry_list_insert (PySem.F.args_list_insert_3 _ _ _) (AutoListH.list_insert_list_int_val_1 a j.toArray nn i t u2 (by rw[fitsIndex_both C.1.1 C.1.2];simp) (by rw[x_];ext)) ⟨e,?_⟩;have l:=(r.take f).append (.cons L (r.drop f));have O:(ys.take f++v'::ys.drop f).length<=sizeLine:=by
         rw[<-B.length];have e1:(nJ xs i F).length=xs.length+1:=by unfold nJ;simp only[Fz,DR,Jx,QV];ext
         ext
        refine⟨.non,_,y.lset (its':=j.take f++u2::j.drop f) ey e ?_ l O,rfl,q U _ .non l' P .non⟩;simp[f,List.extract];refine QK ?_;rw[QV];exact l_ _
     .rw[g_ C]at q;exact q.elim
    |_=>exact q.elim
 .exact q.elim
def Gp(g:Good X N W G k){a:Expr}{m:Mx PV}{f y:String}{c l:Str}{i j j':Nat}{p q z L pt:Pos}{kt}(hi:G[i]?=J "isinstance")(hm:X.mg "isinstance"=Y)(hj:G[j]?=J c)(hc:X.mg c=Y)(hv:bootBuiltins c=J (.type f))(hT:Gg f)(O:G[j']?=J l)(al:X.mg l=Y)(ac:bootBuiltins l=J (.type y))(as:Gg y)(ha:ME X a m)(he:starEach [a,.Tuple [.Name c q,.Name l z] kt pt] X.env=(T,eval a X.env)::starEach [.Tuple [.Name c q,.Name l z] kt pt] X.env:=by rfl)(ak:starEach [.Tuple [.Name c q,.Name l z] kt pt] X.env=[(T,eval (.Tuple [.Name c q,.Name l z] kt pt) X.env)]:=by rfl)(ap:(backTo L (starEach [.Tuple [.Name c q,.Name l z] kt pt] X.env)).any (·.1)=T:=by rfl)(a0:starEach [.Name c q,.Name l z] X.env=(T,eval (.Name c q) X.env)::starEach [.Name l z] X.env:=by rfl)(ax:starEach [.Name l z] X.env=[(T,eval (.Name l z) X.env)]:=by rfl):
  ME X (.Call (.Name "isinstance" p) [a,.Tuple [.Name c q,.Name l z] kt pt] [] L) (NW (nt [f,y]) m):=by
 have d1:=g.dbg _ (xn _ (aO hi));have d:=g.dbg c (xn _ (aO hj));have d':=g.dbg l (xn _ (aO O));have C:dQ X (.builtin "isinstance") (λxs H Q=>∃E P,xs=[E,.ref P]/\SqT X.K H P [.ty f,.ty y]/\uJ X (nt [f,y]) E H Q):=by
  intro Oz s Z H xs us Q B r ⟨E,P,e,a5,U,h,x,R,rx,q⟩;subst e
  cases r with
  |cons r1 t1=>cases t1 with
   |cons r2 t2 =>
    cases t2;cases r2;obtain⟨a1,rv,ht,_⟩:=B.tuple a5;have ei:a1=[.type f,.type y]:=by
     cases rv with
     |cons v1 w1=>cases w1 with
      |cons v2 w2 =>
       cases w2;rw[show _=Value.type f from v1,show _=Value.type y from v2]
    subst ei;obtain⟨⟨oc,od,a6,a7⟩,ho,aF,nn,a4⟩:=ht;subst aF;subst a4;unfold nt at q
    cases et:Gf h x with
    |none=>rw[et]at q;exact q.elim
    |some t =>
     rw[et]at q;obtain⟨M,a2,Hq,Za,hz⟩:=xS B R rx r1 et;have F:PySem.W.kitAny X.K (.type t) [.type f,.type y]=J (dU t f||dU t y):=by
      unfold PySem.W.kitAny;rw[hT X.K t M]
      cases dU t f with
      |true=>rfl
      |false =>
       unfold PySem.W.kitAny;rw[as X.K t M];cases dU t y<;>rfl
     exact PySem.W.kia_tup Za B.kIn hz ho F a2 λtk=>⟨.bl _,H,B.tok _,rfl,by
      have z:=q U H _ (Le.refl _ _) R (.bl _)
      simpa using z⟩
 refine PE.imp (pX C (g.gl _ (aO hi)) hm PyProof.Rows.Boot.«isinstance» (eM ha (eM (AL (eM (sI (v:=.ty f) (u:=.type f) (g.gl c (aO hj)) hc hv rfl d.2.2 d.1) (eM (sI (v:=.ty y) (u:=.type y) (g.gl l (aO O)) al ac rfl d'.2.2 d'.1) lm ax) a0)) lm ak) he) d1.2.2 d1.1 he ap) λZ H Q ar=>?_;obtain⟨U,ai,h,rs,R,q⟩:=ar;refine⟨U,ai,h,rs,R,Ful.bind q λU1 H1 x E h1 _ l1 ay rx q1=>?_⟩;refine⟨by show 2<=sizeLine;decide,λP S=>?_⟩;obtain⟨a3,l2⟩:=ay.tup S [.ty f,.ty y];exact⟨E,P,rfl,SqT.of ba,U1,h1,x,a3,rx.le l2,(Ful.le l2 q1).zero⟩
def Oq(f:TA):TE:=λZ H Q=>f Z H λi a=>∃j:Int,i=[.int j] /\ -(2^62)<=j/\j<2^62/\∀p,a p=Y->Q (.ref p) (mj a p (.rng 0 j))
def AY(hg:Gl X "range")(B:X.mg "range"=Y)(y:PA X [a] ta)(C:starEach [a] X.env=[(T,eval a X.env)]:=by rfl):PE X (.Call (.Name "range" p) [a] [] pos) (Oq ta):=by
 intro F s Z H R f h;refine Call_ (iK f hg B boot_range (PyProof.Rows.callWith_type1 (mf (y pos F s Z H _ f h) λQ z i=>?_) C rfl));obtain⟨P,O,u,L,l⟩:=i;obtain⟨j,e,l,M,q⟩:=l;subst e
 cases L with
 |cons r E =>
  cases E;obtain⟨t,rfl⟩:=r;refine call_range_1 ⟨.ref z.heap.objs.size,_,u.laid (λb o e=>nj _ e) (l_ _) ?_,rfl,q _ (u.hok.fresh (l_ _))⟩;exact⟨_,_,_,zj _ rfl⟩
def qB:∀(n:Nat)(lo:Int)(a:WT),a.length=n->(∀(i:Nat)(v:Value),a[i]?=J v->∃t,v=.int (lo+i) t)->aM ((List.range n).map λi=>V.int (lo+(i:Nat))) a
 |0,lo,a,f,_=>by cases a with|nil=>exact .nil|cons _ _=>simp at f
 |n+1,lo,a,f,h=>by
  cases a with
  |nil=>simp at f
  |cons u a =>
   rw[UU,k_,qo];obtain⟨t,e⟩:=h 0 u rfl;refine .cons ⟨t,e⟩ ?_;have j:=qB n (lo+1) a (by simpa using f) λi v hv=>by
    obtain⟨t,e⟩:=h (i+1) v (by simpa using hv);exact⟨t,by rw[e];congr 1;push_cast;ext⟩
   have e2:((λi=>V.int (lo+((i:Nat):Int)))∘Nat.succ)=λi=>V.int (lo+1+((i:Nat):Int)):=by funext i;simp only[Function.comp];congr 1;push_cast;ext
   rw[e2];exact j
def uj(E:X.calm=I):dQ X (.type "list") (λxs H Q=>∃r j,xs=[.ref r]/\H r=J (.rng 0 j) /\ -(2^62)<=j/\j<2^62/\j.toNat<=sizeLine/\∀l,H l=Y->Q (.ref l) (mj H l (.lst ((List.range j.toNat).map λi=>V.int (0+(i:Nat)))))):=by
 intro S s Z H xs us Q a r ⟨L,j,e,hr,R,P,z,q⟩;subst e
 cases r with
 |cons M B =>
  cases B;cases M;obtain⟨t,u,v,O⟩:=(a.hok L _ hr);refine call_list_range (a.ok.hd E) O (small_one (by ext) (by ext) R P) (by rw[rangeSize_one];split<;>ext) z λU tk f C kp e y=>?_;have F:=qB _ 0 _ (by exact y.1) λi v hv=>by
   obtain⟨t,e⟩:=y.2 i v (by rw[<-UV];exact hv)
   grind
  refine⟨.ref s.heap.objs.size,_,a.laid (o:=.lst _) kp (l_ _) (⟨by simpa using z,f.toList,C,F,by simpa using e⟩),rfl,q _ (a.hok.fresh (l_ _))⟩
def Wg(m:Mx (WL)):Mx PV:=λZ h=>(m Z h).bind λf a=>match f with
 |[.int j]=>if -(2^62)<=j/\j<2^62/\j.toNat<=sizeLine then .ok (.loc a.length) (a++[.lst (bI 0 j.toNat)])else .bad
 |_=>.bad
def tQ{K:hR}{U:WS}{H:Hp}{lo:Int}:∀(l:WQ),RPs K U H (l.map λ(i:Nat)=>PV.int (lo+(i:Int))) (l.map λ(i:Nat)=>V.int (lo+(i:Int)))
 |[]=>.nil
 |i::l=>.cons (.int _) (tQ l)
def vJ(g:Good X N W G k){a:Expr}{m:Mx (WL)}{i j:Nat}{p F P f:Pos}(R:G[i]?=J "list")(hm:X.mg "list"=Y)(hj:G[j]?=J "range")(E:X.mg "range"=Y)(ha:MA X [a] m)(hs:starEach [a] X.env=[(T,eval a X.env)]:=by rfl)(S:starEach [.Call (.Name "range" F) [a] [] f] X.env=[(T,eval (.Call (.Name "range" F) [a] [] f) X.env)]:=by rfl):ME X (.Call (.Name "list" p) [.Call (.Name "range" F) [a] [] f] [] P) (Wg m):=by
 have d:=g.dbg _ (xn _ (aO R));refine PE.imp (t6 (uj g.calm) (g.gl _ (aO R)) hm PyProof.Rows.Boot.«list» (eM (AY (g.gl _ (aO hj)) E ha hs) lm S) d.2.2 d.1 S rfl) λZ H Q M=>?_;obtain⟨U,C,h,rs,rh,q⟩:=M;refine⟨U,C,h,rs,rh,Ful.bind q λU1 H1 x x' h1 _ l1 B rx u=>?_⟩
 cases rx with
 |nil=>exact u.elim
 |cons r1 t1 =>
  cases t1 with
  |cons _ _=>cases r1<;>exact u.elim
  |nil =>
   cases r1 with
   |int y =>
    dsimp only at u;by_cases z:-(2^62)<=y/\y<2^62/\y.toNat<=sizeLine
    .rw[c_ z]at u;refine⟨y,rfl,z.1,z.2.1,λr hr=>?_⟩;obtain⟨L,l2⟩:=B.loose hr (.rng 0 y);refine⟨r,y,rfl,ba,z.1,z.2.1,z.2.2,λl hl=>?_⟩;obtain⟨O,l3⟩:=L.new hl (o:=.lst (bI 0 y.toNat)) ⟨_,rfl,tQ _⟩;exact u _ _ _ (l2.trans l3) O (.loc (by rw[<-B.len];simp))
    .rw[g_ z]at u;exact u.elim
   |_=>exact u.elim
end
end MM
namespace SetT
open PySem.SetTable
def base(M:Nat)(h:Int):Nat->Nat×Nat
 |0=>(bits h % (M+1),bits h)
 |b+1=>leap M (base M h b).1 (base M h b).2
end SetT
namespace SortT
open PyProof.Rows
end SortT
namespace SortT
open PyProof.Rows SetT PySem.W
section
variable{prog:Program}{w:World}{A:Around}{E:WE}{s:Shared}
def jR(j:h.get? a=J (seqObj "list" vs.toArray n))(f:Array Value):∃c,(sortedHeap h a vs f).get? a=J (seqObj "list" f c):=by obtain⟨e1,i⟩:∃e1,(h.update a (Obj.mapSeq λ_=>(#[]:Array Value))).get? a=J (seqObj "list" #[] e1):=⟨_,get?_update_seq j λ_=>#[]⟩;exact⟨_,get?_update_seq (nj _ (nj _ i)) λ_=>f⟩
def jw(i:b≠a)(j:h.get? b=J o)(f:Array Value):(sortedHeap h a vs f).get? b=J o:=by unfold sortedHeap;rw[Jr _ _ _ _ i];exact nj _ (nj _ ((Jr _ _ _ _ i).trans j))
end
end SortT
namespace MM
open PySem.Spec PyProof.Rows L2 SetT SortT
def Iz{K:hR}{U:WS}{H:Hp}:∀{k:WN}{ys:List V},RPs K U H (k.map PV.int) ys->ys=k.map V.int
 |[],ys,h=>by cases h;rfl
 |i::k,ys,h=>by
  cases h with
  |cons r t =>
   cases r;rw[Iz t];rfl
section
variable{X:Cx}{N W G:WM}{k:Nat}
def ko(h:MH):PV->Option (WL)
 |.frl xs=>J xs
 |.loc n=>(match h[n]? with
  |some (.lst xs)=>J xs
  |_=>Y)
 |_=>Y
def Gq{U:WS}{H:Hp}{h:MH}{x:PV}{y:V}{xs:WL}{K:hR}{mg:E0}(B:RH K mg U H h)(r:RP K U H x y)(e:ko h x=J xs):∃a f,y=.ref a/\SqL K H a f/\RPs K U H xs f:=by
 cases r with
 |frl s r=>cases e;exact⟨_,_,rfl,s.sq,r⟩
 |@loc n a j =>
  obtain⟨o,z,l⟩:=B.obj j;unfold ko at e;dsimp only at e;rw[z]at e
  cases o with
  |lst f =>
   cases e;obtain⟨ys,u,i⟩:=l;exact⟨a,ys,rfl,SqL.of u,i⟩
  |_=>cases e
 |_=>cases e
end
end MM
namespace SeqT
abbrev FG(tp:Bool):String:=if tp then "tuple_iterator" else "list_iterator"
abbrev Vn(tp:Bool):String:=if tp then "tuple" else "list"
def SqI(f:Bool)(h:Heap)(j a:Addr)(i:Nat):Prop:=∃o,h.get? j=J o/\o.cls=.type (FG f)/\o.data=.fields #[.ref a,.int i 0]
def SqO(f:Bool)(h:Heap)(a:Addr)(xs:Array Value):Prop:=∃o,h.get? a=J o/\o.cls=.type (Vn f)/\∃n,o.data=.seq xs n
def SqI.at'(x:SqI tp h it a i)(k:∀o,h.get? it=J o->h'.get? it=J o):SqI tp h' it a i:=let⟨o,e,r⟩:=x;⟨o,k o e,r⟩
def SqO.at'(x:SqO tp h a xs)(k:∀o,h.get? a=J o->h'.get? a=J o):SqO tp h' a xs:=let⟨o,e,r⟩:=x;⟨o,k o e,r⟩
def SqI.lt(x:SqI tp h it a i):it<h.objs.size:=let⟨_,e,_⟩:=x;pa e
section
variable{prog:Program}{w:World}{A:Around}{E:WE}{s:Shared}
def jW(B:SqI tp s.heap it a i)(u:SqO tp s.heap a xs)(y:xs[i]?=J x)(C:∀j,SqI tp j it a (i+1)->Heap.SameBut it s.heap j->Q x { s with heap:=j}):wpAny (model prog w) A (Builtin.SmallTypes.nextOf (.ref it)) Q E s:=by
 cases tp with
 |false=>exact wpAny_nextOf_list_item (B) (u) y C
 |true =>
  obtain⟨o,e,z,hd⟩:=id B;obtain⟨L,f,_,H,l⟩:=u;have G:s.TypeIs (.ref it) "tuple_iterator":=⟨o,e,z⟩;refine f_ (wpAny_callSpecial?_slot G F.slot_tuple_iterator_next (wpAny_call_entry F.slot_tuple_iterator_next G F.entry_tuple_iterator_next ?_ (F.args_tuple_iterator_next_1 _)));show wpAny _ _ (field (.ref it) 0 >>= _) _ _ s;refine f_ (wpAny_field e hd rfl ?_);refine f_ (wpAny_field e hd rfl ?_);refine f_ (wpAny_seqItems f l ?_);simp only[Eu,y];refine f_ (wpAny_setField e hd (by simp) (nc ⟨x,rfl,nc (C _ ?_ (Heap.SameBut.update ..))⟩));exact⟨_,QM _ e (Obj.isFreed_of_fields (Obj.data_mapFields hd _)),(Obj.cls_mapFields ..).trans z,by rw[Obj.data_mapFields hd];simp[rawInt]⟩
def my(y:A.handled=Y)(B:SqI tp s.heap it a i)(u:SqO tp s.heap a xs)(z:xs[i]?=Y)(G:∀j e,Heap.ExtBut it s.heap j->(∃o,j.get? e=J o/\o.cls=.type "StopIteration")->E (.ref e) { s with heap:=j}):wpAny (model prog w) A (Builtin.SmallTypes.nextOf (.ref it)) Q E s:=by
 cases tp with
 |false=>exact wpAny_nextOf_list_end y (B) (u) z G
 |true =>
  obtain⟨o,e,H,hd⟩:=id B;obtain⟨M,f,_,L,l⟩:=u;have C:s.TypeIs (.ref it) "tuple_iterator":=⟨o,e,H⟩;refine f_ (wpAny_callSpecial?_slot C F.slot_tuple_iterator_next (wpAny_call_entry F.slot_tuple_iterator_next C F.entry_tuple_iterator_next ?_ (F.args_tuple_iterator_next_1 _)));show wpAny _ _ (field (.ref it) 0 >>= _) _ _ s;refine f_ (wpAny_field e hd rfl ?_);refine f_ (wpAny_field e hd rfl ?_);refine f_ (wpAny_seqItems f l ?_);simp only[Eu,z];refine f_ (wpAny_rule (f_ (wpAny_setField e hd (by simp) ?_)));refine f_ ?_;refine f_ (m:=firstArgMember _ _) (wpAny_of_eq (by first | rfl | (simp only)) ?_);refine wpAny_newObj_type ?_ (by size_fits);refine f_ (wpAny_handled ?_);rw[show A.in1.handled=Y from y];refine f_ (nc (wpAny_throw ?_));exact G _ _ (((Heap.SameBut.update ..).extBut.push _).push _) ⟨_,zj _ rfl,rfl⟩
def kU(i:SqO tp s.heap a xs)(f:Q (.ref s.heap.objs.size) { s with heap:=s.heap.push { cls:=.type (FG tp),data:=.fields #[.ref a,.int 0 0]}}):wpAny (model prog w) A (pyIter (.ref a)) Q E s:=by
 cases tp with
 |false=>exact wpAny_pyIter_list (i) f
 |true=>exact wpAny_pyIter_tuple (i) f
end
def Ot(B:A.handled=Y)(y:Bool)(f a:Addr)(u:a≠f)(xs:Array Value):
  Draws prog w A f [f,a] xs.size (λi v=>xs[i]?=J v) (λi h=>SqI y h f a i/\SqO y h a xs) where
 live:=λ_ _ st=>let⟨o,C,_⟩:=st.1;⟨o,C⟩
 frame:=λ_ _ _ st z=>⟨st.1.at' λo e=>z f (by simp) o e,st.2.at' λo e=>z a (by simp) o e⟩
 item:=λi s Q E L st F=>by
  refine jW st.1 st.2 (x:=xs[i]) (by simp) λG l j=>?_;exact F _ G s.toks (by simp) ⟨l,st.2.at' λo e=>(j.2 a u).trans e⟩ j
 done:=λs Q E st H=>my B st.1 st.2 (by simp) H
def Dh(i:Bool)(a:Addr)(xs:Array Value)(n:Nat)(j:WK)(u:Array (WV)):
  Meets (Builtin.«enumerate.__new__» ⟨[.type "enumerate",.ref a],[]⟩) (λ_ R s=>s.heap.get? a=J { cls:=.type (Vn i),dict:=j,data:=.seq xs n,slots:=u} /\
   R (.ok (.ret (.ref (s.heap.push { cls:=.type (FG i),data:=.fields #[.ref a,.int 0 0]}).objs.size)))
    { s with heap:=(s.heap.push { cls:=.type (FG i),data:=.fields #[.ref a,.int 0 0]}).push { cls:=.type "enumerate",data:=.fields #[.none,.bool T,.ref s.heap.objs.size,rawInt 0,.none,.none]}}) :=
 .of_wp λprog w A R s h=>by
  obtain⟨y,g,d,tk,os⟩:=s;obtain⟨f,h⟩:=h;have l:=sub_enumerate;have hL:SqO i (Shared.heap ⟨y,g,d,tk,os⟩) a xs:=⟨_,f,rfl,n,rfl⟩
  wp_walk using AutoSeq1.wpAny_loadPart' f
  refine wpAny_stack_any λst=>nc ?_;split
  .rename_i c _ _ _ _ _
   cases(c==Value.type "enumerate")
   .wp_walk using AutoSeq1.wpAny_loadPart' f,kU hL
    exact⟨_,rfl,h⟩
   .wp_walk using AutoSeq1.wpAny_loadPart' f,kU hL
    exact⟨_,rfl,h⟩
  .wp_walk using AutoSeq1.wpAny_loadPart' f,kU hL
   exact⟨_,rfl,h⟩
section
variable{prog:Program}{w:World}{A:Around}{E:WE}{s:Shared}
def BM(hL:SqO tp s.heap a xs)(h:∀f,IsEnum f (s.heap.objs.size+1) s.heap.objs.size 0 .none->SqI tp f s.heap.objs.size a 0->f.objs.size=s.heap.objs.size+2 ->
   (∀b o,s.heap.get? b=J o->f.get? b=J o)->Q (.ref (s.heap.objs.size+1)) { s with heap:=f}):
  wpAny (model prog w) A (call (.type "enumerate") [.ref a]) Q E s:=by
 obtain⟨⟨c,j,B,z⟩,u,y,n,hd⟩:=hL;subst y hd;refine callType_new F.called_enumerate (by decide) (F.typeCall_enumerate_1 _) (F.newCall_enumerate_1 _) (λobj=>F.args_object_init_2 obj _) F.entry_enumerate_new (Dh tp a xs n j z) ⟨u,?_⟩;have i:(s.heap.push { cls:=.type (FG tp),data:=.fields #[.ref a,.int 0 0]}).objs.size=s.heap.objs.size+1:=EY ..;rw[i]
 have l:IsEnum ((s.heap.push { cls:=.type (FG tp),data:=.fields #[.ref a,.int 0 0]}).push
   { cls:=.type "enumerate",data:=.fields #[.none,.bool T,.ref s.heap.objs.size,rawInt 0,.none,.none]}) (s.heap.objs.size+1) s.heap.objs.size 0 .none:=by
  have:=zj (s.heap.push { cls:=.type (FG tp),data:=.fields #[.ref a,.int 0 0]})
   (o:={ cls:=.type "enumerate",data:=.fields #[.none,.bool T,.ref s.heap.objs.size,rawInt 0,.none,.none]}) rfl
  rw[i]at this;exact this
 exact⟨⟨_,l,rfl⟩,h _ l ⟨_,nj _ (zj _ rfl),rfl,rfl⟩ (by rw[EY,i]) λb o x=>nj _ (nj _ x)⟩
end
section
variable{prog:Program}{w:World}{A:Around}{E:WE}{s:Shared}{z TI TO i1 i2 l1 l2:Addr}{t1 t2:Bool}{k1 k2:Nat}{xs ys:Array Value}
def AB{x y a b:Value}{Q:WE}(D:ZipApart z TI TO i1 i2 l1 l2)(U:IsZip s.heap z TI TO .none)(a0:IsPair s.heap TI (.ref i1) (.ref i2))(ay:IsPair s.heap TO a b)(h1:SqI t1 s.heap i1 l1 k1)(h2:SqI t2 s.heap i2 l2 k2)(aF:SqO t1 s.heap l1 xs)(ap:SqO t2 s.heap l2 ys)(hx:xs[k1]?=J x)(hy:ys[k2]?=J y)(hQ:∀u,IsZip u z TI TO (rawInt s.heap.objs.size)->IsPair u TO x y->SqI t1 u i1 l1 (k1+1)->SqI t2 u i2 l2 (k2+1)->IsPair u s.heap.objs.size x y->u.objs.size=s.heap.objs.size+1 ->
   (∀c o,c≠z->c≠TO->c≠i1->c≠i2->s.heap.get? c=J o->u.get? c=J o)->Q (.ref s.heap.objs.size) { s with heap:=u}):
  wpAny (model prog w) A (Builtin.«zip.__next__» ⟨[.ref z],[]⟩) (λfin s'=>∃v,fin=.done (.ret v)/\Q v s') E s:=by
 show wpAny _ _ (field (.ref z) 2 >>= _) _ _ _;refine f_ (wpAny_field U rfl (x:=.bool T) rfl ?_);refine f_ (wpAny_field U rfl (x:=.ref TI) rfl ?_);refine f_ (wpAny_seqItems a0 rfl ?_);refine f_ ?_;refine f_ (wpAny_field U rfl (x:=.none) rfl (nc ?_));refine f_ (wpAny_rule ?_);refine f_ (wpAny_field U rfl (x:=.ref TO) rfl ?_);refine f_ (wpAny_setField_rec U (by simp) λha ak sa=>?_);refine f_ ?_;refine f_ (f_ (wpAny_onRaise ?_));refine f_ (jW (s:={ s with heap:=ha}) (h1.at' λo e=>(sa.2 _ D.i1z).trans e) (aF.at' λo e=>(sa.2 _ D.l1z).trans e) hx λhb ar H=>nc ?_);have L:IsPair hb TO a b:=(H.2 _ D.TOi1).trans ((sa.2 _ D.TOz).trans ay);refine f_ (wpAny_seqItems L rfl ?_);refine f_ (wpAny_updateSeq_pair L λhc ai G=>?_);refine f_ (wpAny_letGo (nc ?_));refine f_ (f_ (wpAny_onRaise ?_))
 refine f_ (jW (s:={ s with heap:=hc}) (h2.at' λo e=>(G.2 _ D.TOi2.symm).trans ((H.2 _ D.i12.symm).trans ((sa.2 _ D.i2z).trans e)))
  (ap.at' λo e=>(G.2 _ D.l2TO).trans ((H.2 _ D.l2i1).trans ((sa.2 _ D.l2z).trans e))) hy λhd as S=>nc ?_)
 have M:IsPair hd TO x b:=(S.2 _ D.TOi2).trans ai;refine f_ (wpAny_seqItems M rfl ?_);refine f_ (wpAny_updateSeq_pair M λf j F=>?_);replace j:IsPair f TO x y:=j;replace F:Heap.SameBut TO hd f:=F;refine f_ (wpAny_letGo (nc (nc ?_)));refine f_ (wpAny_seqItems j rfl ?_);refine f_ (wpAny_newTuple ?_);have R:f.objs.size=s.heap.objs.size:=by rw[F.1,S.1,G.1,H.1,sa.1]
 have X:IsZip f z TI TO .ellipsis:=(F.2 _ D.TOz.symm).trans ((S.2 _ D.i2z.symm).trans ((G.2 _ D.TOz.symm).trans ((H.2 _ D.i1z.symm).trans ak)));have a1:∀c o,c≠z->c≠TO->c≠i1->c≠i2->s.heap.get? c=J o->f.get? c=J o:=λc o B Z c3 c4 e =>
  (F.2 _ Z).trans ((S.2 _ c4).trans ((G.2 _ Z).trans ((H.2 _ c3).trans ((sa.2 _ B).trans e))))
 have al:SqI t1 f i1 l1 (k1+1):=ar.at' λo e=>(F.2 _ D.TOi1.symm).trans ((S.2 _ D.i12).trans ((G.2 _ D.TOi1.symm).trans e));have ax:SqI t2 f i2 l2 (k2+1):=as.at' λo e=>(F.2 _ D.TOi2.symm).trans e;have l:z<f.objs.size:=pa X;show wpAny _ _ (Builtin.SmallTypes.ownedTupleHandOut (.ref z) (.ref f.objs.size) >>= _) _ _ _;refine f_ ?_;unfold Builtin.SmallTypes.ownedTupleHandOut;have ac:IsZip (f.push { cls:=.type "tuple",data:=.seq #[x,y]}) z TI TO .ellipsis:=nj _ X;refine f_ (wpAny_setField_rec ac (by simp) λhg C sg=>?_);replace C:IsZip hg z TI TO (rawInt f.objs.size):=C;refine wpAny_setField_rec C (by simp) λP i sh=>?_;replace i:IsZip P z TI TO (rawInt f.objs.size):=i;have up:∀c o,c≠z->f.get? c=J o->P.get? c=J o:=λc o B e=>(sh.2 _ B).trans ((sg.2 _ B).trans (nj _ e));have W:IsPair P f.objs.size x y:=(sh.2 _ (Ev l)).trans ((sg.2 _ (Ev l)).trans (zj _ rfl));have O:P.objs.size=f.objs.size+1:=by rw[sh.1,sg.1,EY]
 rw[R]at i W O;refine nc ⟨_,rfl,?_⟩;show Q (.ref f.objs.size) _;rw[R];exact hQ P i (up _ _ D.TOz j) (al.at' λo e=>up _ o D.i1z e) (ax.at' λo e=>up _ o D.i2z e) W O λc o B Z c3 c4 e=>up c o B (a1 c o B Z c3 c4 e)
def CJ(hh:A.handled=Y)(D:ZipApart z TI TO i1 i2 l1 l2)(H:IsZip s.heap z TI TO .none)(ac:IsPair s.heap TI (.ref i1) (.ref i2))(Z:IsPair s.heap TO a b)(h1:SqI t1 s.heap i1 l1 k1)(h2:SqI t2 s.heap i2 l2 k2)(L:SqO t1 s.heap l1 xs)(W:SqO t2 s.heap l2 ys)(C:xs[k1]?=Y\/ys[k2]?=Y)(hE:∀h' e,(∀c o,c≠z->c≠TO->c≠i1->c≠i2->s.heap.get? c=J o->h'.get? c=J o)->(∃o,h'.get? e=J o/\o.cls=.type "StopIteration")->E (.ref e) { s with heap:=h'}):
  wpAny (model prog w) A (Builtin.«zip.__next__» ⟨[.ref z],[]⟩) Q E s:=by
 show wpAny _ _ (field (.ref z) 2 >>= _) _ _ _;refine f_ (wpAny_field H rfl (x:=.bool T) rfl ?_);refine f_ (wpAny_field H rfl (x:=.ref TI) rfl ?_);refine f_ (wpAny_seqItems ac rfl ?_);refine f_ ?_;refine f_ (wpAny_field H rfl (x:=.none) rfl (nc ?_));refine f_ (wpAny_rule ?_);refine f_ (wpAny_field H rfl (x:=.ref TO) rfl ?_);refine f_ (wpAny_setField_rec H (by simp) λha G sa=>?_);refine f_ ?_;refine f_ (f_ (wpAny_onRaise ?_))
 cases R:xs[k1]? with
 |none =>
  refine f_ (my (s:={ s with heap:=ha}) hh (h1.at' λo e=>(sa.2 _ D.i1z).trans e) (L.at' λo e=>(sa.2 _ D.l1z).trans e) R λO e l U=>?_);obtain⟨X,f,i⟩:=U;have M:IsZip O z TI TO .ellipsis:=l _ _ D.i1z.symm G;have u:e≠z:=λq=>by subst q;rw[M]at f;cases f;simp at i
  exact wpAny_setField_rec M (by simp) λP _ j=>hE P e (λc o F _ S _ q=>(j.2 _ F).trans (l _ _ S ((sa.2 _ F).trans q))) ⟨X,(j.2 _ u).trans f,i⟩
 |some x =>
  have hy:ys[k2]?=Y:=by
   rcases C with q|q
   .rw[R]at q;cases q
   .exact q
  refine f_ (jW (s:={ s with heap:=ha}) (h1.at' λo e=>(sa.2 _ D.i1z).trans e) (L.at' λo e=>(sa.2 _ D.l1z).trans e) R λO ak l=>nc ?_);have y:IsPair O TO a b:=(l.2 _ D.TOi1).trans ((sa.2 _ D.TOz).trans Z);refine f_ (wpAny_seqItems y rfl ?_);refine f_ (wpAny_updateSeq_pair y λP ai j=>?_);replace j:Heap.SameBut TO O P:=j;refine f_ (wpAny_letGo (nc ?_));refine f_ (f_ (wpAny_onRaise ?_));show wpAny _ _ (Builtin.SmallTypes.nextOf (.ref i2) >>= _) _ _ _
  refine f_ (my (s:={ s with heap:=P}) hh (h2.at' λo e=>(j.2 _ D.TOi2.symm).trans ((l.2 _ D.i12.symm).trans ((sa.2 _ D.i2z).trans e)))
   (W.at' λo e=>(j.2 _ D.l2TO).trans ((l.2 _ D.l2i1).trans ((sa.2 _ D.l2z).trans e))) hy λhd e sd U=>?_)
  obtain⟨X,f,i⟩:=U;have B:IsZip hd z TI TO .ellipsis:=sd _ _ D.i2z.symm ((j.2 _ D.TOz.symm).trans ((l.2 _ D.i1z.symm).trans G));have u:e≠z:=λq=>by subst q;rw[B]at f;cases f;simp at i
  exact wpAny_setField_rec B (by simp) λhf _ sf=>hE hf e (λc o F c2 S c4 q=>(sf.2 _ F).trans (sd _ _ c4 ((j.2 _ c2).trans ((l.2 _ S).trans ((sa.2 _ F).trans q))))) ⟨X,(sf.2 _ u).trans f,i⟩
def DO(D:ZipApart z TI TO i1 i2 l1 l2)(C:IsZip s.heap z TI TO .none)(u:IsPair s.heap TI (.ref i1) (.ref i2))(j:IsPair s.heap TO a b)(Z:SqI t1 s.heap i1 l1 k1)(W:SqI t2 s.heap i2 l2 k2)(l:SqO t1 s.heap l1 xs)(i:SqO t2 s.heap l2 ys)(R:xs[k1]?=J x)(L:ys[k2]?=J y)(X:∀f,IsZip f z TI TO (rawInt s.heap.objs.size)->IsPair f TO x y->SqI t1 f i1 l1 (k1+1)->SqI t2 f i2 l2 (k2+1)->IsPair f s.heap.objs.size x y->f.objs.size=s.heap.objs.size+1 ->
   (∀c o,c≠z->c≠TO->c≠i1->c≠i2->s.heap.get? c=J o->f.get? c=J o)->Q (J (.ref s.heap.objs.size)) { s with heap:=f}):
  wpAny (model prog w) A (pyNext (.ref z)) Q E s:=by
 have B:s.TypeIs (.ref z) "zip":=⟨_,C,rfl⟩
 exact f_ (wpAny_attempt (wpAny_callSpecial?_slot B F.slot_zip_next
  (wpAny_call_entry F.slot_zip_next B F.entry_zip_next (AB D C u j Z W l i R L λf H O S M G P U=>nc (X f H O S M G P U)) (F.args_zip_next_1 _))))
def Gs(G:A.handled=Y)(D:ZipApart z TI TO i1 i2 l1 l2)(C:IsZip s.heap z TI TO .none)(u:IsPair s.heap TI (.ref i1) (.ref i2))(j:IsPair s.heap TO a b)(R:SqI t1 s.heap i1 l1 k1)(O:SqI t2 s.heap i2 l2 k2)(l:SqO t1 s.heap l1 xs)(i:SqO t2 s.heap l2 ys)(f:xs[k1]?=Y\/ys[k2]?=Y)(P:∀y,(∀c o,c≠z->c≠TO->c≠i1->c≠i2->s.heap.get? c=J o->y.get? c=J o)->Q Y { s with heap:=y}):wpAny (model prog w) A (pyNext (.ref z)) Q E s:=by
 have B:s.TypeIs (.ref z) "zip":=⟨_,C,rfl⟩
 refine f_ (wpAny_attempt (wpAny_callSpecial?_slot B F.slot_zip_next
  (wpAny_call_entry F.slot_zip_next B F.entry_zip_next (CJ G D C u j R O l i f λy e S H=>?_) (F.args_zip_next_1 _))))
 obtain⟨o,M,L⟩:=H;refine f_ (wpAny_isInstance ⟨o,M,L⟩ isSubtype_stop ?_);exact nc (P _ S)
end
abbrev zA(t1:Bool)(h:Heap)(l1:Addr):Heap:=h.push { cls:=.type (FG t1),data:=.fields #[.ref l1,.int 0 0]}
abbrev zB(t1 t2:Bool)(h:Heap)(l1 l2:Addr):Heap:=(zA t1 h l1).push { cls:=.type (FG t2),data:=.fields #[.ref l2,.int 0 0]}
abbrev zC(t1 t2:Bool)(h:Heap)(l1 l2:Addr):Heap:=(zB t1 t2 h l1 l2).push { cls:=.type "tuple",data:=.seq #[.ref h.objs.size,.ref (zA t1 h l1).objs.size]}
abbrev zD(t1 t2:Bool)(h:Heap)(l1 l2:Addr):Heap:=(zC t1 t2 h l1 l2).push { cls:=.type "tuple",data:=.seq #[.none,.none]}
abbrev zE(t1 t2:Bool)(h:Heap)(l1 l2:Addr):Heap:=(zD t1 t2 h l1 l2).push { cls:=.type "zip",data:=.fields #[.none,.bool T,.bool T,.ref (zB t1 t2 h l1 l2).objs.size,.ref (zC t1 t2 h l1 l2).objs.size]}
def Gu(f j:Bool)(a i:Addr)(xs ys:Array Value):
  Meets (Builtin.«zip.__new__» ⟨[.type "zip",.ref a,.ref i],[]⟩) (λ_ R s=>SqO f s.heap a xs/\SqO j s.heap i ys/\R (.ok (.ret (.ref (zD f j s.heap a i).objs.size))) { s with heap:=zE f j s.heap a i}) :=
 .of_wp λprog w A R s h=>by
  obtain⟨C,g,d,tk,os⟩:=s;obtain⟨z,y,h⟩:=h;have B:=sub_zip;have u:SqO f (Shared.heap ⟨C,g,d,tk,os⟩) a xs:=z;have l:SqO j (Shared.heap ⟨C.push { cls:=.type (FG f),data:=.fields #[.ref a,.int 0 0]},g,d,tk,os⟩) i ys:=y.at' λo e=>nj _ e
  wp_walk using kU u,kU l
  exact⟨_,rfl,h⟩
section
variable{prog:Program}{w:World}{A:Around}{E:WE}{s:Shared}
def B6(j:SqO t1 s.heap l1 xs)(l:SqO t2 s.heap l2 ys)(h:∀a,IsZip a (s.heap.objs.size+4) (s.heap.objs.size+2) (s.heap.objs.size+3) .none->IsPair a (s.heap.objs.size+2) (.ref s.heap.objs.size) (.ref (s.heap.objs.size+1)) ->
   IsPair a (s.heap.objs.size+3) .none .none->SqI t1 a s.heap.objs.size l1 0->SqI t2 a (s.heap.objs.size+1) l2 0->a.objs.size=s.heap.objs.size+5 ->
   (∀c o,s.heap.get? c=J o->a.get? c=J o)->Q (.ref (s.heap.objs.size+4)) { s with heap:=a}):
  wpAny (model prog w) A (call (.type "zip") [.ref l1,.ref l2]) Q E s:=by
 refine callType_new F.called_zip (by decide) (F.typeCall_zip_2 _ _) (F.newCall_zip_2 _ _) (λobj=>F.args_object_init_3 obj _ _) F.entry_zip_new (Gu t1 t2 l1 l2 xs ys) ⟨j,l,?_⟩;have z1:(zA t1 s.heap l1).objs.size=s.heap.objs.size+1:=EY ..;have f:(zB t1 t2 s.heap l1 l2).objs.size=s.heap.objs.size+2:=by rw[EY,z1]
 have y:(zC t1 t2 s.heap l1 l2).objs.size=s.heap.objs.size+3:=by rw[EY,f]
 have u:(zD t1 t2 s.heap l1 l2).objs.size=s.heap.objs.size+4:=by rw[EY,y]
 have B:(zE t1 t2 s.heap l1 l2).objs.size=s.heap.objs.size+5:=by rw[EY,u]
 have i:(zE t1 t2 s.heap l1 l2).get? (zD t1 t2 s.heap l1 l2).objs.size=J _:=zj _ rfl;have g4:(zE t1 t2 s.heap l1 l2).get? (zC t1 t2 s.heap l1 l2).objs.size=J _:=nj _ (zj _ rfl);have g3:(zE t1 t2 s.heap l1 l2).get? (zB t1 t2 s.heap l1 l2).objs.size=J _:=nj _ (nj _ (zj _ rfl));have g2:(zE t1 t2 s.heap l1 l2).get? (zA t1 s.heap l1).objs.size=J _:=nj _ (nj _ (nj _ (zj _ rfl)));have z:(zE t1 t2 s.heap l1 l2).get? s.heap.objs.size=J _:=nj _ (nj _ (nj _ (nj _ (zj _ rfl))));rw[f,y,u]at i;rw[z1,f]at g3;rw[y]at g4;rw[z1]at g2;rw[u]
 exact⟨⟨_,i,rfl⟩,h _ i g3 g4 ⟨_,z,rfl,rfl⟩ ⟨_,g2,rfl,rfl⟩ B λc o x =>
  nj _ (nj _ (nj _ (nj _ (nj _ x))))⟩
end
end SeqT
namespace MM
open PySem.Spec PyProof.Rows L2 SeqT
def EM(f:Bool)(K:hR)(H:Hp)(a:Addr)(ys:List V):Prop:=match f with
 |true=>SqT K H a ys
 |false=>SqL K H a ys
section
variable{X:Cx}{Oz:List (Addr × Obj)}{Z:L2.St}{H:Hp}{s:Shared}
def gU(i:Inv X Oz Z H s)(h:EM tp X.K H a ys):∃f:WT,aM ys f/\SqO tp s.heap a f.toArray/\ys.length<=sizeLine:=by
 cases tp with
 |true =>
  obtain⟨f,u,j,l⟩:=i.tuple h;exact⟨f,u,j,l⟩
 |false =>
  obtain⟨f,u,j,l⟩:=i.list h;exact⟨f,u,j.isList,l⟩
def rO(f:Inv X Oz Z H s)(h:EM tp X.K H a xs)(i:EM tp X.K H a ys):xs=ys:=by
 cases tp with
 |true=>exact f.tuple_inj h i
 |false=>exact f.list_inj h i
def mF(f:Inv X Oz Z H s){l:Heap}{t':Nat}{j:WS}(hf:∀b∈j,jF X Oz H b)(k:∀b o,b∉j->s.heap.get? b=J o->l.get? b=J o):
  Inv X Oz Z H { s with heap:=l,toks:=t'}:=by
 have i:∀b u,H b=J u->b∉j:=λb u e z=>by rw[(hf b z).1]at e;cases e
 refine f.step (g':=s.gens) (d':=s.drawn) (λb F=>?_) (λb o _ _ a e _=>k b o a e) (λb o _ _ a e _=>⟨o.slots,k b o a e⟩) (λ_ _ _ _ n=>n)
  (λb o a e=>⟨o,k b o a e⟩) (λ_ _ e=>e) (λ_ _ _ e=>e) (λb Q e=>⟨#[],by rw[e];simp⟩) (λm C=>?_) (λb u e=>?_) f.bare
 .obtain⟨R,L,P,E,y,G⟩:=hf b F;exact⟨E,L,y,G⟩
 .obtain⟨o,O,B,M,r⟩:=C;exact⟨o,O,B,k _ o (λz=>(hf _ z).2.1 rfl) M,r⟩
 .refine (f.hok b u e).stay (λc v a q=>k c v ?_ q) (λ_ q=>q) λ_ _ q=>q;rcases a with z|z
  .rw[z];exact i b u e
  .exact i c _ z
def xY(f:Inv X Oz Z H s){h':Heap}{t':Nat}{ch:WS}{ys:List V}{its:WT}(hf:∀b∈ch,jF X Oz H b)(C:aM ys its)(E:ys.length<=sizeLine)(y:s.heap.objs.size∉ch)(G:h'.get? s.heap.objs.size=J { cls:=.type "tuple",data:=.seq its.toArray})(k:∀b o,b∉ch->s.heap.get? b=J o->h'.get? b=J o):
  Inv X Oz Z (mj H s.heap.objs.size (.tup ys)) { s with heap:=h',toks:=t'}/\(∀b∈ch,(mj H s.heap.objs.size (.tup ys)) b=Y)/\H s.heap.objs.size=Y:=by
 have j:=f.hok.fresh (l_ s.heap.objs.size);have l:∀b∈ch,b≠s.heap.objs.size:=λb a z=>y (by rw[<-z];exact a);have F:Inv X Oz Z (mj H s.heap.objs.size (.tup ys)) { s with heap:=s.heap.push { cls:=.type "tuple",data:=.seq its.toArray},toks:=s.toks} :=
  f.laid (λb u q=>nj _ q) (l_ _) ⟨E,its,C,_,zj _ rfl,rfl,⟨_,rfl⟩,rfl⟩
 have i:∀b∈ch,(mj H s.heap.objs.size (.tup ys)) b=Y:=λb a=>by rw[aN (l b a)];exact(hf b a).1
 refine⟨?_,i,j⟩;refine mF (t':=t') F (λb a=>⟨i b a,(hf b a).2⟩) λb o a e=>?_;by_cases z:b=s.heap.objs.size
 .have B:(s.heap.push { cls:=.type "tuple",data:=.seq its.toArray}).get? s.heap.objs.size=J { cls:=.type "tuple",data:=.seq its.toArray}:=zj _ rfl
  grind
 .have B:=e;rw[Heap.get?_push_ne _ _ _ z]at B;exact k b o a B
end
def Wh(K:hR)(f:Bool)(a:Addr):It :=
 ⟨λi H=>∃ys y,EM f K H a ys/\ys[i]?=J y,λi H x j=>∃p y,H p=Y/\x=.ref p/\j=mj H p (.tup [.int i,y])/\∀ys,EM f K H a ys->ys[i]?=J y,λi H=>∃ys,EM f K H a ys/\ys.length<=i⟩
def BZ{P:Program}{w:World}{K:hR}{U:WX}{x1:Nat}{ar:Pos}(tp:Bool)(a e l:Addr)(M:e≠l)(a1:a≠e)(a3:a≠l):
  EA P w K (.Tuple U x1 ar) (Wh K tp a) [e,l] e (λi h=>(∃old,IsEnum h e l i old)/\SqI tp h l a i) where
 mem:=by simp
 obj:=λi h st b O=>by
  obtain⟨⟨old,j⟩,C⟩:=st
  have:b=e\/b=l:=by simpa using O
  rcases this with rfl|rfl
  .exact⟨_,j,λv z=>nomatch z⟩
  .obtain⟨o,ho,W,hd⟩:=C;exact⟨o,ho,λv z=>by rw[hd]at z;cases z⟩
 keep:=λi h h' st k=>let⟨⟨old,j⟩,C⟩:=st;⟨⟨old,k e (by simp) _ j⟩,C.at' λo q=>k l (by simp) o q⟩
 item:=by
  intro X hP hw hK W i Oz s Z H E f hf st hg;subst hP hw hK;obtain⟨⟨old,j⟩,C⟩:=st;obtain⟨ys,y,hq,hy⟩:=hg;obtain⟨B,rv,so,hz⟩:=gU f hq;obtain⟨u,hu,ru⟩:=rv.get hy;have as:i<B.toArray.size:=by
   have:=(pf.mp hu).1
   simpa using this
  have G:(X.A.in1).handled=Y:=by have:=f.ok.hd W;simpa using this
  refine wpAny_pyNext_enum_itemD (Ot G tp l a a3 B.toArray) j ⟨C,so⟩ as M (by simp[M,Ne.symm a1]) λx h1 tk hx a5 ay a2 a8 ap=>⟨_,rfl,?_⟩;have a6:x=u:=by
   have:B.toArray[i]?=J u:=by simpa using hu
   rw[this]at hx;exact(Option.some.inj hx).symm
  subst a6;refine wpAny_letOwnedTupleGo_enum a5 λh2 ac L=>?_;have F:=pa j;have S:=C.lt;obtain⟨I2,a4,ax⟩:=xY (t':=tk+1) (h':=h2) f (ys:=[.int i,y]) hf (.cons ⟨tk,rfl⟩ (.cons ru .nil)) (by show 2<=_;decide)
   (by simp only[nw,Fa,or_false,not_or];exact⟨Ev F,Ev S⟩)
   ((L.2 _ (Ev F)).trans a2)
   (λb o O q=>by
    have R:b≠e:=λz=>O (by simp[z]);have a0:b≠l:=λz=>O (by simp[z])
    exact(L.2 b R).trans (ap b o R a0 q))
  refine⟨.ref s.heap.objs.size,_,I2,rfl,⟨_,y,ax,rfl,rfl,λzs aF=>by rw[rO f aF hq];exact hy⟩,⟨⟨x,by simpa using ac⟩,?_⟩,a4⟩;exact ay.1.at' λo q=>(L.2 l (Ne.symm M)).trans q
 done:=by
  intro X hP hw hK W i Oz s Z H E f hf st hg;subst hP hw hK;obtain⟨⟨old,j⟩,C⟩:=st;obtain⟨ys,hq,hy⟩:=hg;obtain⟨B,rv,so,hz⟩:=gU f hq;have G:(X.A.in1).handled=Y:=by have:=f.ok.hd W;simpa using this
  have a7:=rv.length;have hT:s.TypeIs (.ref e) "enumerate":=⟨_,j,rfl⟩;refine f_ (wpAny_attempt (wpAny_callSpecial?_slot hT PySem.F.slot_enumerate_next (wpAny_call_entry PySem.F.slot_enumerate_next hT PySem.F.entry_enumerate_next ?_ (PySem.F.args_enumerate_next_1 _))));show wpAny _ _ (field (.ref e) 2 >>= _) _ _ _;refine f_ (wpAny_field j rfl rfl ?_);refine f_ (my G C so (by simp;ext) λh1 x ai ak=>?_);obtain⟨o,ho,al⟩:=ak;refine f_ (wpAny_isInstance (T:="StopIteration") (b:=I) ⟨o,ho,al⟩ isSubtype_stop ?_);refine nc ⟨rfl,mF (t':=s.toks) f hf λb o O q=>ai b o (λz=>O (by simp[z])) q⟩
 self:=λA i s Q E st h=>let⟨⟨old,j⟩,_⟩:=st;wpAny_pyIter_enum j h
def Wi(K:hR)(f j:Bool)(a b:Addr):It :=
 ⟨λi H=>∃xs ys x y,EM f K H a xs/\EM j K H b ys/\xs[i]?=J x/\ys[i]?=J y,
   λi H v l=>∃p x y,H p=Y/\v=.ref p/\l=mj H p (.tup [x,y])/\(∀xs,EM f K H a xs->xs[i]?=J x)/\∀ys,EM j K H b ys->ys[i]?=J y,
   λi H=>∃xs ys,EM f K H a xs/\EM j K H b ys/\(xs.length<=i\/ys.length<=i)⟩
def Du{P:Program}{w:World}{K:hR}{ar:WX}{x1:Nat}{aF:Pos}(t1 t2:Bool)(a b z TI TO G L:Addr)(D:ZipApart z TI TO G L a b):
  EA P w K (.Tuple ar x1 aF) (Wi K t1 t2 a b) [z,TI,TO,G,L] z (λi h=>IsZip h z TI TO .none/\IsPair h TI (.ref G) (.ref L)/\(∃u v,IsPair h TO u v)/\SqI t1 h G a i/\SqI t2 h L b i) where
 mem:=by simp
 obj:=λi h st c l=>by
  obtain⟨M,j,⟨u,v,B⟩,⟨o1,e1,_,d1⟩,⟨o2,e2,_,d2⟩⟩:=st
  have:c=z\/c=TI\/c=TO\/c=G\/c=L:=by simpa using l
  rcases this with rfl|rfl|rfl|rfl|rfl
  .exact⟨_,M,λv z=>nomatch z⟩
  .exact⟨_,j,λv z=>nomatch z⟩
  .exact⟨_,B,λv z=>nomatch z⟩
  .exact⟨o1,e1,λv z=>by rw[d1]at z;cases z⟩
  .exact⟨o2,e2,λv z=>by rw[d2]at z;cases z⟩
 keep:=λi h h' st k=>let⟨M,j,⟨u,v,B⟩,h1,h2⟩:=st
  ⟨k z (by simp) _ M,k TI (by simp) _ j,⟨u,v,k TO (by simp) _ B⟩,h1.at' λo q=>k G (by simp) o q,h2.at' λo q=>k L (by simp) o q⟩
 item:=by
  intro X hP hw hK l i Oz s Z H E f hf st hg;subst hP hw hK;obtain⟨M,j,⟨u,v,B⟩,h1,h2⟩:=st;obtain⟨xs,ys,x,y,C,F,hx,hy⟩:=hg;obtain⟨ap,R,S,a2⟩:=gU f C;obtain⟨al,O,W,as⟩:=gU f F;obtain⟨u1,a6,a1⟩:=R.get hx;obtain⟨u2,ay,a8⟩:=O.get hy;refine DO D M j B h1 h2 S W (x:=u1) (y:=u2) (by simpa using a6) (by simpa using ay) λha a7 ak a3 ax a5 bm ai=>⟨_,rfl,?_⟩;refine wpAny_letOwnedTupleGo_zip (s:={ s with heap:=ha}) a7 λhb a9 sb=>?_;have l1:z<s.heap.objs.size:=pa M;have l2:TI<s.heap.objs.size:=pa j;have l3:TO<s.heap.objs.size:=pa B;have l4:G<s.heap.objs.size:=h1.lt;have l5:L<s.heap.objs.size:=h2.lt;have up:∀c o,c≠z->ha.get? c=J o->hb.get? c=J o:=λc o l q=>(sb.2 c l).trans q;obtain⟨I2,a4,a0⟩:=xY (t':=s.toks) (h':=hb) f (ch:=[z,TI,TO,G,L]) (ys:=[x,y]) (its:=[u1,u2]) hf (.cons a1 (.cons a8 .nil)) (by show 2<=_;decide)
   (by simp only[nw,Fa,or_false,not_or];exact⟨Ev l1,Ev l2,Ev l3,Ev l4,Ev l5⟩)
   (up _ _ (Ev l1) a5)
   (λc o l q=>up c o (λe=>l (by simp[e])) (ai c o (λe=>l (by simp[e])) (λe=>l (by simp[e])) (λe=>l (by simp[e])) (λe=>l (by simp[e])) q))
  refine⟨.ref s.heap.objs.size,_,I2,rfl,⟨_,x,y,a0,rfl,rfl,λzs U=>by rw[rO f U C];exact hx,λzs U=>by rw[rO f U F];exact hy⟩,⟨a9,?_,⟨_,_,up _ _ D.TOz ak⟩,a3.at' λo q=>up _ o D.i1z q,ax.at' λo q=>up _ o D.i2z q⟩,a4⟩;exact up _ _ D.TIz (ai _ _ D.TIz D.TITO D.TIi1 D.TIi2 j)
 done:=by
  intro X hP hw hK l i Oz s Z H E f hf st hg;subst hP hw hK;obtain⟨M,j,⟨u,v,B⟩,h1,h2⟩:=st;obtain⟨xs,ys,C,F,ac⟩:=hg;obtain⟨ap,R,S,a2⟩:=gU f C;obtain⟨al,O,W,as⟩:=gU f F;have e1:=R.length;have e2:=O.length;refine Gs (f.ok.hd l) D M j B h1 h2 S W ?_ λh' hk=>⟨rfl,mF (t':=s.toks) f hf λc o l q=>hk c o (λe=>l (by simp[e])) (λe=>l (by simp[e])) (λe=>l (by simp[e])) (λe=>l (by simp[e])) q⟩;rcases ac with q|q
  .exact .inl (by simp;ext)
  .exact .inr (by simp;ext)
 self:=λA i s Q E st h=>wpAny_pyIter_zip st.1 h
def bF(v:PV)(h:MH):Option (Bool×WL×List (Nat×WL)):=match v with
 |.loc n=>(match h[n]? with
  |some (.lst xs)=>J (T,xs,[(n,xs)])
  |_=>Y)
 |.frl xs=>J (T,xs,[])
 |.tup xs=>J (I,xs,[])
 |_=>Y
def qL{X:Cx}{U:WS}{H:Hp}{h:MH}{x:PV}{y:V}{B:Bool}{xs:WL}{gd:List (Nat×WL)}(O:RH X.K X.mg U H h)(r:RP X.K U H x y)(e:bF x h=J (B,xs,gd)):
  ∃a,y=.ref a/\(∃ys,EM B X.K H a ys)/\∀i f j,Le U H i f->RH X.K X.mg i f j->(∀p∈gd,j[p.1]?=J (.lst p.2))->∃ys,EM B X.K f a ys/\RPs X.K i f xs ys:=by
 cases r with
 |frl s r=>cases e;exact⟨_,rfl,⟨_,s.sq⟩,λi f j l _ _=>⟨_,(l.sqf s).sq,r.le l⟩⟩
 |tup s r=>cases e;exact⟨_,rfl,⟨_,s⟩,λi f j l _ _=>⟨_,l.sqt s,r.le l⟩⟩
 |@loc n a F =>
  obtain⟨o,M,G⟩:=O.obj F;unfold bF at e;dsimp only at e;rw[M]at e
  cases o with
  |lst Q =>
   cases e;obtain⟨ys,L,P⟩:=G;refine⟨a,rfl,⟨ys,SqL.of L⟩,λi f j l C ok=>?_⟩;obtain⟨z,u,E⟩:=C.at' n a _ (l.get F) (ok (n,xs) (by simp));exact⟨z,SqL.of u,E⟩
  |_=>cases e
 |_=>cases e
def dM(xs:WL):WL:=xs.zipIdx.map λp=>.tup [.int (p.2:Int),p.1]
def kJ(xs ys:WL):WL:=(xs.zip ys).map λp=>.tup [p.1,p.2]
def A8{xs:WL}{i:Nat}{x:PV}(h:xs[i]?=J x):(dM xs)[i]?=J (.tup [.int (i:Int),x]):=by unfold dM;rw[se,Nd,h];simp
def tW(xs:WL):(dM xs).length=xs.length:=by simp[dM]
def vt(xs ys:WL):(kJ xs ys).length=min xs.length ys.length:=by simp[kJ]
def CZ{xs ys:WL}{i:Nat}{x y:PV}(f:xs[i]?=J x)(a:ys[i]?=J y):(kJ xs ys)[i]?=J (.tup [x,y]):=by
 unfold kJ;rw[se]
 have:(xs.zip ys)[i]?=J (x,y):=by rw[List.getElem?_zip_eq_some];exact⟨f,a⟩
 rw[this];rfl
def vq(m:Mx (WL)):Mx MIt:=λZ h=>(m Z h).bind λf a=>match f with
 |[x]=>(match bF x a with
  |some (_,xs,gd)=>.ok ⟨dM xs,gd⟩ a
  |none=>.bad)
 |_=>.bad
def Te(m:Mx (WL)):Mx MIt:=λZ h=>(m Z h).bind λi a=>match i with
 |[x,y]=>(match bF x a,bF y a with
  |some (_,xs,f),J (_,ys,g2)=>.ok ⟨kJ xs ys,f++g2⟩ a
  |_,_=>.bad)
 |_=>.bad
section
variable{X:Cx}{N W G:WM}{k:Nat}
def ye(g:Good X N W G k){aF:WX}{x1:Nat}{tp:Pos}{a:Expr}{m:Mx (WL)}{p ap:Pos}{j:Nat}(hj:G[j]?=J "enumerate")(hm:X.mg "enumerate"=Y)(ha:MA X [a] m)(hs:starEach [a] X.env=[(T,eval a X.env)]:=by rfl):MI X (.Tuple aF x1 tp) (.Call (.Name "enumerate" p) [a] [] ap) (vq m):=by
 have d:=g.dbg _ (xn _ (aO hj));intro Oz s Z H R ay ⟨U,ac,h,rs,rh,q⟩;refine wpAny_Call_Name_kw (iK ay (g.gl _ (aO hj)) hm PyProof.Rows.Boot.«enumerate» ?_ d.2.2 d.1)
 refine PyProof.Rows.callWith_type1 (mf (ha ap Oz s Z H (λvs B=>∃M Q xs,Le U H M B/\RH X.K X.mg M B Q/\RPs X.K M B xs vs/\Ful X (qk X) ac M B ((match xs with
   |[x]=>(match bF x Q with|some (_,xs,gd)=>.ok ⟨dM xs,gd⟩ Q|none=>.bad)
   |_=>.bad:Out MIt)) R) ay ⟨U,ac,h,rs,rh,Ful.bind q λM B v v' Q _ l1 L rv E=>⟨M,Q,v,l1,L,rv,E⟩⟩) λus O a1=>?_) hs rfl
 obtain⟨vs,B,I1,r1,M,Q,xs,l1,L,rv,E⟩:=a1
 cases rv with
 |nil=>exact E.elim
 |@cons y y' ys bm ry t1 =>
  cases t1 with
  |cons _ _=>exact E.elim
  |nil =>
   dsimp only at E
   cases S:bF y Q with
   |none=>rw[S]at E;exact E.elim
   |some z =>
    obtain⟨b,zs,gd⟩:=z;rw[S]at E;obtain⟨ad,rfl,⟨ws,a0⟩,a2⟩:=qL L ry S;obtain⟨u,rfl,rx⟩:=iu r1;cases rx;obtain⟨a9,a8,so,hz⟩:=gU I1 a0;refine BM so λh' he hi a7 hk=>?_;refine wpAny_pyIter_enum he ?_;have I2:Inv X Oz Z B { O with heap:=h',toks:=O.toks}:=I1.kept hk;obtain⟨oa,a4,a6,_⟩:=id so;have ar:=pa a4;have ak:=I1.hok.fresh (l_ O.heap.objs.size);have as:=I1.hok.fresh (Ic O.heap.objs.size);refine⟨O.heap.objs.size+1,_,_,_,B,rfl,I2,BZ b ad _ O.heap.objs.size (Ev (R9 _)) (zt (R7 ar)) (zt ar),⟨⟨_,he⟩,hi⟩,λc hc=>?_,?_⟩
    .have:c=O.heap.objs.size+1\/c=O.heap.objs.size:=by simpa using hc
     rcases this with rfl|rfl
     .have F:=Inv.fpOk I1 (H':=B) (Ic _) as;exact F
     .exact Inv.fpOk I1 (H':=B) (l_ _) ak
    .refine E M B _ (Le.refl _ _) L ?_;intro U' H' h2 i l al ok;obtain⟨P,f,ax⟩:=a2 U' H' h2 l al ok;refine⟨λC=>?_,λC=>⟨P,f,by rw[<-ax.length];rw[tW]at C;exact C⟩⟩;rw[tW]at C;have hx:=yZ C;obtain⟨w',ew,rw'⟩:=ax.get hx;refine⟨⟨P,w',f,ew⟩,λx' H3 a3=>?_⟩;obtain⟨pp,y2,hp,e1,e2,ai⟩:=a3;subst e1;subst e2;have ey:y2=w':=by
      have:=ai P f
      rw[ew]at this;exact(Option.some.inj this).symm
     subst ey;obtain⟨a5,l3⟩:=al.tup hp [.int i,y2];exact⟨U',_,l3,a5,A8 hx,.tup (SqT.of ba) (.cons (.int _) (.cons (rw'.le l3) .nil))⟩
def KY(g:Good X N W G k){cd:WX}{x1:Nat}{tp:Pos}{a b:Expr}{m:Mx (WL)}{p a0:Pos}{j:Nat}(hj:G[j]?=J "zip")(hm:X.mg "zip"=Y)(ha:MA X [a,b] m)(hs:starEach [a,b] X.env=(T,eval a X.env)::starEach [b] X.env:=by rfl)(ck:(backTo a0 (starEach [b] X.env)).any (·.1)=T:=by rfl):MI X (.Tuple cd x1 tp) (.Call (.Name "zip" p) [a,b] [] a0) (Te m):=by
 have d:=g.dbg _ (xn _ (aO hj));intro Oz s Z H R b5 ⟨U,a7,h,rs,rh,q⟩;refine wpAny_Call_Name_kw (iK b5 (g.gl _ (aO hj)) hm PyProof.Rows.Boot.«zip» ?_ d.2.2 d.1)
 refine PyProof.Rows.callWith_type1 (mf (ha a0 Oz s Z H (λvs Q=>∃U1 h1 xs,Le U H U1 Q/\RH X.K X.mg U1 Q h1/\RPs X.K U1 Q xs vs/\Ful X (qk X) a7 U1 Q ((match xs with
   |[x,y]=>(match bF x h1,bF y h1 with|some (_,xs,g1),J (_,ys,g2)=>.ok ⟨kJ xs ys,g1++g2⟩ h1|_,_=>.bad)
   |_=>.bad:Out MIt)) R) b5 ⟨U,a7,h,rs,rh,Ful.bind q λU1 Q v v' h1 _ l1 P rv M=>⟨U1,h1,v,l1,P,rv,M⟩⟩) λus f cp=>?_) hs ck
 obtain⟨vs,Q,I1,r1,U1,h1,xs,l1,P,rv,M⟩:=cp
 cases rv with
 |nil=>exact M.elim
 |@cons y y' ys ds ry t1 =>
  cases t1 with
  |nil=>exact M.elim
  |@cons v v' dc c6 rv t2 =>
   cases t2 with
   |cons _ _=>exact M.elim
   |nil =>
    dsimp only at M
    cases al:bF y h1 with
    |none=>rw[al]at M;exact M.elim
    |some z =>
     obtain⟨b1,bv,dq⟩:=z
     cases O:bF v h1 with
     |none=>rw[al,O]at M;exact M.elim
     |some z2 =>
      obtain⟨b2,b6,dr⟩:=z2;rw[al,O]at M;obtain⟨E,rfl,⟨dt,b3⟩,ca⟩:=qL P ry al;obtain⟨C,rfl,⟨de,br⟩,bm⟩:=qL P rv O
      cases r1 with
      |@cons _ u1 _ dk cx c2 =>
       cases c2 with
       |@cons _ u2 _ di c4 c1 =>
        cases c1;cases cx;cases c4;obtain⟨da,c5,b0,dj⟩:=gU I1 b3;obtain⟨c7,db,cc,dd⟩:=gU I1 br;refine B6 b0 cc λh' hz cB cs cy ch df hk=>?_;refine wpAny_pyIter_zip hz ?_;have I2:Inv X Oz Z Q { f with heap:=h',toks:=f.toks}:=I1.kept hk;obtain⟨dv,a8,_,_⟩:=id b0;obtain⟨dn,b4,_,_⟩:=id cc;have ak:E<f.heap.objs.size:=pa a8;have ai:C<f.heap.objs.size:=pa b4;have sN:∀(n:Nat),f.heap.objs.size<=f.heap.objs.size+n:=λn=>Nat.le_add_right _ _;have ap:∀(c:Addr)(n:Nat),c<f.heap.objs.size->c≠f.heap.objs.size+n:=λc n hc=>zt (t_ hc (sN n));have u:∀(m n:Nat),m≠n->f.heap.objs.size+m≠f.heap.objs.size+n:=λm n cQ e=>cQ (Nat.add_left_cancel e);have D:ZipApart (f.heap.objs.size+4) (f.heap.objs.size+2) (f.heap.objs.size+3) f.heap.objs.size (f.heap.objs.size+1) E C :=
         ⟨u 2 4 (by decide),u 3 4 (by decide),u 0 4 (by decide),u 1 4 (by decide),u 2 3 (by decide),u 2 0 (by decide),u 2 1 (by decide),u 3 0 (by decide),u 3 1 (by decide),u 0 1 (by decide),
          ap E 4 ak,ap E 3 ak,ap E 0 ak,ap E 1 ak,ap C 4 ai,ap C 3 ai,ap C 0 ai,ap C 1 ai⟩
        refine⟨f.heap.objs.size+4,_,_,_,Q,rfl,I2,Du b1 b2 E C _ _ _ _ _ D,⟨hz,cB,⟨_,_,cs⟩,cy,ch⟩,λc hc=>?_,?_⟩
        .have F:∀n:Nat,jF X Oz Q (f.heap.objs.size+n):=λn=>Inv.fpOk I1 (H':=Q) (sN n) (I1.hok.fresh (sN n))
         have:c=f.heap.objs.size+4\/c=f.heap.objs.size+2\/c=f.heap.objs.size+3\/c=f.heap.objs.size\/c=f.heap.objs.size+1:=by simpa using hc
         rcases this with rfl|rfl|rfl|rfl|rfl
         .exact F 4
         .exact F 2
         .exact F 3
         .exact F 0
         .exact F 1
        .refine M U1 Q _ (Le.refl _ _) P ?_;intro U' H' h2 i l aF ok;obtain⟨S,B,as⟩:=ca U' H' h2 l aF (λp hp=>ok p (Fy _ hp));obtain⟨ac,L,ar⟩:=bm U' H' h2 l aF (λp hp=>ok p (xn _ hp));refine⟨λa3=>?_,λa3=>⟨S,ac,B,L,?_⟩⟩
         .rw[vt]at a3;have a4:bv[i]?=J (bv[i]'(by ext)):=yZ (by ext);have a6:b6[i]?=J (b6[i]'(by ext)):=yZ (by ext);obtain⟨w1,a9,cw⟩:=as.get a4;obtain⟨w2,a5,cv⟩:=ar.get a6;refine⟨⟨S,ac,w1,w2,B,L,a9,a5⟩,λx' H3 cn=>?_⟩;obtain⟨pp,y1,y2,hp,e1,e2,ay,ax⟩:=cn;subst e1;subst e2;have ci:y1=w1:=by
           have:=ay S B
           rw[a9]at this;exact(Option.some.inj this).symm
          have cm:y2=w2:=by
           have:=ax ac L
           rw[a5]at this;exact(Option.some.inj this).symm
          subst ci;subst cm;obtain⟨c3,l3⟩:=aF.tup hp [y1,y2];exact⟨U',_,l3,c3,CZ a4 a6,.tup (SqT.of ba) (.cons (cw.le l3) (.cons (cv.le l3) .nil))⟩
         .rw[vt]at a3;have a1:=as.length;have a2:=ar.length;ext
end
end MM
namespace MM
open PySem.Spec PyProof.Rows L2 SetT SortT
def nC:WL->Option (WN)
 |[]=>J []
 |.int i::r=>(nC r).map (i::·)
 |_=>Y
def iW(l:WN):WN:=l.mergeSort λa b=>decide (a<=b)
def jX(l:WN):(iW l).Perm l:=List.mergeSort_perm _ _
def qh(l:WN):(iW l).Pairwise (·<=·):=by
 have:=List.pairwise_mergeSort (le:=λa b:Int=>decide (a<=b)) (λa b c i f=>by
   simp only[decide_eq_true_eq]at i f ⊢;lia) (λa b=>by
   lia)
 unfold iW
 simp_all
def kK{l m:WN}(i:l.Pairwise (·<=·))(f:m.Pairwise (·<=·))(p:l.Perm m):l=m :=
 List.Perm.eq_of_pairwise (λa b _ _ x y=>by lia) i f p
def yj:∀{xs:WL}{k:WN},nC xs=J k->xs=k.map .int
 |[],k,h=>by cases h;rfl
 |x::r,k,h=>by
  cases x with
  |int i =>
   unfold nC at h
   cases hr:nC r with
   |none=>rw[hr]at h;cases h
   |some a =>
    rw[hr]at h;cases h;rw[yj hr];rfl
  |_=>cases h
def wv(xs:WL)(h:MH):WZ:=match xs with
 |[x]=>(match ko h x with
  |some ys=>(match nC ys with
   |some ns=>if ns.length<64 then .ok (.loc h.length) (h++[.lst ((iW ns).map .int)])else .bad
   |none=>.bad)
  |none=>.bad)
 |_=>.bad
def vD:∀{ns:WN}{a:WT},aM (ns.map V.int) a->IntsAre a ns
 |[],_,h=>by cases h;exact .nil
 |i::k,_,h=>by
  cases h with
  |cons r t =>
   obtain⟨tk,rfl⟩:=r;exact .cons i tk (vD t)
def vb:∀{ns:WN}{a:WT},IntsAre a ns->aM (ns.map V.int) a
 |_,_,.nil=>.nil
 |_,_,.cons n t h=>.cons ⟨t,rfl⟩ (vb h)
section
variable{X:Cx}{N W G:WM}{k:Nat}
def uE:dQ X (.builtin "sorted") (λxs H Q=>∃l ns,xs=[.ref l]/\SqL X.K H l (ns.map V.int)/\ns.length<64/\∀B,H B=Y->Q (.ref B) (mj H B (.lst ((iW ns).map V.int)))):=by
 intro Oz s Z H xs us Q f r ⟨l,ns,e,hq,hz,q⟩;subst e;obtain⟨u,rfl,L⟩:=iu r;cases L;obtain⟨a,F,P,R⟩:=f.list hq;have y:=F.length;rw[qx]at y;refine sorted_ints P.isList (vD F) ⋯ λi M h1 S U=>?_;have e:=kK U (qh ns) (S.trans (jX ns).symm);subst e;have z:((s.heap.push (seqObj "list" #[] 0)).update s.heap.objs.size (Obj.mapSeq (·++a.toArray))).objs.size=s.heap.objs.size+1:=by rw[Heap.size_update,size_push']
 have C:(((s.heap.push (seqObj "list" #[] 0)).update s.heap.objs.size (Obj.mapSeq (·++a.toArray))).push (seqObj "list" a.toArray 0)).get? (s.heap.objs.size+1)=J (seqObj "list" a.toArray 0):=by rw[<-z];exact zj _ rfl
 obtain⟨c,O⟩:=jR C i;refine⟨.ref (s.heap.objs.size+1),_,f.laid (o:=.lst ((iW ns).map V.int)) (t':=s.toks) (λb o E=>?_) (Ic _) (⟨?_,i.toList,c,vb h1,?_⟩),rfl,q _ (f.hok.fresh (Ic _))⟩
 .have j:=pa E;refine jw (zt (R7 j)) ?_ _;refine nj _ ?_;rw[Jr _ _ _ _ (zt j)];exact nj _ E
 .rw[qx,(jX ns).length_eq,sizeLine_eq];lia
 .unfold sortedAll;rw[O]
def tN:dg X (.builtin "sorted") wv:=by
 intro M s Z H xs S Q u r ⟨U,h,ps,E,rp,q⟩
 cases rp with
 |nil=>exact q.elim
 |@cons x y _ _ R F =>
  cases F with
  |cons _ _=>exact q.elim
  |nil =>
   unfold wv at q;dsimp only at q
   cases C:ko h x with
   |none=>rw[C]at q;exact q.elim
   |some L =>
    rw[C]at q;dsimp only at q;obtain⟨O,ys,rfl,f,a⟩:=Gq E R C
    cases i:nC L with
    |some ns =>
     rw[i]at q;dsimp only at q;by_cases z:ns.length<64
     .rw[c_ z]at q;rw[yj i]at a;rw[Iz a]at f;refine uE M s Z H _ S Q u r ⟨O,ns,rfl,f,z,λl j=>?_⟩;obtain⟨B,P⟩:=E.new j (o:=.lst ((iW ns).map .int)) ⟨_,rfl,RPs.ints _⟩;exact q _ _ _ P B (.loc (by rw[<-E.len];simp))
     .rw[g_ z]at q;exact q.elim
    |none=>rw[i]at q;exact q.elim
end
def Gw:DT X b (λ_ _=>.bad):=λi s Z H D f ⟨U,a,h,l,j,q⟩=>q.elim
end MM
namespace MM
open PySem.Spec PyProof.Rows L2
end MM
namespace MM
open PySem.Spec PyProof.Rows L2 SetT SortT
section
variable{h:MH}{i:Int}{xs:WL}{n:Nat}
def BF(e:h[n]?=J (.lst xs)):bW h (.loc n)=J xs:=by simp[bW,e]
def zw(e:h[n]?=J (.lst xs))(a:xs.length<1000):ia n [v] h=.ok .non (h.set n (.lst (xs++[v]))):=by
 have z:1000<=sizeLine:=by decide
 simp only[ia,e];rw[c_ ⋯]
def wA:∀(m:Nat),kC (List.replicate m (.bl I))=J (List.replicate m I)
 |0=>rfl
 |m+1=>by
  rw[Jq];unfold kC;rw[wA m];rfl
def BU(e:h[n]?=J (.lst (List.replicate m (.bl I)))):EF [.loc n] h=.ok (.bl I) h:=by simp[EF,BF e,wA]
end
def itR1'(em:m Z h=.ok [.int j] h1)(z:-(2^62)<=j/\j<2^62):d8 m Z h=.ok ⟨bI 0 j.toNat,[]⟩ h1:=by simp_all
def Gx(em:m Z h=.ok [.int (n:Int)] h1)(f:n<=100000):d8 m Z h=.ok ⟨bI 0 n,[]⟩ h1:=by
 have z1:-(2^62)<=(n:Int):=Int.le_trans (by decide) (Int.natCast_nonneg n);have a:(n:Int)<2^62:=Int.lt_of_le_of_lt (Int.ofNat_le.mpr f) (by decide)
 have:=itR1' em ⟨z1,a⟩
 rwa [Eu]at this
def hV:∀(k:WN),PyData.canLayAll0 (k.map .int)=I/\PyData.depthAll (k.map .int)<=1
 |[]=>⟨rfl,by simp[PyData.depthAll]⟩
 |i::k=>by
  obtain⟨a,b⟩:=hV k;constructor
  .simp[PyData.canLayAll0,PyData.canLay0,a]
  .simp only[k_,PyData.depthAll,PyData.depth];lia
def vX:∀(f:WP),PyData.canLayAll0 (f.map λk=>.tuple (k.map .int))=I/\PyData.depthAll (f.map λk=>.tuple (k.map .int))<=2
 |[]=>⟨rfl,by simp[PyData.depthAll]⟩
 |k::f=>by
  obtain⟨a,b⟩:=vX f;obtain⟨c,d⟩:=hV k;constructor
  .simp[PyData.canLayAll0,PyData.canLay0,a,c]
  .simp only[k_,PyData.depthAll,PyData.depth];lia
end MM
namespace MM
open PySem.Spec PyProof.Rows L2
def pG(h:MH):PV->Option Bool
 |.non=>J T
 |.bl b=>J b
 |.int i=>J (i != 0)
 |.str _=>Y
 |.tup xs=>J (!xs.isEmpty)
 |.frl xs=>J (!xs.isEmpty)
 |.loc n=>match h[n]? with
  |some (.lst xs)=>J (!xs.isEmpty)
  |_=>Y
def Vo(m:Mx PV):Mx Bool:=λZ h=>(m Z h).bind λv a=>match pG a v with
 |some b=>.ok b a
 |none=>.bad
section
variable{X:Cx}{N W G:WM}{k:Nat}
def nL{K:hR}{U:WS}{H:Hp}{xs:WL}{ys:List V}(r:RPs K U H xs ys):(!xs.isEmpty)=!ys.isEmpty:=by cases r<;>rfl
def KZ{e:Expr}{m:Mx PV}(h:ME X e m)(M:∀l,isTrue e X.env l=(do let v <-l;standAt e.pos;holding [v] (truthy v)):=by intro _;rfl):MT X e (Vo m):=by
 refine PT.imp (DI h M) λZ H Q ⟨U,B,h,F,R,q⟩=>⟨U,B,h,F,R,Ful.bind q λu y x x' h1 _ S f L j=>?_⟩
 cases L with
 |non=>exact⟨T,rfl,j u y _ (Le.refl _ _) f rfl⟩
 |bl b=>exact⟨b,rfl,j u y _ (Le.refl _ _) f rfl⟩
 |int i=>exact⟨_,rfl,j u y _ (Le.refl _ _) f rfl⟩
 |str i=>exact j.elim
 |@tup xs a ys s r=>exact⟨_,.inr (.inl ⟨ys,s,rfl⟩),by rw[<-nL r];exact j u y _ (Le.refl _ _) f rfl⟩
 |@frl xs a ys s r=>exact⟨_,.inl ⟨ys,s.sq,rfl⟩,by rw[<-nL r];exact j u y _ (Le.refl _ _) f rfl⟩
 |@loc n a e =>
  obtain⟨o,C,O⟩:=f.obj e
  cases o with
  |lst xs =>
   obtain⟨ys,P,E⟩:=O;simp only[pG,C]at j;exact⟨_,.inl ⟨ys,.inl (.inl P),rfl⟩,by rw[<-nL E];exact j u y _ (Le.refl _ _) f rfl⟩
  |dic fz ks xs=>simp only[pG,C]at j;exact j.elim
  |exc z=>simp only[pG,C]at j;exact j.elim
end
end MM
namespace MM
open PySem.Spec PyProof.Rows L2 PySem.W
end MM
namespace DcT
open PyProof.Rows
section
variable{prog:Program}{w:World}{A:Around}{E:WE}{s:Shared}
def zO:typeLookup (.type "tuple") "keys"=pure Y:=by rw[typeLookup_type,builtinLookup_eq_fast];kernel_rfl
def Au(u:s.heap.get? a=J o)(G:o.cls=.type "tuple")(i:o.data=.seq xs k)(hd:o.dict=Y)(L:A.handled=Y)(h:∀l tk e,Heap.NewExcOf s.heap l e "AttributeError"->Q Y { s with heap:=l,toks:=tk}):wpAny (model prog w) A (getAttr? (.ref a) "keys") Q E s:=by
 obtain⟨c,B,H,z⟩:=o;subst G i hd;obtain⟨C,g,d,tk,os⟩:=s;have y:∀j,(⟨C,g,d,j,os⟩:Shared).TypeIs (.ref a) "tuple":=λ_=>⟨_,u,rfl⟩;have U:=sub_AttributeError;have P:=F.slot_tuple_getattribute.lookup;have O:=F.slot_tuple_getattribute.bind (.ref a);have S:=am_tuple_getattr_none;unfold getAttr? getAttrBy? getAttrBy
 repeat (any_goals (first | assumption | exact y _ | ((with_reducible show wpAny _ _ (call (Value.builtin "tuple.__getattribute__") _ _) _ _ _);refine call_meets F.slot_tuple_getattribute (y _) am_entry_tuple_getattribute (F.args_tuple_getattribute_2 _ _) (meets_getattribute_miss_tuple a xs k z "keys" _ zO (by decide +kernel) (by decide)) ⟨u,L,λl j e f=>?_⟩)|wp_step))
 obtain⟨M,W,R⟩:=f.there;show wpAny _ _ (getattributeRaised _ _ _ _ _ _ _) _ _ _;unfold getattributeRaised
 repeat (any_goals (first | assumption | wp_step))
 exact h _ _ _ f.of
def ph:entryFor table "dict.update.loop"=J Builtin.«dict.update.loop»:=entryFor_of_tree (by kernel_rfl)
def kA:plainId "dict.update.loop"=I:=by decide +kernel
def K0(a h:Heap):Prop:=∀b o,a.get? b=J o->h.get? b=J o
def jU{h i:Heap}{d:Addr}{a:List (Int×Value)}(f:h.DictOf (intKind prog w) d a)(hd:∀o,h.get? d=J o->i.get? d=J o):i.DictOf (intKind prog w) d a:=by obtain⟨o,l,u,j,r⟩:=f;exact⟨o,l,u,hd o j,r⟩
def yQ{a:List (Int×Value)}{k:Int}{v:Value}(h:k∉a.map (·.1)):stored a k v=a++[(k,v)]:=by unfold stored;rw[g_];intro z;rw[List.any_eq_true]at z;obtain⟨x,f,e⟩:=z;exact h (nr.mpr ⟨x,f,by simpa using e⟩)
def Ou{R:Result->Shared->Prop}{O:Addr}{fp S:WS}{G:Array GenState->Array GenState->Prop}{n:Nat}{P:Nat->Value->Prop}{St:Nat->Shared->Prop}(W:WalksS prog w A.in1 O fp S G n P St)(d:Addr)(ak:d∉fp){H0:Heap}(a3:H0.get? d=Y)(a6:∀b∈S,H0.get? b=Y)(f:List (Int×Value))(hn:f.length=n)(bm:n<=sizeLine)(nd:(f.map (·.1)).Nodup)(ax:∀i v u,P i v->f[i]?=J u->∃a t,v=.ref a/\H0.IsTuple a #[.int u.1 t,u.2]):
  ∀(c i:Nat)(s:Shared)(j:Int)(tj:Tok),n-i=c->i<=n->St i s->K0 H0 s.heap->s.heap.DictOf (intKind prog w) d (f.take i) ->
   (∀l,Moved (d::S) G s l->K0 H0 l.heap->l.heap.DictOf (intKind prog w) d f->R (.ok (.ret .none)) l) ->
   codeAny (model prog w) A (.builtin "dict.update.loop" ⟨[.ref d,.ref O,.int j tj,.none],[]⟩) R s:=by
 have ap:d∉S:=λh=>ak (W.sub _ h);have B:∀b∈S,b∈d::S:=λb M=>ml _ M;have C:∀{s l:Shared},Moved S G s l->K0 H0 s.heap->K0 H0 l.heap:=λ{s l} y x b o e =>
  y.heap b o (λM=>by rw[a6 b M]at e;cases e) (x b o e)
 intro c
 induction c with
 |zero =>
  intro i s j tj hc hi U hx hT H;have e:i=n:=by lia
  subst e;refine codeAny_builtin ph ?_;refine f_ (W.done s _ _ U λl y=>?_);rw[<-hn,R_]at hT;refine f_ ?_;exact nc (nc (H l (y.mono B) (C y hx) (jU hT λo e=>y.heap d o ap e)))
 |succ c ih =>
  intro i s j tj hc hi U hx hT H;have al:i<n:=by lia
  refine codeAny_builtin ph ?_;rw[Around.under_plainId kA _];show wpAny _ A.in1 (pyNext (.ref O) >>= _) _ _ s;refine f_ (W.item i s _ _ al U λv l hP Z y=>?_);obtain⟨u,hk⟩:∃k,f[i]?=J k:=⟨_,yZ ⋯⟩;obtain⟨a,t,rfl,ha⟩:=ax i v u hP hk;have ai:=C y hx;have a5:=jU hT (λo e=>y.heap d o ap e);obtain⟨oa,a7,F,na,ay⟩:=ha;have X:=ai a oa a7;have a1:l.TypeIs (.ref a) "tuple":=⟨oa,X,F⟩;dsimp only;refine f_ (wpAny_holding (f_ ?_));have L:∀(Q:WT->Shared->Prop) (E:WE),Q [.int u.1 t,u.2] l->wpAny (model prog w) A.in1 (Builtin.Dict.pairItems (.ref a)) Q E l:=λQ E q=>by
   unfold Builtin.Dict.pairItems;refine f_ (wpAny_typeOf a1 ?_);obtain⟨b2,g',d',b3,bv⟩:=l;obtain⟨oc,od,b1,br⟩:=oa;simp only at F ay;subst F ay;rw[c_ (by decide)]
   repeat (any_goals (first | assumption | wp_step))
  refine wpAny_tryCatch (L _ _ ?_);dsimp only;have ac:(f.take i).length<=sizeLine:=by rw[Jx];lia
  have ar:u.1∉(f.take i).map (·.1):=λz=>by
   obtain⟨x,aF,ex⟩:=nr.mp z;obtain⟨q,hq⟩:=Jp.mp aF;rw[List.getElem?_take]at hq
   split at hq
   .rename_i b0
    have e1:(f.map (·.1))[q]?=J u.1:=by rw[se,hq];simp[ex]
    have e2:(f.map (·.1))[i]?=J u.1:=by rw[se,hk];rfl
    have l1:q<(f.map (·.1)).length:=(pf.mp e1).1
    have:=(My l1 nd).mp (e1.trans e2.symm)
    lia
   .cases hq
  have a4:f.take (i+1)=f.take i++[u]:=by rw[List.take_succ,hk];rfl
  refine wpAny_holding (wpAny_dictSet_pairs (knd:=intKind prog w) (k:=u.1) (intKind_is prog w u.1 t) a5 (λh' hD sb=>?_) ac);rw[yQ ar,show f.take i++[(u.1,u.2)]=f.take (i+1)from a4.symm]at hD;have a0:K0 H0 h':=λq o e=>by
   have hq:q≠d:=by rintro rfl;rw[a3]at e;cases e
   exact(sb.2 q hq).trans (ai q o e)
  refine nc ⟨plainId_quiet kA _,ih (i+1) _ _ _ ⋯ al (W.frame _ l _ _ Z (Ic _) λb M o e=>(sb.2 b (λq:b=d=>ak (by rw[<-q];exact M))).trans e) a0 hD λa8 as a9 a2=>?_⟩;refine H a8 (Moved.trans W.gtrans ((y.mono B).then_heap (Ic _) λb o M e=>?_) as) a9 a2;exact(sb.2 b (λq:b=d=>M (by rw[q];exact En))).trans e
set_option maxHeartbeats 3200000 in
theorem rq{a:Addr}{items:Array Value}{kvs:List (Int×Value)}{Q:WE}(hh:A.handled=Y)(ha:∃o k,s.heap.get? a=J o/\o.cls=.type "tuple"/\o.data=.seq items k/\o.dict=Y)(hn:kvs.length=items.size)(W:items.size<=sizeLine)(nd:(kvs.map (·.1)).Nodup)(G:∀(i:Nat) v kv,items[i]?=J v->kvs[i]?=J kv->∃b t,v=.ref b/\s.heap.IsTuple b #[.int kv.1 t,kv.2])(h:∀(P:Heap) (tk:Nat),P.DictOf (intKind prog w) s.heap.objs.size kvs->K0 s.heap P->Q (.ref s.heap.objs.size) { s with heap:=P,toks:=tk}):
  wpAny (model prog w) A (call (.type "dict") [.ref a]) Q E s:=by
 refine callType_codes (Q₁:=λobj u=>obj=.ref s.heap.objs.size/\u={ s with heap:=s.heap.push { cls:=.type "dict",data:=.dict #[]}}) F.kt_called_dict (F.kt_typeCall_dict_1 _) F.entry_dict_init (kt_code_dict_new _ ⟨rfl,rfl⟩) ?_;rintro obj u ⟨rfl,rfl⟩;have f:(s.heap.push { cls:=.type "dict",data:=.dict #[]}).DictOf (intKind prog w) s.heap.objs.size []:=Heap.DictOf.new s.heap;refine⟨f.typeIs,F.args_dict_init_2 _ _,?_⟩;unfold Builtin.«dict.__init__»;refine f_ ?_;unfold Builtin.Dict.selfAndRest;refine f_ (wpAny_notOrdered_dict f.typeIs ?_);show wpAny _ _ (pure (s.heap.objs.size,[Value.ref a])) _ _ _;refine nc ?_;show wpAny _ _ (Builtin.Dict.updateFrom "dict.__init__" s.heap.objs.size (.ref a) [] .none) _ _ _;unfold Builtin.Dict.updateFrom;obtain⟨R,ka,l,B,H,Z⟩:=ha;have y:(s.heap.push { cls:=.type "dict",data:=.dict #[]}).get? a=J R:=nj _ l;have O:A.in1.in1.handled=Y:=by simp[hh]
 refine f_ (wpAny_typeOf (T:="tuple") ⟨R,y,B⟩ ?_);rw[c_ (by decide)];refine f_ (Au y B H Z O λz ac e hx=>?_);rw[c_ (by rfl)];have x1:K0 s.heap z:=λb o eb=>hx.keeps b o (nj _ eb);have C:z.DictOf (intKind prog w) s.heap.objs.size []:=jU f λo eo=>hx.keeps _ o eo;have M:z.IsTuple a items:=⟨R,x1 a R l,B,ka,H⟩;refine f_ (wpAny_rule (f_ (wpAny_pyIter_tuple (s:={ s with heap:=z,toks:=ac}) M ?_)));have L:s.heap.objs.size<z.objs.size:=by obtain⟨o,_,_,ho,_⟩:=C;exact pa ho
 have ak:a<z.objs.size:=pa (x1 a R l);have has:a<s.heap.objs.size:=pa l;have j:∀b,s.heap.objs.size<=b->s.heap.get? b=Y:=λb X=>by
  cases e:s.heap.get? b with
  |none=>rfl
  |some o=>exact absurd (pa e) (Nat.not_lt.mpr X)
 refine nc ⟨plainId_quiet kA _,?_⟩
 refine Ou (A:=A.in1) (H0:=s.heap) ((Walks.tuple (A:=A.in1.in1) O z.objs.size a (zt ak) items).toS) s.heap.objs.size (by simp only[nw,Fa,or_false,not_or];exact⟨zt L,Ev has⟩) (j _ (l_ _)) (λb X=>by
   have:b=z.objs.size:=by simpa using X
   rw[this];exact j _ (MF L)) kvs hn W nd G items.size 0 _ 0 0 ⋯ (Eo _) ⟨⟨_,zj _ rfl,rfl,rfl⟩,M.push _⟩ (λb o e=>nj _ (x1 b o e)) (jU C λo e=>nj _ e) ?_
 intro s' U S ap;obtain⟨P,g',d',ai,al⟩:=s';have eg:g'=s.gens:=U.gens;have ed:d'=s.drawn:=U.drawn;have eo:al=s.os:=U.os;subst eg;subst ed;subst eo;exact⟨rfl,h P ai ap S⟩
end
end DcT
namespace MM
open PySem.Spec PyProof.Rows L2 DcT
section
variable{X:Cx}{N W G:WM}{k:Nat}
local instance inhPV:Inhabited PV:=⟨.non⟩
def jJ:WL->Option (List (Int×PV))
 |[]=>J []
 |.tup [.int k,v]::r=>(jJ r).map ((k,v)::·)
 |_=>Y
def Ow(x:PV):Option (List (Int×PV)):=match x with
 |.tup f=>(match jJ f with
  |some a=>if(a.map (·.1)).Nodup then J a else Y
  |none=>Y)
 |_=>Y
def ze{K:hR}{U:WS}{H:Hp}:∀{xs:WL}{ys:List V}{y:WT}{a:List (Int×PV)},RPs K U H xs ys->aM ys y->jJ xs=J a ->
  xs.length=a.length/\∀(i:Nat) u f,y[i]?=J u->a[i]?=J f->∃b w,u=.ref b/\SqT K H b [.int f.1,w]/\RP K U H f.2 w:=by
 intro xs
 induction xs with
 |nil =>
  intro ys y a r v e;cases r;cases v;cases e;exact⟨rfl,λi u f h=>by simp at h⟩
 |cons x xs L =>
  intro ys y a r v e
  cases r with
  |cons Q P =>
   cases v with
   |cons B M =>
    unfold jJ at e
    split at e
    .rename_i h;cases h
    .rename_i Z v0 S h
     injection h with l j
     subst l j;rw[Bi]at e;obtain⟨z,e1,rfl⟩:=e;obtain⟨R,hv⟩:=L P M e1;refine⟨by simp[R],λi u f l j=>?_⟩
     cases i with
     |zero =>
      simp at l j;subst l j
      cases Q with
      |tup sq rp =>
       cases rp with
       |cons C F=>cases F with
        |cons O E =>
         cases E;cases C;exact⟨_,_,B,sq,O⟩
     |succ i =>
      exact hv i u f l j
    .cases e
def mI(K:hR)(x:Str)(i j:Int):Prop:=∃(a:Addr) (t f:Tok) (n:Nat) (l:Array (WV)),PySem.W.nsIn K mainGlobals x=J (J (.ref a))/\K.lookup a=J ⟨.type "tuple",Y,.seq #[.int i t,.int j f] n,l⟩
def nB(K:hR)(mg:E0)(x:Str)(i j:Int):Prop:=∃(a:Addr) (t f:Tok) (n:Nat) (l:Array (WV)),mg x=J (.ref a)/\K.lookup a=J ⟨.type "tuple",Y,.seq #[.int i t,.int j f] n,l⟩
def xZ{K:hR}{x:Str}{i j:Int}{a:Addr}{t f:Tok}{n:Nat}{u:Array (WV)}(h:PySem.W.nsIn K mainGlobals x=J (J (.ref a)))(l:K.lookup a=J ⟨.type "tuple",Y,.seq #[.int i t,.int j f] n,u⟩):mI K x i j:=⟨a,t,f,n,u,h,l⟩
def mI.mg{K:hR}{mg:E0}{base:Heap}{x:Str}{i j:Int}(z:mI K x i j)(kin:K.In base)(ns:base.Ns mainGlobals mg):nB K mg x i j:=by obtain⟨a,t,f,n,u,h,l⟩:=z;exact⟨a,t,f,n,u,PySem.W.mg_of kin ns h,l⟩
def uK(g:Good X N W G k){x:Str}{q:Nat}{i j:Int}{l:Pos}(u:G[q]?=J x)(f:nB X.K X.mg x i j):ME X (.Name x l) (mC (.tup [.int i,.int j])):=by obtain⟨a,t,y,n,E,f,B⟩:=f;have d:=g.dbg x (xn _ (aO u));exact PE.imp (FQ (v:=.ref a) (g.gl x (aO u)) f rfl d.1) λZ H Q ⟨U,z,h,F,C,q⟩=>q U H _ (Le.refl _ _) C (.tup (ys:=[.int i,.int j]) (.inr ⟨_,_,n,B,rfl,⟨rfl,rfl⟩,by show 2<=sizeLine;decide,.cons ⟨t,rfl⟩ (.cons ⟨y,rfl⟩ .nil)⟩) (.cons (.int _) (.cons (.int _) .nil)))
end
end MM
namespace MM
open PySem.Spec PyProof.Rows L2
end MM
namespace MM
open PySem.Spec PyProof.Rows L2 SetT SortT
end MM
namespace MM
open PySem.Spec PyProof.Rows L2 DcT
def Gy(a:List (vv×V))(k:vv):Option V:=(a.find? λf=>decide (f.1=k)).map (·.2)
def KV.val(r:KV kvs vs)(k:vv):iY (Gy kvs k) (valueAt vs k):=by
 induction r with
 |nil=>exact True.intro
 |@cons p q j l h t i =>
  obtain⟨f,a⟩:=h;unfold Gy valueAt at *;rw[QX,QX,<-f];by_cases e:p.1=k
  .simp only[e];exact a
  .simp only[e];exact i
def K1{a:List (vv×V)}{f:List (vv×Value)}(r:KV a f):a.length=f.length:=by
 induction r with
 |nil=>rfl
 |cons h t i=>simp[i]
def vp(a:WN)(xs:List α)(i:Int):Option α:=match a,xs with
 |k::a,x::xs=>if k=i then J x else vp a xs i
 |_,_=>Y
def km(a:WN)(xs:List α)(i:Int)(v:α):WN×List α:=match a,xs with
 |k::a,x::xs=>if k=i then(k::a,v::xs)else(k::(km a xs i v).1,x::(km a xs i v).2)
 |_,_=>([i],[v])
def Dp(h:xs.length=a.length):(km a xs i v).2.length=(km a xs i v).1.length/\(km a xs i v).1.length<=a.length+1:=by
 induction a generalizing xs with
 |nil=>simp[km]
 |cons k a f =>
  cases xs with
  |nil=>simp at h
  |cons x xs =>
   simp at h;unfold km;split
   .simp[h]
   .simp_all
def uX(h:ys.length=a.length):Gy (kz a ys) (.inl i)=vp a ys i:=by
 induction a generalizing ys with
 |nil=>cases ys<;>rfl
 |cons k a f =>
  cases ys with
  |nil=>simp at h
  |cons y ys =>
   have:=f (by simpa using h)
   unfold kz Gy at *;rw[k_,QQ,QX,vp];by_cases e:k=i
   .simp[e]
   .simp only[show ¬(Sum.inl k:vv)=.inl i from λz=>e (by cases z;rfl),g_ e];exact this
def gL{a:List (vv×Value)}{i:vv}:a.any (λf=>decide (f.1=i))=I↔i∈a.map Prod.fst:=by simp
def K2{a:WN}{ys:List V}{j:List (vv×Value)}{i:Int}{y:V}{u:Value}(h:ys.length=a.length)(nd:(j.map (·.1)).Nodup)(r:KV (kz a ys) j)(E:aQ y u):
  KV (kz (km a ys i y).1 (km a ys i y).2) (stored j (.inl i) u):=by
 induction a generalizing ys j with
 |nil =>
  have:j=[]:=by cases ys<;>cases r<;>rfl
  subst this;exact .cons ⟨rfl,E⟩ .nil
 |cons k a f =>
  cases ys with
  |nil=>simp at h
  |cons z ys =>
   have G:ys.length=a.length:=by simpa using h
   cases r with
   |@cons _ q _ l hq t =>
    obtain⟨H,L⟩:=q;obtain⟨e1,e2⟩:=hq;cases e1;rw[k_,vz]at nd;have f:=f G nd.2 t;unfold stored at *;unfold km;by_cases e:k=i
    .subst e;rw[c_ rfl,c_ (gL.mpr (by simp))];refine .cons ⟨by simp,by simp[E]⟩ ?_
     have:(l.map λB=>if B.1=(Sum.inl k:vv)then(B.1,u)else B)=l:=by
      conv=>rhs;rw[<-List.map_id l]
      refine Et λx F=>?_;rw[g_]
      .rfl
      .intro z;exact nd.1 (nr.mpr ⟨x,F,z⟩)
     rw[this];exact t
    .have C:¬(Sum.inl k:vv)=.inl i:=λz=>e (by cases z;rfl);rw[g_ e];by_cases m:(Sum.inl i:vv)∈l.map Prod.fst
     .rw[c_ (gL.mpr m)]at f;rw[c_ (gL.mpr (ml _ m))];exact .cons ⟨by simp[C],by simp[C,e2]⟩ f
     .rw[g_ (λz=>m (gL.mp z))]at f;rw[g_ (λz=>(nw.mp (gL.mp z)).elim (λz=>C z.symm) m)];exact .cons ⟨rfl,e2⟩ f
section
variable{K:hR}{U:WS}{H:Hp}
def sS(r:RPs K U H xs ys)(i:Int):match vp ks xs i with
  |some x=>∃y,vp ks ys i=J y/\RP K U H x y
  |none=>vp ks ys i=Y:=by
 induction ks generalizing xs ys with
 |nil=>cases xs<;>cases ys<;>rfl
 |cons k ks f =>
  cases r with
  |nil=>rfl
  |cons a t =>
   unfold vp;by_cases e:k=i
   .simp only[c_ e];exact⟨_,rfl,a⟩
   .simp only[g_ e];exact f t
def B8(r:RPs K U H xs ys)(q:RP K U H v y)(i:Int):(km ks xs i v).1=(km ks ys i y).1/\RPs K U H (km ks xs i v).2 (km ks ys i y).2:=by
 induction ks generalizing xs ys with
 |nil=>exact⟨by simp[km],by simpa using .cons q .nil⟩
 |cons k ks l =>
  cases r with
  |nil=>exact⟨rfl,.cons q .nil⟩
  |cons a t =>
   unfold km;by_cases e:k=i
   .simp only[c_ e];exact⟨trivial,.cons q t⟩
   .simp only[g_ e];obtain⟨f,j⟩:=l t;exact⟨by rw[f],.cons a j⟩
end
def dh(h:MH)(y:PV):Option (Bool×WN×WL):=match y with
 |.loc n=>(match h[n]? with
  |some (.dic fz a xs)=>J (fz,a,xs)
  |_=>Y)
 |_=>Y
def lj{X:Cx}{U:WS}{H:Hp}{h:MH}{x:PV}{y:V}{fz:Bool}{i:WN}{xs:WL}(B:RH X.K X.mg U H h)(r:RP X.K U H x y)(e:dh h x=J (fz,i,xs)):
  ∃n a ys,x=.loc n/\U[n]?=J a/\y=.ref a/\h[n]?=J (.dic fz i xs)/\ys.length=i.length/\RPs X.K U H xs ys/\dO fz (H a) (.dK (kz i ys)):=by
 cases r with
 |@loc n a j =>
  obtain⟨o,l,u⟩:=B.obj j;unfold dh at e;dsimp only at e;rw[l]at e
  cases o with
  |dic f k z =>
   cases e;obtain⟨ys,e1,e2,e3⟩:=u;exact⟨n,a,ys,rfl,j,rfl,l,e1,e2,e3⟩
  |_=>cases e
 |_=>cases e
def uv(neg:Bool)(x y:PV)(h:MH):WZ:=match x,dh h y with
 |.int i,J (_,a,xs)=>.ok (.bl (if neg then !(vp a xs i).isSome else(vp a xs i).isSome)) h
 |_,_=>.bad
def oT(x y:PV)(h:MH):WZ:=match y,dh h x with
 |.int i,J (_,a,xs)=>Out.ofO (vp a xs i) h
 |_,_=>.bad
section
variable{X:Cx}{N W G:WM}{k:Nat}
def DH{K:hR}{U:WS}{H:Hp}{f:WN}{xs:WL}{ys:List V}{l:List (vv×Value)}{i:Int}(z:ys.length=f.length)(r:RPs K U H xs ys)(j:KV (kz f ys) l):(vp f xs i).isSome=(valueAt l (.inl i)).isSome:=by
 have a:=KV.val j (.inl i);rw[uX z]at a;have b:=sS (ks:=f) r i
 cases e:vp f xs i with
 |none =>
  rw[e]at b;rw[b]at a;rw[iY.none_of a];rfl
 |some x =>
  rw[e]at b;obtain⟨y,e1,_⟩:=b;rw[e1]at a;obtain⟨u,e2,_⟩:=iY.some_of a;rw[e2];rfl
def Bw(neg:Bool):B0 X (compareOp (if neg then .NotIn else .In)) (uv neg):=by
 intro Oz s Z H R y' u v Q f j B ⟨U,h,x,y,E,O,L,q⟩;unfold uv at q
 split at q
 .rename_i i fz S xs M
  obtain⟨n,a,ys,rfl,en,rfl,eo,P,l,d⟩:=lj E L M;cases O;obtain⟨t,rfl⟩:=j;cases B;obtain⟨z,hd,vs,C,F⟩:=oq f.hok d;have e:=DH (i:=i) P l C
  cases neg with
  |false =>
   refine wpAny_in_of (fD _ _ i t) hd F.mapOf ⟨.bl _,H,f.tok _,rfl,?_⟩;rw[<-e];exact q U H _ (Le.refl _ _) E (.bl _)
  |true =>
   refine wpAny_notIn_of (fD _ _ i t) hd F.mapOf ⟨.bl _,H,f.tok _,rfl,?_⟩;rw[<-e];exact q U H _ (Le.refl _ _) E (.bl _)
 .exact q.elim
def Bo(ha:ME X ea ma)(hb:ME X b mb)(hs:∀ov S,subscripted b T ov S=operate [ov,S] (getItem ov S):=by exact λ_ _=>rfl):ME X (.Subscript ea b pos) (aH oT ma mb):=by
 intro Oz s Z H Q al ⟨U,f,h,rs,rh,q⟩;refine Subscript_ (mf (ha Oz s Z H (λx' F=>∃j O x,Le U H j F/\RH X.K X.mg j F O/\RP X.K j F x x'/\Ful X (RV' X) f j F ((mb f O).bind λy L=>(oT x y L).ne) Q) al ⟨U,f,h,rs,rh,Ful.bind q λj F x x' O _ l1 M rx q1=>⟨j,O,x,l1,M,rx,q1⟩⟩) λu s1 ⟨x',F,I1,r1,j,O,x,l1,M,rx,q1⟩=>mf (hb Oz s1 Z F (λy' C=>∃E L y,Le j F E C/\RH X.K X.mg E C L/\RP X.K E C y y'/\Ful X (RV' X) f E C (oT x y L).ne Q) I1 ⟨j,f,O,rs.le l1,M,Ful.bind q1 λE C y y' L _ l2 B R l=>⟨E,L,y,l2,B,R,l⟩⟩) λS s2 ai=>?_);obtain⟨y',C,I2,r2,E,L,y,l2,B,R,l⟩:=ai;unfold oT at l
 split at l
 .rename_i i fz ks xs ed
  obtain⟨n,a,ys,rfl,en,rfl,eo,hl,ac,d⟩:=lj B (rx.le l2) ed;cases R;obtain⟨t,rfl⟩:=r2;cases r1;obtain⟨z,hd,vs,ak,dd⟩:=oq I2.hok d
  cases ex:vp ks xs i with
  |none=>rw[ex]at l;exact l.elim
  |some x =>
   rw[ex]at l;have b:=sS (ks:=ks) ac i;rw[ex]at b;obtain⟨y,e1,R⟩:=b;have ra:=KV.val ak (.inl i);rw[uX hl,e1]at ra;obtain⟨w',hw,rw'⟩:=iY.some_of ra;have hT:=dd.typeIs;refine f_ ?_;refine f_ (wpAny_specialOf hT PySem.F.slot_dict_getitem.lookup ?_);have fin:wpAny (model X.prog X.w) X.A (subscripted b T (.ref a) (.int i t)) (λr P=>wpAny (model X.prog X.w) X.A (letTemporaryGo ea (.ref a) r >>= λ_=>pure r) (EP X Oz Z Q) X.xe P) X.xe s2:=by rw[hs (.ref a) (.int i t)];exact wpAny_operating (wpAny_getItem_of (fD _ _ i t) dd.mapOf hw (f_ (wpAny_letTemporaryGo (nc ⟨y,C,I2.tok _,rw',l E C _ (Le.refl _ _) B R⟩))))
   first
    |exact nc (f_ fin)
 .exact l.elim
def Vp(m:Mx PV)(l:Mx (WL)):Mx PV:=λZ h=>(m Z h).bind λx f=>match x,dh f x with
 |.loc n,J _=>(l Z f).bind λj a=>match j,dh a (.loc n) with
  |[.int i,d],J (_,u,xs)=>.ok ((vp u xs i).getD d) a
  |_,_=>.bad
 |_,_=>.bad
def Gz{y:WU}{Z:L2.St}{H:Hp}{s:Shared}{fz:Bool}{a:Addr}{i:List (vv×V)}(j:Inv X y Z H s)(d:dO fz (H a) (.dK i)):
  s.TypeIs (.ref a) "dict"/\(∀b,Value.ref a=.ref b->∃f,s.heap.get? b=J f/\f.dict=Y)/\(a==sysModules)=T:=by
 obtain⟨_,hd,B,_,l⟩:=oq j.hok d;refine⟨l.typeIs,λb q=>?_,hd⟩;cases q;obtain⟨f,_,_,z,u,_⟩:=l;exact⟨f,z,u.2.1⟩
def Ox{o a b:Expr}{m:Mx PV}{ma:Mx (WL)}{P f:Pos}(he:ME X o m)(ha:MA X [a,b] ma)(R:attributeBase o "get" X.env (eval o X.env)=eval o X.env:=by rfl)(al:((backTo f (starEach [a,b] X.env)).all (λx=>!x.1)&&(backToKw f (keywordEach [] X.env)).all (λx=>x.1.isSome)
   && decide ([a,b].length+([]:List Keyword).length+(if([]:List Keyword).isEmpty then 0 else 1)<30))=I:=by rfl)(ak:(P.endLine==f.line)=I:=by rfl)(hs:starEach [a,b] X.env=(T,eval a X.env)::starEach [b] X.env:=by rfl)(B:(backTo f (starEach [b] X.env)).any (·.1)=T:=by rfl):
  ME X (.Call (.Attribute o "get" P) [a,b] [] f) (Vp m ma):=by
 intro Oz s Z H Q a5 ⟨U,j,h,rs,rh,q⟩
 refine wpAny_Call_method_late R al ak rfl (mf (he Oz s Z H (λx' O=>∃l h1 x,Le U H l O/\RH X.K X.mg l O h1/\RP X.K l O x x'/\Ful X (RV' X) j l O (match x,dh h1 x with
 |.loc n,J _=>(ma j h1).bind λM u=>match M,dh u (.loc n) with
  |[.int i,d],J (_,ks,xs)=>.ok ((vp ks xs i).getD d) u
  |_,_=>.bad
 |_,_=>.bad) Q) a5 ⟨U,j,h,rs,rh,Ful.bind q λl O x x' h1 _ l1 C rx q1=>⟨l,h1,x,l1,C,rx,q1⟩⟩) λv s1 ⟨x',O,I1,r1,l,h1,x,l1,C,rx,q1⟩=>?_)
 split at q1
 .rename_i n w ew
  obtain⟨_,ad,ys,e0,en,rfl,eo,hl,a7,d⟩:=lj C rx ew;cases e0;cases r1;obtain⟨t1,t2,_⟩:=Gz I1 d;refine⟨"dict","dict.get",PySem.F.plainAttrs_dict,PySem.F.slot_dict_get,PySem.F.type_dict_get,t1,t2,?_⟩
  have hA:=ha f Oz s1 Z O (λac E=>∃F u M,Le l O F E/\RH X.K X.mg F E u/\RPs X.K F E M ac/\Ful X (RV' X) j F E (match M,dh u (.loc n) with
   |[.int i,d],J (_,ks,xs)=>.ok ((vp ks xs i).getD d) u
   |_,_=>.bad) Q) I1 ⟨l,j,h1,rs.le l1,C,Ful.bind q1 λF E M ac u _ l2 L ai q2=>⟨F,u,M,l2,L,ai,q2⟩⟩
  rw[hs]at hA ⊢;refine Calls.callWith_builtin (by show(T||(backTo f (starEach [b] X.env)).any (·.1))=T;rw[B]<;>rfl) (Calls.evalArgs_plain ?_);refine mf hA λus s2 ay=>?_;obtain⟨ac,E,I2,r2,F,u,M,l2,L,ai,q2⟩:=ay
  split at q2
  .rename_i i dd br S ar as
   obtain⟨_,a9,bm,e0,bv,e1,a8,aF,ap,d2⟩:=lj L (.loc (l2.get en)) as;cases e0;cases e1
   cases ai with
   |cons a1 a2=>cases a2 with
    |cons a3 a4 =>
     cases a4;cases a1
     cases r2 with
     |cons b1 b2=>cases b2 with
      |@cons _ u3 _ _ b3 b4 =>
       cases b4;obtain⟨t,rfl⟩:=b1;obtain⟨z,hd,M,a0,de⟩:=oq I2.hok d2;have ra:=KV.val a0 (.inl i);rw[uX aF]at ra;have rb:=sS (ks:=S) ap i;have fin:∃v',aQ v' ((valueAt M (.inl i)).getD u3)/\RP X.K F E ((vp S ar i).getD dd) v':=by
        cases ex:vp S ar i with
        |none =>
         rw[ex]at rb;dsimp only at rb;rw[rb]at ra;rw[iY.none_of ra];exact⟨_,b3,a3⟩
        |some x =>
         rw[ex]at rb;obtain⟨y,e1,ry⟩:=rb;rw[e1]at ra;obtain⟨w',hw,rw'⟩:=iY.some_of ra;rw[hw];exact⟨y,rw',ry⟩
       obtain⟨v',a6,ax⟩:=fin;exact call_meetsIn PySem.F.slot_dict_get de.typeIs PySem.F.entry_dict_get (PySem.F.args_dict_get_3 _ _ _) (meets_dict_get_default (gb X.prog X.w) ad (fD _ _ i t) hd _) ⟨_,de.mapOf,v',E,I2.tok _,a6,q2 F E _ (Le.refl _ _) L ax⟩
  .exact q2.elim
 .exact q1.elim
def lI(mo f mv:Mx PV):n_:=zv mv λv=>zv mo λo=>zv f λi Z h=>match o,i,dh h o with
 |.loc n,.int j,J (T,a,xs)=>if a.length<sizeLine then .nx Z (h.set n (.dic T (km a xs j v).1 (km a xs j v).2))else .bad
 |_,_,_=>.bad
def GA(ho:ME X o mo)(hi:ME X i mi)(hv:ME X value mv)(hs:swapsWith value (J (.Subscript o i pos')) pos.line X.env=pure T:=by rfl):
  MS X (.Assign [.Subscript o i pos'] value pos) (lI mo mi mv):=by
 intro R s Z H D ax ⟨U,f,h,rs,rh,q⟩;unfold lI at q
 have kk:tM X (RV' X) mv Z H (λy H1=>tM X (RV' X) mo Z H1 λo' H2=>tM X (RV' X) mi Z H2 λi' B=>∃C E v o i,RH X.K X.mg C B E/\RS X.K C B f Z/\RP X.K C B v y/\RP X.K C B o o'/\RP X.K C B i i'/\bD X C B (match o,i,dh E o with
  |.loc n,.int j,J (T,l,xs)=>if l.length<sizeLine then .nx f (E.set n (.dic T (km l xs j v).1 (km l xs j v).2))else .bad
  |_,_,_=>.bad) D):=by
  refine⟨U,f,h,rs,rh,?_⟩;unfold zv at q
  cases e:mv f h with
  |exc x h1=>rw[e]at q;exact q
  |bad=>rw[e]at q;exact q
  |ok v h1 =>
   rw[e]at q;intro U1 H1 y L al rv;dsimp only at q;refine⟨U1,f,h1,rs.le L,al,?_⟩
   cases e2:mo f h1 with
   |exc x h2=>rw[e2]at q;exact XP.le (X:=X) (σp:=f) (x:=x) (h:=h2) L q
   |bad=>rw[e2]at q;exact q
   |ok ov h2 =>
    rw[e2]at q;intro U2 H2 o' M aF ro;dsimp only at q;refine⟨U2,f,h2,(rs.le L).le M,aF,?_⟩
    cases e3:mi f h2 with
    |exc x E=>rw[e3]at q;exact XP.le (X:=X) (σp:=f) (x:=x) (h:=E) M (XP.le (X:=X) (σp:=f) (x:=x) (h:=E) L q)
    |bad=>rw[e3]at q;exact q
    |ok iv E =>
     rw[e3]at q;intro C B i' S F ri;exact⟨C,E,v,ov,iv,F,((rs.le L).le M).le S,(rv.le M).le S,ro.le S,ri,bD.le S (bD.le M (bD.le L q))⟩
 refine wpAny_Assign_Subscript (mf (hv R s Z H _ ax kk) λr s1 ai=>?_) hs;obtain⟨y,H1,I1,rv,q1⟩:=ai;refine mf (ho R s1 Z H1 _ I1 q1) λu s2 a0=>?_;obtain⟨o',H2,I2,ru,q2⟩:=a0;refine mf (hi R s2 Z H2 _ I2 q2) λiv s3 ar=>?_;obtain⟨i',B,I3,ri,C,E,v,ov,i,F,ap,pv,po,pi,O⟩:=ar
 split at O
 .rename_i n j l xs ed
  obtain⟨_,a,ys,e0,en,rfl,eo,hl,ac,d⟩:=lj F po ed;cases e0;cases pi;obtain⟨t,rfl⟩:=ri;cases ru;by_cases hz:l.length<sizeLine
  .rw[c_ hz]at O;have d':B a=J (.dK (kz l ys)):=d;obtain⟨z,hd,vs,Q,dd⟩:=oq I3.hok d;obtain⟨p1,p2⟩:=B8 (ks:=l) ac pv j;obtain⟨L,M⟩:=Dp (i:=j) (v:=y) hl;have nd:(vs.map (·.1)).Nodup:=by obtain⟨_,_,_,_,_,_,_,_,nd⟩:=dd;exact nd
   have ay:(kz (km l ys j y).1 (km l ys j y).2).length<=sizeLine:=by unfold kz;rw[List.length_zip,qx];lia
   refine wpAny_setItem_pairs (hsz:=by rw[<-K1 Q];exact z) (fD _ _ j t) dd λh' P ak=>?_;have he:∃q,h'.get? a=J q:=let⟨q,_,_,hq,_⟩:=P;⟨q,hq⟩;have I4:Inv X R Z (mj B a (.dK (kz (km l ys j y).1 (km l ys j y).2))) { s3 with heap:=h',toks:=s3.toks+1} :=
    I3.write (x:=a) (e:=a) (by rw[d'];exact True.intro) (.inl rfl) (λb q hb z=>(ak.2 b hb).trans z) he ⟨ay,hd,_,K2 hl nd Q rv,P⟩
   obtain⟨as,l4⟩:=F.put en (o:=.dic T (km l xs j v).1 (km l xs j v).2) (ho:=.dK (kz (km l ys j y).1 (km l ys j y).2)) ⟨(km l ys j y).2,by rw[p1];exact L,p2,by rw[p1];rfl⟩;exact⟨Z,_,I4,O C _ Z l4 as (ap.le l4)⟩
  .rw[g_ hz]at O;exact O.elim
 .exact O.elim
end
section
variable{X:Cx}{N W G:WM}{k:Nat}
local instance inhPV2:Inhabited PV:=⟨.non⟩
def BG(p:Pairs (intKind P w) es kvs):Pairs (gb P w) es (kvs.map λf=>((Sum.inl f.1:vv),f.2)):=by
 induction p with
 |nil=>exact .nil
 |cons a b _ i=>exact .cons a b i
def K3{P:Program}{w:World}{h:Heap}{a:Addr}{j:List (Int×Value)}(d:h.DictOf (intKind P w) a j):h.DictOf (gb P w) a (j.map λf=>((Sum.inl f.1:vv),f.2)):=by
 obtain⟨o,C,l,E,B,F,H,y,nd⟩:=d;refine⟨o,C,l,E,B,F,λe u=>?_,BG y,?_⟩
 .obtain⟨i,e1,e2⟩:=H e u;exact⟨.inl i,e1,e2⟩
 .rw[qo];rw[show((λx:vv×Value=>x.1)∘λf:Int×Value=>((Sum.inl f.1:vv),f.2))=(Sum.inl∘λf:Int×Value=>f.1)from rfl,<-qo];exact(FL.mpr (List.Pairwise.imp (λh z=>h (by cases z;rfl)) nd))
def K4{K:hR}{U:WS}{H:Hp}:∀{kvs:List (Int×PV)}{vals:List (Int×Value)},kvs.length=vals.length->(∀(i:Nat) a b,kvs[i]?=J a->vals[i]?=J b->a.1=b.1/\∃v,aQ v b.2/\RP K U H a.2 v) ->
  ∃ys:List V,ys.length=(kvs.map (·.1)).length/\RPs K U H (kvs.map (·.2)) ys/\KV (kz (kvs.map (·.1)) ys) (vals.map λj=>((Sum.inl j.1:vv),j.2)):=by
 intro kvs
 induction kvs with
 |nil =>
  intro vals f _
  cases vals with
  |nil=>exact⟨[],rfl,.nil,.nil⟩
  |cons _ _=>simp at f
 |cons a kvs l =>
  intro vals f h
  cases vals with
  |nil=>simp at f
  |cons b vals =>
   obtain⟨ys,e1,e2,e3⟩:=l (by simpa using f) λi a b z y=>h (i+1) a b (by simpa using z) (by simpa using y);obtain⟨e,v,u,rp⟩:=h 0 a b rfl rfl;exact⟨v::ys,by simp at e1 ⊢;exact e1,.cons rp e2,.cons ⟨congrArg Sum.inl e,u⟩ e3⟩
def CF(f:WL)(h:MH):WZ:=match f with
 |[x]=>(match Ow x with
  |some a=>.ok (.loc h.length) (h++[.dic T (a.map (·.1)) (a.map (·.2))])
  |none=>.bad)
 |_=>.bad
def zr(g:Good X N W G k):dQ X (.type "dict") (λxs H Q=>∃U h ps f v,xs=[v]/\RH X.K X.mg U H h/\RP X.K U H (.tup ps) v/\jJ ps=J f/\(f.map (·.1)).Nodup /\
   ∀l ys,H l=Y->ys.length=(f.map (·.1)).length->RPs X.K U H (f.map (·.2)) ys->Q (.ref l) (mj H l (.dK (kz (f.map (·.1)) ys)))):=by
 intro Oz s Z H xs us Q C r ⟨U,h,ps,f,v,e,rh,rp,ep,nd,q⟩;subst e;obtain⟨u,rfl,ru⟩:=r.one
 cases rp with
 |tup sq R =>
  cases ru;obtain⟨y,rv,ht,hz⟩:=C.tupleN sq;obtain⟨hl,hv⟩:=ze R rv ep;have a5:=rv.length;have a6:=R.length;have S:∀i,i<y.length->∃b t B,y[i]?=J (.ref b)/\s.heap.IsTuple b #[.int (f[i]!).1 t,B]/\∃w,aQ w B/\RP X.K U H (f[i]!).2 w:=by
   intro i P;have E:i<f.length:=by lia
   obtain⟨b,w,e1,e2,e3⟩:=hv i y[i] f[i] (by simp[P]) (by simp[E]);obtain⟨a0,al,ar,_⟩:=C.tuple e2
   cases al with
   |cons a1 a2=>cases a2 with
    |cons a3 a4 =>
     cases a4;obtain⟨t,rfl⟩:=a1;refine⟨b,t,_,by rw[yZ P,e1],?_,w,a3,?_⟩
     .rw[getElem!_pos f i E];exact ar
     .rw[getElem!_pos f i E];exact e3
  have ac:∃j:List (Int×Value),j.length=y.length/\∀i,i<y.length->∃b t B,j[i]?=J ((f[i]!).1,B)/\y[i]?=J (.ref b)/\s.heap.IsTuple b #[.int (f[i]!).1 t,B]/\∃w,aQ w B/\RP X.K U H (f[i]!).2 w:=by
   have:∀n,n<=y.length->∃j:List (Int×Value),j.length=n/\∀i,i<n->∃b t B,j[i]?=J ((f[i]!).1,B)/\y[i]?=J (.ref b)/\s.heap.IsTuple b #[.int (f[i]!).1 t,B]/\∃w,aQ w B/\RP X.K U H (f[i]!).2 w:=by
    intro n
    induction n with
    |zero=>exact λ_=>⟨[],rfl,λi P=>absurd P (Sg _)⟩
    |succ n ih =>
     intro hn;obtain⟨vs,e1,e2⟩:=ih ⋯;obtain⟨b,t,B,f1,f2,f3⟩:=S n ⋯;refine⟨vs++[((f[n]!).1,B)],by simp[e1],λi P=>?_⟩;by_cases z:i<n
     .obtain⟨b,t,B,O,g2⟩:=e2 i z;exact⟨b,t,B,by rw[qr ⋯];exact O,g2⟩
     .have:i=n:=by lia
      subst this;exact⟨b,t,B,by rw[Ek ⋯,e1];simp,f1,f2,f3⟩
   exact this _ (l_ _)
  obtain⟨j,ai,L⟩:=ac;have F:j.map (·.1)=f.map (·.1):=by
   apply E_;intro i;by_cases z:i<y.length
   .obtain⟨_,_,_,O,_⟩:=L i z;have E:i<f.length:=by lia
    rw[se,se,O,yZ E,getElem!_pos f i E];rfl
   .rw[Di (by simp;lia),Di (by simp;lia)]
  obtain⟨oa,as,ap,⟨na,ay⟩,ak⟩:=ht;refine rq (a:=_) (items:=y.toArray) (kvs:=j) (C.ok.hd g.calm) ⟨oa,na,as,ap,ay,ak⟩ (by simp[ai]) (by simp;lia) (F▸nd) (λi v kv h1 M=>?_) λh' tk hD hx=>?_
  .have z:i<y.length:=by
    have:=(pf.mp M).1
    lia
   obtain⟨b,t,B,O,g2,g3,_⟩:=L i z;rw[O]at M;cases M
   have:v=.ref b:=by
    have e:y.toArray[i]?=y[i]?:=by simp
    rw[e,g2]at h1;exact(Option.some.inj h1).symm
   exact⟨b,t,this,g3⟩
  .have hn:H s.heap.objs.size=Y:=C.hok.fresh (l_ _);have aF:=Inv.bigM C;obtain⟨ys,y1,y2,y3⟩:=K4 (K:=X.K) (U:=U) (H:=H) (kvs:=f) (vals:=j) ⋯ λi a b h1 M=>by
    have z:i<y.length:=by
     have:=(pf.mp M).1
     lia
    obtain⟨b',t,B,O,g2,g3,w,g4,g5⟩:=L i z;rw[O]at M;cases M;have E:i<f.length:=by lia
    rw[yZ E]at h1;cases h1;rw[getElem!_pos f i E]at g5 ⊢;exact⟨rfl,w,g4,g5⟩
   have ax:(kz (f.map (·.1)) ys).length<=sizeLine:=by unfold kz;rw[List.length_zip,qx,qx];lia
   exact⟨.ref s.heap.objs.size,_,C.laid (o:=.dK (kz (f.map (·.1)) ys)) hx (l_ _) ⟨ax,beq_eq_false_iff_ne.mpr (Ev aF),_,y3,K3 hD⟩,rfl,q _ ys hn y1 y2⟩
 |_=>cases ep
def GB(g:Good X N W G k):dg X (.type "dict") CF:=by
 intro E s Z H xs P Q j r ⟨U,h,z,u,rp,q⟩;unfold CF at q
 split at q
 .rename_i x
  cases rp with
  |cons L B =>
   cases B
   cases a:Ow x with
   |none=>rw[a]at q;exact q.elim
   |some f =>
    rw[a]at q;unfold Ow at a
    split at a
    .rename_i z
     split at a
     .rename_i y C
      split at a
      .rename_i nd
       cases a;refine zr g E s Z H _ P Q j r ⟨U,h,z,f,_,rfl,u,L,C,nd,λl ys M R O=>?_⟩;have F:RO X.K X.mg U H l (.dic T (f.map Prod.fst) (f.map Prod.snd)) (J (.dK (kz (f.map Prod.fst) ys))):=⟨ys,R,O,rfl⟩;obtain⟨i,S⟩:=u.new M F;exact q _ _ _ S i (.loc (by rw[<-u.len];simp))
      .cases a
     .cases a
    .cases a
 .exact q.elim
end
end MM
namespace PU
open MM
def ys{α:Type}{a b:α}(h:a=b):a=b:=h
inductive D where
 |non | bl (b:Bool) | int (i:Int) | str (x:Str) | tup (xs:List D) | lst (xs:List D) | dic (fz:Bool) (ks:WN) (ds:List D) | exc (c:Str) | pen
abbrev _root_.WR:=List D
abbrev _root_.WG:=Option D
abbrev e_:=Int×Int×Int
abbrev aC:=List (WG)
def bx(h:MH)(p:Nat)(s:e_):Prop:=h[p]?=J (.lst [.int s.1,.int s.2.1,.int s.2.2])
inductive Tf(P:WL->Prop)(v:PV):Prop
 |mk(xs:WL)(e:v=.tup xs)(r:P xs):Tf P v
inductive Vq(h:MH)(O:WQ)(P:WL->Prop)(v:PV):Prop
 |mk(n:Nat)(xs:WL)(e:v=.loc n)(no:n∉O)(g:h[n]?=J (.lst xs))(r:P xs):Vq h O P v
inductive Vr(h:MH)(O:WQ)(fz:Bool)(ks:WN)(P:WL->Prop)(v:PV):Prop
 |mk(n:Nat)(xs:WL)(e:v=.loc n)(no:n∉O)(g:h[n]?=J (.dic fz ks xs))(r:P xs):Vr h O fz ks P v
inductive Vs(h:MH)(O:WQ)(o:MO)(v:PV):Prop
 |mk(n:Nat)(e:v=.loc n)(no:n∉O)(g:h[n]?=J o):Vs h O o v
inductive Tg(P:PV->Prop)(Q:WL->Prop)(vs:WL):Prop
 |mk(x:PV)(r:WL)(e:vs=x::r)(a:P x)(b:Q r):Tg P Q vs
mutual
def Rp(p:Nat)(h:MH)(O:WQ):D->PV->Prop
 |.non,v=>v=.non
 |.bl b,v=>v=.bl b
 |.int i,v=>v=.int i
 |.str x,v=>v=.str x
 |.tup a,v=>Tf (Rps p h O a) v
 |.lst a,v=>Vq h O (Rps p h O a) v
 |.dic fz f a,v=>Vr h O fz f (Rps p h O a) v
 |.exc c,v=>Vs h O (.exc ⟨c,[]⟩) v
 |.pen,v=>v=.loc p
def Rps(p:Nat)(h:MH)(O:WQ):WR->WL->Prop
 |[],a=>a=[]
 |d::f,a=>Tg (Rp p h O d) (Rps p h O f) a
end
def aK{h:MH}{n:Nat}{o:MO}(e:h[n]?=J o):n<h.length:=(pf.mp e).1
structure Mv(O:WQ)(h:MH)(O':WQ)(h':MH):Prop where
 keep:∀n:Nat,n<h.length->n∉O->h'[n]?=h[n]?
 new:∀o∈O',o∈O\/h.length<=o
def Mv.get{O a:WQ}{h f:MH}(s:Mv O h a f){n:Nat}{o:MO}(e:h[n]?=J o)(no:n∉O):n∉a/\f[n]?=J o:=by
 have i:=aK e;refine⟨λz=>?_,(s.keep n i no).trans e⟩;rcases s.new n z with q|q
 .exact no q
 .lia
section
variable{p:Nat}{O O':WQ}{h h':MH}
def Rp.mv(s:Mv O h O' h')(r:Rp p h O d v):Rp p h' O' d v:=by
 refine D.rec (motive_2:=λf=>∀l,Rps p h O f l->Rps p h' O' f l)
  (λ_ r=>r) (λ_ _ r=>r) (λ_ _ r=>r) (λ_ _ r=>r) (λf i _ r=>?_) (λf i _ r=>?_) (λ_ _ f i _ r=>?_) (λ_ _ r=>?_) (λ_ r=>r) (λ_ r=>r) (λ_ _ i j _ r=>?_) d v r
 .obtain⟨xs,e,r⟩:=r;exact⟨xs,e,i _ r⟩
 .obtain⟨n,xs,e,no,g,r⟩:=r;exact⟨n,xs,e,(s.get g no).1,(s.get g no).2,i _ r⟩
 .obtain⟨n,xs,e,no,g,r⟩:=r;exact⟨n,xs,e,(s.get g no).1,(s.get g no).2,i _ r⟩
 .obtain⟨n,e,no,g⟩:=r;exact⟨n,e,(s.get g no).1,(s.get g no).2⟩
 .obtain⟨x,t,e,a,b⟩:=r;exact⟨x,t,e,i _ a,j _ b⟩
def Rps.mv(s:Mv O h O' h')(r:Rps p h O f vs):Rps p h' O' f vs:=by
 induction f generalizing vs with
 |nil=>exact r
 |cons d f i=>obtain⟨x,t,e,a,b⟩:=r;exact⟨x,t,e,a.mv s,i b⟩
def Rps.length(r:Rps p h O f vs):vs.length=f.length:=by
 induction f generalizing vs with
 |nil=>rw[show vs=[]from r];rfl
 |cons d f i=>obtain⟨x,t,e,a,b⟩:=r;rw[e,DR,DR,i b]
def Rps.get{f:WR}{j:WL}{i:Nat}{d:D}(r:Rps p h O f j)(g:f[i]?=J d):∃v,j[i]?=J v/\Rp p h O d v:=by
 induction f generalizing j i with
 |nil=>cases g
 |cons d f l =>
  obtain⟨x,t,e,a,b⟩:=r;subst e
  cases i with
  |zero=>cases g;exact⟨x,rfl,a⟩
  |succ i=>have z:=@l t i b g;exact z
def Rps.app(r:Rps p h O f vs)(s:Rps p h O es ws):Rps p h O (f++es) (vs++ws):=by
 induction f generalizing vs with
 |nil=>rw[show vs=[]from r];exact s
 |cons d f i=>obtain⟨x,t,e,a,b⟩:=r;subst e;exact⟨x,t++_,rfl,a,i b⟩
def Rps.take(n:Nat)(r:Rps p h O f vs):Rps p h O (f.take n) (vs.take n):=by
 induction f generalizing vs n with
 |nil=>rw[show vs=[]from r];cases n<;>rfl
 |cons d f i =>
  obtain⟨x,t,e,a,b⟩:=r;subst e
  cases n with
  |zero=>rfl
  |succ n=>exact⟨x,t.take n,rfl,a,i n b⟩
def Rps.drop(n:Nat)(r:Rps p h O f vs):Rps p h O (f.drop n) (vs.drop n):=by
 induction f generalizing vs n with
 |nil=>rw[show vs=[]from r];cases n<;>rfl
 |cons d f i =>
  cases n with
  |zero=>exact r
  |succ n=>obtain⟨x,t,e,a,b⟩:=r;subst e;exact i n b
def Rps.set(i:Nat)(r:Rps p h O f vs)(q:Rp p h O d v):Rps p h O (f.set i d) (vs.set i v):=by
 induction f generalizing vs i with
 |nil=>rw[show vs=[]from r];rfl
 |cons l f j =>
  obtain⟨x,t,e,a,b⟩:=r;subst e
  cases i with
  |zero=>exact⟨v,t,rfl,q,b⟩
  |succ i=>exact⟨x,t.set i v,rfl,a,j i b⟩
end
def dl:Option (WN)->WR->D
 |none,a=>.lst a
 |some f,a=>.dic T f a
def mo:Option (WN)->WL->MO
 |none,xs=>.lst xs
 |some a,xs=>.dic T a xs
def gS(e:D.lst ds=dl k es):k=Y/\ds=es:=by
 cases k with
 |none=>cases e;exact⟨rfl,rfl⟩
 |some _=>cases e
inductive Vt(p:Nat)(h:MH)(L:Nat)(O:WQ)(d:D)(v:PV):Prop
 |mk(n:Nat)(k:Option (WN))(xs:WL)(ds:WR)(e:d=dl k ds)(e':v=.loc n)(o:n∈O)(l:L<=n)(g:h[n]?=J (mo k xs))(r:Rps p h O ds xs):Vt p h L O d v
def Vw(p:Nat)(h:MH)(L:Nat)(O:WQ)(d:D)(v:PV):Prop:=Rp p h O d v\/Vt p h L O d v
def K5(p:Nat)(h:MH)(L:Nat)(O:WQ):WR->WL->Prop
 |[],a=>a=[]
 |d::f,a=>Tg (Vw p h L O d) (K5 p h L O f) a
inductive Oy(p:Nat)(L:Nat)(O:WQ)(h:MH)(k:Option (WN))(ds:WR)(v:PV):Prop
 |mk(n:Nat)(xs:WL)(e:v=.loc n)(l:L<=n)(g:h[n]?=J (mo k xs))(r:Rps p h (n::O) ds xs):Oy p L O h k ds v
def Frs(p:Nat)(L:Nat)(O:WQ)(h:MH)(d:D)(v:PV):Prop:=∀k a,d=dl k a->Oy p L O h k a v
structure KB(p:Nat)(h h':MH):Prop where
 len:h.length<=h'.length
 keep:∀n:Nat,n<h.length->n≠p->h'[n]?=h[n]?
def KB.refl(p:Nat)(h:MH):KB p h h:=⟨l_ _,λ_ _ _=>rfl⟩
def KB.trans(a:KB p h h1)(b:KB p h1 h2):KB p h h2 :=
 ⟨oh a.len b.len,λn i f=>(b.keep n (t_ i a.len) f).trans (a.keep n i f)⟩
def KB.app(p:Nat)(h g:MH):KB p h (h++g):=⟨by simp,λn a _=>qr a⟩
def KB.mv(k:KB p h h')(f:p∈O):Mv O h O h' :=
 ⟨λn i no=>k.keep n i λz=>no (z▸f),λo a=>.inl a⟩
def bx.app{p:Nat}{h g:MH}{s:e_}(e:bx h p s):bx (h++g) p s:=by unfold bx at *;rw[qr (aK e)];exact e
def Vw.kb{p L:Nat}{h f:MH}{O:WQ}{d:D}{v:PV}(k:KB p h f)(a:p∈O)(hL:p<L)(w:Vw p h L O d v):Vw p f L O d v:=by
 rcases w with r|⟨n,j,xs,u,e1,e2,l,i,g,r⟩
 .exact .inl (r.mv (k.mv a))
 .exact .inr ⟨n,j,xs,u,e1,e2,l,i,(k.keep n (aK g) ⋯).trans g,r.mv (k.mv a)⟩
inductive PR(α:Type) where
 |ok(a:α)(s:e_)
 |exc(c:Str)(s:e_)
 |bad
def PR.bind{α β:Type}(r:PR α)(f:α->e_->PR β):PR β:=match r with
 |.ok a s=>f a s
 |.exc c s=>.exc c s
 |.bad=>.bad
@[simp]theorem Pb(a:α)(s:e_)(f:α->e_->PR β):(PR.ok a s).bind f=f a s:=rfl
@[simp]theorem Pe(c:Str)(s:e_)(f:α->e_->PR β):(PR.exc c s).bind f=.exc c s:=rfl
@[simp]theorem Pd(f:α->e_->PR β):(PR.bad:PR α).bind f=.bad:=rfl
def PR.of{α:Type}(o:Option α)(s:e_):PR α:=match o with
 |some a=>.ok a s
 |none=>.bad
@[simp]theorem Pf(a:α)(s:e_):PR.of (J a) s=.ok a s:=rfl
@[simp]theorem Pn(s:e_):PR.of (Y:Option α) s=.bad:=rfl
inductive Vu{α β:Type}(p:Nat)(h:MH)(o:Out β)(a:α)(s:e_)(R:MH->α->β->Prop):Prop
 |mk(b:β)(h':MH)(e:o=.ok b h')(k:KB p h h')(n:bx h' p s)(r:R h' a b):Vu p h o a s R
inductive Vv{β:Type}(p:Nat)(h:MH)(o:Out β)(c:Str)(s:e_):Prop
 |mk(h':MH)(e:o=.exc ⟨c,[]⟩ h')(k:KB p h h')(n:bx h' p s):Vv p h o c s
def Ok{α β:Type}(p:Nat)(h:MH)(o:Out β)(r:PR α)(R:MH->α->β->Prop):Prop:=match r with
 |.ok a s=>Vu p h o a s R
 |.exc c s=>Vv p h o c s
 |.bad=>True
def Ok.bind{α β γ δ:Type}{p:Nat}{h:MH}{o:Out β}{r:PR α}{R:MH->α->β->Prop}{f:β->MH->Out δ}{g:α->e_->PR γ}{S:MH->γ->δ->Prop}(q:Ok p h o r R)(k:∀a b i s,KB p h i->bx i p s->R i a b->Ok p i (f b i) (g a s) S):Ok p h (o.bind f) (r.bind g) S:=by
 cases r with
 |ok a s =>
  obtain⟨b,i,rfl,kb,pn,B⟩:=q
  have:=k a b i s kb pn B
  rw[Pb]
  cases e:g a s with
  |ok c y =>
   rw[e]at this;obtain⟨d,u,e2,l,j,z⟩:=this;exact⟨d,u,e2,kb.trans l,j,z⟩
  |exc c y =>
   rw[e]at this;obtain⟨u,e2,l,j⟩:=this;exact⟨u,e2,kb.trans l,j⟩
  |bad=>trivial
 |exc c s =>
  obtain⟨i,rfl,kb,pn⟩:=q;exact⟨i,rfl,kb,pn⟩
 |bad=>trivial
def Ok.imp{α β:Type}{p:Nat}{h:MH}{o:Out β}{r:PR α}{R S:MH->α->β->Prop}(q:Ok p h o r R)(k:∀f a b,KB p h f->R f a b->S f a b):Ok p h o r S:=by
 cases r with
 |ok a s=>obtain⟨b,j,e,kb,pn,i⟩:=q;exact⟨b,j,e,kb,pn,k _ _ _ kb i⟩
 |exc c s=>exact q
 |bad=>trivial
structure SR(p:Nat)(h:MH)(L:Nat)(O:WQ)(ws:WQ)(Z:pq)(env:aC):Prop where
 len:Z.length=env.length
 fz:∀i d,env[i]?=J (J d)->i∉ws->∃v,Z[i]?=J (J v)/\Rp p h O d v
 ow:∀i d,env[i]?=J (J d)->i∈ws->∃n k xs ds,d=dl k ds/\Z[i]?=J (J (.loc n))/\n∈O/\L<=n/\h[n]?=J (mo k xs)/\Rps p h O ds xs
structure Cx(p:Nat)(h:MH)(L:Nat)(B O:WQ)(ws:WQ)(Z:pq)(env:aC)(s:e_):Prop where
 bd:∀o∈O,o<h.length
 sub:∀o∈B,o∈O
 bb:∀o∈B,o<L
 pb:p∈B
 hL:L<=h.length
 pen:bx h p s
 sr:SR p h L O ws Z env
section
variable{p L:Nat}{h h':MH}{B O ws:WQ}{Z:pq}{env:aC}{s s':e_}
def Cx.pO(c:Cx p h L B O ws Z env s):p∈O:=c.sub p c.pb
def Cx.pL(c:Cx p h L B O ws Z env s):p<L:=c.bb p c.pb
def SR.mv{f:WQ}(m:Mv O h f h')(l:∀o∈O,o∈f)(u:∀n:Nat,n<h.length->L<=n->n∈O->h'[n]?=h[n]?)(r:SR p h L O ws Z env):SR p h' L f ws Z env :=
 ⟨r.len,λi d e j=>let⟨v,e1,q⟩:=r.fz i d e j;⟨v,e1,q.mv m⟩,λi d e j=>let⟨n,k,xs,y,e1,e2,a,b,g,q⟩:=r.ow i d e j;⟨n,k,xs,y,e1,e2,l n a,b,(u n (aK g) b a).trans g,q.mv m⟩⟩
def Cx.kb(c:Cx p h L B O ws Z env s)(k:KB p h h')(pn:bx h' p s'):Cx p h' L B O ws Z env s' :=
 ⟨λo a=>t_ (c.bd o a) k.len,c.sub,c.bb,c.pb,oh c.hL k.len,pn,c.sr.mv (k.mv c.pO) (λ_ h=>h) λn f i _=>k.keep n f (by have:=c.pL;lia)⟩
def Vw.base(w:Vw p h L O d v)(sub:∀o∈B,o∈O)(bb:∀o∈B,o<L):Rp p h B d v:=by
 have m:Mv O h B h:=⟨λ_ _ _=>rfl,λo a=>.inl (sub o a)⟩;rcases w with r|⟨n,k,xs,i,rfl,rfl,_,f,g,r⟩
 .exact r.mv m
 .cases k<;>exact⟨n,xs,rfl,λz=>by have:=bb n z;lia,g,r.mv m⟩
def Frs.rp(f:Frs p L' O h d v)(bd:∀o∈O,o<L')(e:d=dl k ds):Rp p h O d v:=by obtain⟨n,xs,e1,i,g,r⟩:=f k ds e;subst e;cases k<;>exact⟨n,xs,e1,λz=>by have:=bd n z;lia,g,r.mv ⟨λ_ _ _=>rfl,λo a=>.inl (ml _ a)⟩⟩
def Frs.le(f:Frs p L2 O h d v)(a:L1<=L2):Frs p L1 O h d v:=λk j e =>
 let⟨n,xs,e1,i,g,r⟩:=f k j e;⟨n,xs,e1,oh a i,g,r⟩
end
abbrev Bd(h:MH)(O:WQ):Prop:=∀o∈O,o<h.length
inductive Gv(p:Nat)(h:MH)(O:WQ)(fr:Bool)(o:WZ)(d:D):Prop
 |mk(v:PV)(g:MH)(e:o=.ok v (h++g))(r:Rp p (h++g) O d v)(f:fr=I->Frs p h.length O (h++g) d v):Gv p h O fr o d
structure Rx where
 m:PV->MH->WZ
 p:D->WG
 fr:Bool
 ok:∀{q h L O a x d},Bd h O->Vw q h L O a x->p a=J d->Gv q h O fr (m x h) d
structure zM where
 m:PV->PV->MH->WZ
 p:D->D->WG
 fr:Bool
 ok:∀{q h L O a x b y d},Bd h O->Vw q h L O a x->Vw q h L O b y->p a b=J d->Gv q h O fr (m x y h) d
structure DU where
 k:WL->MH->WZ
 p:WR->WG
 fr:Bool
 ok:∀{q h L O as xs d},Bd h O->K5 q h L O as xs->p as=J d->Gv q h O fr (k xs h) d
structure Fn where
 m:WL->MH->WZ
 p:WR->e_->PR D
 fr:Bool
 ok:∀{q h O vs ds s},Bd h O->q∈O->bx h q s->Rps q h O ds vs->Ok q h (m vs h) (p ds s) (λh' d v=>Rp q h' O d v/\(fr=I->Frs q h.length O h' d v))
mutual
def flat:D->Bool
 |.lst _ | .dic _ _ _ | .exc _ | .pen=>T
 |.tup a=>eT a
 |_=>I
def eT:WR->Bool
 |[]=>I
 |d::a=>flat d&&eT a
end
section
variable{p:Nat}{h h':MH}{O O':WQ}
mutual
def Rp.flat:∀{d:D}{v:PV},PU.flat d=I->Rp p h O d v->Rp p h' O' d v
 |.non,_,_,r=>r
 |.bl _,_,_,r=>r
 |.int _,_,_,r=>r
 |.str _,_,_,r=>r
 |.tup a,_,f,⟨xs,e,r⟩=>⟨xs,e,Rps.flat (by simpa [PU.flat]using f) r⟩
 |.lst a,_,f,_=>by simp[PU.flat]at f
 |.dic _ _ _,_,f,_=>by simp[PU.flat]at f
 |.exc _,_,f,_=>by simp[PU.flat]at f
 |.pen,_,f,_=>by simp[PU.flat]at f
def Rps.flat:∀{i:WR}{j:WL},PU.eT i=I->Rps p h O i j->Rps p h' O' i j
 |[],_,_,r=>r
 |_::_,_,f,⟨x,t,e,a,b⟩=>⟨x,t,e,Rp.flat (by simp[PU.eT]at f;exact f.1) a,Rps.flat (by simp[PU.eT]at f;exact f.2) b⟩
end
end
structure Xe(ws:WQ) where
 m:Mx PV
 p:aC->e_->PR D
 fz:Bool
 fr:Bool
 ok:∀{q h L B O Z env s},Cx q h L B O ws Z env s->Ok q h (m Z h) (p env s) (λh' d v=>Vw q h' L O d v/\(fz=I->Rp q h' O d v)/\(fr=I->Frs q h.length O h' d v))
structure Xs(ws:WQ) where
 m:Mx (WL)
 p:aC->e_->PR (WR)
 fz:Bool
 ok:∀{q h L B O Z env s},Cx q h L B O ws Z env s->Ok q h (m Z h) (p env s) (λh' ds vs=>K5 q h' L O ds vs/\(fz=I->Rps q h' O ds vs))
structure Xt(ws:WQ) where
 m:Mx Bool
 p:aC->e_->PR Bool
 ok:∀{q h L B O Z env s},Cx q h L B O ws Z env s->Ok q h (m Z h) (p env s) (λ_ a b=>a=b)
noncomputable section
variable{ws:WQ}
def ET{q L:Nat}{h a:MH}{O:WQ}{o:WZ}{d:D}{s:e_}{fr:Bool}(le:h.length<=a.length)(pn:bx a q s)(g:Gv q a O fr o d):
  Ok q a o (.ok d s) (λi d v=>Vw q i L O d v/\(I=I->Rp q i O d v)/\(fr=I->Frs q h.length O i d v)):=by
 obtain⟨v,g,e,r,f⟩:=g;exact⟨v,a++g,e,KB.app _ _ _,pn.app,.inl r,λ_=>r,λz=>(f z).le le⟩
def aa(i:Nat):Xe ws where
 m:=ao i
 p:=λenv s=>match env[i]? with
  |some (J d)=>.ok d s
  |_=>.bad
 fz:=!ws.contains i
 fr:=T
 ok {q h L B O Z env s} c:=by
  show Ok q h _ (match env[i]? with|some (J d)=>PR.ok d s|_=>.bad) _
  cases e:env[i]? with
  |none=>trivial
  |some o =>
   cases o with
   |none=>trivial
   |some d =>
    by_cases z:i∈ws
    .obtain⟨n,k,xs,j,e1,e2,a,b,g,r⟩:=c.sr.ow i d e z;exact⟨.loc n,h,by simp[ao,e2],KB.refl _ _,c.pen,.inr ⟨n,k,xs,j,e1,rfl,a,b,g,r⟩,λf=>by simp[z]at f,λf=>by simp at f⟩
    .obtain⟨v,e1,r⟩:=c.sr.fz i d e z;exact⟨v,h,by simp[ao,e1],KB.refl _ _,c.pen,.inl r,λ_=>r,λf=>by simp at f⟩
inductive Cn where
 |non | bl (b:Bool) | int (i:Int) | str (x:Str)
def Cn.v:Cn->PV
 |.non=>.non
 |.bl b=>.bl b
 |.int i=>.int i
 |.str x=>.str x
def Cn.d:Cn->D
 |.non=>.non
 |.bl b=>.bl b
 |.int i=>.int i
 |.str x=>.str x
def Cn.rp(c:Cn){q:Nat}{h:MH}{O:WQ}:Rp q h O c.d c.v:=by cases c<;>rfl
def xC(k:Cn):Xe ws where
 m:=mC k.v
 p:=λ_ s=>.ok k.d s
 fz:=I
 fr:=I
 ok {q h L B O Z env s} c:=⟨k.v,h,rfl,KB.refl _ _,c.pen,.inl k.rp,λ_=>k.rp,λ_ a f e=>by cases k<;>cases a<;>cases e⟩
def af(o:zM)(a b:Xe ws):Xe ws where
 m:=aH o.m a.m b.m
 p:=λenv s=>(a.p env s).bind λx C=>(b.p env C).bind λy F=>.of (o.p x y) F
 fz:=I
 fr:=o.fr
 ok {q h L B O Z env s} c:=by
  refine(a.ok c).bind λx v R C l G i=>?_;obtain⟨H,_,_⟩:=i;refine(b.ok (c.kb l G)).bind λy w Q F z E j=>?_;obtain⟨P,_,_⟩:=j
  cases e:o.p x y with
  |none=>trivial
  |some d =>
   have M:=(c.kb l G).kb z E;obtain⟨u,g,e1,r,f⟩:=o.ok M.bd (H.kb z c.pO c.pL) P e;exact ET (oh l.len z.len) E ⟨u,g,by rw[e1];rfl,r,f⟩
def y7(o:Rx)(a:Xe ws):Xe ws where
 m:=NW o.m a.m
 p:=λenv s=>(a.p env s).bind λx j=>.of (o.p x) j
 fz:=I
 fr:=o.fr
 ok {q h L B O Z env s} c:=by
  refine(a.ok c).bind λx v C j l y i=>?_;obtain⟨z,_,_⟩:=i
  cases e:o.p x with
  |none=>trivial
  |some d =>
   obtain⟨u,g,e1,r,f⟩:=o.ok (c.kb l y).bd z e;exact ET l.len y ⟨u,g,by rw[e1];rfl,r,f⟩
def a_:Xs ws where
 m:=hG
 p:=λ_ s=>.ok [] s
 fz:=I
 ok {q h L B O Z env s} c:=⟨[],h,rfl,KB.refl _ _,c.pen,rfl,λ_=>rfl⟩
def ae(a:Xe ws)(r:Xs ws):Xs ws where
 m:=aq a.m r.m
 p:=λenv s=>(a.p env s).bind λx l=>(r.p env l).bind λy u=>.ok (x::y) u
 fz:=a.fz&&r.fz
 ok {q h L B O Z env s} c:=by refine(a.ok c).bind λx v Q l G P j=>?_;obtain⟨C,z1,_⟩:=j;refine(r.ok (c.kb G P)).bind λy w M u z E i=>?_;obtain⟨H,F⟩:=i;refine⟨v::w,M,rfl,KB.refl _ _,E,⟨v,w,rfl,C.kb z c.pO c.pL,H⟩,λf=>?_⟩;rw[DX]at f;exact⟨v,w,rfl,(z1 f.1).mv (z.mv c.pO),F f.2⟩
def m_(o:DU)(a:Xs ws):Xe ws where
 m:=λZ h=>(a.m Z h).bind o.k
 p:=λenv s=>(a.p env s).bind λx i=>.of (o.p x) i
 fz:=I
 fr:=o.fr
 ok {q h L B O Z env s} c:=by
  refine(a.ok c).bind λx v y i j l f=>?_;obtain⟨u,_⟩:=f
  cases e:o.p x with
  |none=>trivial
  |some d=>exact ET j.len l (o.ok (c.kb j l).bd u e)
def az(f:Fn)(a:Xs ws)(y:a.fz=I:=by exact ys rfl):Xe ws where
 m:=fR f.m a.m
 p:=λenv s=>(a.p env s).bind f.p
 fz:=I
 fr:=f.fr
 ok {q h L B O Z env s} c:=by refine(a.ok c).bind λx v E C l u i=>?_;obtain⟨_,z⟩:=i;have j:=c.kb l u;refine(f.ok j.bd j.pO u (z y)).imp λF d v kb ⟨r,fr⟩=>⟨.inl r,λ_=>r,λz=>(fr z).le l.len⟩
def eR:100000<=sizeLine:=by decide
def oK(bd:Bd h O)(r:Rps q h O ds xs)(u:ds.length<=100000):Gv q h O I (v_ xs h) (.lst ds):=by
 have l:=r.length;have m:Mv O h O (h++[MO.lst xs]):=⟨λn f _=>qr f,λo a=>.inl a⟩
 have j:Mv O h (h.length::O) (h++[MO.lst xs]):=⟨λn f _=>qr f,λo a=>by
  rcases nw.mp a with z|z
  .exact .inr ⋯
  .exact .inl z⟩
 have g:(h++[MO.lst xs])[h.length]?=J (.lst xs):=by simp
 refine⟨.loc h.length,[.lst xs],?_,⟨_,_,rfl,λz=>by have:=bd _ z;lia,g,r.mv m⟩,λ_ k i e=>?_⟩
 .unfold v_;have:=eR;lia
 .obtain⟨rfl,rfl⟩:=gS e;exact⟨_,_,rfl,l_ _,g,r.mv j⟩
def yd(r:Rps q h O ds xs)(i:ds.length<=100000):Gv q h O I (mm xs h) (.tup ds):=by
 have f:=r.length;refine⟨.tup xs,[],?_,?_,λ_ k a e=>by cases k<;>cases e⟩
 .unfold mm;rw[c_ (by have:=eR;lia)];simp
 .simpa using⟨xs,rfl,r⟩
def d9(a:Xs ws)(y:a.fz=I:=by exact ys rfl):Xe ws where
 m:=iU a.m
 p:=λenv s=>(a.p env s).bind λx j=>if x.length<=100000 then .ok (.lst x) j else .bad
 fz:=I
 fr:=I
 ok {q h L B O Z env s} c:=by
  refine(a.ok c).bind λx v C j u l i=>?_;obtain⟨_,z⟩:=i;by_cases f:x.length<=100000
  .rw[c_ f];exact ET u.len l (oK (c.kb u l).bd (z y) f)
  .rw[g_ f];trivial
def bt(a:Xs ws)(l:a.fz=I:=by exact ys rfl):Xe ws where
 m:=cR a.m
 p:=λenv s=>(a.p env s).bind λx j=>if x.length<=100000 then .ok (.tup x) j else .bad
 fz:=I
 fr:=I
 ok {q h L B O Z env s} c:=by
  refine(a.ok c).bind λx v C j y u i=>?_;obtain⟨_,z⟩:=i;by_cases f:x.length<=100000
  .rw[c_ f];exact ET y.len u (yd (z l) f)
  .rw[g_ f];trivial
def GC:Xe ws where
 m:=ES
 p:=λ_ s=>.ok (.dic T [] []) s
 fz:=I
 fr:=I
 ok {q h L B O Z env s} c:=by
  have g:(h++[MO.dic T [] []])[h.length]?=J (.dic T [] []):=by simp
  have r:Rp q (h++[MO.dic T [] []]) O (.dic T [] []) (.loc h.length):=⟨_,[],rfl,λz=>by have:=c.bd _ z;lia,g,rfl⟩
  exact⟨.loc h.length,h++[.dic T [] []],rfl,KB.app _ _ _,c.pen.app,.inl r,λ_=>r,λ_ k a e=>by
   cases k with
   |none=>cases e
   |some f=>cases e;exact⟨_,[],rfl,l_ _,g,rfl⟩⟩
def Vw.bl(w:Vw q h L O (.bl b) v):v=.bl b:=by
 rcases w with r|⟨n,k,xs,a,e,_⟩
 .exact r
 .cases k<;>cases e
def PR.bl(r:PR D):PR Bool:=r.bind λd s=>match d with
 |.bl b=>.ok b s
 |_=>.bad
@[simp]theorem Pl:(PR.ok (D.bl b) s).bl=.ok b s:=rfl
def xB(a:Xe ws):Xt ws where
 m:=mB a.m
 p:=λenv s=>(a.p env s).bl
 ok {q h L B O Z env s} c:=by
  refine(a.ok c).bind λx v j l u i f=>?_;obtain⟨w,_,_⟩:=f
  cases x with
  |bl b=>rw[w.bl];exact⟨b,j,rfl,KB.refl _ _,i,rfl⟩
  |_=>trivial
def bQ(a:Xt ws):Xt ws where
 m:=Kc a.m
 p:=λenv s=>(a.p env s).bind λb s=>.ok (!b) s
 ok {q h L B O Z env s} c:=(a.ok c).bind λx v i j l f e=>⟨!v,i,rfl,KB.refl _ _,f,by rw[e]⟩
def kH(a b:Xt ws):Xt ws where
 m:=Ke a.m b.m
 p:=λenv s=>(a.p env s).bind λx s=>if x=I then b.p env s else .ok T s
 ok {q h L B O Z env s} c:=(a.ok c).bind λx v i l j f e=>by
  subst e
  cases x with
  |true=>simpa using b.ok (c.kb j f)
  |false=>exact⟨T,i,rfl,KB.refl _ _,f,rfl⟩
def CV(a b:Xt ws):Xt ws where
 m:=SV a.m b.m
 p:=λenv s=>(a.p env s).bind λx s=>if x=I then .ok I s else b.p env s
 ok {q h L B O Z env s} c:=(a.ok c).bind λx v i l j f e=>by
  subst e
  cases x with
  |false=>simpa using b.ok (c.kb j f)
  |true=>exact⟨I,i,rfl,KB.refl _ _,f,rfl⟩
def mL:Xt ws where
 m:=ot
 p:=λ_ s=>.ok I s
 ok {q h L B O Z env s} c:=⟨I,h,rfl,KB.refl _ _,c.pen,rfl⟩
def Ok.after{α β:Type}{p:Nat}{h l:MH}{o:Out β}{r:PR α}{R:MH->α->β->Prop}(k:KB p h l)(q:Ok p l o r R):Ok p h o r R:=by
 cases r with
 |bad=>trivial
 |exc B y=>obtain⟨j,i,a,f⟩:=q;exact⟨j,i,k.trans a,f⟩
 |ok C y=>obtain⟨z,j,i,a,f,u⟩:=q;exact⟨z,j,i,k.trans a,f,u⟩
def yS(pn:bx h q s):Ok q h (.ok (.bl b) h) (.ok (.bl b) s) (λa d v=>Vw q a L O d v/\(I=I->Rp q a O d v)/\(I=I->Frs q l O a d v)) :=
 ⟨.bl b,h,rfl,KB.refl _ _,pn,.inl rfl,λ_=>rfl,λ_ k f e=>by cases k<;>cases e⟩
def zZ(k:Ok q h o r (λa d v=>Vw q a L O d v/\(fz=I->Rp q a O d v)/\(fr=I->Frs q l' O a d v))):
  Ok q h o (r.bl.bind λb s=>.ok (.bl b) s) (λa d v=>Vw q a L O d v/\(I=I->Rp q a O d v)/\(I=I->Frs q l O a d v)):=by
 cases r with
 |bad=>trivial
 |exc c s=>exact k
 |ok d s =>
  obtain⟨v,a,e,kb,pn,w,_,_⟩:=k
  cases d with
  |bl b=>exact⟨v,a,e,kb,pn,w,λ_=>by rw[w.bl];rfl,λ_ k f e=>by cases k<;>cases e⟩
  |_=>trivial
def fu(a b:Xe ws):Xe ws where
 m:=zu a.m b.m
 p:=λenv s=>(a.p env s).bl.bind λx s=>if x=I then(b.p env s).bl.bind λy s=>.ok (.bl y) s else .ok (.bl T) s
 fz:=I
 fr:=I
 ok {q h L B O Z env s} c:=by
  have k:=a.ok c;show Ok q h ((a.m Z h).bind _) _ _
  cases e:a.p env s with
  |bad=>trivial
  |exc x u =>
   rw[e]at k;obtain⟨j,e1,f,i⟩:=k;rw[e1];exact⟨j,rfl,f,i⟩
  |ok d u =>
   rw[e]at k;obtain⟨v,j,e1,f,i,w,_,_⟩:=k
   cases d with
   |bl x =>
    rw[w.bl]at e1;rw[e1]
    cases x with
    |true =>
     exact Ok.after f (zZ (l:=h.length) (b.ok (c.kb f i)))
    |false =>
     obtain⟨E,H,G,C,F,z⟩:=yS (L:=L) (l:=h.length) (O:=O) (b:=T) i;exact⟨E,H,G,f.trans C,F,z⟩
   |_=>trivial
def GD(a b:Xe ws):Xe ws where
 m:=Ki a.m b.m
 p:=λenv s=>(a.p env s).bl.bind λx s=>if x=I then .ok (.bl I) s else(b.p env s).bl.bind λy s=>.ok (.bl y) s
 fz:=I
 fr:=I
 ok {q h L B O Z env s} c:=by
  have k:=a.ok c;show Ok q h ((a.m Z h).bind _) _ _
  cases e:a.p env s with
  |bad=>trivial
  |exc x u =>
   rw[e]at k;obtain⟨j,e1,f,i⟩:=k;rw[e1];exact⟨j,rfl,f,i⟩
  |ok d u =>
   rw[e]at k;obtain⟨v,j,e1,f,i,w,_,_⟩:=k
   cases d with
   |bl x =>
    rw[w.bl]at e1;rw[e1]
    cases x with
    |false =>
     exact Ok.after f (zZ (l:=h.length) (b.ok (c.kb f i)))
    |true =>
     obtain⟨E,H,G,C,F,z⟩:=yS (L:=L) (l:=h.length) (O:=O) (b:=I) i;exact⟨E,H,G,f.trans C,F,z⟩
   |_=>trivial
def oV(a:Xe ws):Xe ws where
 m:=yX a.m
 p:=λenv s=>(a.p env s).bl.bind λx s=>.ok (.bl (!x)) s
 fz:=I
 fr:=I
 ok {q h L B O Z env s} c:=by
  have k:=a.ok c;show Ok q h ((a.m Z h).bind _) _ _
  cases e:a.p env s with
  |bad=>trivial
  |exc x u =>
   rw[e]at k;obtain⟨j,e1,f,i⟩:=k;rw[e1];exact⟨j,rfl,f,i⟩
  |ok d u =>
   rw[e]at k;obtain⟨v,j,e1,f,i,w,_,_⟩:=k
   cases d with
   |bl x =>
    rw[w.bl]at e1;rw[e1];obtain⟨C,G,F,z,E,y⟩:=yS (L:=L) (l:=h.length) (O:=O) (b:=!x) i;exact⟨C,G,F,f.trans z,E,y⟩
   |_=>trivial
def K6(t:Xt ws)(a b:Xe ws)(fz:Bool)(hf:fz=(a.fz&&b.fz):=by exact ys rfl):Xe ws where
 m:=Km t.m a.m b.m
 p:=λenv s=>(t.p env s).bind λx s=>if x=I then a.p env s else b.p env s
 fz:=fz
 fr:=T
 ok {q h L B O Z env s} c:=(t.ok c).bind λx v y u i j e=>by
  subst e
  cases x with
  |true=>exact(a.ok (c.kb i j)).imp λl d v kb r=>⟨r.1,λf=>r.2.1 (by rw[hf,DX]at f;exact f.1),λf=>by simp at f⟩
  |false=>exact(b.ok (c.kb i j)).imp λl d v kb r=>⟨r.1,λf=>r.2.1 (by rw[hf,DX]at f;exact f.2),λf=>by simp at f⟩
def rB(f g:zM)(a b e:Xe ws):Xe ws where
 m:=qY f.m g.m a.m b.m e.m
 p:=λenv s=>(a.p env s).bind λx M=>(b.p env M).bind λy H=>match f.p x y with
  |some (.bl t)=>if t=I then(e.p env H).bind λz S=>.of (g.p y z) S else .ok (.bl T) H
  |_=>.bad
 fz:=I
 fr:=T
 ok {q h L B O Z env s} c:=by
  refine(a.ok c).bind λx v h1 M U p1 l=>?_;obtain⟨w1,_,_⟩:=l;refine(b.ok (c.kb U p1)).bind λy w F H k2 G j=>?_;obtain⟨W,_,_⟩:=j;have P:=(c.kb U p1).kb k2 G
  cases e1:f.p x y with
  |none=>trivial
  |some d =>
   cases d with
   |bl t =>
    obtain⟨u,C,e2,r,_⟩:=f.ok P.bd (w1.kb k2 c.pO c.pL) W e1;have hu:u=.bl t:=r;subst hu;rw[e2];have E:=KB.app q F C;have Q:=P.kb E G.app
    cases t with
    |true =>
     refine Ok.after E ?_;show Ok q (F++C) ((e.m Z (F++C)).bind _) _ _;refine(e.ok Q).bind λz u h3 S X p4 i=>?_;obtain⟨w3,_,_⟩:=i
     cases e4:g.p y z with
     |none=>trivial
     |some d =>
      obtain⟨u2,g2,e5,R,_⟩:=g.ok (Q.kb X p4).bd ((W.kb E c.pO c.pL).kb X c.pO c.pL) w3 e4;refine⟨u2,h3++g2,by rw[e5];rfl,KB.app _ _ _,p4.app,.inl R,λ_=>R,λf=>by simp at f⟩
    |false=>exact⟨.bl T,F++C,rfl,E,G.app,.inl rfl,λ_=>rfl,λf=>by simp at f⟩
   |_=>trivial
end
structure Xi(ws:WQ) where
 m:Mx MIt
 p:aC->e_->PR (WR)
 fz:Bool
 ok:∀{q h L B O Z env s},Cx q h L B O ws Z env s->Ok q h (m Z h) (p env s) (λh' ds it=>Rps q h' O ds it.xs/\(∀g∈it.gd,h'[g.1]?=J (.lst g.2)/\g.1≠q)/\(fz=I->∀g∈it.gd,g.1∉O))
inductive GI(q:Nat)(h:MH)(O:WQ)(ds as:WR)(xs:WL)(o:Out MIt):Prop
 |mk(it:MIt)(e:o=.ok it h)(r:Rps q h O ds it.xs)(g:∀g∈it.gd,h[g.1]?=J (.lst g.2)/\g.1≠q)(z:Rps q h O as xs->∀g∈it.gd,g.1∉O):GI q h O ds as xs o
structure MY where
 k:WL->MH->Out MIt
 p:WR->Option (WR)
 ok:∀{q h L O as xs ds},q<L->q∈O->Bd h O->K5 q h L O as xs->p as=J ds->GI q h O ds as xs (k xs h)
def D.items:D->Option (WR)
 |.lst a=>J a
 |.tup a=>J a
 |_=>Y
@[simp]theorem sZ:(D.lst ds).items=J ds:=rfl
@[simp]theorem MZ:(D.tup ds).items=J ds:=rfl
noncomputable section
variable{ws:WQ}
def bT(o:MY)(a:Xs ws):Xi ws where
 m:=λZ h=>(a.m Z h).bind o.k
 p:=λenv s=>(a.p env s).bind λx j=>.of (o.p x) j
 fz:=a.fz
 ok {q h L B O Z env s} c:=by
  refine(a.ok c).bind λx v E j C l i=>?_;obtain⟨w,z⟩:=i
  cases e:o.p x with
  |none=>trivial
  |some F =>
   obtain⟨y,e1,r,u,g2⟩:=o.ok c.pL c.pO (c.kb C l).bd w e;exact⟨y,E,e1,KB.refl _ _,l,r,u,λf=>g2 (z f)⟩
def Vw.seq(hq:q<L)(C:q∈O)(w:Vw q h L O d v)(e:d.items=J ds):∃xs gd,sv v h=.ok ⟨xs,gd⟩ h/\Rps q h O ds xs/\(∀g∈gd,h[g.1]?=J (.lst g.2)/\g.1≠q)/\(Rp q h O d v->∀g∈gd,g.1∉O):=by
 have one:∀n xs,h[n]?=J (MO.lst xs)->n≠q->(∀g∈[(n,xs)],h[g.1]?=J (MO.lst g.2)/\g.1≠q):=λn xs g B y a=>by
  simp_all
 cases d with
 |lst j =>
  have:j=ds:=by simpa using e
  subst this;rcases w with⟨n,xs,e1,no,g,r⟩|⟨n,l,xs,i,e0,e1,_,B,g,r⟩
  .subst e1;refine⟨xs,[(n,xs)],by simp only[sv,g],r,one n xs g (λz=>no (z▸C)),λ_ y a=>?_⟩
   have:y=(n,xs):=by simpa using a
   subst this;exact no
  .obtain⟨rfl,rfl⟩:=gS e0;subst e1;replace g:h[n]?=J (.lst xs):=g;refine⟨xs,[(n,xs)],by simp only[sv,g],r,one n xs g ⋯,λf y a=>?_⟩;obtain⟨E,u,e1,no,_,_⟩:=f
   grind
 |tup j =>
  have:j=ds:=by simpa using e
  subst this;rcases w with⟨xs,e1,r⟩|⟨n,l,xs,i,e0,_⟩
  .subst e1;exact⟨xs,[],rfl,r,(λ_ a=>nomatch a),λ_ _ a=>nomatch a⟩
  .cases l<;>cases e0
 |_=>simp[D.items]at e
def bc(a:Xe ws):Xi ws where
 m:=d3 a.m
 p:=λenv s=>(a.p env s).bind λx j=>.of x.items j
 fz:=a.fz
 ok {q h L B O Z env s} c:=by
  refine(a.ok c).bind λx v y j C u i=>?_;obtain⟨w,z,_⟩:=i
  cases e:x.items with
  |none=>trivial
  |some E =>
   obtain⟨xs,gd,e1,r,l,g2⟩:=w.seq c.pL c.pO e;exact⟨⟨xs,gd⟩,y,e1,KB.refl _ _,u,r,l,λf=>g2 (z f)⟩
structure Xg(ws:WQ) where
 m:Mg
 p:D->aC->Option aC
 ok:∀{q h L O Z env d v env'},SR q h L O ws Z env->Rp q h O d v->p d env=J env'->∃Z',m v Z h=.nx Z' h/\SR q h L O ws Z' env'/\∀i∈ws,Z'[i]?=Z[i]?/\env'[i]?=env[i]?
structure IA(ws:WQ) where
 m:Ga
 p:WR->aC->Option aC
 ok:∀{q h L O Z env ds vs env'},SR q h L O ws Z env->Rps q h O ds vs->p ds env=J env'->∃Z',m vs Z h=.nx Z' h/\SR q h L O ws Z' env'/\∀i∈ws,Z'[i]?=Z[i]?/\env'[i]?=env[i]?
def SR.set(r:SR q h L O ws Z env)(B:i∉ws)(w:Rp q h O d v):SR q h L O ws (Z.set i (J v)) (env.set i (J d))/\∀j∈ws,(Z.set i (J v))[j]?=Z[j]?/\(env.set i (J d))[j]?=env[j]?:=by
 have ne:∀j∈ws,i≠j:=λj a z=>B (z▸a);refine⟨⟨by simp[r.len],λj e a l=>?_,λj e a l=>?_⟩,λj a=>⟨qa (ne j a),qa (ne j a)⟩⟩
 .by_cases z:i=j
  .subst z;have y:i<env.length:=by
    have:=(pf.mp a).1;simpa using this
   rw[C_ y]at a;cases a;exact⟨v,C_ (by rw[r.len];exact y),w⟩
  .rw[qa z]at a;obtain⟨u,e1,F⟩:=r.fz j e a l
   simp_all
 .rw[qa (ne j l)]at a;obtain⟨n,C,xs,E,e1,e2,f⟩:=r.ow j e a l;exact⟨n,C,xs,E,e1,by rw[qa (ne j l)];exact e2,f⟩
def h8(i:Nat)(j:ws.contains i=T:=by exact ys rfl):Xg ws where
 m:=lR i
 p:=λd env=>J (env.set i (J d))
 ok {q h L O Z env d v env'} r w e:=by
  cases e;have f:i∉ws:=λz=>by simp[z]at j
  obtain⟨a,b⟩:=r.set f w;exact⟨_,rfl,a,b⟩
def p6:IA ws where
 m:=yH
 p:=λa env=>match a with
  |[]=>J env
  |_=>Y
 ok {q h L O Z env a vs env'} r w e:=by
  cases a with
  |nil =>
   cases e
   have:vs=[]:=w
   subst this;exact⟨Z,rfl,r,λ_ _=>⟨rfl,rfl⟩⟩
  |cons _ _=>cases e
def ki(a:Xg ws)(t:IA ws):IA ws where
 m:=nu a.m t.m
 p:=λj env=>match j with
  |d::j=>(a.p d env).bind λf=>t.p j f
  |[]=>Y
 ok {q h L O Z env j vs env'} r w e:=by
  cases j with
  |nil=>cases e
  |cons d j =>
   obtain⟨x,y,rfl,G,F⟩:=w;dsimp only at e
   cases e1:a.p d env with
   |none=>rw[e1]at e;cases e
   |some f =>
    rw[e1]at e;obtain⟨P,H,B,u⟩:=a.ok r G e1;obtain⟨M,C,E,z⟩:=t.ok B F e;exact⟨M,by show(a.m x Z h).then (t.m y)=_;rw[H];exact C,E,λi l=>⟨(z i l).1.trans (u i l).1,(z i l).2.trans (u i l).2⟩⟩
def p_(t:IA ws)(n:Nat):Xg ws where
 m:=yM t.m n
 p:=λd env=>match d with
  |.tup f=>if f.length=n then t.p f env else Y
  |_=>Y
 ok {q h L O Z env d v env'} r w e:=by
  cases d with
  |tup f =>
   obtain⟨xs,rfl,w⟩:=w;dsimp only at e;by_cases z:f.length=n
   .rw[c_ z]at e;obtain⟨i,a,b⟩:=t.ok r w e;exact⟨i,by show(if xs.length=n then t.m xs Z h else .bad)=_;rw[c_ (by rw[w.length];exact z)];exact a,b⟩
   .rw[g_ z]at e;cases e
  |_=>cases e
def EN(a:Nat)(fm ws:WQ):WQ:=((List.range fm.length).filter λj=>ws.contains (fm.getD j 0)).map (a+·)
def w_(a:Nat)(fm:WQ)(env:aC):aC:=List.replicate a Y++fm.map λi=>(env[i]?).getD Y
def PR.ne{α:Type}(r:PR α):PR α:=match r with
 |.exc _ _=>.bad
 |r=>r
@[simp]theorem PR.ne_ok(a:α)(s:e_):(PR.ok a s).ne=.ok a s:=rfl
def dN(g:D->aC->Option aC)(t:aC->e_->PR Bool)(e:aC->e_->PR D):WR->aC->e_->PR (WR)
 |[],_,s=>.ok [] s
 |d::i,env,s=>match g d env with
  |none=>.bad
  |some a=>(t a s).bind λb f=>if b=I then(e a f).bind λx l=>(dN g t e i a l).bind λr j=>.ok (x::r) j else dN g t e i a f
def OA{a:Nat}{fm:WQ}{α:Type}{env:List (Option α)}{i:Nat}{d:α}(e:(List.replicate a Y++fm.map λi=>(env[i]?).getD Y)[i]?=J (J d)):∃j k,i=a+j/\fm[j]?=J k/\env[k]?=J (J d):=by
 by_cases z:i<a
 .rw[qr (by simpa using z)]at e;simp[z]at e
 .rw[Ek (by simp;lia)]at e;simp only[Nc,se]at e
  cases f:fm[i-a]? with
  |none=>rw[f]at e;cases e
  |some k =>
   rw[f]at e;simp only[Ib]at e;refine⟨i-a,k,⋯,f,?_⟩
   cases l:env[k]? with
   |none=>rw[l]at e;cases e
   |some o=>rw[l]at e;simp at e;rw[e]
def OB{a:Nat}{fm:WQ}{α:Type}{Z:List (Option α)}{j k:Nat}{v:α}(e1:fm[j]?=J k)(e2:Z[k]?=J (J v)):(List.replicate a Y++fm.map λi=>(Z[i]?).getD Y)[a+j]?=J (J v):=by rw[Ek (by simp)];simp[e1,e2]
def xJ(e:fm[j]?=J k):nv+j∈EN nv fm ws↔k∈ws:=by
 have a:=(pf.mp e).1;unfold EN
 simp_all
def SR.comp{q:Nat}{h:MH}{L:Nat}{O:WQ}{Z:pq}{env:aC}(a:Nat)(fm:WQ)(r:SR q h L O ws Z env):SR q h L O (EN a fm ws) (Fm a fm Z) (w_ a fm env):=by
 refine⟨by simp[Fm,w_],λi d e f=>?_,λi d e f=>?_⟩
 .obtain⟨j,k,rfl,e1,e2⟩:=OA e;obtain⟨v,e3,w⟩:=r.fz k d e2 λz=>f ((xJ e1).mpr z);exact⟨v,OB e1 e3,w⟩
 .obtain⟨j,k,rfl,e1,e2⟩:=OA e;obtain⟨n,l,xs,u,e0,e3,w⟩:=r.ow k d e2 ((xJ e1).mp f);exact⟨n,l,xs,u,e0,OB e1 e3,w⟩
def K7(gt:Xg u)(t:Xt u)(e:Xe u)(hz:e.fz=I)(hq:q<h1.length)(gd:∀g∈it.gd,h1[g.1]?=J (.lst g.2)/\g.1≠q):
  ∀(R:WR)(xs:WL)(env:aC)(Z:pq)(h:MH)(l:WR)(f:WL)(s:e_)(r:WR)(U:e_),(∀i∈u,∀d,env[i]?=J (J d)->∀n,Z[i]?=J (J (.loc n))->n<h1.length)->KB q h1 h->Cx q h L B (h1.length::O) u Z env s->Rps q h (h1.length::O) R xs->h[h1.length]?=J (.lst f)->Rps q h (h1.length::O) l f->l.length+R.length<=100000 ->
  dN gt.p t.p e.p R env s=.ok r U->∃C S,B_ it h1.length gt.m t.m e.m xs Z h=.ok () C/\KB q h1 C/\bx C q U/\C[h1.length]?=J (.lst S)/\Rps q C (h1.length::O) (l++r) S:=by
 intro R
 induction R with
 |nil =>
  intro xs env Z h l f s r U on kb c rx ga ra hl a
  have:xs=[]:=rx
  subst this;cases a;have ok:it.ok h:=λg hg=>(kb.keep _ (aK (gd g hg).1) (gd g hg).2).trans (gd g hg).1;exact⟨h,f,by rw[B_,c_ ok],kb,c.pen,ga,by simpa using ra⟩
 |cons d R ih =>
  intro xs env Z h l f s r U on kb c rx ga ra hl a;obtain⟨x,xr,rfl,r1,r2⟩:=rx;have ok:it.ok h:=λg hg=>(kb.keep _ (aK (gd g hg).1) (gd g hg).2).trans (gd g hg).1;rw[dN]at a
  cases eg:gt.p d env with
  |none=>rw[eg]at a;cases a
  |some j =>
   rw[eg]at a;dsimp only at a;obtain⟨Z1,f1,ai,k1⟩:=gt.ok c.sr r1 eg;have Q:∀i∈u,∀d,j[i]?=J (J d)->∀n,Z1[i]?=J (J (.loc n))->n<h1.length:=λi G d e n z=>on i G d ((k1 i G).2▸e) n ((k1 i G).1▸z);have c1:Cx q h L B (h1.length::O) u Z1 j s:=⟨c.bd,c.sub,c.bb,c.pb,c.hL,c.pen,ai⟩;have kt:=t.ok c1
   cases et:t.p j s with
   |bad=>rw[et]at a;cases a
   |exc _ _=>rw[et]at a;cases a
   |ok b s1 =>
    rw[et]at a kt;obtain⟨b',h2,f2,k2,p2,eb⟩:=kt;subst eb;have c2:=c1.kb k2 p2;have F:Mv (h1.length::O) h (h1.length::O) h2:=k2.mv c.pO;have hn:h1.length<h.length:=aK ga;have P:h2[h1.length]?=J (.lst f):=(k2.keep _ hn ⋯).trans ga;rw[Pb]at a
    cases b with
    |false =>
     rw[g_ (by simp)]at a;obtain⟨C,S,a1,a2⟩:=ih xr j Z1 h2 l f s1 r U Q (kb.trans k2) c2 (r2.mv F) P (ra.mv F) (by simp at hl;lia) a;refine⟨C,S,?_,a2⟩;rw[B_,c_ ok,f1];simp only[f2,Out.ne_ok,Out.bind_ok,wy,if_false];exact a1
    |true =>
     rw[c_ rfl]at a;have ke:=e.ok c2
     cases ee:e.p j s1 with
     |bad=>rw[ee]at a;cases a
     |exc _ _=>rw[ee]at a;cases a
     |ok y s2 =>
      rw[ee]at a ke;obtain⟨v,M,f3,k3,p3,_,rv,_⟩:=ke;have rv:=rv hz;have H:=c2.kb k3 p3;have X:Mv (h1.length::O) h2 (h1.length::O) M:=k3.mv c.pO;have ac:M[h1.length]?=J (.lst f):=(k3.keep _ (aK P) ⋯).trans P;have E:Mv (h1.length::O) M (h1.length::O) (M.set h1.length (.lst (f++[v]))) :=
       ⟨λn hn no=>qa (λz=>no (by simp[z])),λo ho=>.inl ho⟩
      have ak:Rps q M (h1.length::O) (l++[y]) (f++[v]):=((ra.mv F).mv X).app ⟨v,[],rfl,rv,rfl⟩;rw[Pb]at a
      cases er:dN gt.p t.p e.p R j s2 with
      |bad=>rw[er]at a;cases a
      |exc _ _=>rw[er]at a;cases a
      |ok r' s3 =>
       rw[er]at a;cases a;have W:KB q h1 M:=(kb.trans k2).trans k3;have c4:Cx q (M.set h1.length (.lst (f++[v]))) L B (h1.length::O) u Z1 j s2:=by
        refine⟨λo ho=>by simpa using H.bd o ho,H.sub,H.bb,H.pb,by simpa using H.hL,?_,?_⟩
        .unfold bx;rw[qa ⋯];exact p3
        .refine⟨H.sr.len,λi d e G=>let⟨v,e1,q1⟩:=H.sr.fz i d e G;⟨v,e1,q1.mv E⟩,λi d e G=>?_⟩;obtain⟨n,kd,ys,es,b1,b2,b3,b4,b5,b6⟩:=H.sr.ow i d e G;have z:=Q i G d e n b2;exact⟨n,kd,ys,es,b1,b2,b3,b4,by rw[qa ⋯];exact b5,b6.mv E⟩
       obtain⟨C,S,a1,a2,a3,a4,a5⟩:=ih xr j Z1 (M.set h1.length (.lst (f++[v]))) (l++[y]) (f++[v]) s2 r' _ Q ⟨by simpa using W.len,λn hn hp=>by rw[qa ⋯];exact W.keep n hn hp⟩ c4 (((r2.mv F).mv X).mv E) (C_ (aK ac)) (ak.mv E) (by simp at hl ⊢;lia) er;refine⟨C,S,?_,a2,a3,a4,by simpa using a5⟩;rw[B_,c_ ok,f1];simp only[f2,Out.ne_ok,Out.bind_ok,if_true,f3,ac];rw[c_ (by have:=eR;have:=ra.length;simp at hl;lia)];exact a1
def bg(a:Nat)(fm:WQ)(i:Xi ws){ws':WQ}(g:Xg ws')(t:Xt ws')(e:Xe ws')(hw:EN a fm ws=ws':=by exact ys rfl)(hz:e.fz=I:=by exact ys rfl):Xe ws where
 m:=ce a fm i.m g.m t.m e.m
 p:=λenv s=>(i.p env s).bind λu y=>if u.length<=100000 then (match dN g.p t.p e.p u (w_ a fm env) y with
  |.ok r E=>.ok (.lst r) E
  |_=>.bad)else .bad
 fz:=I
 fr:=I
 ok {q h L B O Z env s} c:=by
  subst hw;refine(i.ok c).bind λu it j y R M F=>?_;obtain⟨rx,gd,_⟩:=F;have C:=c.kb R M;by_cases H:u.length<=100000
  .rw[c_ H]
   cases er:dN g.p t.p e.p u (w_ a fm env) y with
   |bad=>trivial
   |exc _ _=>trivial
   |ok r E =>
    have mv:Mv O j (j.length::O) (j++[MO.lst []]):=⟨λn G _=>qr G,λo l=>by
     rcases nw.mp l with z|z
     .exact .inr ⋯
     .exact .inl z⟩
    have sr:=(C.sr.comp a fm).mv mv (λo l=>ml _ l) λn G _ _=>qr G;have X:Cx q (j++[MO.lst []]) L B (j.length::O) (EN a fm ws) (Fm a fm Z) (w_ a fm env) y:=by
     refine⟨λo l=>?_,λo l=>ml _ (c.sub o l),c.bb,c.pb,by have:=C.hL;simp;lia,M.app,sr⟩;rcases nw.mp l with z|z
     .subst z;simp
     .have:=C.bd o z;simp;lia
    have hq:q<j.length:=aK M
    obtain⟨S,zs,a1,W,a3,U,a5⟩:=K7 g t e hz (L:=L) (B:=B) (O:=O) hq gd u it.xs (w_ a fm env) (Fm a fm Z) (j++[MO.lst []]) [] [] y r E (λi hi d ed n Q=>by
     obtain⟨n',_,_,_,_,b2,_,_,b5,_⟩:=(C.sr.comp a fm).ow i d ed hi;rw[b2]at Q;cases Q
     exact aK b5) (KB.app _ _ _) X (rx.mv mv) (by simp) rfl (by simpa using H) er
    have f:Frs q h.length O S (.lst r) (.loc j.length):=λk u e=>by
     obtain⟨rfl,rfl⟩:=gS e;exact⟨_,zs,rfl,R.len,U,by simpa using a5⟩
    have P:=f.rp (k:=Y) c.bd rfl;exact⟨.loc j.length,S,by show(B_ _ _ _ _ _ _ _ _).bind _=_;rw[a1];rfl,W,a3,.inl P,λ_=>P,λ_=>f⟩
  .rw[g_ H];trivial
end
inductive PS where
 |nx(e:aC)(s:e_)
 |rt(d:D)(s:e_)
 |bk(e:aC)(s:e_)
 |ct(e:aC)(s:e_)
 |exc(c:Str)(e:aC)(s:e_)
 |rse(c:Str)(e:aC)(s:e_)
 |bad
structure Stp(q L:Nat)(h:MH)(O:WQ)(h':MH)(O':WQ):Prop where
 len:h.length<=h'.length
 mv:Mv O h O' h'
 sub:∀o∈O,o∈O'
 base:∀n:Nat,n<L->n≠q->h'[n]?=h[n]?
def Stp.refl(q L:Nat)(h:MH)(O:WQ):Stp q L h O h O:=⟨l_ _,⟨λ_ _ _=>rfl,λ_ h=>.inl h⟩,λ_ h=>h,λ_ _ _=>rfl⟩
def Stp.trans(a:Stp q L h O h1 O1)(b:Stp q L h1 O1 h2 O2):Stp q L h O h2 O2:=by
 refine⟨oh a.len b.len,⟨λn f no=>?_,λo i=>?_⟩,λo i=>b.sub o (a.sub o i),λn f hq=>(b.base n f hq).trans (a.base n f hq)⟩
 .have j:n∉O1:=λz=>by
   rcases a.mv.new n z with q|q
   .exact no q
   .lia
  exact(b.mv.keep n (t_ f a.len) j).trans (a.mv.keep n f no)
 .rcases b.mv.new o i with z|z
  .exact a.mv.new o z
  .exact .inr (oh a.len z)
def Dis(a:WQ)(Z:pq)(env:aC):Prop:=∀i j,i∈a->j∈a->i≠j->∀d f n,env[i]?=J (J d)->env[j]?=J (J f)->Z[i]?=J (J (.loc n))->Z[j]?≠J (J (.loc n))
inductive Nxt(q L:Nat)(h:MH)(B O ws:WQ)(Z':pq)(h':MH)(env:aC)(s:e_):Prop
 |mk(O':WQ)(a:Stp q L h O h' O')(c:Cx q h' L B O' ws Z' env s)(d:Dis ws Z' env):Nxt q L h B O ws Z' h' env s
inductive M0(q L:Nat)(h:MH)(B O ws:WQ)(f:pq->MH->SOut)(o:SOut)(env:aC)(s:e_):Prop
 |mk(Z':pq)(h':MH)(e:o=f Z' h')(n:Nxt q L h B O ws Z' h' env s):M0 q L h B O ws f o env s
inductive Vx(q L:Nat)(h:MH)(B:WQ)(fr:Bool)(o:SOut)(d:D)(s:e_):Prop
 |mk(v:PV)(h':MH)(e:o=.rt v h')(l:h.length<=h'.length)(b:∀n:Nat,n<L->n≠q->h'[n]?=h[n]?)(p:bx h' q s)(r:Rp q h' B d v)(f:fr=I->Frs q L B h' d v):Vx q L h B fr o d s
def SOk(q L:Nat)(h:MH)(B O a:WQ)(fr:Bool)(o:SOut)(r:PS):Prop:=match r with
 |.nx env s=>M0 q L h B O a .nx o env s
 |.bk env s=>M0 q L h B O a .bk o env s
 |.ct env s=>M0 q L h B O a .ct o env s
 |.exc c env s=>M0 q L h B O a (.exc ⟨c,[]⟩) o env s
 |.rse c env s=>M0 q L h B O a (.rse ⟨c,[]⟩) o env s
 |.rt d s=>Vx q L h B fr o d s
 |.bad=>True
structure Xd(ws:WQ) where
 m:n_
 p:aC->e_->PS
 fr:Bool
 ok:∀{q h L B O Z env s},Cx q h L B O ws Z env s->Dis ws Z env->SOk q L h B O ws fr (m Z h) (p env s)
def Nxt.after(a:Stp q L h O h1 O1)(n:Nxt q L h1 B O1 ws Z' h' env s):Nxt q L h B O ws Z' h' env s :=
 let⟨f,b,c,d⟩:=n;⟨f,a.trans b,c,d⟩
def SOk.after(a:Stp q L h O h1 O1)(k:SOk q L h1 B O1 ws fr o r):SOk q L h B O ws fr o r:=by
 cases r with
 |nx env s=>obtain⟨i,f,e,n⟩:=k;exact⟨i,f,e,n.after a⟩
 |bk env s=>obtain⟨i,f,e,n⟩:=k;exact⟨i,f,e,n.after a⟩
 |ct env s=>obtain⟨i,f,e,n⟩:=k;exact⟨i,f,e,n.after a⟩
 |exc c env s=>obtain⟨i,f,e,n⟩:=k;exact⟨i,f,e,n.after a⟩
 |rse c env s=>obtain⟨i,f,e,n⟩:=k;exact⟨i,f,e,n.after a⟩
 |rt d s=>obtain⟨v,f,e,l,b,z,y,u⟩:=k;exact⟨v,f,e,oh a.len l,λn j hq=>(b n j hq).trans (a.base n j hq),z,y,u⟩
 |bad=>trivial
def SOk.fr(hf:f'=I->f=I)(k:SOk q L h B O ws f o r):SOk q L h B O ws f' o r:=by
 cases r with
 |rt d s=>obtain⟨v,a,e,l,b,p,r,z⟩:=k;exact⟨v,a,e,l,b,p,r,λy=>z (hf y)⟩
 |nx env s=>exact k
 |bk env s=>exact k
 |ct env s=>exact k
 |exc c env s=>exact k
 |rse c env s=>exact k
 |bad=>trivial
def KB.stp(c:Cx q h L B O ws Z env s)(k:KB q h h'):Stp q L h O h' O :=
 ⟨k.len,k.mv c.pO,λ_ h=>h,λn a hq=>k.keep n (t_ a c.hL) hq⟩
def PR.go{α:Type}(r:PR α)(env:aC)(k:α->aC->e_->PS):PS:=match r with
 |.ok a s=>k a env s
 |.exc c s=>.exc c env s
 |.bad=>.bad
@[simp]theorem Pg(a:α)(s:e_)(env:aC)(k:α->aC->e_->PS):(PR.ok a s).go env k=k a env s:=rfl
@[simp]theorem PR.go_exc(c:Str)(s:e_)(env:aC)(k:α->aC->e_->PS):(PR.exc c s:PR α).go env k=.exc c env s:=rfl
@[simp]theorem PR.go_bad(env:aC)(k:α->aC->e_->PS):(PR.bad:PR α).go env k=.bad:=rfl
theorem SOk.ex{α β:Type}{q L:Nat}{h:MH}{B O l:WQ}{fr:Bool}{Z:pq}{env:aC}{s:e_}{o:Out β}{r:PR α}{R:MH->α->β->Prop}{f:β->n_}{g:α->aC->e_->PS}(c:Cx q h L B O l Z env s)(d:Dis l Z env)(k:Ok q h o r R)(n:∀a b i j,KB q h i->Cx q i L B O l Z env j->R i a b->SOk q L i B O l fr (f b Z i) (g a env j)):
  SOk q L h B O l fr (o.go Z f) (r.go env g):=by
 cases r with
 |ok a j =>
  obtain⟨b,i,rfl,kb,pn,u⟩:=k;exact(n a b i j kb (c.kb kb pn) u).after (kb.stp c)
 |exc x j =>
  obtain⟨i,rfl,kb,pn⟩:=k;exact⟨Z,i,rfl,O,kb.stp c,c.kb kb pn,d⟩
 |bad=>trivial
noncomputable section
variable{ws:WQ}
def PS.then(r:PS)(k:aC->e_->PS):PS:=match r with
 |.nx env s=>k env s
 |r=>r
@[simp]theorem aw:(PS.nx env s).then k=k env s:=rfl
@[simp]theorem xM:(PS.rt d s).then k=.rt d s:=rfl
@[simp]theorem then_bk:(PS.bk env s).then k=.bk env s:=rfl
@[simp]theorem then_ct:(PS.ct env s).then k=.ct env s:=rfl
@[simp]theorem DG:(PS.exc c env s).then k=.exc c env s:=rfl
@[simp]theorem CN:(PS.rse c env s).then k=.rse c env s:=rfl
@[simp]theorem Ca:PS.bad.then k=.bad:=rfl
def aG(a b:Xd ws):Xd ws where
 m:=cD a.m b.m
 p:=λenv s=>(a.p env s).then b.p
 fr:=a.fr&&b.fr
 ok {q h L B O Z env s} c d:=by
  have k:=a.ok c d;show SOk q L h B O ws _ ((a.m Z h).then b.m) _
  cases e:a.p env s with
  |nx i u =>
   rw[e]at k;obtain⟨Q,P,e1,M,st,E,z⟩:=k;rw[e1];exact((b.ok E z).fr (by simp)).after st
  |rt x u=>rw[e]at k;obtain⟨v,j,e1,H,F,C,G,y⟩:=k;rw[e1];exact SOk.fr (f:=a.fr) (by simp;exact λh _=>h) (show SOk q L h B O ws a.fr (.rt v j) (.rt x u) from⟨v,j,rfl,H,F,C,G,y⟩)
  |bk i u=>rw[e]at k;obtain⟨l,j,e1,r⟩:=k;rw[e1];exact⟨l,j,rfl,r⟩
  |ct i u=>rw[e]at k;obtain⟨l,j,e1,r⟩:=k;rw[e1];exact⟨l,j,rfl,r⟩
  |exc x i u=>rw[e]at k;obtain⟨l,j,e1,r⟩:=k;rw[e1];exact⟨l,j,rfl,r⟩
  |rse x i u=>rw[e]at k;obtain⟨l,j,e1,r⟩:=k;rw[e1];exact⟨l,j,rfl,r⟩
  |bad=>trivial
def i_:Xd ws where
 m:=q7
 p:=.nx
 fr:=I
 ok {q h L B O Z env s} c d:=⟨Z,h,rfl,O,Stp.refl _ _ _ _,c,d⟩
def K8{m:Mx PV}{Z:pq}{h:MH}:dy m Z h=(m Z h).go Z λv _ a=>.rt v a:=by unfold dy;cases m Z h<;>rfl
def aU(e:Xe ws):Xd ws where
 m:=dy e.m
 p:=λenv s=>(e.p env s).go env λd _ s=>.rt d s
 fr:=e.fr
 ok {q h L B O Z env s} c d:=by
  rw[K8];refine SOk.ex (f:=λv _ F=>.rt v F) (g:=λd _ s=>.rt d s) c d (e.ok c) λx v H M kb a i=>?_;obtain⟨w,z,f⟩:=i;refine⟨v,H,rfl,l_ _,λ_ _ _=>rfl,a.pen,w.base a.sub a.bb,λy=>?_⟩;intro k G l;obtain⟨n,xs,C,P,u,j⟩:=f y k G l
  have:=c.hL
  exact⟨n,xs,C,⋯,u,j.mv ⟨λ_ _ _=>rfl,λo E=>.inl (by
   rcases nw.mp E with z|z
   .subst z;simp
   .exact ml _ (c.sub o z))⟩⟩
def mQ(i:Nat)(C:ws.contains i=I:=by exact ys rfl):Xd ws where
 m:=dy (ao i)
 p:=λenv s=>match env[i]? with
  |some (J d)=>.rt d s
  |_=>.bad
 fr:=I
 ok {q h L B O Z env s} c d:=by
  show SOk q L h B O ws _ _ (match env[i]? with|some (J d)=>PS.rt d s|_=>.bad)
  cases e:env[i]? with
  |none=>trivial
  |some o =>
   cases o with
   |none=>trivial
   |some x =>
    obtain⟨n,l,xs,y,e1,e2,a,b,g,r⟩:=c.sr.ow i x e (by simpa using C);subst e1
    have F:Mv O h (n::B) h:=⟨λ_ _ _=>rfl,λo E=>.inl (by
     rcases nw.mp E with z|z
     .subst z;exact a
     .exact c.sub o z)⟩
    have f:Frs q L B h (dl l y) (.loc n):=λu j e=>by
     have:u=l/\j=y:=by cases l<;>cases u<;>cases e<;>exact⟨rfl,rfl⟩
     obtain⟨rfl,rfl⟩:=this;exact⟨n,xs,rfl,b,g,r.mv F⟩
    refine⟨.loc n,h,by simp[dy,ao,e2],l_ _,λ_ _ _=>rfl,c.pen,f.rp c.bb rfl,λ_=>f⟩
def ut(e:Xe ws):Xd ws where
 m:=j3 e.m
 p:=λenv s=>(e.p env s).go env λ_=>.nx
 fr:=I
 ok {q h L B O Z env s} c d:=SOk.ex (f:=λ_=>q7) (g:=λ_=>.nx) c d (e.ok c) λx v i j kb a _=>⟨Z,i,rfl,O,Stp.refl _ _ _ _,a,d⟩
def sw(t:Xt ws)(a b:Xd ws):Xd ws where
 m:=E1 t.m a.m b.m
 p:=λenv s=>(t.p env s).go env λx env s=>if x=I then a.p env s else b.p env s
 fr:=a.fr&&b.fr
 ok {q h L B O Z env s} c d:=SOk.ex (f:=λx=>if x=I then a.m else b.m) (g:=λx env s=>if x=I then a.p env s else b.p env s) c d (t.ok c) λx v l j kb i e=>by
  subst e
  cases x with
  |true=>exact(a.ok i d).fr (by simp;exact λh _=>h)
  |false=>exact(b.ok i d).fr (by simp)
def Dis.keep(d:Dis ws Z env)(k:∀i∈ws,Z'[i]?=Z[i]?/\env'[i]?=env[i]?):Dis ws Z' env':=λi j l f ne x y n a b e=>by
 rw[(k i l).1]at e;rw[(k i l).2]at a;rw[(k j f).2]at b;rw[(k j f).1];exact d i j l f ne x y n a b e
def aP(i:Nat)(e:Xe ws)(u:ws.contains i=T:=by exact ys rfl)(y:e.fz=I:=by exact ys rfl):Xd ws where
 m:=b9 i e.m
 p:=λenv s=>(e.p env s).go env λd env s=>.nx (env.set i (J d)) s
 fr:=I
 ok {q h L B O Z env s} c d:=by refine SOk.ex (f:=λv Z h=>.nx (Z.set i (J v)) h) (g:=λd env s=>.nx (env.set i (J d)) s) c d (e.ok c) λx v C E kb j l=>?_;obtain⟨_,z,_⟩:=l;obtain⟨a,b⟩:=j.sr.set (i:=i) (λz=>by simp[z]at u) (z y);exact⟨_,C,rfl,O,Stp.refl _ _ _ _,⟨j.bd,j.sub,j.bb,j.pb,j.hL,j.pen,a⟩,d.keep b⟩
def D.mine:D->Bool
 |.lst _=>I
 |.dic fz _ _=>!fz
 |_=>T
def eO(i:Nat)(e:Xe ws)(hi:ws.contains i=I:=by exact ys rfl)(hz:e.fr=I:=by exact ys rfl):Xd ws where
 m:=b9 i e.m
 p:=λenv s=>(e.p env s).go env λd env s=>if d.mine=I then .nx (env.set i (J d)) s else .bad
 fr:=I
 ok {q h L B O Z env s} c d:=by
  show SOk q L h B O ws _ _ _;have k:=e.ok c;show SOk q L h B O ws _ ((e.m Z h).go Z λv Z h=>.nx (Z.set i (J v)) h) _
  cases X:e.p env s with
  |bad=>trivial
  |exc x s1 =>
   rw[X]at k;obtain⟨P,e1,kb,pn⟩:=k;rw[e1];exact⟨Z,P,rfl,O,kb.stp c,c.kb kb pn,d⟩
  |ok x s1 =>
   rw[X]at k;obtain⟨v,P,e1,kb,pn,_,_,f⟩:=k;rw[e1];by_cases u:x.mine=I
   .obtain⟨H,C,rfl⟩:∃H C,x=dl H C:=by
     cases x with
     |lst C=>exact⟨Y,C,rfl⟩
     |dic fz ks C =>
      cases fz with
      |false=>exact⟨J ks,C,rfl⟩
      |true=>cases u
     |_=>cases u
    obtain⟨n,xs,rfl,hn,g,r⟩:=f hz H C rfl;show SOk q L h B O ws _ _ (if(dl H C).mine=I then _ else _);rw[c_ u];have c1:=c.kb kb pn;have S:i∈ws:=by simpa using hi
    have mv:Mv O h (n::O) P:=⟨λm u no=>kb.keep m u λz=>no (z▸c.pO),λo E=>by
     rcases nw.mp E with z|z
     .exact .inr ⋯
     .exact .inl z⟩
    have R:n∉O:=λz=>by have:=c.bd n z;lia
    refine⟨Z.set i (J (.loc n)),P,rfl,n::O,⟨kb.len,mv,λo E=>ml _ E,λm u hq=>kb.keep m (t_ u c.hL) hq⟩,⟨λo E=>?_,λo E=>ml _ (c.sub o E),c.bb,c.pb,c1.hL,pn,?_⟩,?_⟩
    .rcases nw.mp E with z|z
     .subst z;exact aK g
     .exact c1.bd o z
    .have sr:=c.sr.mv mv (λo E=>ml _ E) λm u F _=>kb.keep m u (by have:=c.pL;lia);refine⟨by simp[sr.len],λj x l G=>?_,λj x l G=>?_⟩
     .have ne:i≠j:=λz=>G (z▸S);rw[qa ne]at l;rw[qa ne];exact sr.fz j x l G
     .by_cases z:i=j
      .subst z;have F:i<env.length:=by have:=(pf.mp l).1;simpa using this
       rw[C_ F]at l;cases l;exact⟨n,H,xs,C,rfl,C_ (by rw[sr.len];exact F),by simp,by have:=c.hL;lia,g,r⟩
      .rw[qa z]at l;rw[qa z];exact sr.ow j x l G
    .have old:∀j d,j∈ws->i≠j->(env.set i (J (dl H C)))[j]?=J (J d)->(Z.set i (J (.loc n)))[j]?≠J (J (.loc n)):=λj d G ne l z=>by
      rw[qa ne]at l z;obtain⟨n',_,_,_,_,b2,b3,_⟩:=c.sr.ow j d l G;rw[z]at b2;cases b2;exact R b3
     intro a b W hb ne x y m U Q M;by_cases z1:i=a
     .subst z1;have F:i<Z.length:=by have:=(pf.mp M).1;simpa using this
      rw[C_ F]at M;cases M;exact old b y hb ne Q
     .by_cases z2:i=b
      .subst z2;intro z;have F:i<Z.length:=by have:=(pf.mp z).1;simpa using this
       rw[C_ F]at z;cases z;exact old a x W z1 U M
      .rw[qa z1]at U M;rw[qa z2]at Q ⊢;exact d a b W hb ne x y m U Q M
   .show SOk q L h B O ws _ _ (if x.mine=I then _ else _);rw[g_ u];trivial
end
end PU
namespace PU
open MM
open L2 (vR)
noncomputable section
variable{ws:WQ}
def PS.turn(r:PS)(k:aC->e_->PS):PS:=match r with
 |.nx e s=>k e s
 |.ct e s=>k e s
 |.bk e s=>.nx e s
 |r=>r
@[simp]theorem turn_nx:(PS.nx e s).turn k=k e s:=rfl
@[simp]theorem turn_ct:(PS.ct e s).turn k=k e s:=rfl
@[simp]theorem turn_bk:(PS.bk e s).turn k=.nx e s:=rfl
@[simp]theorem turn_rt:(PS.rt d s).turn k=.rt d s:=rfl
@[simp]theorem Ch:(PS.exc c e s).turn k=.exc c e s:=rfl
@[simp]theorem Ct:(PS.rse c e s).turn k=.rse c e s:=rfl
@[simp]theorem OC:PS.bad.turn k=.bad:=rfl
def Ei(g:D->aC->Option aC)(b:aC->e_->PS):WR->aC->e_->PS
 |[],env,s=>.nx env s
 |d::f,env,s=>match g d env with
  |none=>.bad
  |some a=>(b a s).turn (Ei g b f)
def K9(g:Xg ws)(b:Xd ws):∀(G:WR)(xs:WL)(env:aC)(Z:pq)(h:MH)(O:WQ)(s:e_),Cx q h L B O ws Z env s->Dis ws Z env->Rps q h O G xs->(∀y∈it.gd,h[y.1]?=J (.lst y.2)/\y.1∉O) ->
  SOk q L h B O ws b.fr (xL it g.m b.m xs Z h) (Ei g.p b.p G env s):=by
 intro G
 induction G with
 |nil =>
  intro xs env Z h O s c d r gd
  have:xs=[]:=r
  subst this;have ok:it.ok h:=λy u=>(gd y u).1;refine⟨Z,h,by rw[xL];dsimp only;rw[c_ ok],O,Stp.refl _ _ _ _,c,d⟩
 |cons x G R =>
  intro xs env Z h O s c d r gd;obtain⟨v,E,rfl,P,H⟩:=r;have ok:it.ok h:=λy u=>(gd y u).1;rw[Ei]
  cases eg:g.p x env with
  |none=>trivial
  |some j =>
   obtain⟨S,f1,sr,k⟩:=g.ok c.sr P eg;have X:Cx q h L B O ws S j s:=⟨c.bd,c.sub,c.bb,c.pb,c.hL,c.pen,sr⟩;have kb:=b.ok X (d.keep k)
   have em:xL it g.m b.m (v::E) Z h=(match b.m S h with
    |.nx i f=>xL it g.m b.m E i f
    |.ct i f=>xL it g.m b.m E i f
    |.bk i f=>.nx i f
    |.rt v f=>.rt v f
    |.exc e i f=>.exc e i f
    |.rse e i f=>.rse e i f
    |.bad=>.bad):=by rw[xL];dsimp only;(rw[c_ ok,f1])<;>rfl
   rw[em];have F:∀{f:MH}{C:WQ},Stp q L h O f C->∀y∈it.gd,f[y.1]?=J (.lst y.2)/\y.1∉C:=λst y u=>by
    obtain⟨a,b⟩:=st.mv.get (gd y u).1 (gd y u).2;exact⟨b,a⟩
   dsimp only
   cases z:b.p j s with
   |bad=>trivial
   |nx e2 l =>
    rw[z]at kb;obtain⟨i,f,e1,C,st,M,Q⟩:=kb;rw[e1];exact(R E e2 i f C l M Q (H.mv st.mv) (F st)).after st
   |ct e2 l =>
    rw[z]at kb;obtain⟨i,f,e1,C,st,M,Q⟩:=kb;rw[e1];exact(R E e2 i f C l M Q (H.mv st.mv) (F st)).after st
   |bk e2 l=>rw[z]at kb;obtain⟨i,f,e1,r⟩:=kb;rw[e1];exact⟨i,f,rfl,r⟩
   |exc x e2 l=>rw[z]at kb;obtain⟨i,f,e1,r⟩:=kb;rw[e1];exact⟨i,f,rfl,r⟩
   |rse x e2 l=>rw[z]at kb;obtain⟨i,f,e1,r⟩:=kb;rw[e1];exact⟨i,f,rfl,r⟩
   |rt x l=>rw[z]at kb;obtain⟨v,f,e1,P,H,W,r4,U⟩:=kb;rw[e1];exact⟨v,f,rfl,P,H,W,r4,U⟩
def cE(i:Xi ws)(g:Xg ws)(b:Xd ws)(u:i.fz=I:=by exact ys rfl):Xd ws where
 m:=i4 i.m g.m b.m
 p:=λenv s=>(i.p env s).go env λa env s=>Ei g.p b.p a env s
 fr:=b.fr
 ok {q h L B O Z env s} c d:=SOk.ex (f:=λj=>xL j g.m b.m j.xs) (g:=λa env s=>Ei g.p b.p a env s) c d (i.ok c) λa j E C kb z r =>
  K9 g b a j.xs env Z E O C z d r.1 λy l=>⟨(r.2.1 y l).1,r.2.2 u y l⟩
def c9(t:aC->e_->PR Bool)(b:aC->e_->PS):Nat->aC->e_->PS
 |0,_,_=>.bad
 |n+1,env,s=>(t env s).go env λx env s=>if x=I then(b env s).turn (c9 t b n)else .nx env s
def rW(t:Xt ws)(b:Xd ws):∀(n:Nat)(env:aC)(Z:pq)(h:MH)(O:WQ)(s:e_),Cx q h L B O ws Z env s->Dis ws Z env->SOk q L h B O ws b.fr (cO t.m b.m n Z h) (c9 t.p b.p n env s)
 |0,env,Z,h,O,s,c,d=>trivial
 |n+1,env,Z,h,O,s,c,d=>by
  refine SOk.ex c d (t.ok c) λx v P C kb z e=>?_;subst e
  cases x with
  |false=>exact⟨Z,P,rfl,O,Stp.refl _ _ _ _,z,d⟩
  |true =>
   have k:=b.ok z d;rw[c_ rfl]
   cases j:b.p env C with
   |bad=>trivial
   |nx e2 i =>
    rw[j]at k;obtain⟨f,a,e1,u,st,l,y⟩:=k;rw[e1];exact(rW t b n e2 f a u i l y).after st
   |ct e2 i =>
    rw[j]at k;obtain⟨f,a,e1,u,st,l,y⟩:=k;rw[e1];exact(rW t b n e2 f a u i l y).after st
   |bk e2 i=>rw[j]at k;obtain⟨f,a,e1,r⟩:=k;rw[e1];exact⟨f,a,rfl,r⟩
   |exc x e2 i=>rw[j]at k;obtain⟨f,a,e1,r⟩:=k;rw[e1];exact⟨f,a,rfl,r⟩
   |rse x e2 i=>rw[j]at k;obtain⟨f,a,e1,r⟩:=k;rw[e1];exact⟨f,a,rfl,r⟩
   |rt x i=>rw[j]at k;obtain⟨v,a,e1,M,G,F,H,E⟩:=k;rw[e1];exact⟨v,a,rfl,M,G,F,H,E⟩
def K_(N:Nat)(t:Xt ws)(b:Xd ws)(f:∀{Z h n},cO t.m b.m n Z h≠.bad->Kx t.m b.m Z h=cO t.m b.m n Z h):Xd ws where
 m:=Kx t.m b.m
 p:=c9 t.p b.p N
 fr:=b.fr
 ok {q h L B O Z env s} c d:=by
  have k:=rW t b N env Z h O s c d;by_cases z:cO t.m b.m N Z h=.bad
  .rw[z]at k
   cases e:c9 t.p b.p N env s with
   |bad=>trivial
   |nx e2 a=>rw[e]at k;obtain⟨_,_,e1,_⟩:=k;cases e1
   |ct e2 a=>rw[e]at k;obtain⟨_,_,e1,_⟩:=k;cases e1
   |bk e2 a=>rw[e]at k;obtain⟨_,_,e1,_⟩:=k;cases e1
   |exc x e2 a=>rw[e]at k;obtain⟨_,_,e1,_⟩:=k;cases e1
   |rse x e2 a=>rw[e]at k;obtain⟨_,_,e1,_⟩:=k;cases e1
   |rt x a=>rw[e]at k;obtain⟨_,_,e1,_⟩:=k;cases e1
  .rw[f z];exact k
structure IB where
 m:Nat->WL->MH->WZ
 p:WR->WR->Option (D×WR)
 ok:∀{q:Nat}{h:MH}{O:WQ}{n:Nat}{xs:WL}{ds as:WR}{vs:WL}{d:D}{ds':WR},h[n]?=J (.lst xs)->Rps q h O ds xs->Rps q h O as vs->p ds as=J (d,ds')->∃v xs',m n vs h=.ok v (h.set n (.lst xs'))/\Rps q h O ds' xs'/\Rp q h O d v
def vO{q h L B O Z env s n xs' ds' i d0 kd}(c:Cx q h L B O ws Z env s)(d:Dis ws Z env)(u:i∈ws)(e:env[i]?=J (J d0))(M:Z[i]?=J (J (.loc n)))(r:Rps q h O ds' xs'):
  Nxt q L h B O ws Z (h.set n (mo kd xs')) (env.set i (J (dl kd ds'))) s:=by
 obtain⟨n',k0,xs,U,e0,e2,a,b,g,r0⟩:=c.sr.ow i _ e u;rw[M]at e2;cases e2;have mv:Mv O h O (h.set n (mo kd xs')):=⟨λm S no=>qa (λ(z:n=m)=>no (z▸a)),λo H=>.inl H⟩;have hp:=c.pL;have W:=(pf.mp e).1;refine⟨O,⟨by simp,mv,λ_ h=>h,λm S _=>qa ⋯⟩,⟨λo H=>by simpa using c.bd o H,c.sub,c.bb,c.pb,by simpa using c.hL,?_,⟨by simp[c.sr.len],λj x f l=>?_,λj x f l=>?_⟩⟩,?_⟩
 .unfold bx;rw[qa ⋯];exact c.pen
 .have ne:i≠j:=λz=>l (z▸u);rw[qa ne]at f;obtain⟨v,e1,w⟩:=c.sr.fz j x f l;exact⟨v,e1,w.mv mv⟩
 .by_cases z:i=j
  .subst z;rw[C_ W]at f;cases f;exact⟨n,kd,xs',ds',rfl,M,a,b,C_ (aK g),r.mv mv⟩
  .rw[qa z]at f;obtain⟨m,k1,ys,G,e1,e3,P,Q,b5,R⟩:=c.sr.ow j x f l
   have:n≠m:=λy=>d i j u l z _ _ n e f M (y▸e3)
   exact⟨m,k1,ys,G,e1,e3,P,Q,by rw[qa this];exact b5,R.mv mv⟩
 .intro j k l hk ne x y m f X e1;have up:∀j x,(env.set i (J (dl kd ds')))[j]?=J (J x)->∃C,env[j]?=J (J C):=λj x f=>by
   by_cases z:i=j
   .subst z;exact⟨_,e⟩
   .rw[qa z]at f;exact⟨x,f⟩
  obtain⟨C,E⟩:=up j x f;obtain⟨y',F⟩:=up k y X;exact d j k l hk ne C y' m E F e1
def yv{q h L B O Z env s n xs' ds' i ds}(c:Cx q h L B O ws Z env s)(d:Dis ws Z env)(a:i∈ws)(e:env[i]?=J (J (D.lst ds)))(f:Z[i]?=J (J (.loc n)))(r:Rps q h O ds' xs'):
  Nxt q L h B O ws Z (h.set n (.lst xs')) (env.set i (J (.lst ds'))) s:=vO (kd:=Y) c d a e f r
def OD(o:IB)(i:Nat)(a:Xs ws)(E:i∈ws)(P:a.fz=I){q h L B O Z env s}(c:Cx q h L B O ws Z env s)(d:Dis ws Z env)(Q:a.p env s=.ok as s1)(y:env[i]?=J (J (.lst ds)))(R:o.p ds as=J (r,ds')):∃v j n f,KB q h j/\Cx q j L B O ws Z env s1/\Z[i]?=J (J (.loc n))/\Iu o.m (ao i) a.m Z h=.ok v (j.set n (.lst f))/\Rps q j O ds' f/\Rp q j O r v:=by
 obtain⟨n,W,xs,z,e0,e2,X,S,g,H⟩:=c.sr.ow i _ y E;obtain⟨rfl,rfl⟩:=gS e0;replace g:h[n]?=J (.lst xs):=g;have l:=a.ok c;rw[Q]at l;obtain⟨U,j,e3,kb,pn,_,G⟩:=l;have C:=c.kb kb pn;have u:=(kb.keep n (aK g) (by have:=c.pL;lia)).trans g;obtain⟨v,f,e4,M,F⟩:=o.ok u (H.mv (kb.mv c.pO)) (G P) R;refine⟨v,j,n,f,kb,C,e2,?_,M,F⟩;have em:ao i Z h=.ok (.loc n) h:=by simp[ao,e2]
 simp_all
def E2(o:IB)(i:Nat)(a:aC->e_->PR (WR))(env:aC)(s:e_)(k:D->aC->e_->PS):PS:=match a env s with
 |.ok u j=>(match env[i]? with
  |some (J (.lst l))=>(match o.p l u with
   |some (r,f)=>k r (env.set i (J (.lst f))) j
   |none=>.bad)
  |_=>.bad)
 |_=>.bad
def BL(e1:a env s=.ok as s1)(e2:env[i]?=J (J (.lst ds)))(e3:o.p ds as=J (r,ds')):E2 o i a env s k=k r (env.set i (J (.lst ds'))) s1:=by simp only[E2,e1,e2,e3]
def GF:E2 o i a env s k=.bad\/∃l u j r f,a env s=.ok l u/\env[i]?=J (J (.lst j))/\o.p j l=J (r,f)/\E2 o i a env s k=k r (env.set i (J (.lst f))) u:=by
 cases e1:a env s with
 |bad=>left;simp only[E2,e1]
 |exc _ _=>left;simp only[E2,e1]
 |ok l u =>
  cases e2:env[i]? with
  |none=>left;simp only[E2,e1,e2]
  |some x =>
   cases x with
   |none=>left;simp only[E2,e1,e2]
   |some d =>
    cases d with
    |lst j =>
     cases e3:o.p j l with
     |none=>left;simp only[E2,e1,e2,e3]
     |some y=>exact .inr ⟨l,u,j,y.1,y.2,rfl,rfl,e3,BL e1 e2 e3⟩
    |_=>left;simp only[E2,e1,e2]
def E3(o:IB)(i:Nat)(a:Xs ws)(u:ws.contains i=I:=by exact ys rfl)(E:a.fz=I:=by exact ys rfl):Xd ws where
 m:=j3 (Iu o.m (ao i) a.m)
 p:=λenv s=>E2 o i a.p env s λ_=>.nx
 fr:=I
 ok {q h L B O Z env s} c d:=by
  rcases GF (o:=o) (i:=i) (a:=a.p) (env:=env) (s:=s) (k:=λ_=>.nx)with z|⟨M,H,Q,r,y,e1,e2,e3,z⟩
  .rw[z];trivial
  .rw[z];have f:i∈ws:=by simpa using u
   obtain⟨v,G,n,j,kb,l,F,em,C,P⟩:=OD o i a f E c d e1 e2 e3;refine⟨Z,G.set n (.lst j),?_,(yv l d f e2 F C).after (kb.stp c)⟩;unfold j3 zv;rw[em];rfl
def fV(i:Nat)(e l:aC->e_->PR D)(env:aC)(s:e_):PS:=match e env s with
 |.ok v f=>(match l env f with
  |.ok (.int j) u=>(match env[i]? with
   |some (J (.lst a))=>(match vR a.length j with
    |some n=>.nx (env.set i (J (.lst (a.set n v)))) u
    |none=>.bad)
   |_=>.bad)
  |_=>.bad)
 |_=>.bad
def kP(e1:e env s=.ok v s1)(e2:ix env s1=.ok (.int j) s2)(e3:env[i]?=J (J (.lst ds)))(e4:vR ds.length j=J n):fV i e ix env s=.nx (env.set i (J (.lst (ds.set n v)))) s2:=by simp only[fV,e1,e2,e3,e4]
def Da:fV i e ix env s=.bad\/∃v f j l a n,e env s=.ok v f/\ix env f=.ok (.int j) l/\env[i]?=J (J (.lst a))/\vR a.length j=J n/\fV i e ix env s=.nx (env.set i (J (.lst (a.set n v)))) l:=by
 cases e1:e env s with
 |bad=>left;simp only[fV,e1]
 |exc _ _=>left;simp only[fV,e1]
 |ok v f =>
  cases e2:ix env f with
  |bad=>left;simp only[fV,e1,e2]
  |exc _ _=>left;simp only[fV,e1,e2]
  |ok k l =>
   cases k with
   |int j =>
    cases e3:env[i]? with
    |none=>left;simp only[fV,e1,e2,e3]
    |some x =>
     cases x with
     |none=>left;simp only[fV,e1,e2,e3]
     |some d =>
      cases d with
      |lst a =>
       cases e4:vR a.length j with
       |none=>left;simp only[fV,e1,e2,e3,e4]
       |some n=>exact .inr ⟨v,f,j,l,a,n,rfl,e2,rfl,e4,kP e1 e2 e3 e4⟩
      |_=>left;simp only[fV,e1,e2,e3]
   |_=>left;simp only[fV,e1,e2]
def Vw.int(w:Vw q h L O (.int b) v):v=.int b:=by
 rcases w with r|⟨n,a,xs,f,e,_⟩
 .exact r
 .cases a<;>cases e
def pQ(i:Nat)(e l:Xe ws)(hi:ws.contains i=I:=by exact ys rfl)(hz:e.fz=I:=by exact ys rfl):Xd ws where
 m:=nI e.m (FE (ao i) l.m)
 p:=fV i e.p l.p
 fr:=I
 ok {q h L B O Z env s} c d:=by
  rcases Da (i:=i) (e:=e.p) (ix:=l.p) (env:=env) (s:=s)with z|⟨v,s1,j,s2,ds,n,e1,e2,e3,e4,z⟩
  .rw[z];trivial
  .rw[z];have C:i∈ws:=by simpa using hi
   have M:=e.ok c;rw[e1]at M;obtain⟨x,H,f1,u,F,_,rx,_⟩:=M;have Q:=c.kb u F;have R:=l.ok Q;rw[e2]at R;obtain⟨y,E,X,a,G,w,_,_⟩:=R;have P:=Q.kb a G;obtain⟨f,kd,xs,ac,e0,U,b1,b2,g,S⟩:=P.sr.ow i _ e3 C;obtain⟨rfl,rfl⟩:=gS e0;replace g:E[f]?=J (.lst xs):=g;have W:=w.int;subst W;have em:ao i Z H=.ok (.loc f) H:=by simp[ao,U]
   have nx:=yv P d C e3 U (xs':=xs.set n x) (ds':=ds.set n v) (S.set n ((rx hz).mv (a.mv c.pO)));refine⟨Z,E.set f (.lst (xs.set n x)),?_,nx.after ((u.trans a).stp c)⟩;have e5:pN (.loc f) (.int j) x E=J (E.set f (.lst (xs.set n x))):=by simp only[pN,g];rw[S.length,e4];rfl
   have e6:FE (ao i) l.m x Z H=.nx Z (E.set f (.lst (xs.set n x))):=by simp only[FE,zv,em,X,e5]
   unfold nI zv;rw[f1];dsimp only;rw[e6]
def PS.fin(r:PS):PR D:=match r with
 |.nx _ s=>.ok .non s
 |.rt d s=>.ok d s
 |.exc c _ s=>.exc c s
 |.rse c _ s=>.exc c s
 |_=>.bad
@[simp]theorem AT:(PS.nx e s).fin=.ok .non s:=rfl
@[simp]theorem bH:(PS.rt d s).fin=.ok d s:=rfl
@[simp]theorem fin_exc:(PS.exc c e s).fin=.exc c s:=rfl
@[simp]theorem fin_rse:(PS.rse c e s).fin=.exc c s:=rfl
@[simp]theorem Ry:PS.bad.fin=.bad:=rfl
def lw(n:Nat)(a:WR):aC:=a.map J++List.replicate (n-a.length) Y
def bA(n B:Nat)(b:Xd ws)(R:ws.all (λi=>decide (B<=i))=I:=by exact ys rfl):Fn where
 m:=cX n B b.m
 p:=λu s=>if u.length=B then(b.p (lw n u) s).fin else .bad
 fr:=b.fr
 ok {q h O vs u s} bd hq pn r:=by
  by_cases L:u.length=B
  .rw[c_ L];have hv:vs.length=B:=by rw[r.length];exact L
   have G:∀i d,(lw n u)[i]?=J (J d)->i<B/\u[i]?=J d:=λi d e=>by
    by_cases z:i<u.length
    .refine⟨⋯,?_⟩;unfold lw at e;rw[qr (by simpa using z)]at e;simp at e;simpa using e
    .unfold lw at e;rw[Ek (by simpa using z)]at e;by_cases y:i-(u.map J).length<n-u.length
     .simp[Jn,y]at e
     .simp at y e;exact absurd e (by simp[Jn])
   have P:∀i d,(lw n u)[i]?=J (J d)->i∉ws:=λi d e F=>by
    have:=(G i d e).1
    rw[List.all_eq_true]at R
    have:=R i F
    simp at this;lia
   have c:Cx q h h.length O O ws (bG n vs) (lw n u) s:=by refine⟨bd,λ_ h=>h,bd,hq,l_ _,pn,⟨by simp[bG,lw,r.length],λi d e _=>?_,λi d e F=>absurd F (P i d e)⟩⟩;obtain⟨v,Q,W⟩:=r.get (G i d e).2;refine⟨v,?_,W⟩;unfold bG;rw[qr (by simpa using(pf.mp Q).1)];simp[Q]
   have k:=b.ok c λi j F _ _ d _ _ e=>absurd F (P i d e)
   have em:cX n B b.m vs h=(match b.m (bG n vs) h with
    |.nx _ a=>.ok .non a
    |.rt v a=>.ok v a
    |.exc x _ a=>.exc x a
    |.rse x _ a=>.exc x a
    |_=>.bad):=by unfold cX;(rw[c_ hv])<;>(cases b.m (bG n vs) h<;>rfl)
   rw[em];have kb:∀{a H},Stp q h.length h O a H->KB q h a:=λst=>⟨st.len,λm S hq=>st.base m S hq⟩
   cases e:b.p (lw n u) s with
   |nx e1 C=>rw[e]at k;obtain⟨M,a,f,H,st,E,_⟩:=k;rw[f];exact⟨.non,a,rfl,kb st,E.pen,rfl,λ_ k u e=>by cases k<;>cases e⟩
   |exc x e1 C=>rw[e]at k;obtain⟨M,a,f,H,st,E,_⟩:=k;rw[f];exact⟨a,rfl,kb st,E.pen⟩
   |rse x e1 C=>rw[e]at k;obtain⟨M,a,f,H,st,E,_⟩:=k;rw[f];exact⟨a,rfl,kb st,E.pen⟩
   |rt x C=>rw[e]at k;obtain⟨v,a,f,l,b,p,X,U⟩:=k;rw[f];exact⟨v,a,rfl,⟨l,b⟩,p,X,U⟩
   |bk e1 C=>trivial
   |ct e1 C=>trivial
   |bad=>trivial
  .rw[g_ L];trivial
def IC(m:WL->MH->WZ):Fn where
 m:=m
 p:=λ_ _=>.bad
 fr:=I
 ok _ _ _ _:=trivial
end
end PU
namespace PU
open MM SetT SortT
open L2 (vR o_ jq)
noncomputable section
section
variable{q:Nat}{h:MH}{L:Nat}{O:WQ}{v:PV}
def Vw.non(w:Vw q h L O .non v):v=.non:=by
 rcases w with r|⟨n,a,xs,f,e,_⟩
 .exact r
 .cases a<;>cases e
def Vw.str(w:Vw q h L O (.str x) v):v=.str x:=by
 rcases w with r|⟨n,a,xs,f,e,_⟩
 .exact r
 .cases a<;>cases e
inductive Vy(h:MH)(P:WL->Prop)(v:PV):Prop
 |mk(n:Nat)(xs:WL)(e:v=.loc n)(g:h[n]?=J (.lst xs))(r:P xs):Vy h P v
def Vw.lst(w:Vw q h L O (.lst ds) v):Vy h (Rps q h O ds) v:=by
 rcases w with⟨n,xs,e,_,g,r⟩|⟨n,f,xs,a,e,e1,_,_,g,r⟩
 .exact⟨n,xs,e,g,r⟩
 .obtain⟨rfl,rfl⟩:=gS e;exact⟨n,xs,e1,g,r⟩
def Vw.tup(w:Vw q h L O (.tup ds) v):Tf (Rps q h O ds) v:=by
 rcases w with r|⟨n,f,xs,a,e,_⟩
 .exact r
 .cases f<;>cases e
def La(r:Rp q h O d v)(hf:fr=I->∀k a,d≠dl k a):Gv q h O fr (.ok v h) d :=
 ⟨v,[],by simp,by simpa using r,λz k a e=>absurd e (hf z k a)⟩
def E4:Gv q h O fr (.ok (.int i) h) (.int i):=La rfl λ_ k _ e=>by cases k<;>cases e
def CK:Gv q h O fr (.ok (.bl i) h) (.bl i):=La rfl λ_ k _ e=>by cases k<;>cases e
def rK(w:K5 q h L O [d] vs):∃x,vs=[x]/\Vw q h L O d x:=by
 obtain⟨x,r,e,a,b⟩:=w
 have:r=[]:=b
 subst this;exact⟨x,e,a⟩
def Lb(w:K5 q h L O [d,d'] vs):∃x y,vs=[x,y]/\Vw q h L O d x/\Vw q h L O d' y:=by obtain⟨x,r,e,a,b⟩:=w;obtain⟨y,rfl,c⟩:=rK b;exact⟨x,y,e,a,c⟩
end
def GG(m:PV->PV->MH->WZ)(f:Int->Int->D)(g:Int->Int->PV)(l:∀i j h,m (.int i) (.int j) h=.ok (g i j) h)(hg:∀i j q h O fr,Gv q h O fr (.ok (g i j) h) (f i j)):zM where
 m:=m
 p:=λa b=>match a,b with
  |.int i,.int j=>J (f i j)
  |_,_=>Y
 fr:=I
 ok {q h L O a x b y d} bd wa wb e:=by
  cases a with
  |int i =>
   cases b with
   |int j=>cases e;rw[wa.int,wb.int,l];exact hg i j q h O I
   |_=>cases e
  |_=>cases e
def mD:zM:=GG Fj (λi j=>.int (i-j)) (λi j=>.int (i-j)) (λ_ _ _=>rfl) λ_ _ _ _ _ _=>E4
def GH:zM:=GG Fg (λi j=>.bl (decide (i<j))) (λi j=>.bl (decide (i<j))) (λ_ _ _=>rfl) λ_ _ _ _ _ _=>CK
def OE:zM:=GG Ky (λi j=>.bl (decide (i<=j))) (λi j=>.bl (decide (i<=j))) (λ_ _ _=>rfl) λ_ _ _ _ _ _=>CK
def OF:zM:=GG Fh (λi j=>.bl (decide (j<i))) (λi j=>.bl (decide (j<i))) (λ_ _ _=>rfl) λ_ _ _ _ _ _=>CK
def c8:zM where
 m:=ln
 p:=λa b=>match a,b with
  |.int i,.int j=>J (.int (i+j))
  |.lst x,.lst y=>if x.length+y.length<=100000 then J (.lst (x++y))else Y
  |.tup (a::x),.tup y=>if x.length+1+y.length<=100000 then J (.tup (a::x++y))else Y
  |_,_=>Y
 fr:=I
 ok {q h L O a x b y d} bd wa wb e:=by
  cases a with
  |int i =>
   cases b with
   |int j=>cases e;rw[wa.int,wb.int];exact E4
   |_=>cases e
  |lst x =>
   cases b with
   |lst y =>
    dsimp only at e;by_cases z:x.length+y.length<=100000
    .rw[c_ z]at e;cases e;obtain⟨n,xs,rfl,g,r⟩:=wa.lst;obtain⟨u,ys,rfl,l,f⟩:=wb.lst;show Gv q h O I (match h[n]?,h[u]? with|some (.lst xs),J (.lst ys)=>v_ (xs++ys) h|_,_=>.bad) _;rw[g,l];exact oK bd (r.app f) (by simpa using z)
    .rw[g_ z]at e;cases e
   |_=>cases e
  |tup x =>
   cases x with
   |nil=>cases b<;>cases e
   |cons a x =>
    cases b with
    |tup y =>
     dsimp only at e;by_cases z:x.length+1+y.length<=100000
     .rw[c_ z]at e;cases e;obtain⟨xs,rfl,r⟩:=wa.tup;obtain⟨ys,rfl,f⟩:=wb.tup;have ne:xs≠[]:=λz=>by have:=r.length;simp[z]at this
      show Gv q h O I (if xs≠[]then mm (xs++ys) h else .bad) _;rw[c_ ne];exact yd (r.app f) (by simp;lia)
     .rw[g_ z]at e;cases e
    |_=>cases e
  |_=>cases e
def Rps.rep(r:Rps q h O ds xs):∀n,Rps q h O (List.replicate n ds).flatten (List.replicate n xs).flatten
 |0=>rfl
 |n+1=>by
  exact r.app (Rps.rep r n)
def b8:zM where
 m:=mh
 p:=λa b=>match a,b with
  |.int i,.int j=>if IntMulOk i j then J (.int (i*j))else Y
  |.lst x,.int j=>if(0<=j/\j<=1000)/\((List.replicate j.toNat x).flatten).length<=100000 then J (.lst (List.replicate j.toNat x).flatten)else Y
  |_,_=>Y
 fr:=I
 ok {q h L O a x b y d} bd wa wb e:=by
  cases a with
  |int i =>
   cases b with
   |int j =>
    dsimp only at e;by_cases z:IntMulOk i j
    .rw[c_ z]at e;cases e;rw[wa.int,wb.int];show Gv q h O I (if IntMulOk i j then .ok (.int (i*j)) h else .bad) _;rw[c_ z];exact E4
    .rw[g_ z]at e;cases e
   |_=>cases e
  |lst x =>
   cases b with
   |int j =>
    dsimp only at e;by_cases z:(0<=j/\j<=1000)/\((List.replicate j.toNat x).flatten).length<=100000
    .rw[c_ z]at e;cases e;obtain⟨n,xs,rfl,g,r⟩:=wa.lst;rw[wb.int];show Gv q h O I (match h[n]? with|some (.lst xs)=>if -(2^63)<=j/\j<2^63 then v_ (List.flatten (List.replicate j.toNat xs)) h else .bad|_=>.bad) _;rw[g];dsimp only;rw[c_ ⋯];exact oK bd (r.rep _) z.2
    .rw[g_ z]at e;cases e
   |_=>cases e
  |_=>cases e
def Th(m:PV->PV->MH->WZ)(c:Int->Int->Prop)[inst:∀i j,Decidable (c i j)](f:Int->Int->Int)(l:∀{i j h},c i j->m (.int i) (.int j) h=.ok (.int (f i j)) h):zM where
 m:=m
 p:=λa b=>match a,b with
  |.int i,.int j=>if c i j then J (.int (f i j))else Y
  |_,_=>Y
 fr:=I
 ok {q h L O a x b y d} bd wa wb e:=by
  cases a with
  |int i =>
   cases b with
   |int j =>
    dsimp only at e;by_cases z:c i j
    .rw[c_ z]at e;cases e;rw[wa.int,wb.int,l z];exact E4
    .rw[g_ z]at e;cases e
   |_=>cases e
  |_=>cases e
def GJ:zM:=Th ED (λ_ j=>j≠0) (λi j=>i.fdiv j) λz=>c_ z
def iV:zM:=Th ol (λ_ j=>j≠0) (λi j=>i.fmod j) λz=>c_ z
def uF:zM:=Th u_ jq (λi j=>i^j.toNat) λz=>c_ z
def h_:zM where
 m:=bz
 p:=λa b=>match b with
  |.int j=>(match a with
   |.lst x=>o_ x j
   |.tup x=>o_ x j
   |_=>Y)
  |_=>Y
 fr:=T
 ok {q h L O a x b y d} bd wa wb e:=by
  have at':∀{f:WR}{xs:WL}{j:Int},Rps q h O f xs->o_ f j=J d->∃v,o_ xs j=J v/\Rp q h O d v:=λ{f xs j} r e=>by
   unfold o_ at e ⊢;rw[r.length]
   cases e1:vR f.length j with
   |none=>rw[e1]at e;cases e
   |some k=>rw[e1]at e;exact r.get e
  cases b with
  |int j =>
   rw[wb.int]
   cases a with
   |lst f =>
    obtain⟨n,xs,rfl,g,r⟩:=wa.lst;obtain⟨v,e1,i⟩:=at' r e;show Gv q h O T (match h[n]? with|some (.lst xs)=>(match o_ xs j with|some v=>.ok v h|none=>.bad)|_=>.bad) _;rw[g];dsimp only;rw[e1];exact La i λz=>by cases z
   |tup f =>
    obtain⟨xs,rfl,r⟩:=wa.tup;obtain⟨v,e1,i⟩:=at' r e;show Gv q h O T (match o_ xs j with|some v=>.ok v h|none=>.bad) _;rw[e1];exact La i λz=>by cases z
   |_=>cases e
  |_=>cases e
def Ea(neg:Bool):zM where
 m:=Kz neg
 p:=λa b=>match b with
  |.non=>(match a with
   |.non=>J (.bl (!neg))
   |_=>J (.bl neg))
  |.bl b=>(match a with
   |.bl c=>J (.bl (if neg then !(c==b)else c==b))
   |.non=>J (.bl neg)
   |.int _=>J (.bl neg)
   |.str _=>J (.bl neg)
   |.tup _=>J (.bl neg)
   |_=>Y)
  |_=>Y
 fr:=I
 ok {q h L O a x b y d} bd wa wb e:=by
  have loc:∀{a:D}{x:PV},Vw q h L O a x->(∃f,a=.lst f)\/(∃fz i f,a=.dic fz i f)\/(∃c,a=.exc c)\/a=.pen->∃n,x=.loc n:=λ{a x} w z=>by
   rcases w with r|⟨n,j,xs,f,e,e1,_⟩
   .rcases z with⟨f,rfl⟩|⟨_,_,_,rfl⟩|⟨c,rfl⟩|rfl
    .obtain⟨n,_,e,_⟩:=r;exact⟨n,e⟩
    .obtain⟨n,_,e,_⟩:=r;exact⟨n,e⟩
    .obtain⟨n,e,_⟩:=r;exact⟨n,e⟩
    .exact⟨q,r⟩
   .exact⟨n,e1⟩
  cases b with
  |non =>
   rw[wb.non]
   cases a with
   |non=>cases e;rw[wa.non];exact CK
   |bl c=>cases e;rw[wa.bl];exact CK
   |int c=>cases e;rw[wa.int];exact CK
   |str c=>cases e;rw[wa.str];exact CK
   |tup c=>cases e;obtain⟨xs,rfl,_⟩:=wa.tup;exact CK
   |lst c=>cases e;obtain⟨n,rfl⟩:=loc wa (.inl ⟨_,rfl⟩);exact CK
   |dic a b c=>cases e;obtain⟨n,rfl⟩:=loc wa (.inr (.inl ⟨_,_,_,rfl⟩));exact CK
   |exc c=>cases e;obtain⟨n,rfl⟩:=loc wa (.inr (.inr (.inl ⟨_,rfl⟩)));exact CK
   |pen=>cases e;obtain⟨n,rfl⟩:=loc wa (.inr (.inr (.inr rfl)));exact CK
  |bl b =>
   rw[wb.bl]
   cases a with
   |non=>cases e;rw[wa.non];exact CK
   |bl c=>cases e;rw[wa.bl];exact CK
   |int c=>cases e;rw[wa.int];exact CK
   |str c=>cases e;rw[wa.str];exact CK
   |tup c=>cases e;obtain⟨xs,rfl,_⟩:=wa.tup;exact CK
   |_=>cases e
  |_=>cases e
mutual
def py:D->Option PyData
 |.non=>J .none
 |.bl b=>J (.bool b)
 |.int i=>J (.int i)
 |.str x=>J (.str x)
 |.tup a=>(Eb a).map .tuple
 |.lst a=>(Eb a).map .list
 |_=>Y
def Eb:WR->Option (List PyData)
 |[]=>J []
 |d::a=>match py d,Eb a with
  |some x,J xs=>J (x::xs)
  |_,_=>Y
end
mutual
def y_:D->Nat
 |.tup a=>1+qp a
 |.lst a=>1+qp a
 |_=>0
def qp:WR->Nat
 |[]=>0
 |d::a=>max (y_ d) (qp a)
end
def yh(d:D):(∀(v:PV)(e:PyData)(n:Nat),Rp q h O d v->py d=J e->y_ d<=n->rd n h v=J e):=by
 refine D.rec
  (motive_2:=λf=>∀(l:WL)(i:List PyData)(n:Nat),Rps q h O f l->Eb f=J i->qp f<=n->du (rd n h) l=J i)
  (λv _ n r e _=>?_) (λb v _ n r e _=>?_) (λb v _ n r e _=>?_) (λb v _ n r e _=>?_) (λf u v e n r j hd=>?_) (λf u v e n r j hd=>?_) (λ_ _ _ _ _ _ _ _ e _=>?_) (λ_ _ _ _ _ e _=>?_) (λ_ _ _ _ e _=>?_)
  (λl i n r e _=>?_) (λd f E C l i n r e hd=>?_) d
 .rw[show v=PV.non from r];cases e;cases n<;>rfl
 .rw[show v=PV.bl b from r];cases e;cases n<;>rfl
 .rw[show v=PV.int b from r];cases e;cases n<;>rfl
 .rw[show v=PV.str b from r];cases e;cases n<;>rfl
 .obtain⟨xs,ex,r⟩:=r;subst ex;rw[py,Bi]at j;obtain⟨i,e1,rfl⟩:=j;rw[y_]at hd
  cases n with
  |zero=>lia
  |succ n=>simp only[rd];rw[u _ _ n r e1 ⋯];rfl
 .obtain⟨m,xs,ex,_,g,r⟩:=r;subst ex;rw[py,Bi]at j;obtain⟨i,e1,rfl⟩:=j;rw[y_]at hd
  cases n with
  |zero=>lia
  |succ n=>simp only[rd,g];rw[u _ _ n r e1 ⋯];rfl
 .simp[py]at e
 .simp[py]at e
 .simp[py]at e
 .rw[show l=[]from r];cases e;rfl
 .obtain⟨x,t,ex,a,b⟩:=r;subst ex;rw[qp]at hd;rw[Eb]at e
  cases e1:py d with
  |none=>rw[e1]at e;cases e
  |some y =>
   cases e2:Eb f with
   |none=>rw[e1,e2]at e;cases e
   |some ys =>
    rw[e1,e2]at e;cases e;have B:=E _ _ n a e1 ⋯;have z:=C _ _ n b e2 ⋯;simp only[du,B,z]
def OG(r:Rp q h O d v)(a:py d=J e)(hd:y_ d<=n):rd n h v=J e:=yh d v e n r a hd
def A0(r:Rps q h O ds vs)(a:Eb ds=J es)(hd:qp ds<=n):du (rd n h) vs=J es:=by
 have:=yh (.tup ds) (.tup vs) (.tuple es) (n+1) (⟨vs,rfl,r⟩) (by rw[py,a];rfl) (by rw[y_];lia)
 simp only[rd]at this
 simp_all
def qW(w:Vw q h L O d v)(a:py d=J e)(hd:y_ d<=60):rd 60 h v=J e:=by
 rcases w with r|⟨n,i,xs,l,rfl,rfl,_,_,g,r⟩
 .exact OG r a hd
 .cases i with
  |some _=>simp[dl,py]at a
  |none =>
   replace g:h[n]?=J (.lst xs):=g;unfold dl at a hd;rw[py,Bi]at a;obtain⟨j,e1,rfl⟩:=a;rw[y_]at hd;have f:=A0 (n:=59) r e1 ⋯;show(match h[n]? with|some (.lst xs)=>(du (rd 59 h) xs).map PyData.list|_=>Y)=_;rw[g];dsimp only;rw[f];rfl
def C0(neg:Bool)(a b:D):WG:=match py a,py b with
 |some x,J y=>if(y_ a<=60/\y_ b<=60)/\SeqAt.shaped x=I/\SeqAt.shaped y=I then J (.bl (if neg then !PyData.eqv x y else PyData.eqv x y))else Y
 |_,_=>Y
def x5(e:C0 neg a b=J d):∃x y,py a=J x/\py b=J y/\(y_ a<=60/\y_ b<=60)/\(SeqAt.shaped x=I/\SeqAt.shaped y=I)/\d=.bl (if neg then !PyData.eqv x y else PyData.eqv x y):=by
 unfold C0 at e
 cases e1:py a with
 |none=>rw[e1]at e;cases e
 |some x =>
  cases e2:py b with
  |none=>rw[e1,e2]at e;cases e
  |some y =>
   simp_all
def Dl:zM where
 m:=Ep
 p:=C0 T
 fr:=I
 ok {q h L O a x b y d} bd wa wb e:=by obtain⟨u,w,e1,e2,hd,f,rfl⟩:=x5 e;unfold Ep;rw[qW wa e1 hd.1,qW wb e2 hd.2];dsimp only;rw[c_ f];exact CK
def xg:zM where
 m:=EC
 p:=C0 I
 fr:=I
 ok {q h L O a x b y d} bd wa wb e:=by obtain⟨u,w,e1,e2,hd,f,rfl⟩:=x5 e;unfold EC;rw[qW wa e1 hd.1,qW wb e2 hd.2];dsimp only;rw[c_ f];exact CK
def Vw.seqOf(w:Vw q h L O d v)(e:d.items=J ds):∃xs,MM.bW h v=J xs/\Rps q h O ds xs:=by
 cases d with
 |lst a=>cases e;obtain⟨n,xs,rfl,g,r⟩:=w.lst;exact⟨xs,by simp[MM.bW,g],r⟩
 |tup a=>cases e;obtain⟨xs,rfl,r⟩:=w.tup;exact⟨xs,rfl,r⟩
 |_=>cases e
def E5(neg:Bool)(a b:D):WG:=match b.items with
 |some f=>(match py a,Eb f with
  |some x,J ys=>if(y_ a<=60/\qp f<=60)/\x.canLay0=I/\PyData.canLayAll0 ys=I then J (.bl (if neg then !ys.any (λe=>PyData.eqv e x)else ys.any (λe=>PyData.eqv e x)))else Y
  |_,_=>Y)
 |none=>Y
def EG(neg:Bool):zM where
 m:=Gm neg
 p:=E5 neg
 fr:=I
 ok {q h L O a x b y d} bd wa wb e:=by
  unfold E5 at e
  cases e0:b.items with
  |none=>rw[e0]at e;cases e
  |some f =>
   rw[e0]at e;dsimp only at e
   cases e1:py a with
   |none=>rw[e1]at e;cases e
   |some u =>
    cases e2:Eb f with
    |none=>rw[e1,e2]at e;cases e
    |some j =>
     rw[e1,e2]at e;dsimp only at e;by_cases z:(y_ a<=60/\qp f<=60)/\u.canLay0=I/\PyData.canLayAll0 j=I
     .rw[c_ z]at e;cases e;obtain⟨xs,i,r⟩:=wb.seqOf e0;unfold Gm;rw[i,qW wa e1 z.1.1];dsimp only;rw[A0 r e2 z.1.2];dsimp only;rw[c_ z.2];exact CK
     .rw[g_ z]at e;cases e
end
noncomputable section
def sy:Rx where
 m:=Fk
 p:=λa=>match a with
  |.int i=>J (.int (-i))
  |_=>Y
 fr:=I
 ok {q h L O a x d} bd w e:=by
  cases a with
  |int i=>cases e;rw[w.int];exact E4
  |_=>cases e
def FH:D->Option String
 |.non=>J "NoneType"
 |.bl _=>J "bool"
 |.int _=>J "int"
 |.str _=>J "str"
 |.tup _=>J "tuple"
 |.lst _=>J "list"
 |.dic _ _ _=>J "dict"
 |_=>Y
def OH(w:Vw q h L O d v)(e:FH d=J t):Gf h v=J t:=by
 cases d with
 |non=>cases e;rw[w.non];rfl
 |bl b=>cases e;rw[w.bl];rfl
 |int b=>cases e;rw[w.int];rfl
 |str b=>cases e;rw[w.str];rfl
 |tup b=>cases e;obtain⟨xs,rfl,_⟩:=w.tup;rfl
 |lst b=>cases e;obtain⟨n,xs,rfl,g,_⟩:=w.lst;simp[Gf,g]
 |dic fz i j =>
  cases e;rcases w with⟨n,xs,rfl,_,g,_⟩|⟨n,f,xs,a,e,rfl,_,_,g,_⟩
  .simp[Gf,g]
  .cases f with
   |none=>cases e
   |some _=>simp[Gf,g,mo]
 |_=>cases e
def bL(f:List String):Rx where
 m:=nt f
 p:=λa=>(FH a).map λt=>.bl (f.any (dU t))
 fr:=I
 ok {q h L O a x d} bd w e:=by rw[Bi]at e;obtain⟨t,e1,rfl⟩:=e;unfold nt;rw[OH w e1];exact CK
def Vz(f:WL->MH->WZ)(g:Int->Int->Int)(hf:∀i j h,f [.int i,.int j] h=.ok (.int (g i j)) h):DU where
 k:=λxs h=>(f xs h).ne
 p:=λl=>match l with
  |[.int i,.int j]=>J (.int (g i j))
  |_=>Y
 fr:=I
 ok {q h L O l xs d} bd w e:=by
  match l,e with
  |[.int i,.int j],e =>
   cases e;obtain⟨x,y,rfl,a,b⟩:=Lb w;rw[a.int,b.int,hf];exact E4
def oo:DU:=Vz zQ (λi j=>if j<i then j else i) λ_ _ _=>rfl
def vF:DU:=Vz Er (λi j=>if j>i then j else i) λ_ _ _=>rfl
def nT(f:WL->MH->WZ)(F:D->WG)(j:∀{q h L O a x d},Bd h O->Vw q h L O a x->F a=J d->Gv q h O I (f [x] h).ne d):DU where
 k:=λxs h=>(f xs h).ne
 p:=λi=>match i with
  |[a]=>F a
  |_=>Y
 fr:=I
 ok {q h L O i xs d} bd w e:=by
  match i,e with
  |[a],e=>obtain⟨x,rfl,wx⟩:=rK w;exact j bd wx e
def nF:DU:=nT DZ (λd=>match d with
  |.int i=>J (.int (if i<0 then -i else i))
  |_=>Y) λ{q h L O a x d} bd w e=>by
 cases a with
 |int i=>cases e;rw[w.int];exact E4
 |_=>cases e
def qe:DU:=nT Ge (λd=>match d with
  |.int i=>J (.int i)
  |.bl b=>J (.int (if b then 1 else 0))
  |_=>Y) λ{q h L O a x d} bd w e=>by
 cases a with
 |int i=>cases e;rw[w.int];exact E4
 |bl i=>cases e;rw[w.bl];exact E4
 |_=>cases e
def b7:DU:=nT s_ (λd=>match d with
  |.lst f=>J (.int f.length)
  |.tup f=>J (.int f.length)
  |.str x=>if x.length<=sizeLine then J (.int x.length)else Y
  |_=>Y) λ{q h L O a x d} bd w e=>by
 cases a with
 |lst f =>
  cases e;obtain⟨n,ys,rfl,g,r⟩:=w.lst;simp only[s_,g];rw[r.length];exact E4
 |tup f =>
  cases e;obtain⟨ys,rfl,r⟩:=w.tup;simp only[s_];rw[r.length];exact E4
 |str x =>
  dsimp only at e;by_cases z:x.length<=sizeLine
  .rw[c_ z]at e;cases e;rw[w.str];simp only[s_];rw[c_ z];exact E4
  .rw[g_ z]at e;cases e
 |_=>cases e
def gH:DU:=nT EL (λd=>d.items.bind λf=>if f.length<=100000 then J (.lst f)else Y) λ{q h L O a x d} bd w e=>by
 rw[Jo]at e;obtain⟨f,e1,e2⟩:=e;obtain⟨xs,e3,r⟩:=w.seqOf e1;by_cases z:f.length<=100000
 .rw[c_ z]at e2;cases e2;obtain⟨v,g,e4,j,i⟩:=oK bd r z;exact⟨v,g,by simp only[EL,e3];rw[e4];rfl,j,i⟩
 .rw[g_ z]at e2;cases e2
def dE:DU:=nT D_ (λd=>d.items.map .tup) λ{q h L O a x d} bd w e=>by
 rw[Bi]at e;obtain⟨f,e1,rfl⟩:=e;obtain⟨xs,e3,r⟩:=w.seqOf e1;simp only[D_,e3];exact La ⟨xs,rfl,r⟩ λ_ k _ e=>by cases k<;>cases e
def kB:WR->Option (List Bool)
 |[]=>J []
 |.bl b::r=>(kB r).map (b::·)
 |_=>Y
def A5:∀{f:WR}{xs:WL}{bs:List Bool},Rps q h O f xs->kB f=J bs->kC xs=J bs
 |[],_,_,r,e=>by rw[show _=[]from r];cases e;rfl
 |d::f,_,bs,⟨x,t,ex,a,b⟩,e=>by
  subst ex
  cases d with
  |bl c =>
   rw[show x=PV.bl c from a];rw[kB,Bi]at e;obtain⟨i,e1,rfl⟩:=e;rw[kC,A5 b e1];rfl
  |_=>cases e
def Ti(f:WL->MH->WZ)(g:List Bool->Bool)(hf:∀{x h ys bs},MM.bW h x=J ys->kC ys=J bs->f [x] h=.ok (.bl (g bs)) h):DU:=nT f (λd=>(d.items.bind kB).map λbs=>.bl (g bs)) λ{q h L O a x d} bd w e=>by
 rw[Bi]at e;obtain⟨bs,e1,rfl⟩:=e;rw[Jo]at e1;obtain⟨i,e1,e2⟩:=e1;obtain⟨xs,e3,r⟩:=w.seqOf e1;rw[hf e3 (A5 r e2)];exact CK
def ss:DU:=Ti EF (λbs=>bs.all id) λe1 e2=>by simp only[EF,e1,Jy,e2]
def lu:WR->Option (WN)
 |[]=>J []
 |.int b::r=>(lu r).map (b::·)
 |_=>Y
def uY:∀{f:WR}{xs:WL}{bs:WN},Rps q h O f xs->lu f=J bs->xs=bs.map .int
 |[],_,_,r,e=>by rw[show _=[]from r];cases e;rfl
 |d::f,_,bs,⟨x,t,ex,a,b⟩,e=>by
  subst ex
  cases d with
  |int c =>
   rw[show x=PV.int c from a];rw[lu,Bi]at e;obtain⟨i,e1,rfl⟩:=e;rw[uY b e1];rfl
  |_=>cases e
def t9:∀(bs:WN),nC (bs.map .int)=J bs
 |[]=>rfl
 |b::bs=>by rw[k_,nC,t9 bs];rfl
def kD(k:WN):D:=.tup (k.map .int)
def qf:∀(bs:WN),Rps q h O (bs.map .int) (bs.map .int)
 |[]=>rfl
 |b::bs=>⟨_,_,rfl,rfl,qf bs⟩
def Vw.lstOf(w:Vw q h L O (.lst ds) v):∃xs,MM.ko h v=J xs/\Rps q h O ds xs:=by obtain⟨n,xs,rfl,g,r⟩:=w.lst;exact⟨xs,by simp[MM.ko,g],r⟩
def VA(bd:Bd h O)(r:∀h O,Rps q h O ds xs):Gv q h O I (.ok (.loc h.length) (h++[.lst xs])) (.lst ds):=by
 have g:(h++[MO.lst xs])[h.length]?=J (.lst xs):=by simp
 exact⟨_,_,rfl,⟨_,_,rfl,λz=>by have:=bd _ z;ext,g,r _ _⟩,λ_ k a e=>by obtain⟨rfl,rfl⟩:=gS e;exact⟨_,_,rfl,l_ _,g,r _ _⟩⟩
def uy(a:WR):Option (WR):=match lu a with
 |some ns=>if ns.length<64 then J ((iW ns).map .int)else Y
 |none=>Y
def jl:DU:=nT wv (λd=>match d with
  |.lst f=>(uy f).map .lst
  |_=>Y) λ{q h L O a x d} bd wx e=>by
 cases a with
 |lst f =>
  obtain⟨ys,e0,r⟩:=wx.lstOf;rw[Bi]at e;obtain⟨i,e1,rfl⟩:=e;unfold uy at e1
  cases e2:lu f with
  |some ns =>
   rw[e2]at e1;dsimp only at e1;by_cases z:ns.length<64
   .rw[c_ z]at e1;cases e1
    have:wv [x] h=.ok (.loc h.length) (h++[.lst ((iW ns).map .int)]):=by simp only[wv,e0,uY r e2,t9];rw[c_ z]
    show Gv q h O I (wv [x] h).ne _;rw[this];exact VA bd λ_ _=>qf _
   .rw[g_ z]at e1;cases e1
  |none=>rw[e2]at e1;cases e1
 |_=>cases e
def dw(lo:Int)(n:Nat):WR:=(List.range n).map λ(i:Nat)=>D.int (lo+(i:Int))
def xw:Rps q h O (dw lo n) (bI lo n):=by
 have:=qf (q:=q) (h:=h) (O:=O) ((List.range n).map λ(i:Nat)=>lo+(i:Int))
 rw[qo,qo]at this;exact this
def Lc:DU where
 k:=λi f=>match i with
  |[.int j]=>if -(2^62)<=j/\j<2^62/\j.toNat<=sizeLine then .ok (.loc f.length) (f++[.lst (bI 0 j.toNat)])else .bad
  |_=>.bad
 p:=λa=>match a with
  |[.int j]=>if -100000<=j/\j<=100000 then J (.lst (dw 0 j.toNat))else Y
  |_=>Y
 fr:=I
 ok {q h L O a xs d} bd w e:=by
  match a,e with
  |[.int j],e =>
   obtain⟨x,rfl,wx⟩:=rK w;rw[wx.int];dsimp only at e;by_cases z:-100000<=j/\j<=100000
   .rw[c_ z]at e;cases e;dsimp only
    have:=eR
    rw[c_ ⟨by ext,by ext,by ext⟩];exact VA bd λ_ _=>xw
   .rw[g_ z]at e;cases e
def E6:MY where
 k:=λf i=>match f with
  |[.int j]=>if -(2^62)<=j/\j<2^62 then .ok ⟨bI 0 j.toNat,[]⟩ i else .bad
  |_=>.bad
 p:=λa=>match a with
  |[.int j]=>if -100000<=j/\j<=100000 then J (dw 0 j.toNat)else Y
  |_=>Y
 ok {q h L O a xs d} hq hO bd w e:=by
  match a,e with
  |[.int j],e =>
   obtain⟨x,rfl,wx⟩:=rK w;rw[wx.int];dsimp only at e;by_cases z:-100000<=j/\j<=100000
   .rw[c_ z]at e;cases e;dsimp only;rw[c_ ⟨by ext,by ext⟩];exact⟨_,rfl,xw,(λ_ hg=>nomatch hg),λ_ _ hg=>nomatch hg⟩
   .rw[g_ z]at e;cases e
def Vw.sqAny(hq:q<L)(i:q∈O)(w:Vw q h L O d v)(e:d.items=J ds):∃t xs gd,MM.bF v h=J (t,xs,gd)/\Rps q h O ds xs/\(∀g∈gd,h[g.1]?=J (.lst g.2)/\g.1≠q)/\(Rp q h O d v->∀g∈gd,g.1∉O):=by
 obtain⟨xs,gd,e1,r,f,g2⟩:=w.seq hq i e
 cases d with
 |lst j =>
  cases e;obtain⟨n,ys,rfl,g,a⟩:=w.lst;simp only[sv,g]at e1;cases e1;exact⟨T,xs,[(n,xs)],by simp[MM.bF,g],a,f,g2⟩
 |tup j =>
  cases e;obtain⟨ys,rfl,a⟩:=w.tup;cases e1;exact⟨I,_,[],rfl,a,f,g2⟩
 |_=>cases e
def aY(a:WR):WR:=a.zipIdx.map λp=>.tup [.int (p.2:Int),p.1]
def jM(xs ys:WR):WR:=(xs.zip ys).map λp=>.tup [p.1,p.2]
def uC:∀{f:WR}{xs:WL}(n:Nat),Rps q h O f xs->Rps q h O ((f.zipIdx n).map λp=>.tup [.int (p.2:Int),p.1]) ((xs.zipIdx n).map λp=>.tup [.int (p.2:Int),p.1])
 |[],_,_,r=>by rw[show _=[]from r];rfl
 |d::f,_,n,⟨x,t,e,a,b⟩=>by
  subst e;exact⟨_,_,rfl,⟨_,rfl,⟨_,_,rfl,rfl,⟨_,_,rfl,a,rfl⟩⟩⟩,uC (n+1) b⟩
def yw:∀{j i:WR}{xs ys:WL},Rps q h O j xs->Rps q h O i ys->Rps q h O (jM j i) (kJ xs ys)
 |[],_,_,_,r,_=>by rw[show _=[]from r];rfl
 |_::_,[],_,_,r,l=>by rw[show _=[]from l];simp[kJ];rfl
 |d::j,e::i,_,_,⟨x,t,e1,a,b⟩,⟨B,z,f,y,u⟩=>by
  subst e1 f;exact⟨_,_,rfl,⟨_,rfl,⟨_,_,rfl,a,⟨_,_,rfl,y,rfl⟩⟩⟩,yw b u⟩
def iE:MY where
 k:=λl i=>match l with
  |[x]=>(match bF x i with
   |some (_,xs,gd)=>.ok ⟨dM xs,gd⟩ i
   |none=>.bad)
  |_=>.bad
 p:=λf=>match f with
  |[d]=>d.items.map aY
  |_=>Y
 ok {q h L O f xs d} hq hO bd w e:=by
  match f,e with
  |[a],e =>
   obtain⟨x,rfl,wx⟩:=rK w;rw[Bi]at e;obtain⟨B,e1,rfl⟩:=e;obtain⟨t,ys,gd,e2,r,j,g2⟩:=wx.sqAny hq hO e1;refine⟨⟨dM ys,gd⟩,by simp only[e2],uC 0 r,j,λz=>g2 ?_⟩;obtain⟨y,u,e3,a,_⟩:=z;cases e3;exact a
def iZ:MY where
 k:=λQ E=>match Q with
  |[x,y]=>(match bF x E,bF y E with
   |some (_,xs,f),J (_,ys,g2)=>.ok ⟨kJ xs ys,f++g2⟩ E
   |_,_=>.bad)
  |_=>.bad
 p:=λi=>match i with
  |[d,e]=>d.items.bind λxs=>e.items.map λys=>jM xs ys
  |_=>Y
 ok {q h L O i xs d} hq hO bd w e:=by
  match i,e with
  |[a,b],e =>
   obtain⟨x,y,rfl,wx,M⟩:=Lb w;rw[Jo]at e;obtain⟨Z,e1,e⟩:=e;rw[Bi]at e;obtain⟨X,e2,rfl⟩:=e;obtain⟨t,ys,gd,G,r,f,g2⟩:=wx.sqAny hq hO e1;obtain⟨S,l,B,j,F,u,C⟩:=M.sqAny hq hO e2;refine⟨⟨kJ ys l,gd++B⟩,by simp only[G,j],yw r F,λg hg=>?_,λz g hg=>?_⟩
   .rcases DY.mp hg with z|z
    .exact f g z
    .exact u g z
   .obtain⟨U,F,e3,P,R,W,e4,H,_⟩:=z;cases e3;cases e4;rcases DY.mp hg with z|z
    .exact g2 P g z
    .exact C H g z
def gQ(xs:WR)(lo a:WW):WR:=(xs.drop (HT.n7 xs.length 0 lo)).take (HT.n7 xs.length xs.length a-HT.n7 xs.length 0 lo)
def xy(lo a:WW)(r:Rps q h O ds xs):Rps q h O (gQ ds lo a) (g9 xs lo a):=by unfold gQ g9;rw[r.length];exact(r.drop _).take _
structure Xo(ws:WQ) where
 m:Mx (WW)
 p:aC->e_->PR (WW)
 ok:∀{q h L B O Z env s},Cx q h L B O ws Z env s->Ok q h (m Z h) (p env s) (λ_ a b=>a=b)
section
variable{ws:WQ}
def GK:Xo ws where
 m:=Vk
 p:=λ_ s=>.ok Y s
 ok {q h L B O Z env s} c:=⟨Y,h,rfl,KB.refl _ _,c.pen,rfl⟩
def GL(e:Xe ws):Xo ws where
 m:=Vl e.m
 p:=λenv s=>(e.p env s).bind λd s=>match d with
  |.int i=>.ok (J i) s
  |_=>.bad
 ok {q h L B O Z env s} c:=by
  refine(e.ok c).bind λx v j l u f a=>?_;obtain⟨w,_,_⟩:=a
  cases x with
  |int i=>rw[w.int];exact⟨J i,j,rfl,KB.refl _ _,f,rfl⟩
  |_=>trivial
def M1(d:D)(lo f:WW):WG:=match d with
 |.lst a=>J (.lst (gQ a lo f))
 |.tup a=>if HT.n7 a.length 0 lo=0/\HT.n7 a.length a.length f=a.length then Y else J (.tup (gQ a lo f))
 |_=>Y
def OI(bd:Bd h O)(w:Vw q h L O a x)(e:M1 a lo hi=J d):Gv q h O I (KU x lo hi h) d:=by
 cases a with
 |lst f =>
  cases e;obtain⟨n,xs,rfl,g,r⟩:=w.lst;simp only[KU,g];have r:=xy lo hi r;have m:Mv O h O (h++[MO.lst (g9 xs lo hi)]):=⟨λn i _=>qr i,λo j=>.inl j⟩
  have u:Mv O h (h.length::O) (h++[MO.lst (g9 xs lo hi)]):=⟨λn i _=>qr i,λo j=>by
   rcases nw.mp j with z|z
   .exact .inr (by ext)
   .exact .inl z⟩
  have g:(h++[MO.lst (g9 xs lo hi)])[h.length]?=J (.lst (g9 xs lo hi)):=by simp
  exact⟨_,_,rfl,⟨_,_,rfl,λz=>by have:=bd _ z;ext,g,r.mv m⟩,λ_ k l e=>by obtain⟨rfl,rfl⟩:=gS e;exact⟨_,_,rfl,l_ _,g,r.mv u⟩⟩
 |tup f =>
  unfold M1 at e;dsimp only at e;by_cases z:HT.n7 f.length 0 lo=0/\HT.n7 f.length f.length hi=f.length
  .rw[c_ z]at e;cases e
  .rw[g_ z]at e;cases e;obtain⟨xs,rfl,r⟩:=w.tup;simp only[KU];rw[r.length,g_ z];exact La ⟨_,rfl,xy lo hi r⟩ λ_ k _ e=>by cases k<;>cases e
 |_=>cases e
def GN(a:Xe ws)(lo f:Xo ws):Xe ws where
 m:=Vm a.m lo.m f.m
 p:=λenv s=>(a.p env s).bind λx s=>(lo.p env s).bind λl s=>(f.p env s).bind λu s=>.of (M1 x l u) s
 fz:=I
 fr:=I
 ok {q h L B O Z env s} c:=by
  refine(a.ok c).bind λx v h1 R G Q i=>?_;obtain⟨w,_,_⟩:=i;have F:=c.kb G Q;refine(lo.ok F).bind λl U h2 S z M e=>?_;subst e;have E:=F.kb z M;refine(f.ok E).bind λu X h3 W j C e=>?_;subst e;have P:=E.kb j C
  cases e:M1 x l u with
  |none=>trivial
  |some d =>
   obtain⟨y,g,e1,r,H⟩:=OI P.bd ((w.kb z c.pO c.pL).kb j c.pO c.pL) e;exact ET (oh (oh G.len z.len) j.len) C ⟨y,g,by rw[e1];rfl,r,H⟩
end
def tr:IB where
 m:=ia
 p:=λf i=>match i with
  |[a]=>if f.length<100000 then J (.non,f++[a])else Y
  |_=>Y
 ok {q h O n xs f i vs d ds'} g r ra e:=by
  match i,e with
  |[a],e =>
   obtain⟨x,t,rfl,a,b⟩:=ra
   have:t=[]:=b
   subst this;dsimp only at e;by_cases z:f.length<100000
   .rw[c_ z]at e;cases e;refine⟨.non,xs++[x],?_,r.app ⟨x,[],rfl,a,rfl⟩,rfl⟩;simp only[ia,g];rw[c_ (by have:=eR;rw[r.length];ext)]
   .rw[g_ z]at e;cases e
def Ec:IB where
 m:=kM
 p:=λj l=>match l with
  |[a]=>a.items.bind λi=>if j.length+i.length<=100000 then J (.non,j++i)else Y
  |_=>Y
 ok {q h O n xs j l vs d ds'} g r ra e:=by
  match l,e with
  |[a],e =>
   obtain⟨x,t,rfl,w,b⟩:=ra
   have:t=[]:=b
   subst this;rw[Jo]at e;obtain⟨i,e1,e2⟩:=e;by_cases z:j.length+i.length<=100000
   .rw[c_ z]at e2;cases e2;have B:=eR
    cases a with
    |lst u =>
     cases e1;obtain⟨m,ys,rfl,_,y,f⟩:=w;refine⟨.non,xs++ys,?_,r.app f,rfl⟩;simp only[kM,g,y];rw[c_ (by rw[r.length,f.length];ext)]
    |tup u =>
     cases e1;obtain⟨ys,rfl,f⟩:=w;refine⟨.non,xs++ys,?_,r.app f,rfl⟩;simp only[kM,g];rw[c_ (by rw[r.length,f.length];ext)]
    |_=>cases e1
   .rw[g_ z]at e2;cases e2
def Ci:IB where
 m:=oZ
 p:=λf j=>match j with
  |[.int i,a]=>if(0<=i/\i<=100000)/\f.length<100000 then J (.non,f.take (min i.toNat f.length)++a::f.drop (min i.toNat f.length))else Y
  |_=>Y
 ok {q h O n xs f j vs d ds'} g r ra e:=by
  match j,e with
  |[.int i,a],e =>
   obtain⟨x,t,rfl,l,y,u,rfl,w,b⟩:=ra
   have:u=[]:=b
   subst this;rw[show x=PV.int i from l];dsimp only at e;by_cases z:(0<=i/\i<=100000)/\f.length<100000
   .rw[c_ z]at e;cases e;refine⟨.non,nJ xs i y,?_,?_,rfl⟩
    .simp only[oZ,g];rw[c_ ⟨by ext,by have:=eR;rw[r.length];ext⟩]
    .unfold nJ;rw[g_ (by ext),r.length];exact(r.take _).app ⟨y,_,rfl,w,r.drop _⟩
   .rw[g_ z]at e;cases e
end
section
variable{ws:WQ}{env:aC}{s:e_}
@[simp]theorem ag{d:D}{r:aC}:(aa 0:Xe ws).p (J d::r) s=.ok d s:=rfl
@[simp]theorem aj{i:Nat}{o:WG}{r:aC}:(aa (i+1):Xe ws).p (o::r) s=(aa i:Xe ws).p r s:=by simp[aa]
theorem GO(e:env[i]?=J (J d)):(aa i:Xe ws).p env s=.ok d s:=by show(match env[i]? with|some (J d)=>PR.ok d s|_=>.bad)=_;rw[e]
@[simp]theorem bf:(xC k:Xe ws).p env s=.ok k.d s:=rfl
@[simp]theorem jt:Cn.non.d=.non:=rfl
@[simp]theorem VB:(Cn.bl b).d=.bl b:=rfl
@[simp]theorem aR:(Cn.int b).d=.int b:=rfl
@[simp]theorem Tj:(Cn.str b).d=.str b:=rfl
@[simp]theorem aD:(af o a b).p env s=(a.p env s).bind λx s1=>(b.p env s1).bind λy s2=>.of (o.p x y) s2:=rfl
@[simp]theorem lK:(y7 o a).p env s=(a.p env s).bind λx s1=>.of (o.p x) s1:=rfl
@[simp]theorem au:(a_:Xs ws).p env s=.ok [] s:=rfl
@[simp]theorem ah:(ae a r).p env s=(a.p env s).bind λx s1=>(r.p env s1).bind λy s2=>.ok (x::y) s2:=rfl
@[simp]theorem bC:(m_ o a).p env s=(a.p env s).bind λx s1=>.of (o.p x) s1:=rfl
@[simp]theorem aE:(az f a h).p env s=(a.p env s).bind f.p:=rfl
@[simp]theorem gJ:(d9 a h).p env s=(a.p env s).bind λx s1=>if x.length<=100000 then .ok (.lst x) s1 else .bad:=rfl
@[simp]theorem cj:(bt a h).p env s=(a.p env s).bind λx s1=>if x.length<=100000 then .ok (.tup x) s1 else .bad:=rfl
@[simp]theorem Ld:(GC:Xe ws).p env s=.ok (.dic T [] []) s:=rfl
@[simp]theorem bM:(xB a).p env s=(a.p env s).bl:=rfl
@[simp]theorem cN:(bQ a).p env s=(a.p env s).bind λb s=>.ok (!b) s:=rfl
@[simp]theorem vI:(kH a b).p env s=(a.p env s).bind λx s=>if x=I then b.p env s else .ok T s:=rfl
@[simp]theorem im:(CV a b).p env s=(a.p env s).bind λx s=>if x=I then .ok I s else b.p env s:=rfl
@[simp]theorem Rz:(mL:Xt ws).p env s=.ok I s:=rfl
@[simp]theorem oz:(fu a b).p env s=(a.p env s).bl.bind λx s=>if x=I then(b.p env s).bl.bind λy s=>.ok (.bl y) s else .ok (.bl T) s:=rfl
@[simp]theorem Lf:(GD a b).p env s=(a.p env s).bl.bind λx s=>if x=I then .ok (.bl I) s else(b.p env s).bl.bind λy s=>.ok (.bl y) s:=rfl
@[simp]theorem GP:(oV a).p env s=(a.p env s).bl.bind λx s=>.ok (.bl (!x)) s:=rfl
@[simp]theorem BI:(K6 t a b z h).p env s=(t.p env s).bind λx s=>if x=I then a.p env s else b.p env s:=rfl
@[simp]theorem OK:(rB f g a b e).p env s=(a.p env s).bind λx s1=>(b.p env s1).bind λy s2=>match f.p x y with
  |some (.bl t)=>if t=I then(e.p env s2).bind λz s3=>.of (g.p y z) s3 else .ok (.bl T) s2
  |_=>.bad:=rfl
@[simp]theorem dS:(bT o a).p env s=(a.p env s).bind λx s1=>.of (o.p x) s1:=rfl
@[simp]theorem cM:(bc a).p env s=(a.p env s).bind λx s1=>.of x.items s1:=rfl
@[simp]theorem VC{i:Nat}{h:ws.contains i=T}{d:D}:(h8 i h).p d env=J (env.set i (J d)):=rfl
@[simp]theorem VD:(p6:IA ws).p [] env=J env:=rfl
@[simp]theorem VE:(ki a t).p (d::ds) env=(a.p d env).bind λenv1=>t.p ds env1:=rfl
@[simp]theorem VF:(p_ t n).p (.tup ds) env=if ds.length=n then t.p ds env else Y:=rfl
@[simp]theorem lq{nv:Nat}{fm:WQ}{i:Xi ws}{ws':WQ}{g:Xg ws'}{t:Xt ws'}{e:Xe ws'}{hw:EN nv fm ws=ws'}{hz:e.fz=I}:(bg nv fm i g t e hw hz).p env s=(i.p env s).bind λds s1=>if ds.length<=100000 then (match dN g.p t.p e.p ds (w_ nv fm env) s1 with
  |.ok r s2=>.ok (.lst r) s2
  |_=>.bad)else .bad:=rfl
@[simp]theorem zK:(GK:Xo ws).p env s=.ok Y s:=rfl
@[simp]theorem yC:(GL e).p env s=(e.p env s).bind λd s=>match d with
  |.int i=>.ok (J i) s
  |_=>.bad:=rfl
@[simp]theorem zq:(GN a lo hi).p env s=(a.p env s).bind λx s=>(lo.p env s).bind λl s=>(hi.p env s).bind λu s=>.of (M1 x l u) s:=rfl
@[simp]theorem aB:(aG a b).p env s=(a.p env s).then b.p:=rfl
@[simp]theorem bo:(i_:Xd ws).p env s=.nx env s:=rfl
@[simp]theorem bJ:(aU e).p env s=(e.p env s).go env λd _ s=>.rt d s:=rfl
theorem oX{i:Nat}{h:ws.contains i=I}{d:D}(e:env[i]?=J (J d)):(mQ i h).p env s=.rt d s:=by show(match env[i]? with|some (J d)=>PS.rt d s|_=>.bad)=_;rw[e]
@[simp]theorem GQ:(ut e).p env s=(e.p env s).go env λ_=>.nx:=rfl
@[simp]theorem bq:(sw t a b).p env s=(t.p env s).go env λx env s=>if x=I then a.p env s else b.p env s:=rfl
@[simp]theorem aS:(aP i e hi hz).p env s=(e.p env s).go env λd env s=>.nx (env.set i (J d)) s:=rfl
@[simp]theorem ju:(D.lst ds).mine=I:=rfl
@[simp]theorem Tk:(D.dic T ks ds).mine=I:=rfl
@[simp]theorem hW{hi hz}:(eO i e hi hz:Xd ws).p env s=(e.p env s).go env λd env s=>if d.mine=I then .nx (env.set i (J d)) s else .bad:=rfl
@[simp]theorem dW:(cE i g b hz).p env s=(i.p env s).go env λds env s=>Ei g.p b.p ds env s:=rfl
@[simp]theorem OL:(E3 o i a hi hz).p env s=E2 o i a.p env s λ_=>.nx:=rfl
@[simp]theorem qT:(pQ i e ix hi hz).p env s=fV i e.p ix.p env s:=rfl
theorem aZ{hw}(a:ds.length=np):(bA n np b hw).p ds s=(b.p (lw n ds) s).fin:=by show(if ds.length=np then _ else _)=_;rw[c_ a]
variable{i j:Int}{b:Bool}{x y:WR}
@[simp]theorem fi:c8.p (.int i) (.int j)=J (.int (i+j)):=rfl
theorem yq(h:x.length+y.length<=100000):c8.p (.lst x) (.lst y)=J (.lst (x++y)):=by show(if x.length+y.length<=100000 then _ else _)=_;rw[c_ h]
@[simp]theorem pc:mD.p (.int i) (.int j)=J (.int (i-j)):=rfl
@[simp]theorem BC:GH.p (.int i) (.int j)=J (.bl (decide (i<j))):=rfl
@[simp]theorem Tl:OE.p (.int i) (.int j)=J (.bl (decide (i<=j))):=rfl
@[simp]theorem Tn:OF.p (.int i) (.int j)=J (.bl (decide (j<i))):=rfl
@[simp]theorem d7:h_.p (.lst x) (.int j)=o_ x j:=rfl
@[simp]theorem oQ:h_.p (.tup x) (.int j)=o_ x j:=rfl
theorem GR(h:j≠0):iV.p (.int i) (.int j)=J (.int (i.fmod j)):=by show(if j≠0 then _ else _)=_;rw[c_ h]
@[simp]theorem To:(bL Ts).p d=(FH d).map λt=>.bl (Ts.any (dU t)):=rfl
@[simp]theorem Tp:FH .non=J "NoneType":=rfl
@[simp]theorem VG:FH (.bl b)=J "bool":=rfl
@[simp]theorem Tq:FH (.int i)=J "int":=rfl
@[simp]theorem Tt:FH (.str z)=J "str":=rfl
@[simp]theorem Tu:FH (.tup x)=J "tuple":=rfl
@[simp]theorem Tv:FH (.lst x)=J "list":=rfl
@[simp]theorem Tw:FH (.dic fz ks es)=J "dict":=rfl
@[simp]theorem yo:oo.p [.int i,.int j]=J (.int (if j<i then j else i)):=rfl
@[simp]theorem GS:vF.p [.int i,.int j]=J (.int (if j>i then j else i)):=rfl
@[simp]theorem Lg:qe.p [.bl b]=J (.int (if b then 1 else 0)):=rfl
@[simp]theorem Tx:qe.p [.int i]=J (.int i):=rfl
@[simp]theorem Tz:b7.p [.lst x]=J (.int x.length):=rfl
@[simp]theorem TB:b7.p [.tup x]=J (.int x.length):=rfl
theorem xc(h:x.length<=100000):gH.p [.lst x]=J (.lst x):=by show(if x.length<=100000 then _ else _)=_;rw[c_ h]
@[simp]theorem g8:dE.p [.lst x]=J (.tup x):=rfl
@[simp]theorem OM:dE.p [.tup x]=J (.tup x):=rfl
theorem ID(h:-100000<=i/\i<=100000):Lc.p [.int i]=J (.lst (dw 0 i.toNat)):=by show(if _ then _ else _)=_;rw[c_ h]
def lM(h:-100000<=i/\i<=100000):E6.p [.int i]=J (dw 0 i.toNat):=by show(if _ then _ else _)=_;rw[c_ h]
@[simp]theorem TC:iE.p [.lst x]=J (aY x):=rfl
@[simp]theorem VH:iZ.p [.lst x,.lst y]=J (jM x y):=rfl
@[simp]theorem VI:iZ.p [.tup x,.tup y]=J (jM x y):=rfl
@[simp]theorem zS:M1 (.lst x) lo hi=J (.lst (gQ x lo hi)):=rfl
theorem jT(h:x.length<100000):tr.p x [a]=J (.non,x++[a]):=by show(if _ then _ else _)=_;rw[c_ h]
def Bk(h:x.length+y.length<=100000):Ec.p x [.lst y]=J (.non,x++y):=by show(if _ then _ else _)=_;rw[c_ h]
def Br{a:D}{i:Nat}(h:i<=x.length)(f:x.length<100000):Ci.p x [.int i,a]=J (.non,x.take i++a::x.drop i):=by show(if _ then _ else _)=_;rw[c_ ⟨by ext,f⟩,Eu,QY h]
end
section
variable{i j:Int}{b c:Bool}
def j4(f:x.canLay0=I)(a:x.depth<=64):SeqAt.shaped x=I:=by simp[SeqAt.shaped,f,a]
@[simp]theorem cV:C0 neg (.int i) (.int j)=J (.bl (if neg then !decide (i=j)else decide (i=j))):=rfl
@[simp]theorem TD:C0 neg (.bl b) (.bl c)=J (.bl (if neg then !(b==c)else b==c)):=rfl
@[simp]theorem gB:Dl.p a d=C0 T a d:=rfl
@[simp]theorem d4:xg.p a d=C0 I a d:=rfl
@[simp]theorem zH:(EG neg).p a d=E5 neg a d:=rfl
theorem ic:∀(k:WN),Eb (k.map .int)=J (k.map .int)/\qp (k.map .int)=0
 |[]=>⟨rfl,rfl⟩
 |i::k=>by
  obtain⟨a,b⟩:=ic k;simp[Eb,py,a,qp,y_,b]
def vK:∀(f:WP),Eb (f.map kD)=J (f.map λk=>.tuple (k.map .int))/\qp (f.map kD)<=1
 |[]=>⟨rfl,by simp[qp]⟩
 |k::f=>by
  obtain⟨a,b⟩:=vK f;obtain⟨c,d⟩:=ic k;constructor
  .simp[Eb,kD,py,a,c]
  .simp only[k_,qp,kD,y_,d];lia
def tS:∀(xs:WN),(xs.map PyData.int).any (λe=>PyData.eqv e (.int x))=decide (x∈xs)
 |[]=>by simp
 |y::ys=>by
  rw[k_,MC,tS ys]
  have:PyData.eqv (.int y) (.int x)=decide (x=y):=by simp[PyData.eqv,UW,eq_comm]
  grind
def ir:∀(k f:WN),PyData.eqvAll (k.map .int) (f.map .int)=decide (k=f)
 |[],[]=>by simp[PyData.eqvAll]
 |[],_::_=>by simp[PyData.eqvAll]
 |_::_,[]=>by simp[PyData.eqvAll]
 |a::k,b::f=>by
  simp only[k_,PyData.eqvAll,PyData.eqv,ir k f];by_cases z:a=b<;>simp[z]
def tw:∀(a:WP),(a.map λk=>PyData.tuple (k.map .int)).any (λe=>PyData.eqv e (.tuple (k.map .int)))=decide (k∈a)
 |[]=>by simp
 |y::ys=>by
  rw[k_,MC,tw ys]
  have:PyData.eqv (.tuple (y.map .int)) (.tuple (k.map .int))=decide (y=k):=by simp only[PyData.eqv,ir]
  grind
def nU{neg:Bool}{x:Int}{d:D}{xs:WN}(e:d.items=J (xs.map .int)):E5 neg (.int x) d=J (.bl (if neg then !decide (x∈xs)else decide (x∈xs))):=by obtain⟨a,b⟩:=ic xs;simp only[E5,e,py,a];rw[c_ ⟨⟨by simp[y_],⋯⟩,rfl,(hV xs).1⟩,tS]
def GU{neg:Bool}{k:WN}{d:D}{ks:WP}(e:d.items=J (ks.map kD)):E5 neg (kD k) d=J (.bl (if neg then !decide (k∈ks)else decide (k∈ks))):=by
 obtain⟨a,b⟩:=vK ks;obtain⟨c,f⟩:=ic k;have u:py (kD k)=J (.tuple (k.map .int)):=by simp[kD,py,c]
 have l:(y_ (kD k)<=60/\qp (ks.map kD)<=60)/\(PyData.tuple (k.map .int)).canLay0=I/\PyData.canLayAll0 (ks.map λk=>.tuple (k.map .int))=I:=⟨⟨by simp[kD,y_,f],⋯⟩,by simpa [PyData.canLay0]using(hV k).1,(vX ks).1⟩;unfold E5;rw[e];dsimp only;rw[u,a];dsimp only;rw[c_ l,tw]
def pW{neg:Bool}{xs ys:WN}:C0 neg (.lst (xs.map .int)) (.lst (ys.map .int))=J (.bl (if neg then !decide (xs=ys)else decide (xs=ys))):=by obtain⟨a,b⟩:=ic xs;obtain⟨c,d⟩:=ic ys;obtain⟨f,y⟩:=hV xs;obtain⟨l,u⟩:=hV ys;simp only[C0,py,a,c,Ib];rw[c_ ⟨⟨by simp[y_,b],by simp[y_,d]⟩,j4 (by simpa [PyData.canLay0]using f) (by simp only[PyData.depth];lia),j4 (by simpa [PyData.canLay0]using l) (by simp only[PyData.depth];lia)⟩];simp only[PyData.eqv,ir]
end
@[simp]theorem RB:Ei g b [] env s=.nx env s:=rfl
theorem eW(e:g d env=J env1):Ei g b (d::ds) env s=(b env1 s).turn (Ei g b ds):=by rw[Ei,e]
def dR(i:Nat->aC->e_->Prop):∀(u:WR)(j:Nat)(env:aC)(s:e_),i j env s ->
  (∀m env s d,i (j+m) env s->u[m]?=J d->∃f a l,g d env=J f/\b f s=.nx a l/\i (j+m+1) a l)->∃a l,Ei g b u env s=.nx a l/\i (j+u.length) a l
 |[],j,env,s,C,_=>⟨env,s,rfl,C⟩
 |d::u,j,env,s,C,st=>by
  obtain⟨f,B,E,e1,e2,F⟩:=st 0 env s d C rfl;obtain⟨y,H,e3,G⟩:=dR i u (j+1) B E F λm a l x q z=>by
   have:=st (m+1) a l x (by rw[show j+(m+1)=j+1+m by lia];exact q) (by simpa using z)
   rw[show j+(m+1)+1=j+1+m+1 by lia]at this;exact this
  refine⟨y,H,?_,by rw[DR,show j+(u.length+1)=j+1+u.length by lia];exact G⟩;rw[eW e1,e2];exact e3
def qq(p:D->Bool)(f:D->D):∀(l:WR)(j:aC),j.length=nv ->
  (∀x∈l,∀j:aC,j.length=nv->∃a:aC,a.length=nv/\g x (j++fr)=J (a++fr)/\t (a++fr) s=.ok (p x) s/\(p x=I->e (a++fr) s=.ok (f x) s))->dN g t e l (j++fr) s=.ok ((l.filter p).map f) s
 |[],j,hv,i=>rfl
 |x::l,j,hv,i=>by
  obtain⟨a,z,e1,e2,e3⟩:=i x (by simp) j hv;have B:=qq p f l a z λy C=>i y (ml _ C);rw[dN,e1];dsimp only;rw[e2]
  cases u:p x with
  |true=>simp only[Pb,if_true,e3 u,B,QI u,k_]
  |false=>simp only[Pb,wy,if_false,B,QJ (show ¬p x=I by simp[u])]
def rG{z j:WQ}{env:aC}{s:e_}{y:Nat}{fm:WQ}{i:Xi z}{g:Xg j}{t:Xt j}{e:Xe j}{G:EN y fm z=j}{E:e.fz=I}{u:WR}(p:D->Bool)(f:D->D)(C:i.p env s=.ok u s)(F:u.length<=100000)(l:∀x∈u,∀B:aC,B.length=y->∃a:aC,a.length=y/\g.p x (B++fm.map λi=>(env[i]?).getD Y)=J (a++fm.map λi=>(env[i]?).getD Y)/\t.p (a++fm.map λi=>(env[i]?).getD Y) s=.ok (p x) s/\(p x=I->e.p (a++fm.map λi=>(env[i]?).getD Y) s=.ok (f x) s)):
  (bg y fm i g t e G E).p env s=.ok (.lst ((u.filter p).map f)) s:=by
 rw[lq,C,Pb,c_ F];unfold w_;rw[qq p f u _ (by simp) l]
def IE{ws ws':WQ}{env:aC}{s:e_}{fm:WQ}{i:Xi ws}{t:Xt ws'}{e:Xe ws'}{ds:WR}(p:D->Bool)(f:D->D)(j:i.p env s=.ok ds s)(B:ds.length<=100000)(a:∀x∈ds,t.p (J x::fm.map λi=>(env[i]?).getD Y) s=.ok (p x) s/\(p x=I->e.p (J x::fm.map λi=>(env[i]?).getD Y) s=.ok (f x) s))(u:ws'.contains 0=T:=by exact ys rfl)(C:EN 1 fm ws=ws':=by exact ys rfl)(z:e.fz=I:=by exact ys rfl):
  (bg 1 fm i (h8 0 u) t e C z).p env s=.ok (.lst ((ds.filter p).map f)) s :=
 rG p f j B λx l y hv=>match y,hv with
  |[_],_=>⟨[J x],rfl,rfl,a x l⟩
def zP{ws ws':WQ}{env:aC}{s:e_}{fm:WQ}{i:Xi ws}{t:Xt ws'}{e:Xe ws'}{ds:WR}(p:D->Bool)(f:D->D)(l:i.p env s=.ok ds s)(C:ds.length<=100000)(j:∀x∈ds,∃a b,x=.tup [a,b]/\t.p (J a::J b::fm.map λi=>(env[i]?).getD Y) s=.ok (p x) s/\(p x=I->e.p (J a::J b::fm.map λi=>(env[i]?).getD Y) s=.ok (f x) s))(y:ws'.contains 0=T:=by exact ys rfl)(F:ws'.contains 1=T:=by exact ys rfl)(E:EN 2 fm ws=ws':=by exact ys rfl)(B:e.fz=I:=by exact ys rfl):
  (bg 2 fm i (p_ (ki (h8 0 y) (ki (h8 1 F) p6)) 2) t e E B).p env s=.ok (.lst ((ds.filter p).map f)) s :=
 rG p f l C λx u z hv=>match z,hv with
  |[_,_],_=>let⟨a,b,e,q⟩:=j x u;⟨[J a,J b],rfl,by subst e;rfl,q⟩
def BS{α:Type}(l:List α):(l.filter λ_=>I)=l:=Js.mpr (by simp)
def vh:WP:=(List.range 12).flatMap λb=>(List.range b).map λ(a:Nat)=>[(a:Int),(b:Int)]
def Cf:vh.length=66:=by decide
def Cp(i:n<=12)(l:0<=a)(j:a<b)(f:b<n):[a,b]∈vh:=by
 unfold vh;rw[List.mem_flatMap];refine⟨b.toNat,by simp;lia,?_⟩;rw[nr];refine⟨a.toNat,by simp;lia,?_⟩;congr 1
 .lia
 .lia
def IF{n:Int}{i:WP}(j:n<=12)(z:∀k∈i,∃a b:Int,k=[a,b]/\0<=a/\a<b/\b<n)(nd:i.Nodup):i.length<=66:=by rw[<-Cf];refine List.Nodup.length_le_of_subset nd λk f=>?_;obtain⟨a,b,rfl,y,l,u⟩:=z k f;exact Cp j y l u
def below(v:Int)(f:WP):WN:=f.filterMap λk=>match k with|[a,b]=>if b=v then J a else Y|_=>Y
def above(v:Int)(f:WP):WN:=f.filterMap λk=>match k with|[a,b]=>if a=v then J b else Y|_=>Y
def Fo(n:Nat):WN:=(List.range n).map λ(i:Nat)=>(i:Int)
def wC:i∈Fo n↔0<=i/\i<n:=by
 unfold Fo;rw[nr];constructor
 .rintro⟨k,f,rfl⟩;rw[zl]at f;lia
 .intro ⟨a,b⟩;exact⟨i.toNat,by rw[zl];lia,⋯⟩
def eQ(h:0<=i):∃n:Nat,i=(n:Int):=⟨i.toNat,⋯⟩
noncomputable section
def GV:D->Option Bool
 |.non=>J T
 |.bl b=>J b
 |.int i=>J (i != 0)
 |.tup xs=>J (!xs.isEmpty)
 |.lst xs=>J (!xs.isEmpty)
 |_=>Y
def Rps.empty(r:Rps p h O a vs):vs.isEmpty=a.isEmpty:=by
 cases a with
 |nil=>rw[show vs=[]from r];rfl
 |cons d a=>obtain⟨x,t,e,_⟩:=r;rw[e];rfl
def wD(w:Vw q h L O d v)(e:GV d=J b):pG h v=J b:=by
 cases d with
 |non=>cases e;rw[w.non];rfl
 |bl c=>cases e;rw[w.bl];rfl
 |int c=>cases e;rw[w.int];rfl
 |tup c=>cases e;obtain⟨xs,rfl,r⟩:=w.tup;rw[pG,r.empty]
 |lst c=>cases e;obtain⟨n,xs,rfl,g,r⟩:=w.lst;simp only[pG,g];rw[r.empty]
 |_=>cases e
section
variable{ws:WQ}
def GW(a:Xe ws):Xt ws where
 m:=Vo a.m
 p:=λenv s=>(a.p env s).bind λd s=>.of (GV d) s
 ok {q h L B O Z env s} c:=by
  refine(a.ok c).bind λx v i j l f ⟨w,_,_⟩=>?_
  cases e:GV x with
  |none=>trivial
  |some b=>rw[wD w e];exact⟨b,i,rfl,KB.refl _ _,f,rfl⟩
structure OpR where
 m:Nat->WL->MH->WZ
 p:WR->WR->WG
 ok:∀{q:Nat}{h:MH}{L:Nat}{O:WQ}{n:Nat}{xs:WL}{ds as:WR}{vs:WL}{d:D},h[n]?=J (.lst xs)->Rps q h O ds xs->K5 q h L O as vs->p ds as=J d->∃v,m n vs h=.ok v h/\Rp q h O d v/\∀k es,d≠dl k es
end
section
variable{ws:WQ}{env:aC}{s:e_}
@[simp]theorem IG:(GW a).p env s=(a.p env s).bind λd s=>.of (GV d) s:=rfl
end
end
noncomputable section
section
variable{ws:WQ}
def vM(i j:Nat)(a:Xs ws)(G:ws.contains i=T:=by exact ys rfl)(E:ws.contains j=T:=by exact ys rfl)(S:a.fz=I:=by exact ys rfl):Xd ws where
 m:=Ku i j a.m
 p:=λenv s=>(a.p env s).go env λu env s=>match u with
  |[x,y]=>.nx ((env.set i (J x)).set j (J y)) s
  |_=>.bad
 fr:=I
 ok {q h L B O Z env s} c d:=by
  refine SOk.ex (f:=λC Z h=>match C with|[v,w]=>.nx ((Z.set i (J v)).set j (J w)) h|_=>.bad) (g:=λu env s=>match u with|[x,y]=>.nx ((env.set i (J x)).set j (J y)) s|_=>.bad) c d (a.ok c) λxs C U W kb l ⟨_,z⟩=>?_;have z:=z S
  match xs,z with
  |[],_=>trivial
  |[_],_=>trivial
  |[x,y],z =>
   obtain⟨v,t,rfl,P,Q⟩:=z;obtain⟨w,X,rfl,rw',rfl⟩:=Q;obtain⟨R,M⟩:=l.sr.set (i:=i) (λz=>by simp[z]at G) P;obtain⟨F,H⟩:=R.set (i:=j) (λz=>by simp[z]at E) rw';exact⟨_,U,rfl,O,Stp.refl _ _ _ _,⟨l.bd,l.sub,l.bb,l.pb,l.hL,l.pen,F⟩,(d.keep M).keep H⟩
  |_::_::_::_,_=>trivial
variable{env:aC}{s:e_}
@[simp]theorem Lh:(vM i j a hi hj hz).p env s=(a.p env s).go env λds env s=>match ds with
  |[x,y]=>.nx ((env.set i (J x)).set j (J y)) s
  |_=>.bad:=rfl
end
end
noncomputable section
def k9:WR->Option (List (Int×D))
 |[]=>J []
 |.tup [.int k,v]::r=>(k9 r).map ((k,v)::·)
 |_=>Y
def ON(x:D):Option (List (Int×D)):=match x with
 |.tup f=>(match k9 f with
  |some a=>if(a.map (·.1)).Nodup then J a else Y
  |none=>Y)
 |_=>Y
def Rkv(q:Nat)(h:MH)(O:WQ):List (Int×D)->List (Int×PV)->Prop
 |[],r=>r=[]
 |a::t,r=>∃b u,r=b::u/\a.1=b.1/\Rp q h O a.2 b.2/\Rkv q h O t u
def Ao:∀{i:WR}{xs:WL}{f:List (Int×D)},Rps q h O i xs->k9 i=J f->∃j,jJ xs=J j/\Rkv q h O f j:=by
 intro i
 induction i with
 |nil=>intro xs f r e;rw[show xs=[]from r];cases e;exact⟨[],rfl,rfl⟩
 |cons d i y =>
  intro xs f r e;obtain⟨x,t,rfl,G,C⟩:=r;unfold k9 at e
  split at e
  .rename_i z;cases z
  .rename_i u M L z
   injection z with z1 z2
   subst z1 z2;rw[Bi]at e;obtain⟨l,e1,rfl⟩:=e;obtain⟨j,e2,e3⟩:=y C e1;obtain⟨P,rfl,a,H,rfl,F,b,B,rfl,E,rfl⟩:=G;rw[show a=PV.int u from F];exact⟨(u,b)::j,by unfold jJ;rw[e2];rfl,_,_,rfl,rfl,E,e3⟩
  .cases e
def Rkv.keys:∀{f:List (Int×D)}{i:List (Int×PV)},Rkv q h O f i->i.map (·.1)=f.map (·.1)
 |[],_,r=>by rw[show _=[]from r];rfl
 |a::t,_,⟨b,u,e,e1,_,r⟩=>by rw[e,k_,k_,e1,Rkv.keys r]
def Li(r:Rp q h O x v)(e:ON x=J kvs):∃a,Ow v=J a/\Rkv q h O kvs a:=by
 unfold ON at e
 split at e
 .rename_i j
  split at e
  .rename_i f i
   split at e
   .rename_i nd
    cases e;obtain⟨xs,rfl,r⟩:=r;obtain⟨a,e1,e2⟩:=Ao r i;refine⟨a,?_,e2⟩;simp only[Ow,e1];rw[c_ (by rw[e2.keys];exact nd)]
   .cases e
  .cases e
 .cases e
section
variable{ws:WQ}
def C1(i j:Int):Xe ws where
 m:=mC (.tup [.int i,.int j])
 p:=λ_ s=>.ok (.tup [.int i,.int j]) s
 fz:=I
 fr:=I
 ok {q h L B O Z env s} c:=by have r:Rp q h O (.tup [.int i,.int j]) (.tup [.int i,.int j]):=⟨_,rfl,_,_,rfl,rfl,_,_,rfl,rfl,rfl⟩;exact⟨_,h,rfl,KB.refl _ _,c.pen,.inl r,λ_=>r,λ_ k a e=>by cases k<;>cases e⟩
end
end
noncomputable section
variable{ws:WQ}
end
end PU
namespace MM
open PySem.Spec PyProof.Rows L2
def OO:n_:=λ_ _=>.bad
def Lj{X:Cx}{st:Stmt}:MS X st OO:=λi s Z H D f ⟨U,a,h,j,l,q⟩=>q.elim
end MM
namespace PU
open MM
def v8{ws:WQ}:Xd ws where
 m:=OO
 p:=λ_ _=>.bad
 fr:=I
 ok _ _:=trivial
end PU
namespace MM
open PySem.Spec PyProof.Rows L2
abbrev M2(scope sc:Scope)(vars frees:WM):Prop:=(∀y∈scope.names,y.2=.cell->scope.names.lookup y.1=J .cell)/\(∀y∈scope.names,y.2=.local->scope.names.lookup y.1=J .local)/\(∀x∈vars,scope.names.lookup x=J .local\/scope.names.lookup x=J .cell)/\(∀x∈frees,scope.names.lookup x=J .free)/\(∀y∈scope.names,y.2=.free->y.1∈frees)/\(∀x∈frees,sc.names.lookup x=J .cell)
def Lk(a f:Scope):Scope:={ a with names:=a.names.map λ(n,k)=>if(k == .free&&f.kind == .function&&f.names.lookup n==J .cell)then(n,.cell)else(n,k)}
def qU{a f:Scope}{env:Env}(h:env.scope=f):relabel a env=Lk a f:=by subst h;rfl
def jk{X:Cx}{N:WM}{a l:Scope}{f frees:WM}{fm:WQ}(j:X.env.scope=l)(y:a.kind=.function)(u:fm.map (λi=>N[i]?)=frees.map J)(h:M2 a l f frees):CA X N a f frees fm :=
 KR j y h.1 h.2.1 h.2.2.1 h.2.2.2.1 h.2.2.2.2.1 u h.2.2.2.2.2
def Wj{Q:WT->Prop}(h:Q []):∀a,a.length=0->Q a:=λa e=>by
 cases a with
 |nil=>exact h
 |cons _ _=>cases e
def RC{n:Nat}{Q:WT->Prop}(h:∀a f,f.length=n->Q (a::f)):∀f,f.length=n+1->Q f:=λf e=>by
 cases f with
 |nil=>cases e
 |cons a f=>exact h a f (Nat.succ.inj e)
def M3{Q:WT->Prop}(h:∀i,Q [i]):∀f,f.length=1->Q f:=RC λa=>Wj (h a)
def M4{Q:WT->Prop}(h:∀j i,Q [j,i]):∀f,f.length=2->Q f:=RC λa=>M3 (h a)
def OP{Q:WT->Prop}(h:∀l i j,Q [l,i,j]):∀f,f.length=3->Q f:=RC λa=>M4 (h a)
def RD{Q:WT->Prop}(h:∀u i j l,Q [u,i,j,l]):∀f,f.length=4->Q f:=RC λa=>OP (h a)
abbrev Zn(K:hR)(x:Str):Prop:=PySem.W.nsIn K mainGlobals x=J Y
abbrev Nn(X:Cx)(x:Str):Prop:=X.mg x=Y
abbrev Sc(X:Cx)(s:Stmt):Prop:=X.env.scope=am s
abbrev Gd(X:Cx)(N G:WM)(k:Nat):Prop:=Good X N N G k
structure Ba(P:Program)(w:World)(K:hR)(mg:WF)(base:Heap):Prop where
 kin:K.In base
 ns:base.Ns mainGlobals mg
structure EE(X:Cx)(P:Program)(w:World)(K:hR)(mg:WF)(base:Heap):Prop where
 e1:X.prog=P
 e2:X.w=w
 e3:X.K=K
 e4:X.mg=mg
 e5:X.base=base
 b:Ba P w K mg base
section
variable{P:Program}{w:World}{K:hR}{mg:WF}{base:Heap}{X:Cx}
def EE.n(e:EE X P w K mg base){x:Str}(z:Zn K x):Nn X x:=by show X.mg x=Y;rw[e.e4];exact PySem.W.mg_none_of e.b.kin e.b.ns z
def FnAt.c{x:Str}{f:WM}{F:WL->MH->WZ}{i j:Nat}(a:FnAt P w K mg base x f F i)(e:EE X P w K mg base)(h:i<=j:=by decide):Cal X x f F j :=
 (a.mono h).cal e.e1 e.e2 e.e3 e.e4 e.e5
def M5{x:Str}{st:Stmt}{N G ps:WM}{m:n_}{k:Nat}(b:Ba P w K mg base)(D:b_ K x st)(i:∀X:Cx,EE X P w K mg base->Sc X st->Gd X N G k->hH X->DT X (aI st) m)(B:ig x st ps:=by first | exact λ_ _ _ _ _ _=>M3 λ_=>rfl | exact λ_ _ _ _ _ _=>M4 λ_ _=>rfl | exact λ_ _ _ _ _ _=>OP λ_ _ _=>rfl | exact λ_ _ _ _ _ _=>RD λ_ _ _ _=>rfl | exact λ_ _ _ _ _ _=>ar5 λ_ _ _ _ _=>rfl)(S:pj N ps (am st):=by exact⟨rfl,rfl,rfl,by decide +kernel,rfl,by decide +kernel,by decide +kernel⟩)(j:∀y∈N,(am st).names.lookup y=J .local\/(am st).names.lookup y=J .cell:=by decide +kernel)(a:∀y∈G,(am st).names.lookup y=J .globalImplicit:=by decide +kernel)(dbg:∀x∈N++G,(x==("__debug__":Str))=T/\(x==("__classdict__":Str))=T/\x≠"__name__":=by decide +kernel):
  FnAt P w K mg base x ps (cX N.length ps.length m) (k+1) :=
 rE b.kin b.ns D S B j a dbg λX e1 e2 e3 e4 e5 l g f=>i X ⟨e1,e2,e3,e4,e5,b⟩ l g f
end
structure YE(Y X:Cx):Prop where
 e1:Y.prog=X.prog
 e2:Y.w=X.w
 e3:Y.K=X.K
 e4:Y.mg=X.mg
 e5:Y.base=X.base
section
variable{X Y:Cx}{N W G:WM}{k:Nat}{x:Str}{p pos:Pos}{e:Expr}{es:WX}{m:Mx (WL)}{f:WL->MH->WZ}
def YE.n(y:YE Y X)(h:X.mg x=none):Y.mg x=none:=y.e4.symm▸h
def YE.c(y:YE Y X){a:WM}{F:WL->MH->WZ}{i:Nat}(c:Cal X x a F i):Cal Y x a F i:=c.at y.e1 y.e2 y.e3 y.e4 y.e5
def kV(g:Good X N W G k)(i:Nat)(a:N[i]?=J x:=by rfl):ME X (.Name x pos) (ao i):=AR g i a
def zy(g:Good X N W G k)(i:Nat)(a:N[i]?=J x:=by rfl)(j:W[i]?=J x:=by rfl):MG X (.Name x pos) (lR i):=xz g i a j
def Es{a b:Expr}{j i:Mx PV}(l:ME X a j)(u:ME X b i)(y:kX b:=by exact λ_ _=>rfl):ME X (.Subscript a b pos) (aH bz j i):=Ip l u y
def Ll{i:CmpOp}{f:PV->PV->MH->WZ}{a b:Expr}{l j:Mx PV}(y:B0 X (compareOp i) f)(u:ME X a l)(z:ME X b j)(B:behindInMarks i b=T:=by first | exact Fd _ | rfl):MT X (.Compare a [i] [b] pos) (mB (aH f l j)):=AK y u z B
def GX(g:Good X N W G k)(j:Nat){u:WM}{F:WL->MH->WZ}(C:Cal X x u F k)(i:MA X (e::es) m)(l:G[j]?=J x:=by rfl)(y:starEach (e::es) X.env=(T,eval e X.env)::starEach es X.env:=by rfl)(a:(backTo pos (starEach es X.env)).any (·.1)=T:=by rfl):ME X (.Call (.Name x p) (e::es) [] pos) (fR F m):=xW g l C i y a
def E7{id:String}(g:Good X N W G k)(j:Nat)(u:dg X (.builtin id) f)(y:X.mg x=none)(hv:bootBuiltins x=J (.builtin id))(i:MA X (e::es) m)(l:G[j]?=J x:=by rfl)(z:starEach (e::es) X.env=(T,eval e X.env)::starEach es X.env:=by rfl)(a:(backTo pos (starEach es X.env)).any (·.1)=T:=by rfl):ME X (.Call (.Name x p) (e::es) [] pos) (va f m):=wg g j l u y hv i z a
def RE{a:String}(g:Good X N W G k)(j:Nat)(y:dg X (.type a) f)(z:X.mg x=none)(hv:bootBuiltins x=J (.type a))(l:MA X (e::es) m)(u:G[j]?=J x:=by rfl)(B:starEach (e::es) X.env=(T,eval e X.env)::starEach es X.env:=by rfl)(i:(backTo pos (starEach es X.env)).any (·.1)=T:=by rfl):ME X (.Call (.Name x p) (e::es) [] pos) (va f m):=tT g j u y z hv l B i
def RF{z a:Expr}(g:Good X N W G k)(j:Nat)(y:X.mg "range"=none)(i:MA X [a] m)(l:G[j]?=J "range":=by rfl)(u:starEach [a] X.env=[(T,eval a X.env)]:=by rfl):MI X z (.Call (.Name "range" p) [a] [] pos) (d8 m):=t7 (g.gl _ (aO l)) y i u
def VJ{i:WX}{z:Nat}{y:Pos}{a:Expr}(g:Good X N W G k)(j:Nat)(C:X.mg "enumerate"=none)(l:MA X [a] m)(u:G[j]?=J (("enumerate":String):Str):=by rfl)(B:starEach [a] X.env=[(T,eval a X.env)]:=by rfl):MI X (.Tuple i z y) (.Call (.Name "enumerate" p) [a] [] pos) (vq m):=ye g u C l B
section
variable{tg iter elt:Expr}{ifs:WX}{scope sc:Scope}{mi:Mx MIt}{gt:Mg}{mt:Mx Bool}{me:Mx PV}
def RG(g:Good X N W G k)(l:X.env.scope=sc)(a frees u:WM)(fm:WQ)(C:MI X tg iter mi)(y:∀Y:Cx,YE Y X->Good Y (a++frees) a u k->MG Y tg gt/\FF Y ifs mt/\ME Y elt me)(O:scope.kind=.function:=by rfl)(M:fm.map (λi=>N[i]?)=frees.map J:=by rfl)(h:M2 scope sc a frees:=by decide +kernel)(nd:(a++frees).Nodup:=by decide +kernel)(j:∀x∈u,scope.names.lookup x=J .globalImplicit:=by decide +kernel)(dbg:∀x∈(a++frees)++u,(x==("__debug__":Str))=T/\(x==("__classdict__":Str))=T/\x≠"__name__":=by decide +kernel)(H:∀x,foldedSetIterable iter X.env x=pure x:=by exact λ_=>rfl):ME X (.ListComp elt [⟨tg,iter,ifs,0⟩] scope pos) (ce a.length fm mi gt mt me) :=
 rQ g (jk l O M h) nd j dbg C (λY L z B F E _ g=>y Y ⟨L,z,B,F,E⟩ g) H
def VL{j py:Pos}{y:Str}(g:Good X N W G k)(l:X.env.scope=sc)(i:Nat)(a frees C:WM)(fm:WQ)(L:MI X tg iter mi)(E:∀Y:Cx,YE Y X->Good Y (a++frees) a C k->MG Y tg gt/\FF Y ifs mt/\ME Y elt me)(B:∀env:Env,env.scope=sc->swapsWith (.ListComp elt [⟨tg,iter,ifs,0⟩] scope pos) (J (.Name y py)) j.line env=pure I:=by(intro env h;cases env;cases h;rfl))(u:N[i]?=J y:=by rfl)(S:W[i]?=J y:=by rfl)(U:scope.kind=.function:=by rfl)(R:fm.map (λi=>N[i]?)=frees.map J:=by rfl)(h:M2 scope sc a frees:=by decide +kernel)(nd:(a++frees).Nodup:=by decide +kernel)(z:∀x∈C,scope.names.lookup x=J .globalImplicit:=by decide +kernel)(dbg:∀x∈(a++frees)++C,(x==("__debug__":Str))=T/\(x==("__classdict__":Str))=T/\x≠"__name__":=by decide +kernel)(P:∀x,foldedSetIterable iter X.env x=pure x:=by exact λ_=>rfl):MS X (.Assign [.Name y py] (.ListComp elt [⟨tg,iter,ifs,0⟩] scope pos) j) (b9 i (ce a.length fm mi gt mt me)) :=
 rS g i u S (B X.env l) (jk l U R h) nd z dbg L (λY Q F H O M _ g=>E Y ⟨Q,F,H,O,M⟩ g) P
def Wl(g:Good X N W G k)(j:X.env.scope=sc)(a frees u:WM)(fm:WQ)(C:MI X tg iter mi)(y:∀Y:Cx,YE Y X->Y.env.scope=Lk scope sc->Good Y (a++frees) a u k->MG Y tg gt/\FF Y ifs mt/\ME Y elt me)(P:scope.kind=.function:=by rfl)(O:fm.map (λi=>N[i]?)=frees.map J:=by rfl)(h:M2 scope sc a frees:=by decide +kernel)(nd:(a++frees).Nodup:=by decide +kernel)(l:∀x∈u,scope.names.lookup x=J .globalImplicit:=by decide +kernel)(dbg:∀x∈(a++frees)++u,(x==("__debug__":Str))=T/\(x==("__classdict__":Str))=T/\x≠"__name__":=by decide +kernel)(H:∀x,foldedSetIterable iter X.env x=pure x:=by exact λ_=>rfl):ME X (.ListComp elt [⟨tg,iter,ifs,0⟩] scope pos) (ce a.length fm mi gt mt me) :=
 rQ g (jk j P O h) nd l dbg C (λY L z B F E M g=>y Y ⟨L,z,B,F,E⟩ (M.trans (qU j)) g) H
def Wm{j py:Pos}{y:Str}(g:Good X N W G k)(l:X.env.scope=sc)(i:Nat)(a frees C:WM)(fm:WQ)(L:MI X tg iter mi)(E:∀Y:Cx,YE Y X->Y.env.scope=Lk scope sc->Good Y (a++frees) a C k->MG Y tg gt/\FF Y ifs mt/\ME Y elt me)(B:∀env:Env,env.scope=sc->swapsWith (.ListComp elt [⟨tg,iter,ifs,0⟩] scope pos) (J (.Name y py)) j.line env=pure I:=by(intro env h;cases env;cases h;rfl))(u:N[i]?=J y:=by rfl)(U:W[i]?=J y:=by rfl)(Z:scope.kind=.function:=by rfl)(S:fm.map (λi=>N[i]?)=frees.map J:=by rfl)(h:M2 scope sc a frees:=by decide +kernel)(nd:(a++frees).Nodup:=by decide +kernel)(z:∀x∈C,scope.names.lookup x=J .globalImplicit:=by decide +kernel)(dbg:∀x∈(a++frees)++C,(x==("__debug__":Str))=T/\(x==("__classdict__":Str))=T/\x≠"__name__":=by decide +kernel)(P:∀x,foldedSetIterable iter X.env x=pure x:=by exact λ_=>rfl):MS X (.Assign [.Name y py] (.ListComp elt [⟨tg,iter,ifs,0⟩] scope pos) j) (b9 i (ce a.length fm mi gt mt me)) :=
 rS g i u U (B X.env l) (jk l Z S h) nd z dbg L (λY Q F H O M R g=>E Y ⟨Q,F,H,O,M⟩ (R.trans (qU l)) g) P
end
end
abbrev vQ:=@PyProof.Rows.Boot.«abs»
abbrev rm:=@PyProof.Rows.Boot.«min»
abbrev Ar:=@PyProof.Rows.Boot.«max»
abbrev Bs:=@PyProof.Rows.Boot.«int»
abbrev nW:=@PyProof.Rows.Boot.«len»
abbrev xf:=@PyProof.Rows.Boot.«list»
abbrev js:=@PyProof.Rows.Boot.«tuple»
abbrev AE:=@PyProof.Rows.Boot.«all»
abbrev j0:=@PyProof.Rows.Boot.«sorted»
abbrev GY:=@PyProof.Rows.Boot.«bool»
abbrev GZ:=@PyProof.Rows.Boot.«dict»
abbrev tE:=@PySem.F.slot_list_append
abbrev t8:=@PySem.F.type_list_append
abbrev AN:=@PySem.F.slot_list_extend
abbrev Ay:=@PySem.F.type_list_extend
abbrev AV:=@PySem.F.slot_list_insert
abbrev BE:=@PySem.F.type_list_insert
end MM
namespace PU
open MM
open L2 (vR o_ jq)
noncomputable section
end
noncomputable section
end
noncomputable section
end
end PU
namespace PU
open MM L2
noncomputable section
inductive VwD(h:MH)(fz:Bool)(ks:WN)(P:WL->Prop)(v:PV):Prop
 |mk(n:Nat)(xs:WL)(e:v=.loc n)(g:h[n]?=J (.dic fz ks xs))(r:P xs):VwD h fz ks P v
def Vw.dic(w:Vw q h L O (.dic fz ks ds) v):VwD h fz ks (Rps q h O ds) v:=by
 rcases w with⟨n,xs,e,_,g,r⟩|⟨n,f,xs,a,e,e1,_,_,g,r⟩
 .exact⟨n,xs,e,g,r⟩
 .cases f with
  |none=>cases e
  |some _=>cases e;exact⟨n,xs,e1,g,r⟩
def VwD.of(w:VwD h fz ks P v):∃xs,dh h v=J (fz,ks,xs)/\P xs:=by obtain⟨n,xs,rfl,g,r⟩:=w;exact⟨xs,by simp only[dh,g],r⟩
def vG(r:Rps q h O f xs)(i:Int):match vp ks f i with
  |some d=>∃v,vp ks xs i=J v/\Rp q h O d v
  |none=>vp ks xs i=Y:=by
 induction ks generalizing f xs with
 |nil=>cases f<;>cases xs<;>rfl
 |cons k ks j =>
  cases f with
  |nil=>rw[show xs=[]from r];rfl
  |cons d f =>
   obtain⟨x,t,rfl,a,b⟩:=r;unfold vp;by_cases e:k=i
   .simp only[c_ e];exact⟨_,rfl,a⟩
   .simp only[g_ e];exact j b
def G0(r:Rps q h O f xs)(w:Rp q h O d v)(i:Int):(km ks f i d).1=(km ks xs i v).1/\Rps q h O (km ks f i d).2 (km ks xs i v).2:=by
 induction ks generalizing f xs with
 |nil=>exact⟨by simp[km],by simpa using⟨v,[],rfl,w,rfl⟩⟩
 |cons k ks u =>
  cases f with
  |nil=>rw[show xs=[]from r];exact⟨rfl,v,[],rfl,w,rfl⟩
  |cons y f =>
   obtain⟨x,t,rfl,a,b⟩:=r;unfold km;by_cases e:k=i
   .simp only[c_ e];exact⟨trivial,v,t,rfl,w,b⟩
   .simp only[g_ e];obtain⟨j,l⟩:=u b;exact⟨by rw[j],x,_,rfl,a,l⟩
def G1(neg:Bool):zM where
 m:=uv neg
 p:=λa b=>match a,b with
  |.int i,.dic _ f j=>J (.bl (if neg then !(vp f j i).isSome else(vp f j i).isSome))
  |_,_=>Y
 fr:=I
 ok {q h L O a x b y d} bd wa wb e:=by
  cases a with
  |int i =>
   cases b with
   |dic fz f j =>
    cases e;rw[wa.int];obtain⟨xs,e1,r⟩:=wb.dic.of;have z:(vp f j i).isSome=(vp f xs i).isSome:=by
     have:=vG (ks:=f) r i
     cases e2:vp f j i with
     |none=>rw[e2]at this;rw[this];rfl
     |some d=>rw[e2]at this;obtain⟨v,e3,_⟩:=this;rw[e3];rfl
    simp only[uv,e1];rw[z];exact CK
   |_=>cases e
  |_=>cases e
def og:zM where
 m:=oT
 p:=λa b=>match a,b with
  |.dic _ f j,.int i=>vp f j i
  |_,_=>Y
 fr:=T
 ok {q h L O a x b y d} bd wa wb e:=by
  cases a with
  |dic fz f j =>
   cases b with
   |int i =>
    rw[wb.int];obtain⟨xs,e1,r⟩:=wa.dic.of;have z:=vG (ks:=f) r i;rw[show vp f j i=J d from e]at z;obtain⟨v,e3,l⟩:=z;simp only[oT,e1,e3];exact La l λz=>by cases z
   |_=>cases e
  |_=>cases e
def tZ:∀{f:List (Int×D)}{i:List (Int×PV)},Rkv q h O f i->i.map (·.1)=f.map (·.1)/\Rps q h O (f.map (·.2)) (i.map (·.2))
 |[],i,r=>by rw[show i=[]from r];exact⟨rfl,rfl⟩
 |kv::f,i,r=>by
  obtain⟨y,j,rfl,e,a,b⟩:=r;obtain⟨u,l⟩:=tZ b;exact⟨by simp[u,<-e],_,_,rfl,a,l⟩
variable{ws:WQ}
def EO(a:Xe ws)(j:Xs ws):Xe ws where
 m:=Vp a.m j.m
 p:=λenv s=>(a.p env s).bind λx H=>match x with
  |.dic _ f u=>(j.p env H).bind λy C=>match y with
   |[.int i,d]=>.ok ((vp f u i).getD d) C
   |_=>.bad
  |_=>.bad
 fz:=j.fz
 fr:=T
 ok {q h L B O Z env s} c:=by
  refine(a.ok c).bind λx v h1 H k1 p1 F=>?_;obtain⟨w,_,_⟩:=F
  cases x with
  |dic fz f u =>
   have S:=c.kb k1 p1;obtain⟨n,xs,rfl,g,r⟩:=w.dic;have nq:n≠q:=by
    rcases w with⟨n',E,e,no,_⟩|⟨n',kd,E,U,_,e,_,hn,_⟩
    .cases e;exact λz=>no (z▸c.pO)
    .cases e;have:=c.pL;lia
   have e1:dh h1 (.loc n)=J (fz,f,xs):=by simp only[dh,g]
   dsimp only;rw[e1];dsimp only;refine(j.ok S).bind λy vs l C R P G=>?_;obtain⟨w2,X⟩:=G;have g2:l[n]?=J (.dic fz f xs):=(R.keep n (aK g) nq).trans g;have e2:dh l (.loc n)=J (fz,f,xs):=by simp only[dh,g2]
   have W:=r.mv (R.mv c.pO);by_cases M:∃i d,y=[.int i,d]
   .obtain⟨i,d,rfl⟩:=M;obtain⟨v1,v2,rfl,u1,u2⟩:=Lb w2;rw[u1.int,e2];dsimp only;have z:=vG (ks:=f) W i
    cases e3:vp f u i with
    |none =>
     rw[e3]at z;dsimp only at z;rw[z];refine⟨_,l,rfl,KB.refl _ _,P,u2,λzz=>?_,λz=>by cases z⟩;obtain⟨_,_,e5,_,_,_,e6,r6,_⟩:=X zz;cases e5;cases e6;exact r6
    |some d' =>
     rw[e3]at z;obtain⟨v',e4,Q⟩:=z;rw[e4];exact⟨_,l,rfl,KB.refl _ _,P,.inl Q,λ_=>Q,λz=>by cases z⟩
   .have:(match y with|[.int i,d]=>PR.ok ((vp f u i).getD d) C|_=>.bad)=PR.bad:=by
     split
     .exact absurd ⟨_,_,rfl⟩ M
     .rfl
    rw[this];trivial
  |_=>trivial
@[simp]theorem qm:(EO a as).p env s=(a.p env s).bind λx s1=>match x with
  |.dic _ ks ds=>(as.p env s1).bind λy s2=>match y with
   |[.int i,d]=>.ok ((vp ks ds i).getD d) s2
   |_=>.bad
  |_=>.bad:=rfl
def mJ(i:Nat)(u e:aC->e_->PR D)(env:aC)(s:e_):PS:=match e env s with
 |.ok v l=>(match u env l with
  |.ok (.int j) y=>(match env[i]? with
   |some (J (.dic T a f))=>if a.length<100000 then .nx (env.set i (J (.dic T (km a f j v).1 (km a f j v).2))) y else .bad
   |_=>.bad)
  |_=>.bad)
 |_=>.bad
def Cc(e1:e env s=.ok v s1)(e2:ix env s1=.ok (.int j) s2)(e3:env[i]?=J (J (.dic T ks ds)))(e4:ks.length<100000):
  mJ i ix e env s=.nx (env.set i (J (.dic T (km ks ds j v).1 (km ks ds j v).2))) s2:=by
 simp only[mJ,e1,e2,e3];rw[c_ e4]
def Bq:mJ i ix e env s=.bad\/∃v l j u a f,e env s=.ok v l/\ix env l=.ok (.int j) u/\env[i]?=J (J (.dic T a f))/\a.length<100000/\mJ i ix e env s=.nx (env.set i (J (.dic T (km a f j v).1 (km a f j v).2))) u:=by
 unfold mJ;split
 .rename_i v l e1
  split
  .rename_i j u e2
   split
   .rename_i a f e3
    by_cases h:a.length<100000
    .rw[c_ h];exact .inr ⟨v,l,j,u,a,f,e1,e2,e3,h,rfl⟩
    .rw[g_ h];exact .inl rfl
   .exact .inl rfl
  .exact .inl rfl
 .exact .inl rfl
def oB(i:Nat)(C e:Xe ws)(hi:ws.contains i=I:=by exact ys rfl)(hz:e.fz=I:=by exact ys rfl):Xd ws where
 m:=lI (ao i) C.m e.m
 p:=mJ i C.p e.p
 fr:=I
 ok {q h L B O Z env s} c d:=by
  rcases Bq (i:=i) (e:=e.p) (ix:=C.p) (env:=env) (s:=s)with z|⟨v,s1,j,s2,f,W,e1,e2,e3,e4,z⟩
  .rw[z];trivial
  .rw[z];have u:i∈ws:=by simpa using hi
   have M:=e.ok c;rw[e1]at M;obtain⟨x,X,f1,l,E,_,rx,_⟩:=M;have Q:=c.kb l E;have R:=C.ok Q;rw[e2]at R;obtain⟨y,S,f2,a,F,w,_,_⟩:=R;have P:=Q.kb a F;obtain⟨G,kd,xs,ac,e0,U,b1,b2,g,r0⟩:=P.sr.ow i _ e3 u
   cases kd with
   |none=>cases e0
   |some ai =>
    cases e0;replace g:S[G]?=J (.dic T f xs):=g;have hy:=w.int;subst hy;have em:ao i Z X=.ok (.loc G) X:=by simp[ao,U]
    obtain⟨p1,p2⟩:=G0 (ks:=f) r0 ((rx hz).mv (a.mv c.pO)) j;have nx:=vO (kd:=J (km f W j v).1) P d u e3 U p2;refine⟨Z,S.set G (.dic T (km f W j v).1 (km f xs j x).2),?_,nx.after ((l.trans a).stp c)⟩;have H:f.length<sizeLine:=by have:=eR;lia
    unfold lI zv;rw[f1];simp only[em,f2,dh,g];rw[c_ H,p1]
def G2{hi hz}:(oB i ix e hi hz).p env s=mJ i ix.p e.p env s:=rfl
end
end PU
namespace MM
open PySem.Spec PyProof.Rows L2
section
variable{X:Cx}{a b:Expr}{pos:Pos}{k:Nat}
def bV:Expr->Bool
 |.Starred _ _=>T
 |_=>I
def bp(h:bV e=I):starEach (e::es) env=(T,eval e env)::starEach es env:=by cases e<;>first | rfl | cases h
def Lm(f:ME X e m)(hr:MA X es ms)(i:bV e=I:=by rfl):MA X (e::es) (aq m ms):=aJ f hr (bp i)
structure l7(X:Cx)(e:Expr)(m:Mx PV):Prop where
 h:ME X e m
structure Dn(X:Cx)(es:WX)(ms:Mx (WL)):Prop where
 h:MA X es ms
structure z_(X:Cx)(st:Stmt)(m:n_):Prop where
 h:MS X st m
structure ng(X:Cx)(st:List Stmt)(m:n_):Prop where
 h:DT X st m
section
variable{e:Expr}{es:WX}{m ma mb:Mx PV}{ms:Mx (WL)}{st:Stmt}{rest:List Stmt}{u v:n_}{f:PV->PV->MH->WZ}{N W G:WM}{x:Str}
def cr:Dn X [] hG:=⟨aW⟩
def be(i:l7 X e m)(hr:Dn X es ms)(j:bV e=I:=by rfl):Dn X (e::es) (aq m ms):=⟨Lm i.h hr.h j⟩
def vr(h:ME X e m):l7 X e m:=⟨h⟩
def TF(h:Dn X es ms):l7 X (.List es pos) (iU ms):=⟨Aa h.h⟩
def EH(h:Dn X es ms):l7 X (.Tuple es j pos) (cR ms):=⟨Ks h.h⟩
def DP(h:MS X st u):z_ X st u:=⟨h⟩
def IH(g:Good X N W G k)(i:Nat){j:Pos}(B:l7 X e m)(l:N[i]?=J x:=by rfl)(z:W[i]?=J x:=by rfl)(y:swapsWith e (J (.Name x j)) pos.line X.env=pure T:=by rfl):
  z_ X (.Assign [.Name x j] e pos) (b9 i m):=⟨vU g i l z B.h y⟩
def FI(i:l7 X e m):z_ X (.Return (J e) pos) (dy m):=⟨Kt i.h⟩
def DV(h:z_ X st u):ng X [st] u:=⟨F_ h.h⟩
def Ed(j:z_ X st u)(i:ng X rest v):ng X (st::rest) (cD u v):=⟨Ce j.h i.h⟩
end
end
end MM
namespace PU
open MM
noncomputable section
end
end PU
namespace MM
open PySem.Spec PyProof.Rows L2 SetT SortT
end MM
namespace PU
open MM SetT
noncomputable section
end
end PU
namespace MM
open PySem.Spec PyProof.Rows L2
open PU (Xe Xs Xt Xi Xg IA Xo Xd Rx zM DU MY IB OpR Fn aa xC af y7 a_ ae m_ az d9 bt GC xB bQ kH CV mL fu GD oV K6 rB bg bT bc h8 p6 ki p_ aG i_ aU mQ ut sw aP eO cE K_ E3 pQ bA IC GK GL GN GW vM v8 EO oB C1)
structure EU(X:Cx)(e:Expr)(m:Mx Bool):Prop where
 h:MT X e m
structure Ln(X:Cx)(e:Expr)(m:Mx Bool):Prop where
 h:MW X e m
structure II(X:Cx)(tg e:Expr)(m:Mx MIt):Prop where
 h:MI X tg e m
structure OQ(X:Cx)(e:Expr)(m:Mg):Prop where
 h:MG X e m
structure RI(X:Cx)(e:WX)(m:Ga):Prop where
 h:N3 X e m
structure TH(X:Cx)(e:WX)(m:Mx Bool):Prop where
 h:FF X e m
structure RJ(X:Cx)(e:Option Expr)(m:Mx (WW)):Prop where
 h:MO' X e m
structure OJ(X:Cx)(r:Value->Value->Sem Value)(o:zM):Prop where
 h:B0 X r o.m
def G3(a:Scope):WM:=(a.names.filter λy=>match y.2 with|.globalImplicit=>I|_=>T).map (·.1)
abbrev gm(sc:Scope)(x:Str):Prop:=x∈G3 sc
def IJ:Expr->WM
 |.Name x _=>[x]
 |.Tuple a _ _=>a.flatMap λe=>match e with
  |.Name x _=>[x]
  |.Tuple a _ _=>a.flatMap λe=>match e with
   |.Name x _=>[x]
   |_=>[]
  |_=>[]
 |_=>[]
def M6(N:WM)(fm:WQ):WM:=fm.filterMap (N[·]?)
structure Wc(X:Cx)(P:Program)(w:World)(K:hR)(mg:WF)(base:Heap)(N W:WM)(k:Nat)(sc:Scope):Prop where
 g:Good X N W (G3 sc) k
 e:EE X P w K mg base
 s:X.env.scope=sc
section
variable{X Y:Cx}{P:Program}{w:World}{K:hR}{mg:WF}{base:Heap}{N W:WM}{k:Nat}{sc:Scope}{ws:WQ}{x y:Str}{p p' pos spos:Pos}{e a b d tg:Expr}{es:WX}{i j:Nat}{st:Stmt}{rest body:List Stmt}{xa xb xd:Xe ws}{ta tb:Xt ws}{sa:Xs ws}{da db:Xd ws}
def Wc.gj(c:Wc X P w K mg base N W k sc)(h:gm sc x):∃j:Nat,(G3 sc)[j]?=J x:=List.getElem?_of_mem h
def Wc.n(c:Wc X P w K mg base N W k sc)(z:Zn K x):X.mg x=none:=c.e.n z
def OS{i:Int}:l7 X (.Constant (.int i) j pos) (xC (ws:=ws) (.int i)).m:=⟨aL⟩
def TJ{i:Bool}:l7 X (.Constant (.bool i) j pos) (xC (ws:=ws) (.bl i)).m:=⟨NV⟩
def OT:l7 X (.Constant .none j pos) (xC (ws:=ws) .non).m:=⟨J_⟩
def OU{f:Operator}{o:zM}(u:OJ X (binaryOp f) o)(l:l7 X a xa.m)(z:l7 X b xb.m):l7 X (.BinOp a f b pos) (af o xa xb).m:=⟨aV u.h l.h z.h⟩
def OV{f:CmpOp}{o:zM}(u:OJ X (compareOp f) o)(l:l7 X a xa.m)(z:l7 X b xb.m)(B:behindInMarks f b=T):l7 X (.Compare a [f] [b] pos) (af o xa xb).m:=⟨Ka u.h l.h z.h B⟩
def TK(f:l7 X a xa.m)(u:l7 X b xb.m)(l:kX b):l7 X (.Subscript a b pos) (af PU.h_ xa xb).m:=⟨Ip f.h u.h l⟩
def OW(f:l7 X a xa.m):l7 X (.UnaryOp .USub a pos) (y7 PU.sy xa).m:=⟨NX KC f.h⟩
def Lo(f:l7 X a xa.m):l7 X (.UnaryOp .Not a pos) (oV xa).m:=⟨Kl f.h⟩
def G4{u f:CmpOp}{o z:zM}(C:OJ X (compareOp u) o)(l:OJ X (compareOp f) z)(B:l7 X a xa.m)(E:l7 X b xb.m)(hd:l7 X d xd.m)(F:lastMarks [u,f] [b,d]=T):l7 X (.Compare a [u,f] [b,d] pos) (rB o z xa xb xd).m:=⟨Cb C.h l.h B.h E.h hd.h F⟩
def OX{l:BoolOp}(f:l7 X a xa.m):l7 X (.BoolOp l [a] pos) xa.m:=⟨Kj f.h⟩
def Lp(f:l7 X a xa.m)(l:l7 X (.BoolOp .And (b::es) pos) xb.m):l7 X (.BoolOp .And (a::b::es) pos) (fu xa xb).m:=⟨Kk f.h l.h⟩
def OY(f:l7 X a xa.m)(l:l7 X (.BoolOp .Or (b::es) pos) xb.m):l7 X (.BoolOp .Or (a::b::es) pos) (GD xa xb).m:=⟨N0 f.h l.h⟩
def OZ{hz}(h:Dn X es sa.m):l7 X (.Tuple es j pos) (bt sa hz).m:=EH h
def O0{hz}(h:Dn X es sa.m):l7 X (.List es pos) (d9 sa hz).m:=TF h
def O3:l7 X (.Dict [] [] pos) (GC (ws:=ws)).m:=⟨yz⟩
def TL{lo f:Option Expr}{u l:Xo ws}(z:l7 X a xa.m)(B:RJ X lo u.m)(C:RJ X f l.m):l7 X (.Subscript a (.Slice lo f none p) pos) (GN xa u l).m:=⟨Iy z.h B.h C.h⟩
def TM:RJ X none (GK (ws:=ws)).m:=⟨xq⟩
def TN(f:l7 X a xa.m):RJ X (J a) (GL xa).m:=⟨yb f.h⟩
def O4:Dn X [] (a_ (ws:=ws)).m:=cr
def Lq(f:l7 X e xa.m)(u:Dn X es sa.m)(l:bV e=I):Dn X (e::es) (ae xa sa).m:=be f u l
def O5:OJ X (binaryOp .Add) PU.c8:=⟨cY⟩
def O6:OJ X (binaryOp .Sub) PU.mD:=⟨KA⟩
def O7:OJ X (binaryOp .Mult) PU.b8:=⟨iJ⟩
def O9(f:l7 X a xa.m)(u:l7 X b xb.m)(l:kX b):l7 X (.Subscript a b pos) (af PU.og xa xb).m:=⟨Bo f.h u.h l⟩
def O_:OJ X (binaryOp .Mod) PU.iV:=⟨eY⟩
def Pa:OJ X (binaryOp .Pow) PU.uF:=⟨uI⟩
def TQ:OJ X (compareOp .Lt) PU.GH:=⟨Im⟩
def TR:OJ X (compareOp .LtE) PU.OE:=⟨N6⟩
def TU:OJ X (compareOp .Gt) PU.OF:=⟨Io⟩
def TV:OJ X (compareOp .Is) (PU.Ea T):=⟨N8⟩
def Pc:OJ X (compareOp .IsNot) (PU.Ea I):=⟨KD⟩
section
variable(c:Wc X P w K mg base N W k sc)
include c
def w_var(f:N[i]?=J x):l7 X (.Name x pos) (aa (ws:=ws) i).m:=⟨AR c.g i f⟩
def TW:OJ X (binaryOp .FloorDiv) PU.GJ:=⟨yF c.g.room⟩
def Ph{i j:Int}(v:nB K mg x i j)(l:gm sc x):l7 X (.Name x pos) (C1 (ws:=ws) i j).m :=
 let⟨_,f⟩:=c.gj l
 ⟨uK c.g f (by rw[c.e.e3,c.e.e4];exact v)⟩
def TX:OJ X (compareOp .Eq) PU.Dl:=⟨Ik c.g.room⟩
def TY:OJ X (compareOp .NotEq) PU.xg:=⟨Il c.g.room⟩
def TZ:OJ X (compareOp .In) (PU.EG T):=⟨Ix c.g.room T⟩
def Pj:OJ X (compareOp .NotIn) (PU.EG I):=⟨Ix c.g.room I⟩
end
def ja{env:Env}:∀{es:WX},es.all bV=I->(backTo pos (starEach es env)).any (·.1)=T
 |[],_=>rfl
 |e::es,h=>by
  have f:bV e=I/\es.all bV=I:=by simpa using h
  have:=ja (env:=env) f.2
  rw[bp f.1];simpa [backTo]using this
section
variable(c:Wc X P w K mg base N W k sc)
include c
def Lr{F:Fn}{E:WM}{hz}(u:Dn X (e::es) sa.m)(f:FnAt P w K mg base x E F.m i)(h:i<=k)(B:gm sc x)(C:(e::es).all bV=I):l7 X (.Call (.Name x p) (e::es) [] pos) (az F sa hz).m :=
 let⟨_,z⟩:=c.gj B
 have l:bV e=I/\es.all bV=I:=by simpa using C
 ⟨xW c.g z (f.c c.e h) u.h (bp l.1) (ja l.2)⟩
end
inductive BB(X:Cx)(x:Str)(o:DU):Prop
 |fn(id:String)(f:WL->MH->WZ)(h:bootBuiltins x=J (.builtin id))(c:dg X (.builtin id) f)(e:o.k=λxs h=>(f xs h).ne:=by rfl):BB X x o
 |ty(T:String)(f:WL->MH->WZ)(h:bootBuiltins x=J (.type T))(c:dg X (.type T) f)(e:o.k=λxs h=>(f xs h).ne:=by rfl):BB X x o
def Pk:BB X "abs" PU.nF:=.fn _ _ vQ uS
def Po:BB X "int" PU.qe:=.ty _ _ Bs KG
def Pp:BB X "len" PU.b7:=.fn _ _ nW oj
def Ls:BB X "list" PU.gH:=.ty _ _ xf Gn
def G5:BB X "tuple" PU.dE:=.ty _ _ js lE
def DD:BB X "sorted" PU.jl:=.fn _ _ j0 tN
section
variable(c:Wc X P w K mg base N W k sc)
include c
def Pq{o:DU}(B:BB X x o)(u:Dn X (e::es) sa.m)(z:Zn K x)(E:gm sc x)(F:(e::es).all bV=I):l7 X (.Call (.Name x p) (e::es) [] pos) (m_ o sa).m:=by
 obtain⟨j,C⟩:=c.gj E;have l:bV e=I/\es.all bV=I:=by simpa using F
 refine⟨?_⟩;show ME X _ (λZ h=>(sa.m Z h).bind o.k)
 cases B with
 |fn id f h d q=>rw[q];exact wg c.g j C d (c.n z) h u.h (bp l.1) (ja l.2)
 |ty G f h d q=>rw[q];exact tT c.g j C d (c.n z) h u.h (bp l.1) (ja l.2)
def Pr:BB X "min" PU.oo:=.fn _ _ rm (qN c.g)
def Ps:BB X "max" PU.vF:=.fn _ _ Ar (Ak c.g)
def Pu:BB X "all" PU.ss:=.fn _ _ AE (AW c.g)
def T0(f:Dn X [a] sa.m)(z1:Zn K "list")(u:Zn K "range")(B:gm sc "list")(z:gm sc "range")(l:bV a=I):l7 X (.Call (.Name "list" p) [.Call (.Name "range" p') [a] [] spos] [] pos) (m_ PU.Lc sa).m :=
 let⟨_,i⟩:=c.gj B;let⟨_,j⟩:=c.gj z
 ⟨vJ c.g i (c.n z1) j (c.n u) f.h (bp l)⟩
end
structure BT(x:Str)(T:String):Prop where
 h:bootBuiltins x=J (.type T)
 o:Gg T
def Pw:BT "int" "int":=⟨Bs,Gh⟩
def Lu:BT "bool" "bool":=⟨GY,Df⟩
def G6:BT "tuple" "tuple":=⟨js,Bv⟩
def Lv:BT "list" "list":=⟨xf,Ds⟩
section
variable(c:Wc X P w K mg base N W k sc)
include c
def Px{f:String}(B:BT x f)(l:l7 X a xa.m)(z1:Zn K "isinstance")(z:Zn K x)(E:gm sc "isinstance")(C:gm sc x)(u:bV a=I):l7 X (.Call (.Name "isinstance" p) [a,.Name x p'] [] pos) (y7 (PU.bL [f]) xa).m :=
 let⟨_,i⟩:=c.gj E;let⟨_,j⟩:=c.gj C
 ⟨KH c.g i (c.n z1) j (c.n z) B.h B.o l.h (bp u)⟩
def Lw{f u:String}{kt}{q E pt:Pos}(B:BT x f)(z:BT y u)(C:l7 X a xa.m)(z1:Zn K "isinstance")(G:Zn K x)(H:Zn K y)(M:gm sc "isinstance")(L:gm sc x)(O:gm sc y)(F:bV a=I):l7 X (.Call (.Name "isinstance" p) [a,.Tuple [.Name x q,.Name y E] kt pt] [] pos) (y7 (PU.bL [f,u]) xa).m :=
 let⟨_,i⟩:=c.gj M;let⟨_,j⟩:=c.gj L;let⟨_,l⟩:=c.gj O
 ⟨Gp c.g i (c.n z1) j (c.n G) B.h B.o l (c.n H) z.h z.o C.h (bp F)⟩
end
abbrev MJ(X:Cx)(name:Str)(f:Nat->WL->MH->WZ):Prop:=∃id,Slot "list" name id/\typeOf (.builtin id)=pure (.type "method_descriptor")/\MN X id (MV X f)
section
variable{name:Str}{f:Nat->WL->MH->WZ}{o:IB}{m:Mx PV}
def T1{l:Mx (WL)}(M:MJ X name f)(B:l7 X a m)(u:Dn X (e::es) l)(h:(((backTo pos (starEach (e::es) X.env)).all (λx=>!x.1)&&(backToKw pos (keywordEach [] X.env)).all (λx=>x.1.isSome)&&decide ((e::es).length+([]:List Keyword).length+(if([]:List Keyword).isEmpty then 0 else 1)<30))=I/\(p.endLine==pos.line)=I)/\attributeBase a name X.env (eval a X.env)=eval a X.env/\starEach (e::es) X.env=(T,eval e X.env)::starEach es X.env/\(backTo pos (starEach es X.env)).any (·.1)=T):l7 X (.Call (.Attribute a name p) (e::es) [] pos) (Iu f m l) :=
 let⟨_,x,y,z⟩:=M
 ⟨Iv x y z B.h u.h h.2.1 h.1.1 h.1.2 h.2.2.1 h.2.2.2⟩
def T4{hi hz}(h:l7 X e (Iu o.m (aa (ws:=ws) i).m sa.m))(l:swapsWith e none pos.line X.env=pure T):z_ X (.Expr e pos) (E3 o i sa hi hz).m:=⟨lh h.h l⟩
end
def C6:MJ X "append" PU.tr.m:=⟨_,tE,t8,tP⟩
def CQ:MJ X "extend" PU.Ec.m:=⟨_,AN,Ay,A6⟩
def Dq:MJ X "insert" PU.Ci.m:=⟨_,AV,BE,At⟩
def T5(f:l7 X a xa.m)(l:Dn X [b,d] sa.m)(h:(((backTo pos (starEach [b,d] X.env)).all (λx=>!x.1)&&(backToKw pos (keywordEach [] X.env)).all (λx=>x.1.isSome)&&decide ([b,d].length+([]:List Keyword).length+(if([]:List Keyword).isEmpty then 0 else 1)<30))=I/\(p.endLine==pos.line)=I)/\attributeBase a "get" X.env (eval a X.env)=eval a X.env/\starEach [b,d] X.env=(T,eval b X.env)::starEach [d] X.env/\(backTo pos (starEach [d] X.env)).any (·.1)=T):l7 X (.Call (.Attribute a "get" p) [b,d] [] pos) (EO xa sa).m:=⟨Ox f.h l.h h.2.1 h.1.1 h.1.2 h.2.2.1 h.2.2.2⟩
def Lx{f:CmpOp}{o:zM}(u:OJ X (compareOp f) o)(l:l7 X a xa.m)(z:l7 X b xb.m)(B:behindInMarks f b=T):EU X (.Compare a [f] [b] pos) (xB (af o xa xb)).m:=⟨AK u.h l.h z.h B⟩
def Ly(h:EU X a ta.m):EU X (.UnaryOp .Not a pos) (bQ ta).m:=⟨Kd h.h⟩
def T6{f:BoolOp}(h:Ln X (.BoolOp f es pos) ta.m):EU X (.BoolOp f es pos) ta.m:=⟨MW.mt h.h⟩
def Lz(h:EU X a ta.m):Ln X (.BoolOp .And [a] pos) ta.m:=⟨F9 h.h⟩
def Py(h:EU X a ta.m):Ln X (.BoolOp .Or [a] pos) ta.m:=⟨Kg h.h⟩
def w_and(h:EU X a ta.m)(f:Ln X (.BoolOp .And (b::es) pos) tb.m):Ln X (.BoolOp .And (a::b::es) pos) (kH ta tb).m:=⟨Kh h.h f.h⟩
def w_or(h:EU X a ta.m)(f:Ln X (.BoolOp .Or (b::es) pos) tb.m):Ln X (.BoolOp .Or (a::b::es) pos) (CV ta tb).m:=⟨NZ h.h f.h⟩
def Pz(h:l7 X e xa.m)(l:∀f,isTrue e X.env f=(do let v <-f;standAt e.pos;holding [v] (truthy v))):EU X e (GW xa).m:=⟨KZ h.h l⟩
def PB(h:l7 X e xa.m)(l:∀f,isTrue e X.env f=(do let v <-f;standAt e.pos;holding [v] (truthy v))):EU X e (xB xa).m:=⟨Kb h.h l⟩
def PC:TH X [] (mL (ws:=ws)).m:=⟨gf⟩
def PD(h:EU X a ta.m):TH X [a] ta.m:=⟨xI h.h⟩
def T7:RI X [] (p6 (ws:=ws)).m:=⟨ff⟩
def T8{f:Xg ws}{l:IA ws}(z:OQ X e f.m)(u:RI X es l.m)(B:(assignEach (e::es) X.env).map (·.2)=assign e X.env::(assignEach es X.env).map (·.2)):RI X (e::es) (ki f l).m:=⟨bn z.h u.h B⟩
def PF(h:l7 X a xa.m):II X tg a (bc xa).m:=⟨fH h.h⟩
section
variable(c:Wc X P w K mg base N W k sc)
include c
def T9{hi}(h:N[i]?=J x)(f:W[i]?=J x):OQ X (.Name x pos) (h8 (ws:=ws) i hi).m:=⟨xz c.g i h f⟩
def T_{l:IA ws}{n:Nat}(h:RI X es l.m)(u:(assignEach es X.env).length=n)(f:(assignEach es X.env).findIdx? (·.1)=none):OQ X (.Tuple es j pos) (p_ l n).m:=⟨gA c.g h.h u f⟩
def Ua{n:Nat}(h:Dn X [a] sa.m)(z:Zn K "enumerate")(l:gm sc "enumerate")(u:bV a=I):II X (.Tuple es n p) (.Call (.Name "enumerate" p') [a] [] pos) (bT PU.iE sa).m:=let⟨_,f⟩:=c.gj l;⟨ye c.g f (c.n z) h.h (bp u)⟩
def Ub{n:Nat}(h:Dn X [a,b] sa.m)(z:Zn K "zip")(l:gm sc "zip")(B:starEach [a,b] X.env=(T,eval a X.env)::starEach [b] X.env)(u:(backTo pos (starEach [b] X.env)).any (·.1)=T):II X (.Tuple es n p) (.Call (.Name "zip" p') [a,b] [] pos) (bT PU.iZ sa).m:=let⟨_,f⟩:=c.gj l;⟨KY c.g f (c.n z) h.h B u⟩
def PH(h:Dn X [a] sa.m)(z:Zn K "range")(f:gm sc "range")(l:bV a=I):II X tg (.Call (.Name "range" p) [a] [] pos) (bT PU.E6 sa).m:=⟨t7 (c.g.gl _ f) (c.n z) h.h (bp l)⟩
end
structure CB(Y:Cx)(tg elt:Expr)(ifs:WX)(gt:Mg)(mt:Mx Bool)(me:Mx PV):Prop where
 g:OQ Y tg gt
 t:TH Y ifs mt
 e:l7 Y elt me
section
variable{iter elt:Expr}{ifs:WX}{scope:Scope}{nv:Nat}{fm ws':WQ}{xi:Xi ws}{gt:Xg ws'}{xt:Xt ws'}{xe:Xe ws'}
abbrev VM(N:WM)(tg:Expr)(nv:Nat)(fm:WQ)(scope sc:Scope):Prop:=M2 scope sc (IJ tg) (M6 N fm)/\(IJ tg++M6 N fm).Nodup/\(∀x∈G3 (Lk scope sc),scope.names.lookup x=J .globalImplicit)/\(∀x∈(IJ tg++M6 N fm)++G3 (Lk scope sc),(x==("__debug__":Str))=T/\(x==("__classdict__":Str))=T/\x≠"__name__")/\fm.map (λi=>N[i]?)=(M6 N fm).map J/\(IJ tg).length=nv
section
variable(c:Wc X P w K mg base N W k sc)
include c
def LA{O:PU.EN nv fm ws=ws'}{G:xe.fz=I}(z:II X tg iter xi.m)(f:∀Y:Cx,Wc Y P w K mg base (IJ tg++M6 N fm) (IJ tg) k (Lk scope sc)->CB Y tg elt ifs gt.m xt.m xe.m)(Q:scope.kind=.function)(h:VM N tg nv fm scope sc)(E:∀x,foldedSetIterable iter X.env x=pure x):l7 X (.ListComp elt [⟨tg,iter,ifs,0⟩] scope pos) (bg nv fm xi gt xt xe O G).m:=by
 obtain⟨L,nd,hg,dbg,M,rfl⟩:=h;exact⟨rQ c.g (jk c.s Q M L) nd hg dbg z.h (λY F l u C B H g=>let q:=f Y ⟨g,⟨F.trans c.e.e1,l.trans c.e.e2,u.trans c.e.e3,C.trans c.e.e4,B.trans c.e.e5,c.e.b⟩,H.trans (qU c.s)⟩;⟨q.g.h,q.t.h,q.e.h⟩) E⟩
end
section
variable(c:Wc X P w K mg base N W k sc)(hsw:∀env:Env,env.scope=sc->swapsWith (.ListComp elt [⟨tg,iter,ifs,0⟩] scope pos) (some (.Name y p)) spos.line env=pure true)(hi:II X tg iter xi.m)(hY:∀Y:Cx,Wc Y P w K mg base (IJ tg++M6 N fm) (IJ tg) k (Lk scope sc)->CB Y tg elt ifs gt.m xt.m xe.m)(hyi:N[i]?=some y)(hyw:W[i]?=some y)(h1:scope.kind=.function)(h:VM N tg nv fm scope sc)(hs:∀x,foldedSetIterable iter X.env x=pure x)
include hsw hi hY c hyi hyw h1 h hs
def xp:z_ X (.Assign [.Name y p] (.ListComp elt [⟨tg,iter,ifs,0⟩] scope pos) spos) (b9 i (ce nv fm xi.m gt.m xt.m xe.m)):=by obtain⟨B,nd,hg,dbg,C,rfl⟩:=h;exact⟨rS c.g i hyi hyw (hsw X.env c.s) (jk c.s h1 C B) nd hg dbg hi.h (λY l F u E z f g=>let q:=hY Y ⟨g,⟨l.trans c.e.e1,F.trans c.e.e2,u.trans c.e.e3,E.trans c.e.e4,z.trans c.e.e5,c.e.b⟩,f.trans (qU c.s)⟩;⟨q.g.h,q.t.h,q.e.h⟩) hs⟩
def LB{l:PU.EN nv fm ws=ws'}{f:xe.fz=I}{hi' hz'}:z_ X (.Assign [.Name y p] (.ListComp elt [⟨tg,iter,ifs,0⟩] scope pos) spos) (aP i (bg nv fm xi gt xt xe l f) hi' hz').m:=xp c hsw hi hY hyi hyw h1 h hs
def G7{l:PU.EN nv fm ws=ws'}{f:xe.fz=I}{hi' hz'}:z_ X (.Assign [.Name y p] (.ListComp elt [⟨tg,iter,ifs,0⟩] scope pos) spos) (eO i (bg nv fm xi gt xt xe l f) hi' hz').m:=xp c hsw hi hY hyi hyw h1 h hs
end
end
def Uc:ng X [] (i_ (ws:=ws)).m:=⟨lb⟩
def gE(h:z_ X st da.m):ng X [st] da.m:=DV h
def cS(l:z_ X st da.m)(f:ng X rest db.m):ng X (st::rest) (aG da db).m:=Ed l f
def LC{hi hz}(z:l7 X e xa.m)(l:l7 X a (aa (ws:=ws) i).m)(f:l7 X b xb.m)(u:swapsWith e (J (.Subscript a b p)) pos.line X.env=pure T):z_ X (.Assign [.Subscript a b p] e pos) (oB i xb xa hi hz).m:=⟨GA l.h f.h z.h u⟩
def PJ(h:l7 X e xa.m):z_ X (.Return (J e) pos) (aU xa).m:=FI h
def LD{hi}(h:l7 X e (aa (ws:=ws) i).m):z_ X (.Return (J e) pos) (mQ (ws:=ws) i hi).m:=FI h
def LF(h:l7 X e xa.m)(f:swapsWith e none pos.line X.env=pure T):z_ X (.Expr e pos) (ut xa).m:=⟨lh h.h f⟩
def Ud(l:EU X e ta.m)(f:ng X body da.m)(u:ng X rest db.m):z_ X (.If e body rest pos) (sw ta da db).m:=⟨o8 l.h f.h u.h⟩
def PK:z_ X st (v8 (ws:=ws)).m:=⟨Lj⟩
def w_sub{hi hz}(F:l7 X e xa.m)(u:l7 X a (aa (ws:=ws) i).m)(z:l7 X b xb.m)(l:∀v,assign (.Subscript a b p) X.env v=(do
   let ov <-holding [v] (eval a X.env)
   let f <-holding [v,ov] (eval b X.env)
   standAt p
   holding [v,ov,f] (setItem ov f v)
   release [v,ov,f] []))(E:swapsWithSole [.Subscript a b p] e pos.line X.env=pure T)(C:swappedStores [.Subscript a b p] e X.env=pure none)(B:(assignEach [.Subscript a b p] X.env).map (·.2)=[assign (.Subscript a b p) X.env]):z_ X (.Assign [.Subscript a b p] e pos) (pQ i xa xb hi hz).m:=⟨qR F.h (qS u.h z.h l) E C B⟩
section
variable(c:Wc X P w K mg base N W k sc)
include c
def PL{f:Xi ws}{l:Xg ws}{hz}(u:II X tg e f.m)(hg:OQ X tg l.m)(z:ng X body da.m)(B:∀x,foldedSetIterable e X.env x=pure x):z_ X (.For tg e body [] pos) (cE f l da hz).m:=⟨iG c.g u.h hg.h z.h B⟩
def Ue{n hm}(f:EU X e ta.m)(l:ng X body da.m):z_ X (.While e body [] pos) (K_ n ta da hm).m:=⟨Cv c.g f.h l.h⟩
def LG{hi' hz}(u:∀env:Env,env.scope=sc->swapsWith e (J (.Name x p)) pos.line env=pure T)(z:l7 X e xa.m)(f:N[i]?=J x)(l:W[i]?=J x):z_ X (.Assign [.Name x p] e pos) (aP i xa hi' hz).m:=⟨vU c.g i f l z.h (u _ c.s)⟩
def G8{hi' hz}(u:∀env:Env,env.scope=sc->swapsWith e (J (.Name x p)) pos.line env=pure T)(z:l7 X e xa.m)(f:N[i]?=J x)(l:W[i]?=J x):z_ X (.Assign [.Name x p] e pos) (eO i xa hi' hz).m:=⟨vU c.g i f l z.h (u _ c.s)⟩
def PM{x y:Str}{l py pt f:Pos}{kt k2}{hi' hj' hz}(G:∀env:Env,env.scope=sc->swappedStores [.Tuple [.Name x l,.Name y py] kt pt] (.Tuple [a,b] k2 f) env=pure (J [x,y]))(z:Dn X [a,b] sa.m)(E:N[i]?=J x)(B:N[j]?=J y)(u:i≠j)(C:sc.names.lookup x=J .local)(F:sc.names.lookup y=J .local)(H:swapsWithSole [.Tuple [.Name x l,.Name y py] kt pt] (.Tuple [a,b] k2 f) pos.line X.env=pure T):z_ X (.Assign [.Tuple [.Name x l,.Name y py] kt pt] (.Tuple [a,b] k2 f) pos) (vM i j sa hi' hj' hz).m:=⟨Kv c.g i j E B u z.h (by rw[c.s];exact C) (by rw[c.s];exact F) (G _ c.s) H⟩
end
def Uf{np:Nat}{F:WL->MH->WZ}(N:WM)(b:Ba P w K mg base)(D:b_ K x st)(u:ig x st (N.take np):=by first | exact λ_ _ _ _ _ _=>M3 λ_=>rfl | exact λ_ _ _ _ _ _=>M4 λ_ _=>rfl | exact λ_ _ _ _ _ _=>OP λ_ _ _=>rfl | exact λ_ _ _ _ _ _=>RD λ_ _ _ _=>rfl | exact λ_ _ _ _ _ _=>ar5 λ_ _ _ _ _=>rfl)(S:pj N (N.take np) (am st):=by exact⟨rfl,rfl,rfl,by decide +kernel,rfl,by decide +kernel,by decide +kernel⟩)(l:∀y∈N,(am st).names.lookup y=J .local\/(am st).names.lookup y=J .cell:=by decide +kernel)(dbg:∀x∈N++[],(x==("__debug__":Str))=T/\(x==("__classdict__":Str))=T/\x≠"__name__":=by decide +kernel)(f:F=cX N.length (N.take np).length λ_ _=>.bad:=by rfl):FnAt P w K mg base x (N.take np) F (k+1):=by
 subst f;exact rE (G:=[]) b.kin b.ns D S u l (λ_ h=>nomatch h) dbg λX e1 e2 e3 e4 e5 B g z=>Gw
def wh{F:Fn}{f:Nat}{ws:WQ}{B:Xd ws}{hw}(N:WM)(b:Ba P w K mg base)(D:b_ K x st)(C:∀X:Cx,Wc X P w K mg base N N k (am st)->hH X->ng X (aI st) B.m)(u:F=bA N.length f B hw:=by rfl)(H:ig x st (N.take f):=by first | exact λ_ _ _ _ _ _=>M3 λ_=>rfl | exact λ_ _ _ _ _ _=>M4 λ_ _=>rfl | exact λ_ _ _ _ _ _=>OP λ_ _ _=>rfl | exact λ_ _ _ _ _ _=>RD λ_ _ _ _=>rfl | exact λ_ _ _ _ _ _=>ar5 λ_ _ _ _ _=>rfl)(S:pj N (N.take f) (am st):=by exact⟨rfl,rfl,rfl,by decide +kernel,rfl,by decide +kernel,by decide +kernel⟩)(G:∀y∈N,(am st).names.lookup y=J .local\/(am st).names.lookup y=J .cell:=by decide +kernel)(l:∀y∈G3 (am st),(am st).names.lookup y=J .globalImplicit:=by decide +kernel)(dbg:∀x∈N++G3 (am st),(x==("__debug__":Str))=T/\(x==("__classdict__":Str))=T/\x≠"__name__":=by decide +kernel)(E:(N.take f).length=f:=by rfl):
  FnAt P w K mg base x (N.take f) F.m (k+1):=by
 have q:=rE b.kin b.ns D S H G l dbg λX e1 e2 e3 e4 e5 L g z=>(C X ⟨g,⟨e1,e2,e3,e4,e5,b⟩,L⟩ z).h;rw[E]at q;subst u;exact q
end
end MM
namespace SortT
open PyProof.Rows PySem.W
def jD(pr:Bool)(h:Heap)(a:Value->Int)(v:Value):Prop:=∃b o xs m k t,v=.ref b/\h.get? b=J o/\o.cls=.type "tuple"/\o.data=.seq xs m/\xs[0]?=J (.int k t)/\if pr then ∃c u,xs.toList=[.int k t,.int c u]/\0<=c/\c<4096/\a v=k*4096+c else a v=k
def KW(n:Nat)(c:Nat->Nat->Bool){α:Type}:KasT α->(α->Prop)->Prop
 |.ret a,Q=>Q a
 |.ask i j k,Q=>(i<n/\j<n)/\KW n c (k (c i j)) Q
def KW.bd{n:Nat}{c:Nat->Nat->Bool}{α β:Type}{f:α->KasT β}{Q:β->Prop}:∀{t:KasT α},KW n c t (λa=>KW n c (f a) Q)->KW n c (t.bind f) Q
 |.ret _,h=>h
 |.ask _ _ _,h=>⟨h.1,KW.bd h.2⟩
section
variable{n:Nat}{K:Nat->Int}{p:Array Nat}{m k:Nat}
abbrev Kp(K:Nat->Int)(p:Array Nat)(i:Nat):Int:=K (p.getD i 0)
abbrev cL(K:Nat->Int)(i j:Nat):Bool:=decide (K i<K j)
def Pm(n:Nat)(p:Array Nat):Prop:=p.toList.Perm (List.range n)
def Ac(K:Nat->Int)(p:Array Nat)(m:Nat):Prop:=∀i j,i<j->j<m->Kp K p i<=Kp K p j
def Dc(K:Nat->Int)(p:Array Nat)(m:Nat):Prop:=∀i j,i<j->j<m->Kp K p j<=Kp K p i
def Pm.sz(h:Pm n p):p.size=n:=by have:=h.length_eq;simpa using this
def Pm.lt(h:Pm n p)(i:Nat)(a:i<n):p.getD i 0<n:=by
 have e:p.getD i 0=p.toList[i]'(by simpa [h.sz]using a):=by simp[h.sz,a]
 rw[e];exact zl.mp (h.mem_iff.mp (Sa _))
def Pm.ne(h:Pm n p)(nd:∀i j,i<n->j<n->i≠j->K i≠K j){i j:Nat}(a:i<n)(f:j<n)(l:i≠j):Kp K p i≠Kp K p j:=nd _ _ (h.lt i a) (h.lt j f) λe=>l <| by
 have z:=h.sz;have e:p.toList[i]?=p.toList[j]?:=by simpa [z,a,f]using e
 exact(My (by simpa [z]using a) (h.symm.nodup Fb)).mp e
def gD:p.getD i 0=p[i]?.getD 0:=by simp[Array.getD];split<;>simp_all
def vP(h:Pm n p):∀f m,f+m=n->0<m->Ac K p m->(∀l,m<=l->l<=n->Ac K p l->(l<n->Kp K p l<Kp K p (l-1))->Q l)->KW n (cL K) (kas_asc p f m) Q
 |0,m,hf,y,a,q=>q m (l_ _) ⋯ a ⋯
 |f+1,m,hf,y,a,q=>by
  refine⟨⟨h.lt m ⋯,h.lt (m-1) ⋯⟩,?_⟩;by_cases z:Kp K p m<Kp K p (m-1)
  .rw[show cL K (p.getD m 0) (p.getD (m-1) 0)=I from decide_eq_true z];exact q m (l_ _) ⋯ a λ_=>z
  .rw[show cL K (p.getD m 0) (p.getD (m-1) 0)=T from decide_eq_false z];refine vP h f (m+1) ⋯ ⋯ (λi j u B=>?_) λl C=>q l ⋯;by_cases e:j=m
   .subst e;by_cases e2:i=j-1
    .subst e2;lia
    .have:=a i (j-1) ⋯ ⋯;lia
   .exact a i j u ⋯
def Bm(h:Pm n p)(nd:∀i j,i<n->j<n->i≠j->K i≠K j):∀f m,f+m=n->0<m->Dc K p m->(∀l,m<=l->l<=n->Dc K p l->Q (p,l,0))->KW n (cL K) (kas_desc f p m 0) Q
 |0,m,hf,y,a,q=>q m (l_ _) ⋯ a
 |f+1,m,hf,y,a,q=>by
  refine⟨⟨h.lt m ⋯,h.lt (m-1) ⋯⟩,?_⟩;by_cases z:Kp K p m<Kp K p (m-1)
  .rw[show cL K (p.getD m 0) (p.getD (m-1) 0)=I from decide_eq_true z];refine Bm h nd f (m+1) ⋯ ⋯ (λi j u B=>?_) λl C=>q l ⋯;by_cases e:j=m
   .subst e;by_cases e2:i=j-1
    .subst e2;lia
    .have:=a i (j-1) ⋯ ⋯;lia
   .exact a i j u ⋯
  .rw[show cL K (p.getD m 0) (p.getD (m-1) 0)=T from decide_eq_false z];have ne:=h.ne nd (i:=m) (j:=m-1) ⋯ ⋯ ⋯;refine⟨⟨h.lt (m-1) ⋯,h.lt m ⋯⟩,?_⟩;rw[show cL K (p.getD (m-1) 0) (p.getD m 0)=I from decide_eq_true (by show Kp K p (m-1)<Kp K p m;lia)];exact q m (l_ _) ⋯ a
def CW(h:Pm n p)(nd:∀i j,i<n->j<n->i≠j->K i≠K j)(M:0<n)(q:∀m a,Pm n a->0<m->m<=n->Ac K a m->Q (m,a)):KW n (cL K) (kas_count n p) Q:=by
 refine KW.bd (vP h _ 1 ⋯ ⋯ (λi j _ _=>by lia) λm O u f z=>?_);by_cases e:m=n
 .rw[c_ (by simp[e])];exact q m p h ⋯ u f
 .rw[g_ (by simp[e])];by_cases e1:m>1
  .rw[c_ e1];refine⟨⟨h.lt 0 ⋯,h.lt (m-1) ⋯⟩,?_⟩;have b:=f 0 (m-1) ⋯ ⋯;have ne:=h.ne nd (i:=0) (j:=m-1) ⋯ ⋯ ⋯;rw[show cL K (p.getD 0 0) (p.getD (m-1) 0)=I from decide_eq_true (by show Kp K p 0<Kp K p (m-1);lia)];exact q m p h ⋯ u f
  .rw[g_ e1];obtain rfl:m=1:=by lia
   have lt:=z ⋯;refine KW.bd (Bm h nd _ 2 ⋯ ⋯ (λi j C l=>?_) λm P E y=>?_)
   .obtain rfl:i=0:=by lia
    obtain rfl:j=1:=by lia
    exact Int.le_of_lt lt
   .have hr:Pm n (kas_rev p 0 m):=(UQ.mp (mirror_perm p 0 m _)).trans h;refine KW.bd (vP hr _ m ⋯ ⋯ (λi j C l=>?_) λG H B F _=>q G _ hr ⋯ B F);have g:∀i,i<m->(kas_rev p 0 m).getD i 0=p.getD (m-1-i) 0:=λi L=>by
     rw[gD,gD];show((mirror p 0 m ((m-0)/2))[i]?).getD 0=_;rw[getElem?_mirror_all (by rw[h.sz];exact E),c_ ⋯,ER]
    unfold Kp;rw[g i ⋯,g j l];exact y (m-1-j) (m-1-i) ⋯ ⋯
def pY(h:Pm n p)(E:k<n):∀f a b,a<=b->b<=k->b<=a+f->(∀i,i<a->Kp K p i<=Kp K p k)->(∀i,b<=i->i<k->Kp K p k<=Kp K p i)->Ac K p k->(∀a,a<=k->(∀i,i<a->Kp K p i<=Kp K p k)->(∀i,a<=i->i<k->Kp K p k<=Kp K p i)->Q a)->KW n (cL K) (kas_place p k f a b) Q
 |0,a,b,H,F,G,j,u,_,q=>q a ⋯ j λi B=>u i ⋯
 |f+1,a,b,H,F,G,j,u,l,q=>by
  unfold kas_place;by_cases z:a>=b
  .rw[c_ z];exact q a ⋯ j λi B=>u i ⋯
  .rw[g_ z];refine⟨⟨h.lt k E,h.lt _ ⋯⟩,?_⟩;by_cases y:Kp K p k<Kp K p ((a+b)/2)
   .rw[show cL K (p.getD k 0) (p.getD ((a+b)/2) 0)=I from decide_eq_true y];refine pY h E f a _ ⋯ ⋯ ⋯ j (λi B C=>?_) l q;by_cases e:i=(a+b)/2
    .subst e;lia
    .have:=l ((a+b)/2) i ⋯ C;lia
   .rw[show cL K (p.getD k 0) (p.getD ((a+b)/2) 0)=T from decide_eq_false y];refine pY h E f _ b ⋯ F ⋯ (λi B=>?_) u l q;by_cases e:i=(a+b)/2
    .subst e;lia
    .have:=l i ((a+b)/2) ⋯ ⋯;lia
def A3(q:∀l,Pm n l->Ac K l n->Q l):∀f k (p:Array Nat),f+k=n->Pm n p->Ac K p k->KW n (cL K) (kas_bin f p k) Q
 |0,k,p,hf,h,a=>q p h (by rw[<-hf,ER];exact a)
 |f+1,k,p,hf,h,a=>by
  refine KW.bd (pY h ⋯ k 0 k ⋯ ⋯ ⋯ ⋯ ⋯ a λb C y u=>?_);refine A3 q f (k+1) _ ⋯ ((UQ.mp (bubble_perm p k _)).trans h) λi j z B=>?_;have g:∀i,(bubble p k (k-b)).getD i 0=p.getD (if i=b then k else if b<i/\i<=k then i-1 else i) 0:=λi=>by
   rw[gD,gD,getElem?_bubble (by rw[h.sz];lia) _ ⋯,show k-(k-b)=b by lia];split
   .rfl
   .split<;>rfl
  unfold Kp;rw[g i,g j];by_cases e1:i=b
  .rw[c_ e1,g_ ⋯,c_ ⋯];exact u (j-1) ⋯ ⋯
  .rw[g_ e1];by_cases e2:j=b
   .rw[c_ e2,g_ ⋯];exact y i ⋯
   .rw[g_ e2];by_cases e3:b<i
    .rw[c_ ⋯,c_ ⋯];exact a (i-1) (j-1) ⋯ ⋯
    .rw[g_ ⋯];by_cases e4:b<j
     .rw[c_ ⋯];by_cases e5:i=j-1
      .lia
      .exact a i (j-1) ⋯ ⋯
     .rw[g_ ⋯];exact a i j z ⋯
def G9(nd:∀i j,i<n->j<n->i≠j->K i≠K j)(u:0<n):KW n (cL K) (kas_sort n) λp=>Pm n p/\Ac K p n:=by
 refine KW.bd (CW (.refl _) nd u λm p a B C f=>?_);by_cases z:m<n
 .rw[c_ z,show max m 1=m by lia];exact A3 (λE y l=>⟨y,l⟩) _ m p ⋯ a f
 .rw[g_ z]
  have:m=n:=by lia
  exact⟨a,this▸f⟩
end
section
variable{prog:Program}{w:World}{A:Around}{E:WE}{s:Shared}{rk:Value->Int}{vs:WT}{pr:Bool}
def wW(hv:(v==v)=I)(h:Q I s):wpAny (model prog w) A (eqBool v v) Q E s:=by refine wpAny_holding ?_;rw[c_ hv];exact f_ (wpAny_rule (nc h))
def v6(h:Q fin s):∀(xs:WT)(i:Nat),(∀v∈xs,(v==v)=I)->KatLex prog w A b fin Q (xs.zip xs) i s
 |[],_,_=>kat_nil h
 |x::xs,i,hv=>by
  exact kat_cons (wW (hv x En) (kat_yes (v6 h xs (i+1) λv z=>hv v (ml _ z))))
def ur(rk:Value->Int)(vs:WT):Prop:=∀x∈vs,∀y∈vs,rk x=rk y->x=y
def LH(P:∀v∈vs,jD pr s.heap rk v)(nd:ur rk vs)(R:x1∈vs)(O:y1∈vs)(C:Q (decide (rk x1<rk y1)) s):wpAny (model prog w) A (keyLt' (tuples' I) x1 y1) Q (λ_ _=>False) s:=by
 obtain⟨X,ox,M,nx,k,tx,ex,B,_,l,H,f⟩:=P x1 R;obtain⟨ay,oy,iy,ny,m,ty,W,L,_,F,G,j⟩:=P y1 O;by_cases z:rk x1=rk y1
 .have e:=nd x1 R y1 O z;subst e;have e0:decide (rk x1<rk x1)=decide (M.size<M.size):=by simp
  rw[e0]at C;rw[ex];exact kat_lt B l B l (v6 C _ _ λv _=>beq_self_eq_true v)
 .have hd:∀{i:Array Value}{v:Value},i[0]?=J v->∃r,i.toList=v::r:=λ{i v} h=>by
   rw[<-UV]at h
   cases e:i.toList with
   |nil=>rw[e]at h;cases h
   |cons a r=>rw[e]at h;cases h;exact⟨r,rfl⟩
  rw[ex,W];refine kat_lt B l L F ?_
  cases pr with
  |false =>
   rw[g_ (by simp)]at f j;obtain⟨U,e1⟩:=hd H;obtain⟨S,e2⟩:=hd G;rw[e1,e2,QQ];refine kat_cons (wpAny_eqBool_int ?_)
   have:(k==m)=T:=by rw[f,j]at z;simpa using z
   rw[this];refine kat_no (oneLt_int ?_)
   rwa [f,j]at C
  |true =>
   rw[c_ rfl]at f j;obtain⟨c,u,e1,c0,c1,U⟩:=f;obtain⟨d,u',e2,d0,Z,S⟩:=j;rw[e1,e2,QQ];refine kat_cons (wpAny_eqBool_int ?_);by_cases y:k=m
   .have:(k==m)=I:=by simpa using y
    rw[this];refine kat_yes ?_;rw[QQ];refine kat_cons (wpAny_eqBool_int ?_)
    have:(c==d)=T:=by
     have:c≠d:=by lia
     simpa using this
    rw[this];refine kat_no (kat_one _ _ (wpAny_lt_int ?_));show Q (decide (c<d)) s
    rwa [decide_eq_decide.mpr (show rk x1<rk y1↔c<d by lia)]at C
   .have:(k==m)=T:=by simpa using y
    rw[this];refine kat_no (oneLt_int ?_)
    rwa [decide_eq_decide.mpr (show rk x1<rk y1↔k<m by lia)]at C
def uL(h:i<vs.length):vs.getD i Value.none∈vs:=by simp_all
def zX{G:Array Nat->Shared->Prop}{Q:Array Nat->Prop}(f:∀v∈vs,jD pr s.heap rk v)(nd:ur rk vs)(g:∀p,Q p->G p s):
  ∀t:KasT (Array Nat),KW vs.length (cL λi=>rk (vs.getD i Value.none)) t Q->t.kasWp (kas_ask prog w A (tuples' I) vs) G s
 |.ret a,e=>g a e
 |.ask i j k,e=>LH f nd (uL e.1.1) (uL e.1.2) (zX f nd g _ e.2)
def jD.up(k:∀b o,h.get? b=J o->o.cls=.type "tuple"->h'.get? b=J o)(r:jD pr h rk v):jD pr h' rk v :=
 by
 obtain⟨b,o,xs,m,j,t,e,g,c,d⟩:=r;exact⟨b,o,xs,m,j,t,e,k b o g c,c,d⟩
def wu(F:∀v∈vs,jD pr s.heap rk v)(G:0<vs.length)(h:Q (tuples' I) s):wpAny (model prog w) A (keyKind' vs.toArray) Q E s:=by
 have l:∀j:WT,(∀v∈j,jD pr s.heap rk v)->∃fs:WT,fs.length=j.length/\KatTups s.heap j fs/\∀v∈fs,∃i t,v=.int i t:=by
  intro j
  induction j with
  |nil=>exact λ_=>⟨[],rfl,KatTups.nil,λv hv=>by cases hv⟩
  |cons u j C =>
   intro a;obtain⟨fs,B,y,z⟩:=C λv hv=>a v (ml _ hv);obtain⟨b,o,xs,m,k,t,e,g,c,d,f,_⟩:=a u En;rw[e];refine⟨.int k t::fs,by simp[B],KatTups.cons g c d f y,λv hv=>?_⟩;rcases nw.mp hv with rfl|hv
   .exact⟨_,_,rfl⟩
   .exact z v hv
 obtain⟨fs,B,y,z⟩:=l vs F;refine kat_kind (T:=.type "int") y ⋯ (λv hv=>?_) (by decide) h;obtain⟨i,t,rfl⟩:=z v hv;exact .now
def LI{p:Array Nat}(pm:Pm vs.length p)(l:Ac (λi=>rk (vs.getD i Value.none)) p vs.length):(p.toList.map λi=>vs.getD i Value.none).Perm vs/\((p.toList.map λi=>vs.getD i Value.none).map rk).Pairwise (·<=·):=by
 constructor
 .refine (pm.map λi=>vs.getD i Value.none).trans (List.Perm.of_eq ?_);apply List.ext_getElem
  .simp
  .intro i z y
   simp_all
 .rw[qo];refine List.pairwise_iff_getElem.mpr λi j f a u=>?_;rw[qx,Array.length_toList,pm.sz]at f a
  have:rk (vs.getD (p.getD i 0) Value.none)<=rk (vs.getD (p.getD j 0) Value.none):=l i j u a
  simpa [pm.sz,f,a]using this
def LJ{l:WT}{f:Value->Int}(h:l.length<2):(l.map f).Pairwise (·<=·):=by
 rcases l with _|⟨x,_|⟨y,l⟩⟩
 .exact .nil
 .exact List.pairwise_singleton _ _
 .exact absurd h (Nat.not_lt.mpr (Nat.le_add_left 2 l.length))
def Bl(R:s.heap.get? a=J (seqObj "list" vs.toArray n))(hk:∀v∈vs,jD pr s.heap rk v)(nd:ur rk vs)(ok:(vs.map rk).Nodup)(X:vs.length<64)(h:∀z:WT,z.Perm vs->(z.map rk).Pairwise (·<=·)->P (.done (.ret .none)) { s with heap:=sortedHeap s.heap a vs z.toArray}):
  wpAny (model prog w) A (Builtin.«list.sort» ⟨[.ref a],[]⟩) P E s:=by
 rw[list_sort_plain];have l:vs.length<=sizeLine:=by rw[sizeLine_eq];lia
 refine f_ (listItems_at R rfl ?_);refine f_ (listUpdate_at R rfl ?_ (by rw[x_];exact l) (Eo _));obtain⟨e1,B⟩:∃e1,(s.heap.update a (Obj.mapSeq λ_=>(#[]:Array Value))).get? a=J (seqObj "list" #[] e1):=⟨_,get?_update_seq R λ_=>#[]⟩;refine f_ (seqEpoch_at B rfl ?_);refine f_ (wpAny_newTuple ?_ (by show vs.length<=_;exact l));refine f_ (wpAny_newList ?_ (Eo _));refine wpAny_holding ?_;have u:(((s.heap.update a (Obj.mapSeq λ_=>(#[]:Array Value))).push (seqObj "tuple" vs.toArray 0)).push (seqObj "list" #[] 0)).get? a=J (seqObj "list" #[] e1) :=
  nj _ (nj _ B)
 have L:∀v∈vs,jD pr (((s.heap.update a (Obj.mapSeq λ_=>(#[]:Array Value))).push (seqObj "tuple" vs.toArray 0)).push (seqObj "list" #[] 0)) rk v:=λv hv=>(hk v hv).up λb o W hc=>by
  have C:b≠a:=by rintro rfl;rw[R]at W;cases W;have Z:Value.type "list"=Value.type "tuple":=hc;exact absurd Z (by decide)
  exact nj _ (nj _ ((Jr _ _ _ _ C).trans W))
 have hs:∀o,sortedHeap s.heap a vs o=(((s.heap.update a (Obj.mapSeq λ_=>(#[]:Array Value))).push (seqObj "tuple" vs.toArray 0)).push (seqObj "list" #[] 0)).update a (Obj.mapSeq λ_=>o):=λ_=>rfl;generalize ((s.heap.update a (Obj.mapSeq λ_=>(#[]:Array Value))).push (seqObj "tuple" vs.toArray 0)).push (seqObj "list" #[] 0)=H at *;have U:vs.toArray.size=vs.length:=by simp
 dsimp only;by_cases S:vs.toArray.size<2
 .rw[c_ S,c_ S];refine f_ (nc ?_);rw[StateT.run_pure];refine f_ (nc ?_);dsimp only;refine f_ (seqEpoch_at u rfl ?_);have O:((vs.toArray.zip vs.toArray).map (·.2))=vs.toArray:=by
   apply Array.toList_inj.mp;simp only[Array.toList_map,Array.toList_zip,List.toList_toArray];exact List.map_snd_zip (l_ _)
  refine f_ (listUpdate_at u rfl ?_ (Eo _) (by show((vs.toArray.zip vs.toArray).map (·.2)).size<=_;rw[O,U];lia));simp only[bne_self_eq_false,wy,if_false];refine nc ?_
  have:=h vs (List.Perm.refl _) (LJ ⋯)
  rw[hs]at this;have e:(arrOf (SortSt.mk' general' (vs.toArray.zip vs.toArray) #[] 7 Y)).map (·.2)=vs.toArray:=O;rw[e];exact this
 .rw[g_ S,g_ S];refine f_ (wu (s:={ s with heap:=_}) L ⋯ ?_)
  refine f_ (wpAny_mono (kat_run (Q:=λf F=>∃p,(Pm vs.length p/\Ac (λi=>rk (vs.getD i Value.none)) p vs.length)/\(arrOf f).map (·.2)=(p.toList.map λi=>vs.getD i Value.none).toArray/\failedOf f=Y/\F={ s with heap:=H})
   (G:=λM F=>(Pm vs.length M/\Ac (λi=>rk (vs.getD i Value.none)) M vs.length)/\F={ s with heap:=H}) rfl ⋯ X (λM f F _ a2 a3 a4=>⟨M,a4.1,kat_snds rfl a2,a3,a4.2⟩)
   (zX (s:={ s with heap:=H}) L nd (λp q=>⟨q,rfl⟩) _ (G9 (λi j hi hj ij e=>ij ((My (by simpa using hi) ok).mp (by simpa [hi,hj]using e))) ⋯))) ?_ λ_ _ e=>e)
  rintro⟨⟨⟩,f⟩ F ⟨p,pk,y,hf,rfl⟩;obtain⟨pm,pw⟩:=LI pk.1 pk.2;dsimp only;refine f_ (seqEpoch_at u rfl ?_);have O:((arrOf f).map (·.2)).size=vs.length:=by rw[y,x_,pm.length_eq]
  refine f_ (listUpdate_at u rfl ?_ (Eo _) (by show((arrOf f).map (·.2)).size<=_;rw[O];lia));rw[hf];simp only[bne_self_eq_false,wy,if_false];refine nc ?_;rw[y]
  have:=h _ pm pw
  rw[hs]at this;exact this
def zp(l:b="list"\/b="tuple")(i:s.heap.get? p=J o)(j:o.cls=.type b)(hd:o.data=.seq vs.toArray m)(y:vs.length<=sizeLine)(h:Q vs { s with heap:=(s.heap.push (seqObj "list" #[] 0)).update s.heap.objs.size (Obj.mapSeq (·++vs.toArray))}):wpAny (model prog w) A (collect (.ref p)) Q E s:=by
 have a:(s.heap.push (seqObj "list" #[] 0)).get? p=J o:=nj _ i;have f:(s.heap.push (seqObj "list" #[] 0)).get? s.heap.objs.size=J (seqObj "list" #[] 0):=zj _ rfl;have u:(Value.type b==Value.type "list" || Value.type b==Value.type "tuple")=I:=by rcases l with rfl|rfl<;>rfl
 refine f_ (wpAny_runValue (codeAny_builtin entry_proto_collect' (f_ (wpAny_newList (nc ⟨Code.quiet_builtin _ (by decide +kernel),codeAny_builtin entry_list_iadd' ?_⟩)))));show wpAny _ _ (Builtin.List.listExtendWith (.ref s.heap.objs.size) (.ref p) _) _ _ { s with heap:=s.heap.push (seqObj "list" #[] 0)};refine f_ (wpAny_typeOf (T:=b) ⟨o,a,j⟩ ?_);rw[c_ (by rw[Bool.or_assoc,u,Sj])];refine f_ (listItems_at a hd (f_ (listItems_at f rfl ?_)));refine f_ (listUpdate_at f rfl (nc ?_) (Eo _) (by simp;lia));refine f_ (wpAny_load (get?_update_seq f _) ?_);have e:((#[]:Array Value)++vs.toArray).toList=vs:=by simp
 show wpAny _ _ (pure _) _ _ _;rw[e];exact nc h
def w5(O:d="list"\/d="tuple")(L:s.heap.get? p=J o)(M:o.cls=.type d)(hd:o.data=.seq vs.toArray m)(P:∀v∈vs,jD pr s.heap rk v)(nd:ur rk vs)(ok:(vs.map rk).Nodup)(u:vs.length<64)(h:∀(C:Heap) (l:Addr) (a:WT),(∀b F,s.heap.get? b=J F->C.get? b=J F)->s.heap.objs.size<=l->(∃c,C.get? l=J (seqObj "list" a.toArray c))->a.Perm vs->(a.map rk).Pairwise (·<=·)->Q (.ref l) { s with heap:=C}):
  wpAny (model prog w) A (call (.builtin "sorted") [.ref p]) Q E s:=by
 have f:vs.length<=sizeLine:=by rw[sizeLine_eq];lia
 refine Calls.call_function_entry kind_sorted plain_sorted entry_sorted (args_sorted1 _) ?_;refine f_ (nc (f_ (zp O L M hd f (f_ (wpAny_newList ?_ f)))));generalize e1:(s.heap.push (seqObj "list" #[] 0)).update s.heap.objs.size (Obj.mapSeq (·++vs.toArray))=j;have y:∀b o,s.heap.get? b=J o->j.get? b=J o:=λb o z=>by
  rw[<-e1,Jr _ _ _ _ (zt (pa z))];exact nj _ z
 have B:s.heap.objs.size<=j.objs.size:=by rw[<-e1,Heap.size_update,size_push'];exact Ic _
 have i:(j.push (seqObj "list" vs.toArray 0)).get? j.objs.size=J (seqObj "list" vs.toArray 0):=zj _ rfl;have up:∀b o,j.get? b=J o->(j.push (seqObj "list" vs.toArray 0)).get? b=J o:=λb o e=>nj _ e
 refine f_ (wpAny_holding (wpAny_call_entry slot_list_sort ⟨_,i,rfl⟩ entry_list_sort
  (Bl i (λv hv=>(P v hv).up λb o G _=>up b o (y b o G)) nd ok u λa pv H=>⟨_,rfl,?_⟩) (args_list_sort _)))
 refine nc ⟨_,rfl,h _ j.objs.size a (λb o e=>?_) B (jR i _) pv H⟩;exact jw (zt (pa (y b o e))) (up b o (y b o e)) _
end
end SortT
namespace MM
open PySem.Spec PyProof.Rows L2
section
variable{α β:Type}
def cb(f:α->Int)(x:α):List α->List α
 |[]=>[x]
 |y::r=>if f x<=f y then x::y::r else y::cb f x r
def aT(f:α->Int)(l:List α):List α:=l.foldr (cb f) []
def mz(f:α->Int)(x:α):∀l,(cb f x l).Perm (x::l)
 |[]=>.refl _
 |y::r=>by
  unfold cb;split
  .exact .refl _
  .exact ((mz f x r).cons y).trans (.swap x y r)
def bX(f:α->Int):∀l,(aT f l).Perm l
 |[]=>.refl _
 |x::l=>(mz f x (aT f l)).trans ((bX f l).cons x)
def tU(f:α->Int)(x:α):∀l:List α,l.Pairwise (λa b=>f a<=f b)->(cb f x l).Pairwise (λa b=>f a<=f b)
 |[],_=>by simp[cb]
 |y::r,h=>by
  have j:=QR.mp h;unfold cb;split
  .rename_i z
   refine QR.mpr ⟨λa i=>?_,h⟩;rcases nw.mp i with q|q
   .rw[q];exact z
   .exact Int.le_trans z (j.1 a q)
  .refine QR.mpr ⟨λa i=>?_,tU f x r j.2⟩;rcases nw.mp ((mz f x r).mem_iff.mp i)with rfl|i
   .lia
   .exact j.1 a i
def nH(f:α->Int):∀l:List α,(aT f l).Pairwise (λa b=>f a<=f b)
 |[]=>.nil
 |x::l=>tU f x _ (nH f l)
def tX(g:β->α)(f:α->Int)(x:β):∀l:List β,cb f (g x) (l.map g)=(cb (λb=>f (g b)) x l).map g
 |[]=>rfl
 |y::r=>by
  rw[k_];unfold cb;split
  .rfl
  .rw[tX g f x r];rfl
def gc(g:β->α)(f:α->Int):∀l:List β,aT f (l.map g)=(aT (λb=>f (g b)) l).map g
 |[]=>rfl
 |x::l=>by
  show cb f (g x) (aT f (l.map g))=(cb _ x (aT _ l)).map g;rw[gc g f l,tX]
def pz:∀{l:List α},f x=g x->(∀a∈l,f a=g a)->cb f x l=cb g x l
 |[],_,_=>rfl
 |y::r,i,h=>by
  unfold cb;rw[i,h y En,pz i λa j=>h a (ml _ j)]
def pg:∀{l:List α},(∀a∈l,f a=g a)->aT f l=aT g l
 |[],_=>rfl
 |x::l,h=>by
  have e:=pg λa i=>h a (ml _ i);show cb f x (aT f l)=cb g x (aT g l);rw[e];exact pz (h x En) λa i=>h a (ml _ ((bX g l).mem_iff.mp i))
def nX{f:α->Int}:∀{l:List α}{x y:α},(l.map f).Nodup->x∈l->y∈l->f x=f y->x=y
 |a::l,x,y,nd,z,u,e=>by
  rw[k_,vz]at nd;rcases nw.mp z with j|j
  .rcases nw.mp u with i|i
   .exact j.trans i.symm
   .exact absurd (nr.mpr ⟨y,i,e.symm.trans (congrArg f j)⟩) nd.1
  .rcases nw.mp u with i|i
   .exact absurd (nr.mpr ⟨x,j,e.trans (congrArg f i)⟩) nd.1
   .exact nX nd.2 j i e
def lJ(p:m.Perm l)(nd:(l.map f).Nodup)(h:m.Pairwise λa b=>f a<=f b):m=aT f l :=
 List.Perm.eq_of_pairwise (λa b i j x y=>nX nd (p.mem_iff.mp i) ((bX f l).mem_iff.mp j) ⋯) h (nH f l) (p.trans (bX f l).symm)
end
def wq(pr:Bool):PV->WW
 |.tup (.int k::r)=>if pr then (match r with
  |[.int c]=>if 0<=c/\c<4096 then J (k*4096+c)else Y
  |_=>Y)else J k
 |_=>Y
def xR(pr:Bool)(x:PV):Int:=(wq pr x).getD 0
def FJ(pr:Bool)(h:Heap)(v:Value):Int:=match v with
 |.ref b=>(match h.get? b with
  |some o=>(match o.data with
   |.seq xs _=>(match xs.toList with
    |.int k _::r=>if pr then (match r with
     |[.int c _]=>k*4096+c
     |_=>0)else k
    |_=>0)
   |_=>0)
  |none=>0)
 |_=>0
def ld(pr:Bool)(xs:WL)(h:MH):WZ:=match xs with
 |[x]=>(match bW h x with
  |some ys=>if(∀y∈ys,(wq pr y).isSome=I)/\(ys.map (xR pr)).Nodup/\ys.length<64 then .ok (.loc h.length) (h++[.lst (aT (xR pr) ys)])else .bad
  |none=>.bad)
 |_=>.bad
inductive T3(K:hR)(U:WS)(H:Hp):WL->List V->WT->List (PV×V×Value)->Prop
 |nil:T3 K U H [] [] [] []
 |cons{x:PV}{y:V}{u:Value}{xs:WL}{ys:List V}{us:WT}{ts:List (PV×V×Value)}(r:RP K U H x y)(v:aQ y u)(t:T3 K U H xs ys us ts):T3 K U H (x::xs) (y::ys) (u::us) ((x,y,u)::ts)
section
variable{K:hR}{U:WS}{H:Hp}
def T3.ex(h:RPs K U H xs ys)(i:aM ys us):∃a,T3 K U H xs ys us a:=by
 induction i generalizing xs with
 |nil=>cases h;exact⟨[],.nil⟩
 |cons v _ j=>cases h with
  |cons r f =>
   obtain⟨a,t⟩:=j f;exact⟨_,.cons r v t⟩
def T3.maps(h:T3 K U H xs ys us a):xs=a.map (·.1)/\us=a.map (·.2.2)/\∀t∈a,RP K U H t.1 t.2.1/\aQ t.2.1 t.2.2:=by
 induction h with
 |nil=>exact⟨rfl,rfl,λt h=>by cases h⟩
 |cons r v _ f =>
  obtain⟨e1,e2,h⟩:=f;refine⟨by rw[e1];rfl,by rw[e2];rfl,λq hq=>?_⟩;rcases nw.mp hq with rfl|hq
  .exact⟨r,v⟩
  .exact h q hq
def kN:∀{ts:List (PV×V×Value)},(∀t∈ts,RP K U H t.1 t.2.1/\aQ t.2.1 t.2.2)->RPs K U H (ts.map (·.1)) (ts.map (·.2.1))/\aM (ts.map (·.2.1)) (ts.map (·.2.2))
 |[],_=>⟨.nil,.nil⟩
 |t::ts,h=>by
  obtain⟨a,b⟩:=kN λq hq=>h q (ml _ hq);obtain⟨c,d⟩:=h t En;exact⟨.cons c a,.cons d b⟩
end
section
variable{X:Cx}
def wd:dg X (.builtin "sorted") (ld pr):=by
 intro Oz s Z H xs us Q B r ⟨U,h,ps,rh,rp,q⟩;refine lp λP Za=>?_
 cases rp with
 |nil=>exact q.elim
 |@cons x y _ _ r1 t1 =>
  cases t1 with
  |cons _ _=>exact q.elim
  |nil =>
   unfold ld at q
   cases es:bW h x with
   |none=>simp only[es]at q;exact q.elim
   |some ys =>
    simp only[es]at q;by_cases z:(∀y∈ys,(wq pr y).isSome=I)/\(ys.map (xR pr)).Nodup/\ys.length<64
    .rw[c_ z]at q;obtain⟨a,zs,rfl,ar,ap⟩:=k7 rh r1 es;obtain⟨u,rfl,rx⟩:=iu r;cases rx;obtain⟨E,o,m,f,hT,O,S,hd,M⟩:∃(E:String) (o:Obj) (m:Nat) (f:WT),(E="list"\/E="tuple")/\s.heap.get? a=J o/\o.cls=.type E/\o.data=.seq f.toArray m/\aM zs f:=by
      rcases ar with hq|hq
      .obtain⟨f,M,pl,_⟩:=B.list hq;obtain⟨o,O,S,n,hd⟩:=pl.isList;exact⟨"list",o,n,f,.inl rfl,O,S,hd,M⟩
      .obtain⟨f,M,⟨o,O,S,n,hd⟩,_⟩:=B.tuple hq;exact⟨"tuple",o,n,f,.inr rfl,O,S,hd,M⟩
     obtain⟨F,t3⟩:=T3.ex ap M;obtain⟨e1,e2,hm⟩:=t3.maps;have G:∀t∈F,SortT.jD pr s.heap (FJ pr s.heap) t.2.2/\xR pr t.1=FJ pr s.heap t.2.2:=λt C=>by
      obtain⟨rp,rl⟩:=hm t C;have j:=z.1 t.1 (by rw[e1];exact nr.mpr ⟨t,C,rfl⟩);obtain⟨t1,t2,t3⟩:=t;dsimp only at rp rl j ⊢
      cases rp with
      |@tup ps a2 vs sq ac =>
       cases rl
       cases ac with
       |nil=>cases j
       |@cons p0 v0 _ _ r0 rr =>
        cases r0 with
        |int i =>
         obtain⟨as,ai,⟨o2,g2,c2,n2,W⟩,_⟩:=B.tuple sq
         cases ai with
         |cons w0 wr =>
          obtain⟨tk,rfl⟩:=w0
          cases pr with
          |false =>
           have e:FJ T s.heap (.ref a2)=i:=by simp only[FJ,g2,W];rfl
           exact⟨⟨a2,o2,_,n2,i,tk,rfl,g2,c2,W,rfl,by rw[g_ (by simp)];exact e⟩,by rw[e];rfl⟩
          |true =>
           cases rr with
           |nil=>cases j
           |@cons p1 v1 _ _ r1 rr =>
            cases r1 with
            |int c =>
             cases rr with
             |cons _ _=>cases j
             |nil =>
              cases wr with
              |cons w1 wr =>
               cases wr with
               |nil =>
                obtain⟨uk,rfl⟩:=w1;have e:FJ I s.heap (.ref a2)=i*4096+c:=by simp only[FJ,g2,W];rfl
                by_cases y:0<=c/\c<4096
                .exact⟨⟨a2,o2,_,n2,i,tk,rfl,g2,c2,W,rfl,by rw[c_ rfl];exact⟨c,uk,rfl,y.1,y.2,e⟩⟩,by rw[e];show(if 0<=c/\c<4096 then J (i*4096+c)else Y).getD 0=_;rw[c_ y];rfl⟩
                .have j:(if 0<=c/\c<4096 then J (i*4096+c)else Y).isSome=I:=j;rw[g_ y]at j;cases j
            |_=>cases j
        |_=>cases j
      |_=>cases j
     have ek:ys.map (xR pr)=f.map (FJ pr s.heap):=by rw[e1,e2,qo,qo];exact Et λt C=>(G t C).2
     have hl:f.length=ys.length:=by rw[e1,e2];simp
     refine Za ?_;refine SortT.w5 (pr:=pr) (vs:=f) (rk:=FJ pr s.heap) hT O S hd (λv hv=>?_) (λx hx y hy e=>nX (ek▸z.2.1) hx hy e) (ek▸z.2.1) (by rw[hl];exact z.2.2) λh' l L kp R ⟨c,ak⟩ pv ri=>?_
     .rw[e2]at hv;obtain⟨t,C,rfl⟩:=nr.mp hv;exact(G t C).1
     .have eo:L=aT (FJ pr s.heap) f:=lJ pv (ek▸z.2.1) (FL.mp ri);have et:aT (λt:PV×V×Value=>xR pr t.1) F=aT (λt=>FJ pr s.heap t.2.2) F:=pg λt C=>(G t C).2;obtain⟨ra,rb⟩:=kN (K:=X.K) (U:=U) (H:=H) (ts:=aT (λt:PV×V×Value=>xR pr t.1) F) λt C=>hm t ((bX _ _).mem_iff.mp C);have s1:aT (xR pr) ys=(aT (λt:PV×V×Value=>xR pr t.1) F).map (·.1):=by rw[e1,gc]
      have s2:L=(aT (λt:PV×V×Value=>xR pr t.1) F).map (·.2.2):=by rw[eo,et,e2,gc]
      rw[<-s1]at ra;rw[<-s2]at rb;have lz:((aT (λt:PV×V×Value=>xR pr t.1) F).map (·.2.1)).length<=sizeLine:=by rw[<-ra.length,(bX (xR pr) ys).length_eq,sizeLine_eq];have:=z.2.2;lia
      refine⟨.ref l,_,B.laid (o:=.lst ((aT (λt:PV×V×Value=>xR pr t.1) F).map (·.2.1))) (t':=s.toks) kp R (show ObjOk X.prog X.w _ _ _ (.lst _) from⟨lz,L,c,rb,ak⟩),rfl,?_⟩;obtain⟨al,l3⟩:=rh.new (B.hok.fresh R) (o:=.lst (aT (xR pr) ys)) (ho:=.lst ((aT (λt:PV×V×Value=>xR pr t.1) F).map (·.2.1))) ⟨_,rfl,ra⟩;exact q _ _ _ l3 al (.loc (by rw[<-rh.len];simp))
    .rw[g_ z]at q;exact q.elim
end
end MM
namespace PU
open MM
def ji(pr:Bool):D->WW
 |.tup (.int k::r)=>if pr then (match r with
  |[.int c]=>if 0<=c/\c<4096 then J (k*4096+c)else Y
  |_=>Y)else J k
 |_=>Y
def A_(pr:Bool)(d:D):Int:=(ji pr d).getD 0
section
variable{q:Nat}{h:MH}{O:WQ}{pr:Bool}
def yn(r:Rp q h O d v)(e:(ji pr d).isSome=I):wq pr v=ji pr d:=by
 cases d with
 |tup f =>
  cases f with
  |nil=>cases e
  |cons j f =>
   cases j with
   |int k =>
    obtain⟨xs,rfl,x,t,rfl,a,b⟩:=r;rw[show x=.int k from a]
    cases pr with
    |false=>rfl
    |true =>
     cases f with
     |nil=>cases e
     |cons i f=>cases i with
      |int c=>cases f with
       |cons _ _=>cases e
       |nil =>
        obtain⟨y,u,rfl,e2,e3⟩:=b;rw[show y=.int c from e2,show u=[]from e3];rfl
      |_=>cases e
   |_=>cases e
 |_=>cases e
def uT(r:Rp q h O d v)(e:(xR pr) v=(A_ pr) d):∀{j:WR}{f:WL},Rps q h O j f->(∀(i:Nat) a b,j[i]?=J a->f[i]?=J b->(xR pr) b=(A_ pr) a)->Rps q h O (cb (A_ pr) d j) (cb (xR pr) v f)
 |[],f,l,_=>by
  rw[show f=[]from l];exact⟨v,[],rfl,r,rfl⟩
 |d'::j,f,l,u=>by
  obtain⟨x,t,rfl,a,b⟩:=l;unfold cb;rw[e,u 0 d' x rfl rfl];split
  .exact⟨v,x::t,rfl,r,x,t,rfl,a,b⟩
  .exact⟨x,_,rfl,a,uT r e b λi a b z y=>u (i+1) a b (by simpa using z) (by simpa using y)⟩
def Bj(r:Rps q h O i f)(j:∀d∈i,(ji pr d).isSome=I):(∀v∈f,(wq pr v).isSome=I)/\f.map (xR pr)=i.map (A_ pr):=by
 induction i generalizing f with
 |nil=>rw[show f=[]from r];exact⟨(λv h=>by cases h),rfl⟩
 |cons d i l =>
  obtain⟨x,t,rfl,a,b⟩:=r;obtain⟨y,u⟩:=l b λd hd=>j d (ml _ hd);have e:=yn a (j d En);refine⟨λv hv=>?_,?_⟩
  .rcases nw.mp hv with rfl|hv
   .rw[e];exact j d En
   .exact y v hv
  .rw[k_,u];simp[xR,A_,e]
def Cy(r:Rps q h O f vs)(u:∀d∈f,(ji pr d).isSome=I):Rps q h O (aT (A_ pr) f) (aT (xR pr) vs):=by
 induction f generalizing vs with
 |nil=>rw[show vs=[]from r];exact rfl
 |cons d f y =>
  obtain⟨x,t,rfl,a,b⟩:=r;have j:=λd hd=>u d (ml _ hd);have l:=y b j;show Rps q h O (cb (A_ pr) d (aT (A_ pr) f)) (cb (xR pr) x (aT (xR pr) t));have e2:=(Bj l λz B=>j z ((bX (A_ pr) f).mem_iff.mp B)).2;refine uT a (by simp[xR,A_,yn a (u d En)]) l λi a b E C=>?_
  have:=congrArg (·[i]?) e2
  simpa [E,C]using this
end
def BW(pr:Bool):DU:=nT (ld pr) (λd=>d.items.bind λf=>if(∀d∈f,(ji pr d).isSome=I)/\(f.map (A_ pr)).Nodup/\f.length<64 then J (.lst (aT (A_ pr) f))else Y) λ{q h L O a x d} bd wx e=>by
 rw[Jo]at e;obtain⟨f,e1,e2⟩:=e;by_cases z:(∀d∈f,(ji pr d).isSome=I)/\(f.map (A_ pr)).Nodup/\f.length<64
 .rw[c_ z]at e2;cases e2;obtain⟨ys,e0,r⟩:=wx.seqOf e1;obtain⟨B,E⟩:=Bj r z.1
  have:ld pr [x] h=.ok (.loc h.length) (h++[.lst (aT (xR pr) ys)]):=by simp only[ld,e0];rw[c_ ⟨B,E▸z.2.1,by rw[r.length];exact z.2.2⟩]
  show Gv q h O I (ld pr [x] h).ne _;rw[this];have l:=Cy r z.1;have g:(h++[MO.lst (aT (xR pr) ys)])[h.length]?=J (.lst (aT (xR pr) ys)):=by simp
  have C:Rps q (h++[MO.lst (aT (xR pr) ys)]) O (aT (A_ pr) f) (aT (xR pr) ys):=l.mv ⟨λn i _=>qr i,λo j=>.inl j⟩;have y:Rps q (h++[MO.lst (aT (xR pr) ys)]) (h.length::O) (aT (A_ pr) f) (aT (xR pr) ys):=l.mv ⟨λn i _=>qr i,λo j=>(nw.mp j).elim (λz=>.inr (Nat.le_of_eq z.symm)) .inl⟩;exact⟨_,_,rfl,⟨_,_,rfl,λz=>by have:=bd _ z;lia,g,C⟩,λ_ k u e=>by obtain⟨rfl,rfl⟩:=gS e;exact⟨_,_,rfl,l_ _,g,y⟩⟩
 .rw[g_ z]at e2;cases e2
abbrev iL:DU:=BW T
abbrev uO:DU:=BW I
end PU
namespace MM
open L2
def G_{X:L2.Cx}:BB X "sorted" PU.iL:=.fn _ _ j0 wd
def Ha{X:L2.Cx}:BB X "sorted" PU.uO:=.fn _ _ j0 wd
end MM
namespace TupM
open PySem.Builtin
section
open PyProof.Rows
variable{prog:Program}{w:World}{A:Around}{E:WE}{s:Shared}
end
end TupM
namespace MM
open PySem.Spec PyProof.Rows L2
end MM
namespace PU
open MM
noncomputable section
end
end PU
namespace PU
open MM
open L2 (vR o_ jq)
noncomputable section
abbrev Rd:=Option (WN)×WR
def dH(rd:List Rd):D:=.lst (rd.map λr=>dl r.1 r.2)
structure Gr(h:MH)(L a:Nat)(ms:WQ)(rd:List Rd):Prop where
 top:h[a]?=J (.lst (ms.map .loc))
 len:ms.length=rd.length
 nd:(a::ms).Nodup
 ge:∀m∈a::ms,L<=m
 row:∀(i:Nat)(r:Rd),rd[i]?=J r->eT r.2=I/\∃m xs,ms[i]?=J m/\h[m]?=J (mo r.1 xs)/\Rps 0 [] [] r.2 xs
def kN:∀{f:WR}{a:WL},a.length=f.length->(∀(i:Nat) d v,f[i]?=J d->a[i]?=J v->Rp q h O d v)->Rps q h O f a
 |[],[],_,_=>rfl
 |d::f,v::a,j,r=>⟨v,a,rfl,r 0 d v rfl rfl,kN (by simpa using j) λi d v e1 e2=>r (i+1) d v (by simpa using e1) (by simpa using e2)⟩
def Rp.dl(no:m∉O)(e:h[m]?=J (mo k xs))(r:Rps q h O ds xs):Rp q h O (dl k ds) (.loc m):=by
 cases k with
 |none=>exact⟨m,xs,rfl,no,e,r⟩
 |some a=>exact⟨m,xs,rfl,no,e,r⟩
mutual
def Rp.fq:∀{d:D}{v:PV},PU.flat d=I->Rp p h O d v->Rp p' h' O' d v
 |.non,_,_,r=>r
 |.bl _,_,_,r=>r
 |.int _,_,_,r=>r
 |.str _,_,_,r=>r
 |.tup a,_,f,⟨xs,e,r⟩=>⟨xs,e,Rps.fq (by simpa [PU.flat]using f) r⟩
 |.lst a,_,f,_=>by simp[PU.flat]at f
 |.dic _ _ _,_,f,_=>by simp[PU.flat]at f
 |.exc _,_,f,_=>by simp[PU.flat]at f
 |.pen,_,f,_=>by simp[PU.flat]at f
def Rps.fq:∀{i:WR}{j:WL},PU.eT i=I->Rps p h O i j->Rps p' h' O' i j
 |[],_,_,r=>r
 |_::_,_,f,⟨x,t,e,a,b⟩=>⟨x,t,e,Rp.fq (by simp[PU.eT]at f;exact f.1) a,Rps.fq (by simp[PU.eT]at f;exact f.2) b⟩
end
section
variable{h h':MH}{L a:Nat}{ms:WQ}{rd:List Rd}{O:WQ}{q:Nat}
def Gr.lt(g:Gr h L a ms rd):∀m∈a::ms,m<h.length:=λm f=>by
 rcases nw.mp f with rfl|f
 .exact aK g.top
 .obtain⟨i,j,rfl⟩:=H_ f;have l:=g.len;obtain⟨_,m,xs,e1,e2,_⟩:=g.row i (rd[i]'⋯) (yZ ⋯);rw[yZ j]at e1;cases e1;exact aK e2
def Gr.rp(g:Gr h L a ms rd)(no:∀m∈a::ms,m∉O):Rp q h O (dH rd) (.loc a):=by refine⟨a,ms.map .loc,rfl,no a (by simp),g.top,kN (by simp[g.len]) λi d v e1 e2=>?_⟩;rw[se,Bi]at e1 e2;obtain⟨r,f,rfl⟩:=e1;obtain⟨m,em,rfl⟩:=e2;obtain⟨l,u,xs,e3,e4,j⟩:=g.row i r f;rw[em]at e3;cases e3;exact Rp.dl (no m (ml _ (x3 em))) e4 (Rps.fq l j)
def Gr.keep(g:Gr h L a ms rd)(k:∀m∈a::ms,h'[m]?=h[m]?):Gr h' L a ms rd :=
 ⟨(k a (by simp)).trans g.top,g.len,g.nd,g.ge,λi r e=>let⟨f,m,xs,e1,e2,e3⟩:=g.row i r e;⟨f,m,xs,e1,(k m (ml _ (x3 e1))).trans e2,e3⟩⟩
def Gr.put(g:Gr h L a ms rd)(l:ms[i]?=J m)(G:eT r'.2=I)(e:h'[m]?=J (mo r'.1 xs'))(F:Rps 0 [] [] r'.2 xs')(k:∀n∈a::ms,n≠m->h'[n]?=h[n]?):Gr h' L a ms (rd.set i r'):=by
 have C:=x3 l;have nd:=g.nd;rw[vz]at nd;have ne:a≠m:=λz=>nd.1 (z▸C);refine⟨(k a (by simp) ne).trans g.top,by simp[g.len],g.nd,g.ge,λj r u=>?_⟩;have E:i<rd.length:=by have:=(pf.mp l).1;rw[g.len]at this;exact this
 by_cases z:i=j
 .subst z;rw[C_ E]at u;cases u;exact⟨G,m,xs',l,e,F⟩
 .rw[qa z]at u;obtain⟨f,B,xs,e1,e2,e3⟩:=g.row j r u
  have:B≠m:=λy=>z ((My (pf.mp l).1 nd.2).mp (by rw[l,e1,y]))
  exact⟨f,B,xs,e1,(k B (ml _ (x3 e1)) this).trans e2,e3⟩
end
def Kp(i:Nat)(o:SOut)(Z:pq):Prop:=match o with
 |.nx a _=>a[i]?=Z[i]?
 |.bk a _=>a[i]?=Z[i]?
 |.ct a _=>a[i]?=Z[i]?
 |_=>True
def Hb{n:Nat}{i:Nat}(e:(lw n ds)[i]?=J (J d)):ds[i]?=J d:=by
 unfold lw at e;by_cases z:i<ds.length
 .rw[qr (by simpa using z)]at e
  simp_all
 .rw[Ek (by simp;lia),Jn]at e
  split at e<;>cases e
def nZ:∀{a:WR}{d:D},eT a=I->d∈a->flat d=I
 |x::a,d,f,h=>by
  simp[eT]at f;rcases nw.mp h with rfl|h
  .exact f.1
  .exact nZ f.2 h
def wH{q:Nat}{h:MH}{O:WQ}{s S:e_}{B:Xd [0]}{n np m:Nat}{k k':Option (WN)}{E ds' as:WR}{F xs:WL}{f:aC}(bd:∀o∈O,o<m)(hq:q∈O)(pn:bx h q s)(g:h[m]?=J (mo k xs))(fl:eT E=I)(r:Rps 0 [] [] E xs)(fa:eT as=I)(Q:Rps 0 [] [] as F)(ac:as.length+1=np)(hn:np<=n)(kp:∀Z h,Kp 0 (B.m Z h) Z)(e:B.p (lw n (dl k E::as)) s=.nx f S)(e0:f[0]?=J (J (dl k' ds'))):
  ∃l,cX n np B.m (.loc m::F) h=.ok .non l/\h.length<=l.length/\(∀j,j<h.length->j≠m->j≠q->l[j]?=h[j]?)/\bx l q S/\∃H a,l[m]?=J (mo k' a)/\Rps q l H ds' a:=by
 have hm:=aK g;have vl:=Q.length;have c:Cx q h m O (m::O) [0] (bG n (.loc m::F)) (lw n (dl k E::as)) s:=by
  refine⟨λo C=>?_,λo C=>ml _ C,bd,hq,⋯,pn,?_,λi d u y=>?_,λi d u y=>?_⟩
  .rcases nw.mp C with rfl|C
   .exact hm
   .have:=bd o C;lia
  .simp[bG,lw,vl]
  .have u:=Hb u
   cases i with
   |zero=>simp at y
   |succ i =>
    obtain⟨v,ev,rv⟩:=Q.get u;have fd:flat d=I:=by exact nZ fa (x3 u)
    exact⟨v,by obtain⟨l1,l2⟩:=pf.mp ev;simp[bG,List.getElem?_append,l1,l2],Rp.fq fd rv⟩
  .have:i=0:=by simpa using y
   subst this;cases u;exact⟨m,k,xs,E,rfl,rfl,by simp,l_ _,g,Rps.fq fl r⟩
 have P:=B.ok c λi j y G ne=>absurd (by simp at y G;lia) ne;rw[e]at P;obtain⟨Z',l,X,H,st,M,_⟩:=P;have R:=kp (bG n (.loc m::F)) h;rw[X]at R;obtain⟨n',W,a,L,e2,U,_,_,g',r'⟩:=M.sr.ow 0 _ e0 (by simp);rw[R]at U;cases U
 have:k'=W/\ds'=L:=by cases k'<;>cases W<;>cases e2<;>exact⟨rfl,rfl⟩
 obtain⟨rfl,rfl⟩:=this;refine⟨l,?_,st.len,λj G n1 n2=>?_,M.pen,H,a,g',r'⟩
 .rw[gz (by simp;lia),X];rfl
 .by_cases z:j∈m::O
  .rcases nw.mp z with rfl|z
   .exact absurd rfl n1
   .exact st.base j (bd j z) n2
  .exact st.mv.keep j G z
end
end PU
namespace MM
open PySem.Spec PyProof.Rows L2
def Ug{P:Program}{w:World}{K:hR}{mg:WF}{base:Heap}{x:Str}{st:Stmt}{k:Nat}{np:Nat}{f:WQ}{B:PU.Xd f}(N:WM)(b:Ba P w K mg base)(D:b_ K x st)(j:∀X:Cx,Wc X P w K mg base N N k (am st)->hH X->ng X (aI st) B.m)(z:ig x st (N.take np):=by first | exact λ_ _ _ _ _ _=>M3 λ_=>rfl | exact λ_ _ _ _ _ _=>M4 λ_ _=>rfl | exact λ_ _ _ _ _ _=>OP λ_ _ _=>rfl | exact λ_ _ _ _ _ _=>RD λ_ _ _ _=>rfl | exact λ_ _ _ _ _ _=>ar5 λ_ _ _ _ _=>rfl)(S:pj N (N.take np) (am st):=by exact⟨rfl,rfl,rfl,by decide +kernel,rfl,by decide +kernel,by decide +kernel⟩)(u:∀y∈N,(am st).names.lookup y=J .local\/(am st).names.lookup y=J .cell:=by decide +kernel)(a:∀y∈G3 (am st),(am st).names.lookup y=J .globalImplicit:=by decide +kernel)(dbg:∀x∈N++G3 (am st),(x==("__debug__":Str))=T/\(x==("__classdict__":Str))=T/\x≠"__name__":=by decide +kernel)(l:(N.take np).length=np:=by rfl):
  FnAt P w K mg base x (N.take np) (cX N.length np B.m) (k+1):=by
 have q:=rE b.kin b.ns D S z u a dbg λX e1 e2 e3 e4 e5 C g i=>(j X ⟨g,⟨e1,e2,e3,e4,e5,b⟩,C⟩ i).h;rw[l]at q;exact q
abbrev sB(C t:Addr):Obj:={ cls:=.ref C,data:=.fields #[.ref t,.none,.none,.none,.bool T,.none]}
section
variable{prog:Program}{w:World}{A:Around}{E:WE}{h:Heap}{gs:Array GenState}{dr:Drawn}{tk:Nat}{os:OsState}{nm qn:Str}{C N:Addr}{bs bm bmB:WT}{hd:Bool}{sn:WM}{sub:WT}{ab:Bool}{col:Option Bool}{dd:WK}{k0 k1 k2 k3 k5:WV}{B nid iid:String}{mN:WF}{rest:WT}{fI:Addr}{oI:Obj}
def Hc(F:ExcBaseFacts B nid iid bmB)(a:OwnTail h bmB bm)(f:h.get? C=J (excClassObj nm qn C N bs bm hd sn sub ab col dd k0 k1 k2 k3 k5 nid))(M:h.Ns N mN)(G:mN "__init__"=J (.ref fI))(hf:h.get? fI=J oI)(i:oI.cls=.type "function")(R:rest.length<=sizeLine)(run:∀u e,Heap.MadeExcOf h u e (.ref C) rest->wpAny (model prog w) A (call (.ref fI) (.ref e::rest)) (λr j=>r=.none/\Q (.done (.ret (.ref e))) j) E ⟨u,gs,dr,tk,os⟩):
  wpAny (model prog w) A (Builtin.«type.__call__» ⟨.ref C::rest,[]⟩) Q E ⟨h,gs,dr,tk,os⟩:=by
 repeat (first | with_reducible refine wpAny_loadPart_at f ?_ | with_reducible refine wpAny_madeBy_exc f ?_ | wp_step)
 refine codeAny_call_builtin_code (Code.quiet_builtin _ F.quiet) (wpAny_check_new_subT F a f (codeAny_exc_new_subT F a f ?_ R));have kp:∀b o,h.get? b=J o->((h.push { cls:=.type "tuple",data:=.seq rest.toArray}).push (sB C h.objs.size)).get? b=J o:=λb o e=>nj _ (nj _ e);have l:=kp _ _ f;have P:=kp _ _ hf;have O:=M.keeps kp;have L:=a.keeps kp;have e1:((h.push { cls:=.type "tuple",data:=.seq rest.toArray}).push (sB C h.objs.size)).get? (h.objs.size+1)=J (sB C h.objs.size):=by heap_get
 have y:(Value.ref C::bm).contains (.ref C)=I:=by simp
 show wpAny _ _ _ _ _ _;unfold isInstance
 repeat (first | with_reducible refine wpAny_loadPart_at e1 ?_ | (with_reducible refine wpAny_isSubtype_exc l ?_;rw[y]) | wp_step)
 refine(show wpAny _ _ (typeLookup (.ref C) _) _ _ _ from wpAny_typeLookup_tail l O L F.mroIs F.init.lookup ?_);rw[G];refine wpAny_holding (f_ ?_);unfold bindSpecial;refine f_ (wpAny_typeOf (T:="function") ⟨_,P,i⟩ ?_);rw[c_ (by decide)];refine nc (f_ (wpAny_mono (run _ (h.objs.size+1) ⟨kp,QN (Ic _),h.objs.size,e1,QN (l_ _),nj _ (Heap.get?_push_at rfl rfl)⟩) (λr j ⟨H,q⟩=>?_) λ_ _ z=>z));subst H
 wp_walk
 exact q
def BY(F:ExcBaseFacts B nid iid bmB)(f:OwnTail h bmB bm)(a:h.get? C=J (excClassObj nm qn C N bs bm hd sn sub ab col dd k0 k1 k2 k3 k5 nid))(u:h.Ns N mN)(y:mN "__init__"=J (.ref fI))(hf:h.get? fI=J oI)(i:oI.cls=.type "function")(l:rest.length<=sizeLine)(run:∀j e,Heap.MadeExcOf h j e (.ref C) rest->wpAny (model prog w) (A.under (.builtin "type.__call__" ⟨.ref C::rest,[]⟩)) (call (.ref fI) (.ref e::rest)) (λr z=>r=.none/\Q (.ref e) z) E ⟨j,gs,dr,tk,os⟩):
  wpAny (model prog w) A (call (.ref C) rest) Q E ⟨h,gs,dr,tk,os⟩:=by
 have G:=tc_lookup;have H:=tc_bind (.ref C);have ty:(⟨h,gs,dr,tk,os⟩:Shared).TypeIs (.ref C) "type":=⟨_,a,rfl⟩;refine wpAny_call (codeAny_of_tree (show wpAny _ _ (callAny (.ref C) _) _ _ _ from ?_))
 repeat (any_goals (first | assumption | with_reducible refine wpAny_loadPart_at a ?_ | wp_step))
 exact⟨rfl,codeAny_call_builtin_at (Code.quiet_builtin _ (by decide +kernel)) entry_typeCall (wpAny_check_type_call_sub a (Hc F f a u y hf i l run))⟩
end
@[inline]abbrev Wn(C F:Addr):WT:=.ref C::.ref F::[.type "ValueError",.type "Exception",.type "BaseException",.type "object"]
section
open Builtin.ObjectAttr
variable{prog:Program}{w:World}{A:Around}{E:WE}{s:Shared}{K:hR}{x C F:Addr}{o:Obj}{name:Str}{v:Value}{cd:ClassData}
def Hd(X:K.In s.heap)(H:s.heap.get? x=J o)(hc:o.cls=.ref C)(z:o.dict=Y)(l:o.data=.fields vs)(hs:PySem.W.findIn K (.ref C) "__setattr__"=J (J (.builtin "object.__setattr__")))(P:PySem.W.clsIn K C=J cd)(i:cd.mro=Wn C F)(hd:cd.hasDict=I)(ht:PySem.W.takerIn K C name=J Y)(q:∀u Z R,(∀b L,b≠x->s.heap.get? b=J L->u.get? b=J L)->u.get? x=J { o with dict:=J R}->s.heap.get? R=Y->u.Ns1 R (λy=>if y=name then J v else Y)->Q () { s with heap:=u,toks:=Z}):
  wpAny (model prog w) A (setAttr (.ref x) name v) Q E s:=by
 have f:PySem.W.InstAt s.heap x o C Y:=⟨H,hc,by unfold PySem.W.notCls;rw[l],by rw[z];trivial⟩;refine PySem.W.set_plain X f hs ?_;have G:=PySem.F.store_object;have W:PySem.W.Looks (model prog w) s.heap (mroOf (.ref C)) cd.mro:=(PySem.W.looks_clsIn X P).andThen .now;have sub:PySem.W.Looks (model prog w) s.heap (isInstance (.ref x) (.type "object")) I:=f.type.andThen (PySem.W.looks_mroIn X (by unfold PySem.W.mroIn;rw[P,Jy,i];rfl));refine codeAny_call_builtin G.slot.plain G.entry (@PySem.W.check_slot (model prog w) _ _ { s with toks:=s.toks+1} "object.__setattr__" "object" "__setattr__" (.ref x) [.str name s.toks,v] [] _ G.kind G.split sub (G.args (.ref x) (.str name s.toks) v) ?_);obtain⟨j,ha,hr⟩:=Jo.mp ht;have L3:PySem.W.Looks (model prog w) s.heap (storeTaker? j) Y:=by
  cases j with
  |none=>exact .now
  |some a =>
   obtain⟨b,hb,e⟩:=Bi.mp hr;refine(PySem.W.looks_takesIn X hb).andThen ?_;cases b
   .exact .now
   .cases e
 rw[PySem.W.osa_eq,refuse_eq];refine f_ (f_ (PySem.W.Looks.here (s:={ s with toks:=s.toks+1}) f.type (f_ (PySem.W.Looks.here (s:={ s with toks:=s.toks+1}) W ?_))));rw[i,refuseLoop_ref,refuseLoop_ref,PySem.F.store_ValueError.passes];refine nc (f_ (PySem.W.Looks.here (s:={ s with toks:=s.toks+1}) f.type (f_ (PySem.W.Looks.here (s:={ s with toks:=s.toks+1}) (PySem.W.looks_findIn X ha) (f_ (PySem.W.Looks.here (s:={ s with toks:=s.toks+1}) L3 ?_))))));have O:({ s with toks:=s.toks+1}:Shared).heap.get? x=J o:=H;refine f_ (nc (f_ (f_ (wpAny_loadPart O ?_))));rw[hc];refine f_ (PySem.W.Looks.here (s:={ s with toks:=s.toks+1}) (PySem.W.looks_clsIn X P) ?_);rw[hd,g_ (by decide)];dsimp only;rw[z];dsimp only;rw[g_ (by simp[typeHasDict]),l];dsimp only;have xs:x≠s.heap.objs.size:=zt (pa H);have x1:(s.heap.push { cls:=.type "dict",data:=.dict #[]}).get? x=J o:=nj _ H;refine f_ (wpAny_alloc' (f_ (wpAny_update' x1 (nc ?_))));have gd:((s.heap.push { cls:=.type "dict",data:=.dict #[]}).update x λo=>{ o with dict:=J s.heap.objs.size}).get? s.heap.objs.size=J { cls:=.type "dict",data:=.dict #[]} :=
  (Jr _ _ _ _ xs.symm).trans (Heap.get?_push_at rfl rfl)
 have nd:((s.heap.push { cls:=.type "dict",data:=.dict #[]}).update x λo=>{ o with dict:=J s.heap.objs.size}).Ns s.heap.objs.size (λ_=>Y):=⟨_,#[],_,gd,rfl,λe he=>absurd he (by simp),λ_=>rfl⟩;refine(show wpAny _ _ (storeInDict s.heap.objs.size (.str name s.toks) name v) _ _ _ from f_ (nc (f_ (wpAny_nsSet1 (Heap.Ns1.of_empty nd) λu n' B=>?_))));obtain⟨oD,es,ep,M,ac,U⟩:=n'.count (Within.cons name v Within.nil);refine f_ (wpAny_lookBehind M (by rw[ac];exact pastItsLine_dict (oh U (by rw[DR,FC,sizeLine_eq];lia))) (nc ?_));refine q u _ s.heap.objs.size (λb L nb e=>(B.2 b (zt (pa e))).trans ((Jr _ _ _ _ nb).trans (nj _ e))) ((B.2 x xs).trans (QM _ x1 ?_)) (QN (l_ _)) n';obtain⟨oc,od,S,ai⟩:=o;cases S<;>first | rfl | cases l
end
section
variable{prog:Program}{w:World}{A:Around}{E:WE}{h:Heap}{gs:Array GenState}{dr:Drawn}{tk:Nat}{os:OsState}{nm qn:Str}{C N e t0:Addr}{bs bm bmB:WT}{hd:Bool}{sn:WM}{sub:WT}{ab:Bool}{col:Option Bool}{dd:WK}{k0 k1 k2 k3 k5:WV}{B nid iid:String}{rest:WT}
def CH(F:ExcBaseFacts B nid iid bmB)(f:OwnTail h bmB bm)(u:h.get? C=J (excClassObj nm qn C N bs bm hd sn sub ab col dd k0 k1 k2 k3 k5 nid))(j:h.get? e=J (sB C t0))(y:rest.length<=sizeLine)(q:∀i t,(∀b a,b≠e->h.get? b=J a->i.get? b=J a)->i.get? e=J (sB C t)->Q .none ⟨i,gs,dr,tk,os⟩):
  wpAny (model prog w) A (call (.builtin iid) (.ref e::rest)) Q E ⟨h,gs,dr,tk,os⟩:=by
 refine wpAny_call (codeAny_call_builtin F.init.plain F.initEntry (wpAny_check_init_subT F f u j rfl ?_))
 wp_walk
 refine q _ h.objs.size (λb a l e=>?_) ?_
 .rw[RZ _ _ (Ne.symm l)];exact nj _ e
 .rw[QM _ (nj _ j) rfl];rfl
end
structure Ee(K:hR)(mg:WF)(x:Str)(C F fI:Addr)(fld:Str):Prop where
 bd:mg x=J (.ref C)
 lk:∃(nm qn:Str) (N:Addr) (bs:WT) (sn:WM) (sub:WT) (ab:Bool) (col:Option Bool) (dd:WK) (k0 k1 k2 k3 k5:WV),K.lookup C=J (excClassObj nm qn C N bs (.ref F::jE) I sn sub ab col dd k0 k1 k2 k3 k5 "ValueError.__new__")/\PySem.W.nsOkIn K N=I/\PySem.W.nsIn K N "__init__"=J (J (.ref fI))
 tl:PySem.W.tailIn K jE (.ref F::jE)=I
 sa:PySem.W.findIn K (.ref C) "__setattr__"=J (J (.builtin "object.__setattr__"))
 tk:PySem.W.takerIn K C fld=J Y
structure LK(K:hR)(mg:WF)(x:Str)(F:Addr):Prop where
 bd:mg x=J (.ref F)
 hg:PySem.W.specialIn K (.ref F) "__getattribute__"=J (J (.builtin "type.__getattribute__"))
 hr:PySem.W.readsIn K F (.type "type")=I
 fc:PySem.W.findCls K (.ref F) (.type "type") "__init__"=J (.val (.builtin "ValueError.__init__"))
def fS(e C:Addr)(h:Heap):Prop:=∃t,h.get? e=J (sB C t)
def yf(x:fS e C h):ObjOk P w H h e (.ext (fS e C)):=by obtain⟨t,a⟩:=x;exact⟨⟨t,a⟩,⟨_,a⟩,λi f ⟨t,z⟩ k=>⟨t,k _ z⟩⟩
abbrev He(C t:Addr)(dx:WK):Obj:={ cls:=.ref C,dict:=dx,data:=.fields #[.ref t,.none,.none,.none,.bool T,.none]}
def mK(e C:Addr)(h:Heap):Prop:=∃t a,h.get? e=J (He C t a)
def Hf(f:h.get? e=J (He C t a)):ObjOk P w H h e (.ext (mK e C)) :=
 ⟨⟨t,a,f⟩,⟨_,f⟩,λj i ⟨t,a,z⟩ k=>⟨t,a,k _ z⟩⟩
section
variable{X:Cx}{x fx fld:Str}{C F fI:Addr}{a b:Expr}{t:WX->TE}{p apos cpos:Pos}
def Dr(E:Gl X fx)(u:LK X.K X.mg fx F)(S:Ee X.K X.mg x C F fI fld)(ha:PA X [a,b] ta)(dbg:(fx==("__debug__":Str))=T)(he:eval (.Call (.Attribute (.Name fx p) "__init__" apos) [a,b] [] cpos) X.env=(do
   let ov <-eval (.Name fx p) X.env
   standAt apos.atName
   let(f,fs1) <-holding [ov] (getMethod ov "__init__" pl)
   callWith cpos f fs1 (backTo cpos (starEach [a,b] X.env)) (backToKw cpos (keywordEach [] X.env))))(hs:starEach [a,b] X.env=(T,eval a X.env)::starEach [b] X.env)(B:(backTo cpos (starEach [b] X.env)).any (·.1)=T):
  PE X (.Call (.Attribute (.Name fx p) "__init__" apos) [a,b] [] cpos) (λZ H Q=>ta Z H λW U=>∃e z,W=[.ref e,.str z]/\U e=J (.ext (fS e C))/\Q .non U):=by
 intro Oz s Z H Q i h;refine PySem.W.methodCall_KW (pl:=pl) (oR i E u.bd (PySem.W.method_cls i.kIn u.hg (PySem.W.cls_value i.kIn u.hr u.fc rfl ?_)) dbg) he;have hA:=ha cpos Oz _ Z H _ (i.tok (s.toks+1)) h;rw[hs]at hA ⊢;refine Calls.callWith_builtin (by show(T||(backTo cpos (starEach [b] X.env)).any (·.1))=T;rw[B];rfl) (Calls.evalArgs_plain ?_);refine mf hA λus R G=>?_;obtain⟨W,l,j,r2,e,z,ev,L,q2⟩:=G;subst ev;obtain⟨u1,u2,rfl,e1,_⟩:=r2.two;obtain rfl:u1=Value.ref e:=e1;obtain⟨⟨t0,M⟩,_,_⟩:=(show ObjOk X.prog X.w l R.heap e (.ext (fS e C))from j.hok e _ L);obtain⟨nm,qn,N,bs,sn,sub,ab,ac,dd,k0,k1,k2,k3,k5,lC,_,_⟩:=S.lk;obtain⟨hp,gs,dr,tk,os⟩:=R;refine CH PySem.F.excBase_ValueError (PySem.W.tail_of_in j.kIn S.tl) (j.kIn _ _ lC) M (by rw[sizeLine_eq];show 1<=_;decide) λh' t kp e'=>?_;have O:=j.write (t':=tk) (x:=e) (e:=e) (o:=.ext (fS e C)) (by rw[L];trivial) (.inl rfl) kp ⟨_,e'⟩ (yf ⟨t,e'⟩);have eu:mj l e (.ext (fS e C))=l:=by
  funext y;by_cases P:y=e
  .subst P;rw[ba,L]
  .rw[aN P]
 rw[eu]at O;exact⟨.non,l,O,rfl,q2⟩
end
section
variable{X:Cx}{x fx fld:Str}{C F fI:Addr}{o value e:Expr}{ta tv te:TE}{p pos pos' p1 p2 p3:Pos}{c1 c2:Str}{j1 j2:Nat}
def Cw(j:Ee X.K X.mg x C F fI fld)(O:PE X o ta)(hv:PE X value tv)(W:swapsWith value (J (.Attribute o fld pos')) pos.line X.env=pure T):
  PS X (.Assign [.Attribute o fld pos'] value pos) (λD Z H=>tv Z H λy l=>ta Z l λx f=>∃e,x=.ref e/\f e=J (.ext (fS e C))/\D.nx Z (mj f e (.ext (mK e C)))):=by
 intro G s Z H D z h;refine plainObj_wpAny_Assign_Attribute (mf (hv G s Z H _ z h) λu P ⟨y,l,I1,ry,q⟩=>mf (O G P Z l _ I1 q) λov s2 i=>?_) W;obtain⟨x,f,a,R,e,ex,L,Q⟩:=i;subst ex;obtain rfl:=R;obtain⟨⟨t0,E⟩,_,_⟩:=(a.hok e _ L);obtain⟨nm,qn,N,bs,sn,sub,ab,U,dd,k0,k1,k2,k3,k5,S,_,_⟩:=j.lk;refine Hd a.kIn E rfl rfl rfl j.sa (by unfold PySem.W.clsIn;rw[S]) rfl rfl j.tk λh' B dx kp M _ _=>?_;exact⟨Z,_,a.write (t':=B) (by rw[L];trivial) (.inl rfl) kp ⟨_,M⟩ (Hf M),Q⟩
def ik(c1 c2:Str)(i:Int):Prop:=i.natAbs.log2<1920/\(Str.empty++c1).length<=sizeLine/\(Str.empty++c1++(toString i:Str)).length<=sizeLine/\(Str.empty++c1++(toString i:Str)++c2).length<=sizeLine
def LL(z0:(Str.empty++c1).length<=sizeLine)(u:PE X e te):PE X (.JoinedStr [.Constant (.str c1) j1 p1,.FormattedValue e (-1) Y p2,.Constant (.str c2) j2 p3] pos) (λZ H Q=>te Z H λx f=>∃i,x=.int i/\ik c1 c2 i/\Q (.str (Str.empty++c1++(toString i:Str)++c2)) f):=by intro y s Z H Q j h;refine wpAny_JoinedStr ?_;refine Calls.Constant_str ⟨_,_,rfl,z0,?_⟩;refine wpAny_FormattedValue_plain ?_;refine mf (u y _ Z H _ (j.tok _) h) λv G a=>?_;obtain⟨x,f,E,B,i,e1,z,l⟩:=a;subst e1;obtain⟨t,rfl⟩:=B;refine wpAny_formatField_int z.1 ⟨_,_,rfl,z.2.2.1,?_⟩;exact Calls.Constant_str ⟨_,_,rfl,z.2.2.2,z.2.2.2,.str _,f,((E.tok _).tok _).tok _,⟨_,rfl⟩,l⟩
end
def tI(C:Addr)(j l:Str):TS:=Nq (Ie λZ H Q=>yK (uW 0) (yK (λZ H Q=>uW 1 Z H λx a=>∃i,x=.int i/\ik j l i/\Q (.str (Str.empty++j++(toString i:Str)++l)) a) NJ) Z H λu a=>∃e z,u=[.ref e,.str z]/\a e=J (.ext (fS e C))/\Q .non a)
 (λD Z H=>uW 1 Z H λy a=>uW 0 Z a λx f=>∃e,x=.ref e/\f e=J (.ext (fS e C))/\D.nx Z (mj f e (.ext (mK e C))))
def RK(C:Addr)(a j:Str):Sp:=λf H Q E=>∃e i,f=[.ref e,.int i]/\H e=J (.ext (fS e C))/\ik a j i/\Q .non (mj H e (.ext (mK e C)))
def LM(a:H e=J (.ext (fS e C)))(f:ik c1 c2 i)(q:Q .non (mj H e (.ext (mK e C)))):tI C c1 c2 { nx:=λ_ j=>Q .non j,rt:=Q} (start [sf,pl] [.ref e,.int i]) H :=
 ⟨.ref e,rfl,.int i,rfl,i,rfl,f,e,_,rfl,a,.int i,rfl,.ref e,rfl,e,rfl,a,q⟩
def Hg{P:Program}{w:World}{K:hR}{mg:WF}{base:Heap}{a:Str}{st:Stmt}{f:Addr}{fd:FuncData}{k:Nat}{C:Addr}{z y l j:Str}(M:Fun K "__init__" a st f fd)(S:pj [l,j] [l,j] (am st))(F:∀X:Cx,X.K=K->X.mg=mg->X.env.scope=am st->X.N=[l,j]->PSs X (aI st) (tI C z y)):FnOk P w K mg base MP (k+1) f fd [l,j] (RK C z y):=by
 refine M.ok S (λG H Q E ⟨e,i,h,_⟩=>by rw[h];rfl) λB A outer s H G Q E hr u=>?_;obtain⟨e,i,h,O,L,q⟩:=u;subst h;exact⟨_,F _ rfl rfl rfl rfl,LM O L q⟩
section
variable{prog:Program}{w:World}{A:Around}{E:WE}{s:Shared}{env:Env}{nm qn:Str}{C N:Addr}{bs bm:WT}{hd:Bool}{sn:WM}{sub:WT}{ab:Bool}{col:Option Bool}{dd:WK}{k0 k1 k2 k3 k5:WV}{nid:String}
def wY(F:bm.contains (.type "BaseException")=I)(u:A.handled=Y)(h:wpAny M A x (λv a=>∃e t i,v=.ref e/\a.heap.get? C=J (excClassObj nm qn C N bs bm hd sn sub ab col dd k0 k1 k2 k3 k5 nid)/\a.heap.get? e=J (He C t i)/\E (.ref e) a) E s):wpAny M A (raiseStmt env (J x) Y) Q E s:=by
 have B:(Value.ref C::bm).contains (.type "BaseException")=I:=by rw[List.contains_cons,F,Sj]
 refine f_ (wpAny_mono h (λv a f=>?_) λ_ _ z=>z);obtain⟨e,t,i,y,j,G,l⟩:=f;subst y
 repeat (first | with_reducible refine wpAny_loadPart_at G ?_ | with_reducible refine wpAny_loadPart_at j ?_ | (with_reducible refine wpAny_isSubtype_exc j ?_;rw[B]) | wp_step)
 exact wpAny_raiseNew_none u l
def wZ(L:bm.contains (.type "BaseException")=I)(F:A.handled=Y)(j:(backTo cpos (starEach args env)).any (·.1)=T)(h:wpAny (model prog w) A (eval (.Name x np) env) (λf y=>f=.ref C/\wpAny (model prog w) A (evalArgs (.ref C) I (backTo cpos (starEach args env)) [])
   (λa l=>a.kw=[]/\l.heap.get? C=J (excClassObj nm qn C N bs bm hd sn sub ab col dd k0 k1 k2 k3 k5 nid)/\wpAny (model prog w) A (call (.ref C) a.pos) (λv i=>∃e t G,v=.ref e/\i.heap.get? C=J (excClassObj nm qn C N bs bm hd sn sub ab col dd k0 k1 k2 k3 k5 nid)/\i.heap.get? e=J (He C t G)/\E (.ref e) i) E l) E y) E s):
  wpAny (model prog w) A (exec (.Raise (J (.Call (.Name x np) args [] cpos)) Y pos) env) Q E s:=by
 rw[arm_exec_Raise];simp only[evalOpt,Option.map];refine f_ (wpAny_standAt (wY (C:=C) (nm:=nm) (qn:=qn) (N:=N) (bs:=bs) (hd:=hd) (sn:=sn) (sub:=sub) (ab:=ab) (col:=col) (dd:=dd) (k0:=k0) (k1:=k1) (k2:=k2) (k3:=k3) (k5:=k5) (nid:=nid) L F ?_));refine f_ (wpAny_mono (wpAny_Call_ofName (wpAny_mono h (λf y u=>?_) λ_ _ z=>z)) (λv i O=>f_ (wpAny_standAt (nc O))) λ_ _ z=>z);obtain⟨H,P⟩:=u;subst H;refine f_ (wpAny_holding (wpAny_mono P (λa l M=>f_ (wpAny_standAt ?_)) λ_ _ z=>z));obtain⟨U,S⟩:=a;obtain⟨R,B,run⟩:=M;obtain rfl:=R;simp only[j];refine f_ (wpAny_keeperOf_exc B ?_);exact f_ (wpAny_mono run (λv i z=>f_ (wpAny_holding (wpAny_point (nc z)))) λ_ _ z=>z)
end
def LN{K:hR}{h:Heap}{N:Addr}{a:WF}{n:Str}{v:Value}(X:K.In h)(G:h.Ns N a)(e:PySem.W.nsIn K N n=J (J v)):a n=J v:=by
 obtain⟨o,i,j,f,hd,_,hf⟩:=G;unfold PySem.W.nsIn at e
 split at e
 .rename_i q
  have z:=X _ _ q
  split at e
  .rw[<-hf];unfold nsFind findBy
   grind
  .split at e<;>cases e
 .cases e
section
variable{X:Cx}{Oz:List (Addr × Obj)}{Z:L2.St}{H:Hp}{s:Shared}{e:Addr}{φ:Heap->Prop}
def Inv.hide(a:Inv X Oz Z (mj H e (.ext φ)) s)(he:H e=Y)(h0:X.s₀.heap.get? e=Y)(hL:e≠X.env.locals)(G:∀x c,X.env.cells.lookup x=J c->c≠e)(O:∀p∈X.pn++Oz,p.1≠e):
  Inv X Oz Z H { s with heap:=PySem.W.hideAll s.heap [e]}:=by
 have kp:∀b o,b≠e->s.heap.get? b=J o->(PySem.W.hideAll s.heap [e]).get? b=J o:=λb o nb z=>PySem.W.hideAll_get _ z (by simpa using nb);have E:∀b o,X.s₀.heap.get? b=J o->b≠e:=λb o z q=>by rw[q,h0]at z;cases z
 have ne:∀b u,H b=J u->b≠e:=λb u z q=>by rw[q,he]at z;cases z
 have up:∀b u,H b=J u->mj H e (.ext φ) b=J u:=λb u z=>by rw[aN (ne b u z)];exact z
 obtain⟨m,hn,hl⟩:=a.loc;refine⟨a.ok,a.os,a.bare,⟨λb o z n hf l=>kp b o (E b o z) (a.base.keep b o z n hf l),λb o z n hf l=>?_,λb o z n l=>?_,λb o z l=>?_,λb xs z=>?_,λb o u z=>?_,λb ps z=>?_⟩,⟨m,?_,λi x v e1 e2 e3=>?_⟩,λx c z=>?_,?_,λx c z=>?_,λp y=>?_,λb u z=>?_,a.len⟩
 .obtain⟨R,e1⟩:=a.base.slot b o z n hf l;exact⟨R,kp b _ (E b o z) e1⟩
 .have:=a.base.free b o z n l
  rwa [aN (E b o z)]at this
 .obtain⟨Q,e1⟩:=a.base.there b o z l;exact⟨Q,kp b Q (E b o z) e1⟩
 .have q:=a.base.tups b xs z;by_cases f:b=e
  .subst f;rw[ba]at q;cases q
  .rwa [aN f]at q
 .have q:=a.base.frzs b o u z;by_cases f:b=e
  .subst f;rw[ba]at q;cases q
  .rwa [aN f]at q
 .obtain⟨B,q⟩:=a.base.tbls b ps z;by_cases f:b=e
  .subst f;rw[ba]at q;cases q
  .rw[aN f]at q;exact⟨B,q⟩
 .obtain⟨o,es,S,ho,r⟩:=hn;exact⟨o,es,S,kp _ o (Ne.symm hL) ho,r⟩
 .obtain⟨u,W,C⟩:=hl i x v e1 e2 e3;refine⟨u,W,?_⟩;rcases C with z|⟨z1,c,P,z3⟩
  .exact .inl z
  .obtain⟨o,L,F⟩:=z3;exact .inr ⟨z1,c,P,o,kp c o (G x c P) L,F⟩
 .obtain⟨v,o,L,F⟩:=a.cell x c z;exact⟨v,o,kp c o (G x c z) L,F⟩
 .have:=a.free
  rwa [aN (Ne.symm hL)]at this
 .have:=a.freeC x c z
  rwa [aN (G x c z)]at this
 .obtain⟨a1,M,U⟩:=a.pin p y;rw[aN (O p y)]at M;exact⟨kp _ _ (O p y) a1,M,U⟩
 .refine (a.hok b u (up b u z)).stay (λc v j q=>kp c v ?_ q) (λc q=>?_) λc xs q=>?_
  .rcases j with rfl|j
   .exact ne _ _ z
   .intro ec;subst ec;rw[ba]at j;cases j
  .by_cases f:c=e
   .subst f;rw[ba]at q;cases q
   .rwa [aN f]at q
  .by_cases f:c=e
   .subst f;rw[ba]at q;cases q
   .rwa [aN f]at q
end
def xA(x a j:Str)(m:Mx (WL)):n_:=zv m λf Z h=>match f with
 |[.int i]=>if ik a j i then .rse ⟨x,[]⟩ Z h else .bad
 |_=>.bad
section
variable{X:Cx}{N W G:WM}{k:Nat}{x fld sf pl c1 c2:Str}{C F fI:Addr}{fd:FuncData}
def AD(g:Good X N W G (k+1)){j:Nat}(hj:G[j]?=J x)(EI:Ee X.K X.mg x C F fI fld)(FO:FnOk X.prog X.w X.K X.mg X.base MP k fI fd [sf,pl] (RK C c1 c2))(hb:lU X.K fd [sf,pl] []){oI:Obj}(hf:X.K.lookup fI=J oI)(ak:oI.cls=.type "function")(dc:hH X){e:Expr}{m:Mx (WL)}{np M as:Pos}(ha:MA X [e] m)(he:starEach [e] X.env=[(T,eval e X.env)]):MS X (.Raise (J (.Call (.Name x np) [e] [] M)) Y as) (xA x c1 c2 m):=by
 intro Oz s Z H D Q ⟨U,R,h,rs,rh,q⟩;have d:=g.dbg x (xn _ (aO hj));refine lp λP O=>?_;obtain⟨nm,qn,N',bs,sn,sub,ab,al,dd,k0,k1,k2,k3,k5,lC,ar,ax⟩:=EI.lk;refine O ?_;refine wZ (C:=C) (nm:=nm) (qn:=qn) (N:=N') (bs:=bs) (bm:=.ref F::jE) (hd:=I) (sn:=sn) (sub:=sub) (ab:=ab) (col:=al) (dd:=dd) (k0:=k0) (k1:=k1) (k2:=k2) (k3:=k3) (k5:=k5) (nid:="ValueError.__new__") rfl (Q.ok.hd g.calm) (by rw[he];rfl) (oR Q (g.gl x (aO hj)) EI.bd ⟨rfl,?_⟩ d.1)
 have A:=ha M Oz s Z H (λvs f=>∃L xs h1,Le U H L f/\RH X.K X.mg L f h1/\RPs X.K L f xs vs/\bD X L f (match xs with
   |[.int i]=>if ik c1 c2 i then .rse ⟨x,[]⟩ R h1 else .bad
   |_=>.bad) D) Q ⟨U,R,h,rs,rh,bD.ex q λL f v v' h1 l r z w=>⟨L,v,h1,l,r,z,w⟩⟩
 rw[he]at A ⊢;refine Calls.evalArgs_plain (wpAny_mono A (λus s2 ap=>lp λP O=>?_) λ_ _ y=>y);obtain⟨vs,f,B,rv,L,xs,h1,l1,ay,rx,w⟩:=ap;refine O ⟨rfl,B.kIn _ _ lC,lp λP O=>?_⟩
 cases rx with
 |nil=>exact w.elim
 |cons r1 t1 =>
  cases r1 with
  |int i =>
   cases t1 with
   |cons _ _=>exact w.elim
   |nil =>
    dsimp only at w;by_cases hz:ik c1 c2 i
    .rw[c_ hz]at w;obtain⟨u,rfl,tu,rfl⟩:=rv.one;have n2:=Heap.Ns.of_isNs (PySem.W.isNs_of_in B.kIn ar);have T2:=PySem.W.tail_of_in B.kIn EI.tl;have a7:=B.kIn _ _ lC;have a8:=B.kIn _ _ hf;have ac:=LN B.kIn n2 ax;refine O ?_;obtain⟨hp,gs,dr,tk,os⟩:=s2;refine BY PySem.F.excBase_ValueError T2 a7 n2 ac a8 ak (by rw[sizeLine_eq];show 1<=_;decide) λh' a E=>lp λP O=>?_;have en:hp.get? a=Y:=E.new;have I2:Inv X Oz Z f ⟨h',gs,dr,tk,os⟩:=B.kept (t':=tk) E.keeps;have a1:f a=Y:=by
      cases z:f a with
      |none=>rfl
      |some o=>obtain⟨u,eu⟩:=(B.hok a o z).has;rw[en]at eu;cases eu
     have a2:X.s₀.heap.get? a=Y:=by
      cases z:X.s₀.heap.get? a with
      |none=>rfl
      |some o=>obtain⟨o',e'⟩:=B.base.there a o z (by rw[dc.ex];simp);rw[en]at e';cases e'
     have a3:a≠X.env.locals:=λz=>by
      obtain⟨m',⟨o,_,_,eo,_⟩,_⟩:=B.loc;rw[<-z,en]at eo;cases eo
     have a4:∀z c,X.env.cells.lookup z=J c->c≠a:=λz c e1 e2=>by
      obtain⟨v,o,eo,_⟩:=B.cell z c e1;rw[e2,en]at eo;cases eo
     have a5:∀p∈X.pn++Oz,p.1≠a:=λp a6 e2=>by
      have:=(B.pin p a6).1
      rw[e2,en]at this;cases this
     obtain⟨t0,ai,_,_⟩:=E.there;have I3:=Inv.track (φ:=fS a C) I2 a1 a2 a3 a4 a5 (yf ⟨t0,ai⟩);have aF:=hb ⟨h',gs,dr,tk,os⟩ [.ref a,.int i tu] I3.kIn rfl;refine O ?_;refine wpAny_call (codeAny_mono (FO.run _ X.stack ⟨h',gs,dr,tk,os⟩ (mj f a (.ext (fS a C))) ⟨[.ref a,.int i tu],[]⟩ [.ref a,.int i tu] [.ref a,.int i] (λv H'=>v=.non/\H'=mj (mj f a (.ext (fS a C))) a (.ext (mK a C))) (λ_ _ _=>False) (g.room.make _ _ _) (I3.env0.make _ _ _) aF (.cons rfl (.cons ⟨_,rfl⟩ .nil)) ⟨a,i,rfl,ba,hz,rfl,rfl⟩) λr s' hq=>?_)
     cases r with
     |error _=>exact False.elim hq
     |ok fl =>
      cases fl with
      |ret u =>
       obtain⟨v,H',I4,a0,ev,eH⟩:=I3.after hq;subst ev eH;obtain rfl:u=Value.none:=a0;refine⟨rfl,?_⟩;have eu:mj (mj f a (.ext (fS a C))) a (.ext (mK a C))=mj f a (.ext (mK a C)):=by
        funext y;by_cases hy:y=a
        .subst hy;rw[ba,ba]
        .rw[aN hy,aN hy,aN hy]
       rw[eu]at I4;obtain⟨⟨t,dx,S⟩,_,_⟩:=(show ObjOk X.prog X.w _ s'.heap a (.ext (mK a C))from I4.hok a _ ba);refine⟨a,t,dx,rfl,I4.kIn _ _ lC,S,?_⟩;have I5:=Inv.unpinned (Oz:=[]) (Inv.hide I4 a1 a2 a3 a4 a5);exact w a C L f Z s' (PySem.W.hideAll s'.heap [a]) rfl EI.bd (Le.refl _ _) ay (rs.le l1) I5 ⟨λb o z=>PySem.W.of_hideAll _ z,PySem.W.hideAll_none _ (by simp),t,dx,S⟩
      |next=>exact False.elim hq
      |brk=>exact False.elim hq
      |cont=>exact False.elim hq
    .rw[g_ hz]at w;exact w.elim
  |_=>exact w.elim
end
section
variable{X:Cx}{N W G:WM}{k:Nat}{Z:L2.St}{H:Hp}{s:Shared}
def yG(c:Str)(j:Nat)(a:n_):n_:=λZ h=>match a Z h with
 |.exc x f i=>if x.fs=[]/\x.cls=c then .nx (f.set j (J .non)) i else .bad
 |.rse _ _ _=>.bad
 |o=>o
def Hh(g:Good X N W G k)(dc:hH X){j:Nat}(hj:G[j]?=J c)(EI:Ee X.K X.mg c C F fI fld)(iy:Nat)(a5:N[iy]?=J y)(bv:W[iy]?=J y){kc:Nat}(hb:∀O:Cx,O.prog=X.prog->O.w=X.w->O.K=X.K->O.mg=X.mg->O.base=X.base->O.env=X.env->Good O N W G k->hH O->DT O body mb)(br:swapsWith (.Constant .none kc np) (J (.Name y yp)) sp.line X.env=pure T:=by rfl):
  MS X (.Try body [.ExceptHandler (J (.Name c cp)) Y [.Assign [.Name y yp] (.Constant .none kc np) sp] hp] [] [] pos) (yG c iy mb):=by
 intro Oz s Z H Dd b6 ⟨U,ay,h,rs,rh,q⟩;refine wpAny_Try_except ?_;have gY:∀E,PassesOwn (model X.prog X.w) X.A X.env E->Good (sH X Oz E) N W G k:=λE po=>⟨g.hN,g.nd,g.loc,g.fn,g.gl,g.dbg,g.calm,g.room,po⟩;have run:=hb (sH X Oz _) rfl rfl rfl rfl rfl rfl (gY _ (PassesOwn.looking (M:=model X.prog X.w) (A:=X.A) (env:=X.env) (K:=λe a4=>wpAny (model X.prog X.w) X.A (setFlight e Y) (λ_ aF=>wpAny (model X.prog X.w) X.A (handleBy e X.env [.ExceptHandler (J (.Name c cp)) Y [.Assign [.Name y yp] (.Constant .none kc np) sp] hp]) (SP X Oz Dd) X.xe aF) X.xe a4) (E₁:=X.xe))) ⟨dc.stk,dc.fr,dc.ex⟩;refine wpAny_mono (run [] s Z H Dd (Inv.toPin b6) ⟨U,ay,h,rs,rh,?_⟩) (λf ch z=>?_) λ_ _ z=>z
 .unfold yG at q
  cases em:mb ay h with
  |nx Z1 h1=>rw[em]at q;exact q
  |rt v h1=>rw[em]at q;exact q
  |bk Z1 h1=>rw[em]at q;exact q
  |ct Z1 h1=>rw[em]at q;exact q
  |bad=>rw[em]at q;exact q.elim
  |rse x Z1 h1=>rw[em]at q;exact q.elim
  |exc x Z1 h1 =>
   rw[em]at q;dsimp only at q;by_cases hx:x.fs=[]/\x.cls=c
   .rw[c_ hx]at q;intro ea C' U' R S s' cw ck b2 l b1 b5 I' a6 a9;have eC:C'=C:=by
     have:=EI.bd
     rw[<-hx.2,show X.mg x.cls=J (.ref C')from b2]at this;cases this;rfl
    subst eC;obtain⟨B,t,ak,a2,al,cv⟩:=a9;have a7:X.stack=X.env::X.outer:=dc.stk;have ak:Heap.FlyingW B (X.env::X.outer) ea (.ref C') (.ref t) s'.heap:=by rw[<-a7];exact ak
    have a1:X.A.frames=J (X.env::X.outer):=by rw[<-a7];exact I'.ok.frames
    refine wpAny_looks_onW (base:=B) a1 dc.fr ak λcd ac as=>?_;refine wpAny_landsW ac λci Q ap=>?_;have a8:=as.trans ap;have I5:=Inv.flown I' ak.1 Q.1 a8 a6 al a2;have ai:=Inv.ofPin I5;refine wpAny_handleBy_cons (codeAny_handlers_test (Calls.Name_function_global ai.ok.kind (g.gl c (aO hj)) (Calls.loadGlobal_global (by rw[ai.ok.glob];exact ai.mod.glob.keeps ai.bk) EI.bd ?_) (g.dbg c (xn _ (aO hj))).1)) (by intro z;cases z);refine lp λP Za=>?_;obtain⟨nm,qn,N',bs,sn,sub,ab,cm,dd,k0,k1,k2,k3,k5,lC,_,_⟩:=EI.lk;have a3:=ai.kIn _ _ lC;obtain⟨ob,ca,a0⟩:=Q.there;obtain⟨cs,g5,d5,t5,cn⟩:=s';refine Za ?_;refine rV a3 a3 ca a0 rfl (by simp) ?_;refine codeAny_handlers_suite ?_;refine lands_againW Q λcc ar ax=>?_;have I6:=Inv.flown I5 Q.1 ar.1 ax a6 al a2;have a:=Inv.ofPin I6;have bm:X.N.Nodup:=by rw[g.hN];exact g.nd
    let X':Cx:={ X with A:=X.A.mark (J (.ref ea)),calm:=T,xe:=λ_ _=>False}
    have b4:X'.Ok:=⟨a.ok.mod,a.ok.kind,a.ok.glob,a.ok.blt,a.ok.above,a.ok.inj,a.ok.has,a.ok.cab,(λz=>nomatch z),a.ok.frames,a.ok.stk,a.ok.exf,a.ok.bs,a.ok.bsz,a.ok.noex,a.ok.exfs,a.ok.funs,a.ok.frf,a.ok.tree,a.ok.top⟩;have b3:Inv X' Oz S R _:=⟨b4,a.os,a.bare,a.base,a.loc,a.cell,a.free,a.freeC,a.pin,a.hok,a.len⟩;have st:=sR (Am (X:=X') (i:=iy) (pos:=sp) (pos':=yp) bm (g.x a5) (g.loc y (aO a5)) (Bt (X:=X') (j:=kc) (pos:=np)) br (g.fn y (aO bv))) Oz _ S R
     { nx:=λZ9 H9=>Z9=S.set iy (J .non)/\H9=R,rt:=λ_ _=>False} b3 ⟨rfl,rfl⟩
    refine wpAny_mono st (λfl s9 z9=>?_) λ_ _ z=>z.elim
    cases fl with
    |ret u=>obtain⟨_,_,_,_,_,z⟩:=z9;exact z.elim
    |brk=>obtain⟨_,_,_,z⟩:=z9;exact z.elim
    |cont=>obtain⟨_,_,_,z⟩:=z9;exact z.elim
    |next =>
     obtain⟨Z9,H9,L,e9,b0⟩:=z9;rw[e9,b0]at L;have I9:Inv X Oz (S.set iy (J .non)) R s9:=⟨a.ok,L.os,L.bare,L.base,L.loc,L.cell,L.free,L.freeC,L.pin,L.hok,L.len⟩;exact⟨_,_,I9,q U' R _ l b1 (b5.set iy .non)⟩
   .rw[g_ hx]at q;exact q.elim
 .cases f with
  |next =>
   obtain⟨S,R,I',z⟩:=z;exact wpAny_execs_nil ⟨S,R,Inv.ofPin I',z⟩
  |brk=>obtain⟨S,R,I',z⟩:=z;exact⟨S,R,Inv.ofPin I',z⟩
  |cont=>obtain⟨S,R,I',z⟩:=z;exact⟨S,R,Inv.ofPin I',z⟩
  |ret u=>obtain⟨v,S,R,I',r,z⟩:=z;exact⟨v,S,R,Inv.ofPin I',r,z⟩
end
end MM
namespace PU
open MM
section
variable{ws:WQ}
def oA(x u l:Str)(a:Xs ws):Xd ws where
 m:=xA x u l a.m
 p:=λenv s=>(a.p env s).go env λj env s=>match j with
  |[.int i]=>if ik u l i then .rse x env s else .bad
  |_=>.bad
 fr:=I
 ok {q h L B O Z env s} c d:=by
  refine SOk.ex (f:=λ(E:WL) Z h=>match E with
   |[.int i]=>if ik u l i then .rse ⟨x,[]⟩ Z h else .bad
   |_=>.bad) (g:=λ(j:WR) env s=>match j with
   |[.int i]=>if ik u l i then .rse x env s else .bad
   |_=>.bad) c d (a.ok c) λj E P Q kb F C=>?_
  obtain⟨w,_⟩:=C
  match j,w with
  |[.int i],w =>
   obtain⟨v,r,e,y,H⟩:=w;have G:r=[]:=H;subst G;have M:v=.int i:=by
    rcases y with y|y
    .exact y
    .obtain⟨n,k,xs,j,e,_⟩:=y;cases k<;>cases e
   subst e;rw[M];dsimp only;by_cases z:ik u l i
   .rw[c_ z,c_ z];exact⟨Z,P,rfl,O,Stp.refl _ _ _ _,F,d⟩
   .rw[g_ z,g_ z];trivial
  |[],w=>trivial
  |.int i::_::_,w=>trivial
  |.non::_,w=>trivial
  |.bl _::_,w=>trivial
  |.str _::_,w=>trivial
  |.tup _::_,w=>trivial
  |.lst _::_,w=>trivial
  |.dic _ _ _::_,w=>trivial
  |.exc _::_,w=>trivial
  |.pen::_,w=>trivial
def uz(c:Str)(y:Nat)(b:Xd ws)(E:ws.contains y=T:=by exact ys rfl):Xd ws where
 m:=yG c y b.m
 p:=λenv s=>match b.p env s with
  |.exc x e s=>if x=c then .nx (e.set y (J .non)) s else .bad
  |.rse _ _ _=>.bad
  |r=>r
 fr:=b.fr
 ok {q h L B O Z env s} c' d:=by
  have k:=b.ok c' d
  show SOk q L h B O ws _ (match b.m Z h with
   |.exc x S E=>if x.fs=[]/\x.cls=c then .nx (S.set y (J .non)) E else .bad
   |.rse _ _ _=>.bad
   |o=>o) (match b.p env s with
   |.exc x e s=>if x=c then PS.nx (e.set y (J .non)) s else .bad
   |.rse _ _ _=>.bad
   |r=>r)
  cases e:b.p env s with
  |nx f C=>rw[e]at k;obtain⟨u,j,e1,r⟩:=k;rw[e1];exact⟨u,j,rfl,r⟩
  |rt x C=>rw[e]at k;obtain⟨v,j,e1,R,P,M,Q,F⟩:=k;rw[e1];exact⟨v,j,rfl,R,P,M,Q,F⟩
  |bk f C=>rw[e]at k;obtain⟨u,j,e1,r⟩:=k;rw[e1];exact⟨u,j,rfl,r⟩
  |ct f C=>rw[e]at k;obtain⟨u,j,e1,r⟩:=k;rw[e1];exact⟨u,j,rfl,r⟩
  |rse x f C=>trivial
  |bad=>trivial
  |exc x f C =>
   rw[e]at k;obtain⟨u,j,e1,H,st,l,G⟩:=k;rw[e1];dsimp only;by_cases z:x=c
   .rw[c_ z,c_ ⟨rfl,z⟩];obtain⟨a,b⟩:=l.sr.set (i:=y) (d:=.non) (v:=.non) (λz=>by simp[z]at E) rfl;exact⟨_,j,rfl,H,st,⟨l.bd,l.sub,l.bb,l.pb,l.hL,l.pen,a⟩,G.keep b⟩
   .rw[g_ z];trivial
end
end PU
namespace MM
open PySem.Spec PyProof.Rows L2
def Wo(K:hR)(a:Addr)(n:Nat):It :=
 ⟨λi H=>i<n/\∃xs x,SqL K H a xs/\xs[n-1-i]?=J x,λi H x f=>f=H/\∀xs,SqL K H a xs->xs[n-1-i]?=J x,λi _=>n<=i⟩
def DJ{P:Program}{w:World}{K:hR}{tg:Expr}(a B:Addr)(n:Nat):EA P w K tg (Wo K a n) [B] B (λi h=>i<=n/\h.IsRevIter B a ((n:Int)-1-i)) where
 mem:=by simp
 obj:=λi h st b y=>by
  have e:b=B:=by simpa using y
  subst e;obtain⟨_,o,e,c,d⟩:=st;exact⟨o,e,λv z=>by rw[d]at z;cases z⟩
 keep:=λi h C st k=>⟨st.1,st.2.at λo e=>k B (by simp) o e⟩
 item:=by intro X W hw Q S i U s Z H E f hf st hg;subst W hw Q;obtain⟨hi,xs,x,hq,R⟩:=hg;obtain⟨ac,rv,p,hz⟩:=f.list hq;obtain⟨u,hu,ru⟩:=rv.get R;obtain⟨O,M,f2,G,F,L⟩:=hf B (by simp);have j:=st.2;rw[show(n:Int)-1-i=((n-1-i:Nat):Int) by ext]at j;refine wpAny_pyNext_rev_item j p.isList (x:=u) (by simpa using hu) λC l sb=>?_;have I1:Inv X U Z H { s with heap:=C}:=f.turned (t':=s.toks) (λb o y e=>(sb.2 b y).trans e) O M G F L;rw[show((n-1-i:Nat):Int)-1=(n:Int)-1-((i+1:Nat):Int) by ext]at l;obtain⟨o,e,c,d⟩:=id l;exact⟨u,rfl,uB (s:={ s with heap:=C}) e c d (by decide) ⟨x,H,I1,ru,⟨rfl,λys hy=>by rw[f.list_inj hy hq];exact R⟩,⟨hi,l⟩,λb y=>(hf b y).1⟩⟩
 done:=by intro X W hw Q S i U s Z H E f hf st hg;obtain⟨O,M,f2,G,F,L⟩:=hf B (by simp);have j:=st.2;rw[show(n:Int)-1-i = -1 by have:n<=i:=hg;ext]at j;exact wpAny_pyNext_rev_end (f.ok.hd S) j λC eb=>⟨rfl,f.turned (t':=s.toks) (λb o y e=>eb b o y e) O M G F L⟩
 self:=λ_ _ _ _ _ st h=>wpAny_pyIter_revIter st.2 h
def DB(e:bF x h=J (b,xs,gd)):∀p∈gd,h[p.1]?=J (.lst p.2):=by
 unfold bF at e
 split at e
 .split at e
  .cases e
   simp_all
  .cases e
 .cases e;intro p a;cases a
 .cases e;intro p a;cases a
 .cases e
def Uh(m:Mx (WL)):Mx MIt:=λZ h=>(m Z h).bind λf a=>match f with
 |[x]=>(match bF x a with
  |some (T,xs,gd)=>.ok ⟨xs.reverse,gd⟩ a
  |_=>.bad)
 |_=>.bad
def LO(g:Good X N W G k){tg a:Expr}{m:Mx (WL)}{p ax:Pos}{j:Nat}(hj:G[j]?=J "reversed")(hm:X.mg "reversed"=Y)(ha:MA X [a] m)(hs:starEach [a] X.env=[(T,eval a X.env)]:=by rfl):MI X tg (.Call (.Name "reversed" p) [a] [] ax) (Uh m):=by
 have d:=g.dbg _ (xn _ (aO hj));intro Oz s Z H R a0 ⟨U,ai,h,rs,rh,q⟩;refine wpAny_Call_Name_kw (iK a0 (g.gl _ (aO hj)) hm PyProof.Rows.Boot.«reversed» ?_ d.2.2 d.1)
 refine PyProof.Rows.callWith_type1 (mf (ha ax Oz s Z H (λvs E=>∃M S xs,Le U H M E/\RH X.K X.mg M E S/\RPs X.K M E xs vs/\Ful X (qk X) ai M E ((match xs with
   |[x]=>(match bF x S with|some (T,xs,gd)=>.ok ⟨xs.reverse,gd⟩ S|_=>.bad)
   |_=>.bad:Out MIt)) R) a0 ⟨U,ai,h,rs,rh,Ful.bind q λM E v v' S _ l1 C rv L=>⟨M,S,v,l1,C,rv,L⟩⟩) λus F a1=>?_) hs rfl
 obtain⟨vs,E,I1,r1,M,S,xs,l1,C,rv,L⟩:=a1
 cases rv with
 |nil=>exact L.elim
 |@cons y y' ys a4 ry t1 =>
  cases t1 with
  |cons _ _=>exact L.elim
  |nil =>
   dsimp only at L
   cases Q:bF y S with
   |none=>rw[Q]at L;exact L.elim
   |some z =>
    obtain⟨b,zs,gd⟩:=z;rw[Q]at L
    cases b with
    |true=>exact L.elim
    |false =>
     obtain⟨ad,rfl,⟨ws,ap⟩,ay⟩:=qL C ry Q;obtain⟨u,rfl,rx⟩:=iu r1;cases rx;obtain⟨f,a2,pl,hz⟩:=I1.list ap;refine call_reversed_list pl.isList ?_;have ar:=I1.hok.fresh (l_ F.heap.objs.size);have Ej:(F.heap.push (revObj ad ((f.toArray.size:Int)-1))).IsRevIter F.heap.objs.size ad ((f.toArray.size:Int)-1):=⟨_,zj _ rfl,rfl,rfl⟩;refine wpAny_pyIter_revIter (s:={ F with heap:=F.heap.push (revObj ad ((f.toArray.size:Int)-1))}) Ej ?_;have I2:Inv X Oz Z E { F with heap:=F.heap.push (revObj ad ((f.toArray.size:Int)-1)),toks:=F.toks}:=I1.kept λb o q=>nj _ q;refine⟨F.heap.objs.size,_,_,_,E,rfl,I2,DJ ad _ f.length,⟨Eo _,?_⟩,λc hc=>?_,?_⟩
     .rw[show((f.length:Int)-1-((0:Nat):Int))=((f.toArray.size:Int)-1) by simp];exact Ej
     .have:c=F.heap.objs.size:=by simpa using hc
      subst this;exact Inv.fpOk I1 (H':=E) (l_ _) ar
     .refine L M E _ (Le.refl _ _) C ?_;have ez:zs.length=f.length:=by
       obtain⟨ac,B,O⟩:=ay M E S (Le.refl _ _) C (DB Q)
       have:=I1.list_inj B ap
       subst this;rw[O.length,a2.length]
      intro U' H' h2 i l as ok;obtain⟨ac,B,O⟩:=ay U' H' h2 l as ok;have ew:=O.length;refine⟨λP=>?_,λP=>by rw[R5]at P;show f.length<=i;ext⟩;rw[R5]at P;have aF:f.length-1-i<zs.length:=by ext
      have hx:zs[f.length-1-i]?=J (zs[f.length-1-i]'aF):=yZ aF;obtain⟨w',ak,rw'⟩:=O.get hx;refine⟨⟨by ext,ac,w',B,ak⟩,λx' H3 a3=>?_⟩;obtain⟨e,al⟩:=a3;subst e
      have:=al ac B
      rw[ak]at this;cases this;refine⟨U',_,Le.refl _ _,as,?_,rw'⟩;show zs.reverse[i]?=_;rw[UX P,ez];exact hx
end MM
namespace PU
open MM
noncomputable section
def yk:∀{f:WR}{xs:WL},Rps q h O f xs->Rps q h O f.reverse xs.reverse
 |[],_,r=>by rw[show _=[]from r];rfl
 |d::f,_,⟨x,t,e,a,b⟩=>by
  subst e;rw[List.reverse_cons,List.reverse_cons];exact(yk b).app ⟨x,[],rfl,a,rfl⟩
def Ui:MY where
 k:=λy j=>match y with
  |[x]=>(match bF x j with
   |some (T,xs,gd)=>.ok ⟨xs.reverse,gd⟩ j
   |_=>.bad)
  |_=>.bad
 p:=λi=>match i with
  |[.lst f]=>J f.reverse
  |_=>Y
 ok {q h L O i xs d} hq hO bd w e:=by
  match i,e with
  |[.lst f],e =>
   obtain⟨x,rfl,wx⟩:=rK w;cases e;obtain⟨ys,gd,e2,r,l,g2⟩:=wx.seq hq hO (show(D.lst f).items=J f from rfl);obtain⟨n,C,rfl,g,u⟩:=wx.lst;simp only[sv,g]at e2;cases e2;refine⟨⟨ys.reverse,[(n,ys)]⟩,by simp[MM.bF,g],yk r,l,λz=>g2 ?_⟩;obtain⟨B,u,e3,a,_⟩:=z;cases e3;exact a
@[simp]theorem PN:Ui.p [.lst x]=J x.reverse:=rfl
end
end PU
namespace MM
open PySem.Spec PyProof.Rows L2
open PU (Xe Xs Xt Xi Xg Xd oA uz)
def Wp:Stmt->Nat->Stmt
 |.ClassDef _ _ _ a _ _ _ _ _ _ _,i=>a.getD i (.Pass ⟨0,0,0,0⟩)
 |s,_=>s
structure Uj(P:Program)(w:World)(K:hR)(mg:WF)(base:Heap)(x c1 c2:Str):Prop where
 ex:∃(C F fI:Addr) (fld sf pl:Str) (fd:FuncData) (oI:Obj),Ee K mg x C F fI fld/\FnOk P w K mg base MP 1 fI fd [sf,pl] (RK C c1 c2)/\lU K fd [sf,pl] []/\K.lookup fI=J oI/\oI.cls=.type "function"
structure Uk(K:hR)(mg:WF)(x:Str):Prop where
 ex:∃(C F fI:Addr)(fld:Str),Ee K mg x C F fI fld
section
variable{X:Cx}{P:Program}{w:World}{K:hR}{mg:WF}{base:Heap}{N W:WM}{k:Nat}{sc:Scope}{ws:WQ}{x y c1 c2:Str}{p cp yp np sp hp pos cpos:Pos}{e:Expr}{sa:Xs ws}{i kc:Nat}{body:List Stmt}{da:Xd ws}
def Dz(c:Wc X P w K mg base N W (k+2) sc)(d:hH X)(R:Uj P w K mg base x c1 c2)(z:Dn X [e] sa.m)(G:gm sc x)(hp:bV e=I):z_ X (.Raise (J (.Call (.Name x p) [e] [] cpos)) Y pos) (oA x c1 c2 sa).m:=by obtain⟨C,F,L,fld,Q,M,fd,O,u,H,B,l,f⟩:=R.ex;obtain⟨j,E⟩:=c.gj G;have e3:=c.e.e3;have e4:=c.e.e4;have a:=H.mono (show 1<=k+1 by ext);rw[<-c.e.e1,<-c.e.e2,<-e3,<-e4,<-c.e.e5]at a;rw[<-e3,<-e4]at u;rw[<-e3]at B l;exact⟨AD c.g E u a B l f d z.h (bp hp)⟩
def LP{h1}(c:Wc X P w K mg base N W k sc)(d:hH X)(z:Uk K mg x)(H:gm sc x)(f:N[i]?=J y)(u:W[i]?=J y)(Q:∀a:Cx,Wc a P w K mg base N W k sc->hH a->ng a body da.m)(l:swapsWith (.Constant .none kc np) (J (.Name y yp)) sp.line X.env=pure T):
  z_ X (.Try body [.ExceptHandler (J (.Name x cp)) Y [.Assign [.Name y yp] (.Constant .none kc np) sp] hp] [] [] pos) (uz x i da h1).m:=by
 obtain⟨C,F,Z,fld,B⟩:=z.ex;obtain⟨j,E⟩:=c.gj H;rw[<-c.e.e3,<-c.e.e4]at B;exact⟨Hh c.g d E B i f u (λa S G L R M U g O=>(Q a ⟨g,⟨S.trans c.e.e1,G.trans c.e.e2,L.trans c.e.e3,R.trans c.e.e4,M.trans c.e.e5,c.e.b⟩,(congrArg Env.scope U).trans c.s⟩ O).h) l⟩
def PP(c:Wc X P w K mg base N W k sc){l a:Expr}(h:Dn X [a] sa.m)(z:Zn K "reversed")(j:gm sc "reversed")(hp:bV a=I):II X l (.Call (.Name "reversed" p) [a] [] pos) (PU.bT PU.Ui sa).m:=let⟨_,f⟩:=c.gj j;⟨LO c.g f (c.n z) h.h (bp hp)⟩
end
end MM
namespace Law
open PySem.Spec PyProof.Rows L2 MM
set_option maxHeartbeats 4000000
noncomputable section
def Cq:n_:=(cD (b9 2 (aH ln (aH mh (mC (.int 7919)) (ao 1)) (mC (.int 11))))
 (cD (E1 (mB (aH Fg (ao 1) (va zQ (aq (va s_ (aq (ao 0) hG)) (aq (mC (.int 63)) hG))))) (b9 2 (aH bz (ao 0) (ao 1))) (E1 (mB (aH Fh (va s_ (aq (ao 0) hG)) (mC (.int 0)))) (b9 2 (aH ln (aH ol (aH bz (ao 0) (aH ol (ao 1) (va zQ (aq (va s_ (aq (ao 0) hG)) (aq (mC (.int 63)) hG))))) (aH u_ (mC (.int 10)) (mC (.int 15)))) (aH mh (mC (.int 48271)) (ao 1)))) q7))
 (cD (E1 (mB (aH Fi (va DZ (aq (ao 2) hG)) (aH u_ (mC (.int 10)) (mC (.int 18))))) (dy (iU (aq (mC (.int 1)) (aq (va DZ (aq (ao 2) hG)) (aq (mC (.int 0)) hG))))) q7)
 (dy (iU (aq (mC (.int 0)) (aq (aH ln (aH ol (ao 2) (mC (.int 2147483587))) (aH mh (mC (.int 40009)) (ao 1))) (aq (mC (.int 0)) hG))))))))
def kZ:WL->MH->WZ:=cX 3 2 Cq
def zh:n_:=(cD (nI (aH ln (aH bz (ao 0) (mC (.int 2))) (mC (.int 1))) (FE (ao 0) (mC (.int 2))))
 (cD (E1 (mB (aH Ep (aH bz (ao 0) (mC (.int 0))) (mC (.int 1)))) (cD (b9 3 (aH ol (aH bz (ao 0) (mC (.int 1))) (ao 1)))
 (cD (nI (aH ED (aH bz (ao 0) (mC (.int 1))) (ao 1)) (FE (ao 0) (mC (.int 1))))
 (dy (ao 3)))) q7)
 (cD (b9 2 (aH ol (aH mh (aH ln (aH ln (aH bz (ao 0) (mC (.int 1))) (aH mh (mC (.int 40503)) (aH bz (ao 0) (mC (.int 2))))) (mC (.int 1))) (mC (.int 48271))) (mC (.int 2147483647))))
 (cD (b9 2 (aH ol (aH mh (ao 2) (aH ln (aH ln (aH ol (ao 2) (mC (.int 65521))) (aH bz (ao 0) (mC (.int 2)))) (mC (.int 3)))) (mC (.int 2147483629))))
 (dy (aH ol (aH ED (aH ol (aH mh (ao 2) (aH ln (aH ol (ao 2) (mC (.int 8191))) (mC (.int 7)))) (mC (.int 2147483563))) (mC (.int 64))) (ao 1)))))))
def dZ:WL->MH->WZ:=cX 4 2 zh
end
end Law
namespace Law
open MM PU
open L2 (vR o_ jq)
set_option maxHeartbeats 4000000
noncomputable section
def lv:Xd []:=(aU (fu (y7 (bL ["int"]) (aa 0)) (oV (y7 (bL ["bool"]) (aa 0)))))
def dY:Fn:=bA 1 1 lv
abbrev PQ:Xt []:=xB (af xg (aa 1) (xC (.int 0)))
abbrev PX:Xd []:=(aG (aP 2 (af iV (aa 0) (aa 1))) (aG (aP 0 (aa 1)) (aP 1 (aa 2))))
def cH:Xd []:=(aG (K_ 2000000 PQ PX nP)
 (aU (aa 0)))
def cK:Fn:=bA 3 2 cH
def m5{a:WR}{s:e_}(h:a.length=2):cK.p a s=(cH.p (lw 3 a) s).fin:=aZ h
def fC:Xd []:=(aG (sw (CV (bQ (xB (az dY (ae (aa 0) a_)))) (bQ (xB (az dY (ae (aa 1) a_))))) v8 i_)
 (aG (sw (xB (af Dl (aa 1) (xC (.int 0)))) v8 i_)
 (aG (aP 2 (az cK (ae (m_ nF (ae (aa 0) a_)) (ae (m_ nF (ae (aa 1) a_)) a_))))
 (aG (sw (xB (af GH (aa 1) (xC (.int 0)))) (aP 2 (y7 sy (aa 2))) i_)
 (aU (bt (ae (af GJ (aa 0) (aa 2)) (ae (af GJ (aa 1) (aa 2)) a_))))))))
def bO:Fn:=bA 3 2 fC
def vi{a:WR}{s:e_}(h:a.length=2):bO.p a s=(fC.p (lw 3 a) s).fin:=aZ h
def m4:Xd []:=(aU (az bO (ae (af c8 (af b8 (af h_ (aa 0) (xC (.int 0))) (af h_ (aa 1) (xC (.int 1)))) (af b8 (af h_ (aa 1) (xC (.int 0))) (af h_ (aa 0) (xC (.int 1))))) (ae (af b8 (af h_ (aa 0) (xC (.int 1))) (af h_ (aa 1) (xC (.int 1)))) a_))))
def gX:Fn:=bA 2 2 m4
def Hi{a:WR}{s:e_}(h:a.length=2):gX.p a s=(m4.p (lw 2 a) s).fin:=aZ h
def li:Xd []:=(aU (az bO (ae (af mD (af b8 (af h_ (aa 0) (xC (.int 0))) (af h_ (aa 1) (xC (.int 1)))) (af b8 (af h_ (aa 1) (xC (.int 0))) (af h_ (aa 0) (xC (.int 1))))) (ae (af b8 (af h_ (aa 0) (xC (.int 1))) (af h_ (aa 1) (xC (.int 1)))) a_))))
def fZ:Fn:=bA 2 2 li
def C2{a:WR}{s:e_}(h:a.length=2):fZ.p a s=(li.p (lw 2 a) s).fin:=aZ h
def kY:Xd []:=(aU (az bO (ae (af b8 (af h_ (aa 0) (xC (.int 0))) (af h_ (aa 1) (xC (.int 0)))) (ae (af b8 (af h_ (aa 0) (xC (.int 1))) (af h_ (aa 1) (xC (.int 1)))) a_))))
def dB:Fn:=bA 2 2 kY
def CT{a:WR}{s:e_}(h:a.length=2):dB.p a s=(kY.p (lw 2 a) s).fin:=aZ h
def mW:Xd []:=(aU (az bO (ae (af b8 (af h_ (aa 0) (xC (.int 0))) (af h_ (aa 1) (xC (.int 1)))) (ae (af b8 (af h_ (aa 0) (xC (.int 1))) (af h_ (aa 1) (xC (.int 0)))) a_))))
def gI:Fn:=bA 2 2 mW
def Hj{a:WR}{s:e_}(h:a.length=2):gI.p a s=(mW.p (lw 2 a) s).fin:=aZ h
def gG:Xd []:=(aU (fu (az dY (ae (aa 1) a_)) (rB OE GH (xC (.int 0)) (aa 1) (aa 0))))
def eZ:Fn:=bA 2 2 gG
def wU{a:WR}{s:e_}(h:a.length=2):eZ.p a s=(gG.p (lw 2 a) s).fin:=aZ h
def gO:Xd []:=(aG (sw (bQ (xB (y7 (bL ["list"]) (aa 1)))) (aU (xC (.bl T))) i_)
 (aG (sw (bQ (xB (m_ ss (ae (bg 1 [0] (bc (aa 1)) (ws':=[]) (h8 0) mL (az eZ (ae (af h_ (aa 1) (xC (.int 0))) (ae (aa 0) a_)))) a_)))) (aU (xC (.bl T))) i_)
 (aU (af Dl (m_ jl (ae (aa 1) a_)) (m_ Lc (ae (af h_ (aa 0) (xC (.int 0))) a_))))))
def gN:Fn:=bA 2 2 gO
def w6{a:WR}{s:e_}(h:a.length=2):gN.p a s=(gO.p (lw 2 a) s).fin:=aZ h
def eD:Xd []:=(sw (bQ (xB (az gN (ae (aa 0) (ae (aa 1) a_))))) v8 i_)
def eJ:Fn:=bA 2 2 eD
def rT{a:WR}{s:e_}(h:a.length=2):eJ.p a s=(eD.p (lw 2 a) s).fin:=aZ h
abbrev Ul:Xd [0]:=(oB 0 (aa 3) (az gX (ae (EO (aa 0) (ae (aa 3) (ae (C1 0 1) a_))) (ae (az dB (ae (aa 1) (ae (aa 4) a_))) a_))))
def cT:Xd [0]:=(cE (bc (aa 2)) (p_ (ki (h8 3) (ki (h8 4) p6)) 2) Ul)
def eL:WL->MH->WZ:=cX 5 3 cT.m
def gP:Xd []:=(aU (m_ dE (ae (bg 1 [0] (bc (aa 1)) (ws':=[]) (h8 0) (xB (af xg (EO (aa 1) (ae (aa 0) (ae (C1 0 1) a_))) (C1 0 1))) (bt (ae (aa 0) (ae (af og (aa 1) (aa 0)) a_)))) a_)))
def dG:Fn:=bA 2 2 gP
def wO{a:WR}{s:e_}(h:a.length=2):dG.p a s=(gP.p (lw 2 a) s).fin:=aZ h
def gh:Xd []:=(aG (aP 3 (EO (af h_ (aa 0) (aa 1)) (ae (aa 1) (ae (C1 0 1) a_))))
 (aG (sw (xB (af Dl (aa 3) (C1 0 1))) (oA "NoPivot" "the pivot of the place " " is nought" (ae (aa 1) a_)) i_)
 (aG (aP 4 (bg 1 [3,1,0] (bc (aa 2)) (ws':=[]) (h8 0) (xB (af xg (EO (af h_ (aa 3) (aa 0)) (ae (aa 2) (ae (C1 0 1) a_))) (C1 0 1))) (bt (ae (aa 0) (ae (az gI (ae (af og (af h_ (aa 3) (aa 0)) (aa 2)) (ae (aa 1) a_))) a_)))))
 (aU (bt (ae (aa 1) (ae (aa 3) (ae (az dG (ae (af h_ (aa 0) (aa 1)) (ae (aa 2) a_))) (ae (m_ dE (ae (aa 4) a_)) a_)))))))))
def fY:Fn:=bA 5 3 gh
def qw{a:WR}{s:e_}(h:a.length=3):fY.p a s=(gh.p (lw 5 a) s).fin:=aZ h
def kh:Xe []:=(K6 (xB (af (G1 T) (aa 6) (aa 2))) (af og (aa 2) (aa 6)) (az fY (ae (aa 3) (ae (aa 6) (ae (m_ jl (ae (GN (aa 1) (GL (af c8 (aa 5) (xC (.int 1)))) GK) a_)) a_)))) I)
def ux:Xt []:=(xB (af (G1 I) (aa 8) (aa 2)))
def ou:Xe []:=(az fZ (ae (C1 0 1) (ae (aa 9) a_)))
def M7:n_:=E1 ux.m (j3 (fR eL (aq (aH bz (ao 3) (ao 8)) (aq ou.m (aq (aH bz (ao 7) (mC (.int 2))) hG))))) q7
def LQ:n_:=cD (b9 7 kh.m) (cD (i4 (d3 (aH bz (ao 7) (mC (.int 3)))) (yM (nu (lR 8) (nu (lR 9) yH)) 2) M7) (j3 (Iu ia (ao 4) (aq (ao 7) hG))))
def q_:n_:=cD (b9 3 (ce 1 [] (d3 (aH bz (ao 0) (mC (.int 1)))) (lR 0) ot (va CF (aq (ao 0) hG))))
 (cD (b9 4 (iU hG))
 (cD (i4 (vq (aq (ao 1) hG)) (yM (nu (lR 5) (nu (lR 6) yH)) 2) LQ)
 (dy (ao 4))))
def fP:WL->MH->WZ:=cX 10 3 q_
def iT(rd:List Rd)(l a j:D)(k v st i f:WG):aC:=[J l,J a,J j,J (dH rd),Y,k,v,st,i,f]
def i6(rd:List Rd)(n:Nat)(g f:D)(s:e_):Option (List Rd×e_):=match rd[n]? with
 |some r=>(match cT.p (lw 5 [dl r.1 r.2,g,f]) s with
  |.nx a j=>(match a[0]? with
   |some (J (D.dic T l i))=>if eT i=I/\flat g=I/\flat f=I then J (rd.set n (J l,i),j)else Y
   |_=>Y)
  |_=>Y)
 |none=>Y
def g2:D->Option (D×D)
 |.tup [x,y]=>J (x,y)
 |_=>Y
def g3(x:D):Option (Int×D):=match g2 x with
 |some (.int j,d)=>J (j,d)
 |_=>Y
def g4:D->Option (D×D×WR×WR)
 |.tup [x,y,.tup u,.tup v]=>J (x,y,u,v)
 |_=>Y
def qZ{x a b:D}(e:g2 x=J (a,b)):x=.tup [a,b]:=by
 unfold g2 at e
 split at e<;>cases e
 rfl
def Ad{x b:D}{j:Int}(e:g3 x=J (j,b)):x=.tup [.int j,b]:=by
 unfold g3 at e
 split at e
 .rename_i h
  cases e;exact qZ h
 .cases e
def uZ{x a b:D}{u v:WR}(e:g4 x=J (a,b,u,v)):x=.tup [a,b,.tup u,.tup v]:=by
 unfold g4 at e
 split at e<;>cases e
 rfl
def mY(u a l:D)(k v:WG)(st C:D):WR->List Rd->WG->WG->e_->Option (List Rd×WG×WG×e_)
 |[],rd,i,f,s=>J (rd,i,f,s)
 |x::r,rd,_,_,s=>(match g3 x with
 |some (j,y)=>(match ux.p (iT rd u a l k v (J st) (J (.int j)) (J y)) s with
  |.ok I z=>(match ou.p (iT rd u a l k v (J st) (J (.int j)) (J y)) z,vR rd.length j with
   |.ok g E,J n=>(match i6 rd n g C E with
    |some (B,F)=>mY u a l k v st C r B (J (.int j)) (J y) F
    |none=>Y)
   |_,_=>Y)
  |.ok T z=>mY u a l k v st C r rd (J (.int j)) (J y) z
  |_=>Y)
 |none=>Y)
def jP(C j B:D):WR->List Rd->WR->WG->WG->WG->e_->PR (WR)
 |[],_,a,_,_,_,s=>.ok a s
 |x::r,rd,a,st,i,f,s=>(match g2 x with
 |some (z,l)=>(match kh.p (iT rd C j B (J z) (J l) st i f) s with
  |.ok d u=>(match g4 d with
   |some (_,_,G,L)=>if flat d=I/\a.length<1000/\flat z=I/\flat l=I then (match mY C j B (J z) (J l) d (.tup G) L rd i f u with
    |some (y,H,E,F)=>jP C j B r y (a++[d]) (J d) H E F
    |none=>.bad)else .bad
   |none=>.bad)
  |.exc c u=>.exc c u
  |_=>.bad)
 |none=>.bad)
def jK:WR->Option (List Rd)
 |[]=>J []
 |d::r=>(match ON d,jK r with
  |some a,J t=>if eT (a.map (·.2))=I then J ((J (a.map (·.1)),a.map (·.2))::t)else Y
  |_,_=>Y)
def RL(l:WR)(s:e_):PR D:=match l with
 |[.tup [n,.tup rows],.lst f,i]=>(match jK rows with
  |some rd=>if rows.length<900 then (match jP (.tup [n,.tup rows]) (.lst f) i (aY f) rd [] Y Y Y s with
   |.ok j a=>.ok (.lst j) a
   |.exc c a=>.exc c a
   |.bad=>.bad)else .bad
  |none=>.bad)
 |_=>.bad
structure SwI(q:Nat)(h0 h:MH)(s:e_)(a:Nat)(ms:WQ)(rd:List Rd)(w:Nat)(wk:WR):Prop where
 len:h0.length<=h.length
 mv:∀n:Nat,n<h0.length->n≠q->h[n]?=h0[n]?
 pen:bx h q s
 gr:Gr h h0.length a ms rd
 wx:∃xs,h[w]?=J (.lst xs)/\Rps 0 [] [] wk xs
 wf:eT wk=I
 wge:h0.length<=w
 wno:w∉a::ms
def OR(d:WG)(v:W0):Prop:=∀x,d=J x->flat x=I/\∃y,v=J y/\Rp 0 [] [] x y
section
variable{q:Nat}{h0 h h':MH}{s s':e_}{a:Nat}{ms:WQ}{rd:List Rd}{w:Nat}{wk:WR}{O:WQ}{sh od kn:D}{v0 v1 v2:PV}{dk dv dst di df:WG}{ck cv cst ci cf:W0}
def SwI.kb(f:SwI q h0 h s a ms rd w wk)(hq:q<h0.length)(k:KB q h h')(pn:bx h' q s'):SwI q h0 h' s' a ms rd w wk:=by obtain⟨xs,e,r⟩:=f.wx;have l:=f.len;refine⟨oh f.len k.len,λn u i=>(k.keep n ⋯ i).trans (f.mv n u i),pn,f.gr.keep λm j=>k.keep m (f.gr.lt m j) (by have:=f.gr.ge m j;lia),⟨xs,(k.keep w (aK e) (by have:=f.wge;lia)).trans e,r⟩,f.wf,f.wge,f.wno⟩
def zi(j:SwI q h0 h s a ms rd w wk)(bd:∀o∈O,o<h0.length)(hq:q∈O)(r:Rps q h0 O [sh,od,kn] [v0,v1,v2])(H:OR dk ck)(P:OR dv cv)(L:OR dst cst)(M:OR di ci)(F:OR df cf):
  PU.Cx q h h.length O O [] [J v0,J v1,J v2,J (.loc a),J (.loc w),ck,cv,cst,ci,cf] (iT rd sh od kn dk dv dst di df) s:=by
 have l:=j.len;have mv:Mv O h0 O h:=⟨λn G no=>j.mv n G λz=>no (z▸hq),λo u=>.inl u⟩;have B:=r.mv mv;have one:∀{x:WG}{y:W0}{d:D},OR x y->x=J d->∃v,J y=J (J v)/\Rp q h O d v:=λ{x y d} o e=>by
  obtain⟨f,v,e2,r⟩:=o d e;exact⟨v,by rw[e2],Rp.fq f r⟩
 refine⟨λo u=>by have:=bd o u;lia,λo u=>u,λo u=>by have:=bd o u;lia,hq,l_ _,j.pen,rfl,λi d e _=>?_,λi d e E=>by cases E⟩
 match i,e with
 |0,e=>cases e;obtain⟨v,e,q⟩:=B.get (i:=0) rfl;cases e;exact⟨_,rfl,q⟩
 |1,e=>cases e;obtain⟨v,e,q⟩:=B.get (i:=1) rfl;cases e;exact⟨_,rfl,q⟩
 |2,e=>cases e;obtain⟨v,e,q⟩:=B.get (i:=2) rfl;cases e;exact⟨_,rfl,q⟩
 |3,e=>cases e;exact⟨_,rfl,j.gr.rp λm C no=>by have:=j.gr.ge m C;have:=bd m no;lia⟩
 |5,e=>exact one H (by injection e)
 |6,e=>exact one P (by injection e)
 |7,e=>exact one L (by injection e)
 |8,e=>exact one M (by injection e)
 |9,e=>exact one F (by injection e)
def B2:∀Z h,Kp 0 (cT.m Z h) Z:=by
 have L:∀v Z h,Kp 0 (yM (nu (lR 3) (nu (lR 4) yH)) 2 v Z h) Z:=λv Z h=>by
  unfold yM;split
  .rename_i xs
   split
   .match xs with
    |x::y::r =>
     show Kp 0 (yH r ((Z.set 3 (J x)).set 4 (J y)) h) Z;unfold yH;split
     .show _=_;rw[qa (by decide),qa (by decide)]
     .trivial
   .trivial
  .trivial
 have P:∀{mo F mv:Mx PV} Z h,Kp 0 (lI mo F mv Z h) Z:=λ{mo F mv} Z h=>by
  simp only[lI,zv]
  repeat' split
  all_goals first | trivial | rfl
 intro Z h;show Kp 0 (i4 _ _ _ Z h) Z;unfold i4 zv;split
 .rename_i G i _
  have:∀(xs:WL) f i,f[0]?=Z[0]?->Kp 0 (xL G (yM (nu (lR 3) (nu (lR 4) yH)) 2) (oB (ws:=[0]) 0 (aa 3) (az gX (ae (EO (aa 0) (ae (aa 3) (ae (C1 0 1) a_))) (ae (az dB (ae (aa 1) (ae (aa 4) a_))) a_)))).m xs f i) Z:=λxs=>by
   induction xs with
   |nil =>
    intro f i e;unfold xL;split
    .exact e
    .trivial
   |cons x r E =>
    intro f i e;unfold xL;split
    .have k:=L x f i
     cases M:yM (nu (lR 3) (nu (lR 4) yH)) 2 x f i with
     |nx l C =>
      rw[M]at k;have j:=@P (ao 0) (ao 3) ((az gX (ae (EO (aa 0) (ae (aa 3) (ae (C1 0 1) a_))) (ae (az dB (ae (aa 1) (ae (aa 4) a_))) a_)):Xe [0]).m) l C;dsimp only;generalize H:(oB (ws:=[0]) 0 (aa 3) (az gX (ae (EO (aa 0) (ae (aa 3) (ae (C1 0 1) a_))) (ae (az dB (ae (aa 1) (ae (aa 4) a_))) a_)))).m l C=o;have B:lI (ao 0) (ao 3) (az gX (ae (EO (aa 0) (ae (aa 3) (ae (C1 0 1) a_))) (ae (az dB (ae (aa 1) (ae (aa 4) a_))) a_)):Xe [0]).m l C=o:=H;rw[B]at j;have k:l[0]?=f[0]?:=k
      cases o with
      |nx z u=>exact E z u (j.trans (k.trans e))
      |ct z u=>exact E z u (j.trans (k.trans e))
      |bk z u=>exact j.trans (k.trans e)
      |_=>trivial
     |_=>trivial
    .trivial
  exact this G.xs Z i rfl
 all_goals trivial
def CP{n m:Nat}{g C:D}{L pv:PV}{l:List Rd}(f:SwI q h0 h s a ms rd w wk)(bd:∀o∈O,o<h0.length)(hq:q∈O)(em:ms[n]?=J m)(rg:Rp 0 [] [] g L)(rp:Rp 0 [] [] C pv)(e:i6 rd n g C s=J (l,s')):
  ∃h',eL [.loc m,L,pv] h=.ok .non h'/\SwI q h0 h' s' a ms l w wk:=by
 unfold i6 at e
 split at e
 .rename_i r er
  split at e
  .rename_i F s1 W
   split at e
   .rename_i ks ds e0
    split at e
    .rename_i fl
     obtain⟨fd,fg,R⟩:=fl;cases e;obtain⟨fr,m',xs,i,M,X⟩:=f.gr.row n r er;rw[em]at i;cases i;have E:=ml a (x3 em);have Z:=f.gr.ge m E;obtain⟨h',e1,Q,kp,pn,O',U,B,y⟩:=wH (np:=3) (k':=J ks) (ds':=ds) (as:=[g,C]) (λo ho=>by have:=bd o ho;lia) hq f.pen M fr X (by simp[eT,fg,R]) ⟨_,_,rfl,rg,_,_,rfl,rp,rfl⟩ rfl (by decide) B2 W e0;have S:=bd q hq;refine⟨h',e1,oh f.len Q,λj u H=>(kp j (by have:=f.len;lia) ⋯ H).trans (f.mv j u H),pn,f.gr.put em fd B (Rps.fq fd y) λj u ne=>kp j (f.gr.lt j u) ne (by have:=f.gr.ge j u;lia),?_,f.wf,f.wge,f.wno⟩;obtain⟨P,G,rw'⟩:=f.wx;exact⟨P,(kp w (aK G) (λz=>f.wno (z▸E)) (by have:=f.wge;lia)).trans G,rw'⟩
    .cases e
   .cases e
  .cases e
 .cases e
def sL{st ps:D}{i:WL}{pv:PV}{Q:List Rd}{S P:WG}{it:MIt}(C:∀h,it.ok h)(bd:∀o∈O,o<h0.length)(hq:q∈O)(r:Rps q h0 O [sh,od,kn] [v0,v1,v2])(k1:OR dk ck)(X:OR dv cv)(H:flat st=I)(E:Rp 0 [] [] st (.tup i))(u2:o_ i 2=J pv)(rp:Rp 0 [] [] ps pv):
  ∀(M:WR)(xs:WL)(rd:List Rd)(di df:WG)(ci cf:W0)(h:MH)(s:e_),eT M=I->Rps 0 [] [] M xs->OR di ci->OR df cf->SwI q h0 h s a ms rd w wk->mY sh od kn dk dv st ps M rd di df s=J (Q,S,P,s') ->
  ∃h' u l,xL it (yM (nu (lR 8) (nu (lR 9) yH)) 2) M7 xs [J v0,J v1,J v2,J (.loc a),J (.loc w),ck,cv,J (.tup i),ci,cf] h=.nx [J v0,J v1,J v2,J (.loc a),J (.loc w),ck,cv,J (.tup i),u,l] h'/\SwI q h0 h' s' a ms Q w wk/\OR S u/\OR P l
 |[],xs,rd,di,df,ci,cf,h,s,fc,rx,k4,k5,f,e=>by
  cases e;rw[show xs=[]from rx];exact⟨h,ci,cf,hX (C h),f,k4,k5⟩
 |c::M,xs,rd,di,df,ci,cf,h,s,fc,rx,k4,k5,f,e=>by
  have F:=bd q hq;simp only[eT,DX]at fc;rcases eg:g3 c with _|⟨j,x⟩<;>rw[mY,eg]at e
  .cases e
  obtain rfl:=Ad eg;dsimp only at e
  .obtain⟨vx,xr,rfl,ak,rr⟩:=rx;obtain⟨ys,rfl,ry⟩:=ak;obtain⟨y1,yr,rfl,aF,y,ac,rfl,al,R⟩:=ry;rw[show ac=[]from R];rw[show y1=PV.int j from aF];have fx:flat x=I:=by simpa [flat,eT]using fc.1
   have o4:OR (J (.int j)) (J (.int j)):=λz U=>by cases U;exact⟨rfl,_,rfl,rfl⟩
   have o5:OR (J x) (J y):=λz U=>by cases U;exact⟨fx,_,rfl,al⟩
   have o3:OR (J st) (J (.tup i)):=λz U=>by cases U;exact⟨H,_,rfl,E⟩
   have c1:=zi f bd hq r k1 X o3 o4 o5;have Z:=ux.ok c1;rw[fT (C h) (show yM (nu (lR 8) (nu (lR 9) yH)) 2 (.tup [.int j,y]) [J v0,J v1,J v2,J (.loc a),J (.loc w),ck,cv,J (.tup i),ci,cf] h=.nx [J v0,J v1,J v2,J (.loc a),J (.loc w),ck,cv,J (.tup i),J (.int j),J y] h from rfl)]
   split at e
   .rename_i s1 ec
    rw[ec]at Z;obtain⟨b,L,em,kb,pn,rfl⟩:=Z;have W:=f.kb F kb pn
    split at e
    .rename_i gg s2 n eg en
     split at e
     .rename_i ax s3 B
      have c2:=zi W bd hq r k1 X o3 o4 o5;have kg:=ou.ok c2;rw[eg]at kg;obtain⟨gv,h2,ap,ay,as,_,rz,_⟩:=kg;have I2:=W.kb F ay as;have fg:flat gg=I:=by
       unfold i6 at B
       split at B
       .split at B
        .split at B
         .split at B
          .rename_i z;exact z.2.1
          .cases B
         .cases B
        .cases B
       .cases B
      have nl:n<rd.length:=by exact(L2.oM en).2.1
      obtain⟨m,hm⟩:∃m,ms[n]?=J m:=⟨ms[n]'(by rw[f.gr.len];exact nl),yZ _⟩;obtain⟨h3,e3,I3⟩:=CP I2 bd hq hm (Rp.fq fg (rz rfl)) rp B;obtain⟨h4,u,l,e4,I4,q4,q5⟩:=sL C bd hq r k1 X H E u2 rp M xr ax _ _ _ _ h3 s3 fc.2 rr o4 o5 I3 e;refine⟨h4,u,l,?_,I4,q4,q5⟩;have ai:o_ (ms.map PV.loc) j=J (.loc m):=by unfold o_;rw[qx,f.gr.len,en,Jy,se,hm];rfl
      have G:M7 [J v0,J v1,J v2,J (.loc a),J (.loc w),ck,cv,J (.tup i),J (.int j),J y] h=.nx [J v0,J v1,J v2,J (.loc a),J (.loc w),ck,cv,J (.tup i),J (.int j),J y] h3:=by
       have ar:aq (aH bz (ao 3) (ao 8)) (aq ou.m (aq (aH bz (ao 7) (mC (.int 2))) hG)) [J v0,J v1,J v2,J (.loc a),J (.loc w),ck,cv,J (.tup i),J (.int j),J y] L=.ok [.loc m,gv,pv] h2:=by
        have b1:aH bz (ao 3) (ao 8) [J v0,J v1,J v2,J (.loc a),J (.loc w),ck,cv,J (.tup i),J (.int j),J y] L=.ok (.loc m) L:=by simp[fW W.gr.top,ai]
        have b2:aH bz (ao 7) (mC (.int 2)) [J v0,J v1,J v2,J (.loc a),J (.loc w),ck,cv,J (.tup i),J (.int j),J y] h2=.ok pv h2:=by simp[u2]
        rw[eA,b1,Out.bind_ok,eA,ap,Out.bind_ok,eA,b2];rfl
       unfold M7;rw[BX,em,aA,c_ rfl,pZ,v3,ar,Out.bind_ok,e3];rfl
      rw[G];exact e4
     .cases e
    .cases e
   .rename_i s1 ec
    rw[ec]at Z;obtain⟨b,L,em,kb,pn,rfl⟩:=Z;have W:=f.kb F kb pn;obtain⟨h4,u,l,e4,I4,q4,q5⟩:=sL C bd hq r k1 X H E u2 rp M xr rd _ _ _ _ L s1 fc.2 rr o4 o5 W e;refine⟨h4,u,l,?_,I4,q4,q5⟩;have G:M7 [J v0,J v1,J v2,J (.loc a),J (.loc w),ck,cv,J (.tup i),J (.int j),J y] h=.nx [J v0,J v1,J v2,J (.loc a),J (.loc w),ck,cv,J (.tup i),J (.int j),J y] L:=by unfold M7;rw[BX,em,aA];rfl
    rw[G];exact e4
   .cases e
def rC:∀{wk:WR}{d:D},eT wk=I->flat d=I->eT (wk++[d])=I
 |[],d,_,f=>by simp[eT,f]
 |x::wk,d,g,f=>by
  simp only[eT,DX,Sb]at g ⊢;exact⟨g.1,rC g.2 f⟩
def Wq(q:Nat)(h0:MH)(a:Nat)(ms:WQ)(w:Nat)(v0 v1 v2:PV)(o:SOut):PR (WR)->Prop
 |.ok i s'=>∃h' f u z j y l,o=.nx [J v0,J v1,J v2,J (.loc a),J (.loc w),u,z,j,y,l] h'/\SwI q h0 h' s' a ms f w i
 |.exc B s'=>∃h' f i C,o=.exc ⟨B,[]⟩ C h'/\SwI q h0 h' s' a ms f w i
 |.bad=>True
def uG{it:MIt}{R:PR (WR)}(G:∀h s rd wk,SwI q h0 h s a ms rd w wk->it.ok h)(bd:∀o∈O,o<h0.length)(hq:q∈O)(r:Rps q h0 O [sh,od,kn] [v0,v1,v2]):
  ∀(ds:WR)(xs:WL)(rd:List Rd)(wk:WR)(dst di df:WG)(ck cv cst ci cf:W0)(h:MH)(s:e_),eT ds=I->Rps 0 [] [] ds xs->OR dst cst->OR di ci->OR df cf->SwI q h0 h s a ms rd w wk->jP sh od kn ds rd wk dst di df s=R->Wq q h0 a ms w v0 v1 v2 (xL it (yM (nu (lR 5) (nu (lR 6) yH)) 2) LQ xs [J v0,J v1,J v2,J (.loc a),J (.loc w),ck,cv,cst,ci,cf] h) R
 |[],xs,rd,wk,dst,di,df,ck,cv,cst,ci,cf,h,s,fd,rx,k3,k4,k5,i,e=>by
  cases e;rw[show xs=[]from rx];exact⟨h,rd,ck,cv,cst,ci,cf,hX (G h _ _ _ i),i⟩
 |c::cs,xs,rd,wk,dst,di,df,ck,cv,cst,ci,cf,h,s,fd,rx,k3,k4,k5,i,e=>by
  have P:=bd q hq;by_cases H:R=.bad
  .rw[H];trivial
  simp only[eT,DX]at fd;rcases eg:g2 c with _|⟨dk,dv⟩<;>rw[jP,eg]at e
  .exact absurd e.symm H
  obtain rfl:=qZ eg;dsimp only at e;obtain⟨vx,xr,rfl,ap,rr⟩:=rx;obtain⟨ys,rfl,ry⟩:=ap;obtain⟨u,yr,rfl,a1,B,ai,rfl,aF,Q⟩:=ry;rw[show ai=[]from Q];have fk:flat dk=I/\flat dv=I:=by simpa [flat,eT]using fd.1
  have o1:OR (J dk) (J u):=λz Z=>by cases Z;exact⟨fk.1,_,rfl,a1⟩
  have o2:OR (J dv) (J B):=λz Z=>by cases Z;exact⟨fk.2,_,rfl,aF⟩
  have c1:=zi i bd hq r o1 o2 k3 k4 k5;have ke:=kh.ok c1;rw[fT (G h _ _ _ i) (show yM (nu (lR 5) (nu (lR 6) yH)) 2 (.tup [u,B]) [J v0,J v1,J v2,J (.loc a),J (.loc w),ck,cv,cst,ci,cf] h=.nx [J v0,J v1,J v2,J (.loc a),J (.loc w),J u,J B,cst,ci,cf] h from rfl)]
  split at e
  .rename_i d s1 ee
   rw[ee]at ke;rcases eg4:g4 d with _|⟨x,y,ps,l⟩<;>rw[eg4]at e
   .exact absurd e.symm H
   obtain rfl:=uZ eg4;dsimp only at e;obtain⟨v,L,em,kb,pn,_,rz,_⟩:=ke;have I1:=i.kb P kb pn
   split at e
   .rename_i ay
    obtain⟨U,wl,_,_⟩:=ay
    split at e
    .rename_i X i2 f2 s2 ei
     have rv:Rp 0 [] [] (.tup [x,y,.tup ps,.tup l]) v:=Rp.fq U (rz rfl);have ak:flat x=I/\flat y=I/\eT ps=I/\eT l=I:=by simpa [flat,eT]using U
     have F:=rv;obtain⟨us,rfl,ru⟩:=rv;obtain⟨S,t1,rfl,a2,W,t2,rfl,a4,M,t3,rfl,as,u4,t4,rfl,a0,al⟩:=ru;rw[show t4=[]from al]at F em;obtain⟨f,rfl,r4⟩:=a0;obtain⟨h2,ax,ar,e2,C,q4,q5⟩:=sL (it:=⟨f,[]⟩) (λ_=>fh.mpr trivial) bd hq r o1 o2 U F (pv:=M) rfl as l f rd _ _ _ _ L s1 ak.2.2.2 r4 k4 k5 I1 ei;obtain⟨E,ew,rw'⟩:=C.wx;have a3:E.length=wk.length:=rw'.length;have ac:=aK ew;have I3:SwI q h0 (h2.set w (.lst (E++[.tup [S,W,M,.tup f]]))) s2 a ms X w (wk++[.tup [x,y,.tup ps,.tup l]]):=by
      have wge:=C.wge;refine⟨by rw[Sf];exact C.len,λj hj nq=>(qa ⋯).trans (C.mv j hj nq),?_,C.gr.keep λj hj=>qa λz=>C.wno (by rw[z];exact hj),⟨_,C_ ac,rw'.app ⟨_,_,rfl,F,rfl⟩⟩,?_,wge,C.wno⟩
      .have:=C.pen
       unfold bx at this ⊢;rw[qa ⋯];exact this
      .exact rC C.wf U
     have o3:OR (J (.tup [x,y,.tup ps,.tup l])) (J (.tup [S,W,M,.tup f])):=λz Z=>by cases Z;exact⟨U,_,rfl,F⟩
     have e4:=uG G bd hq r cs xr X _ _ _ _ (J u) (J B) _ _ _ _ s2 fd.2 rr o3 q4 q5 I3 e;have b:LQ [J v0,J v1,J v2,J (.loc a),J (.loc w),J u,J B,cst,ci,cf] h=.nx [J v0,J v1,J v2,J (.loc a),J (.loc w),J u,J B,J (.tup [S,W,M,.tup f]),ax,ar] (h2.set w (.lst (E++[.tup [S,W,M,.tup f]]))):=by unfold LQ;rw[dz,jo,em,aA,MM.aw,dz,hZ];have i3:d3 (aH bz (ao 7) (mC (.int 3))) ([J v0,J v1,J v2,J (.loc a),J (.loc w),J u,J B,cst,ci,cf].set 7 (J (.tup [S,W,M,.tup f]))) L=.ok ⟨f,[]⟩ L:=rfl;rw[i3,aA];refine(congrArg (λz:SOut=>z.then _) e2).trans ?_;rw[MM.aw,pZ,KS];simp only[Aq,Ab,Out.bind_ok,eA,kQ,ew,zw ew (show E.length<1000 by lia)];rfl
     rw[b];exact e4
    .exact absurd e.symm H
   .exact absurd e.symm H
  .rename_i c s1 ee
   subst e;rw[ee]at ke;obtain⟨L,em,kb,pn⟩:=ke;have b:LQ [J v0,J v1,J v2,J (.loc a),J (.loc w),J u,J B,cst,ci,cf] h=.exc ⟨c,[]⟩ [J v0,J v1,J v2,J (.loc a),J (.loc w),J u,J B,cst,ci,cf] L:=by unfold LQ;rw[dz,jo,em];rfl
   rw[b];exact⟨L,rd,wk,_,rfl,i.kb P kb pn⟩
  .exact absurd e.symm H
def rL{L:Nat}{r:Rd}{xs:WL}(g:Gr h L a ms rd)(hL:L<=h.length)(C:eT r.2=I)(B:Rps 0 [] [] r.2 xs):Gr ((h++[mo r.1 xs]).set a (.lst (ms.map .loc++[.loc h.length]))) L a (ms++[h.length]) (rd++[r]):=by
 have F:=aK g.top;have nd:=g.nd;have lt:=g.lt;rw[vz]at nd;refine⟨by rw[C_ (by simp;lia),Fc];rfl,by simp[g.len],?_,λm j=>?_,λi x ex=>?_⟩
 .rw[<-Sb,Ia];refine⟨g.nd,by simp,λx u y l=>?_⟩
  have:=lt x u
  have:y=h.length:=by simpa using l
  lia
 .rw[<-Sb]at j;rcases DY.mp j with z|z
  .exact g.ge m z
  .have:m=h.length:=by simpa using z
   lia
 .have gl:=g.len;by_cases z:i<rd.length
  .rw[qr z]at ex;obtain⟨f,m,ys,e1,e2,e3⟩:=g.row i x ex;have ne:a≠m:=λy=>nd.1 (y▸x3 e1);exact⟨f,m,ys,by rw[qr ⋯];exact e1,by rw[qa ne,qr (aK e2)];exact e2,e3⟩
  .rw[Ek ⋯]at ex;have E:i-rd.length=0:=by
    have:=(pf.mp ex).1
    simp at this;lia
   rw[E]at ex;cases ex;refine⟨C,h.length,xs,?_,?_,B⟩
   .rw[Ek ⋯,show i-ms.length=0 by lia];rfl
   .rw[qa ⋯];simp
def x6{it:MIt}(l:∀h,it.ok h):∀(rows:WR)(f:WL)(rd i:List Rd)(ms:WQ)(z:W0)(h:MH),jK rows=J rd->Rps q h0 O rows f->Gr h h0.length a ms i->h0.length<=h.length->(∀n:Nat,n<h0.length->h[n]?=h0[n]?)->ms.length+rows.length<1000 ->
  ∃h' u,B_ it a (lR 0) ot (va CF (aq (ao 0) hG)) f [z] h=.ok () h'/\Gr h' h0.length a u (i++rd)/\h0.length<=h'.length/\∀n:Nat,n<h0.length->h'[n]?=h0[n]?
 |[],f,rd,i,ms,z,h,e,r,g,C,kp,B=>by
  cases e;rw[show f=[]from r,Nh];exact⟨h,ms,lg (l h),g,C,kp⟩
 |d::rows,f,rd,i,ms,z,h,e,r,g,C,kp,B=>by
  unfold jK at e
  split at e
  .rename_i j t M Q
   split at e
   .rename_i F
    cases e;obtain⟨v,X,rfl,R,P⟩:=r;obtain⟨y,eg,S⟩:=Li R M;obtain⟨H,L⟩:=tZ S;have g2:=rL g (r:=(J (j.map (·.1)),j.map (·.2))) (xs:=y.map (·.2)) C F (Rps.fq F L);have G:=g.ge a (by simp);obtain⟨h',u,e',E,U,k'⟩:=x6 l rows X t _ _ (J v) _ Q P g2 (by simp;lia) (λn Z=>by rw[qa ⋯,qr ⋯];exact kp n Z) (by simp at B ⊢;lia);refine⟨h',u,?_,by rw[QT]at E;exact E,U,k'⟩;have W:CF [v] h=.ok (.loc h.length) (h++[mo (J (j.map (·.1))) (y.map (·.2))]):=by simp only[CF,eg,H];rfl
    rw[kT (Z1:=[J v]) (h1:=h) (h2:=h) (v:=.loc h.length) (h3:=h++[mo (J (j.map (·.1))) (y.map (·.2))]) (ys:=ms.map .loc) (l h) rfl rfl (by simp[W]) (by rw[qr (aK g.top)];exact g.top) (by simp at B ⊢;lia)];exact e'
   .cases e
  .cases e
end
def DN{q:Nat}{h:MH}{O:WQ}{a:WR}{xs:WL}(r:Rps q h O a xs):Rps q h O (aY a) (dM xs):=by
 refine kN (by simp[aY,dM,r.length]) λi d v e1 e2=>?_;unfold aY at e1;unfold dM at e2;rw[se,Nd]at e1 e2
 cases f:a[i]? with
 |none=>rw[f]at e1;cases e1
 |some x =>
  obtain⟨y,j,l⟩:=r.get f;rw[f]at e1;rw[j]at e2;simp at e1 e2;subst e1 e2;exact⟨_,rfl,_,_,rfl,rfl,_,_,rfl,l,rfl⟩
def qM{i:WR}(f:eT i=I):eT (aY i)=I:=by
 have:∀(a:WR),(∀d∈a,flat d=I)->eT a=I:=λa=>by
  induction a with
  |nil=>intro;rfl
  |cons z a l=>intro h;simp only[eT,DX];exact⟨h z (by simp),l λd hd=>h d (ml _ hd)⟩
 refine this _ λd hd=>?_;obtain⟨p,j,rfl⟩:=nr.mp hd
 have:=nZ f (List.fst_mem_of_mem_zipIdx j)
 simp[flat,eT,this]
def mU:Fn where
 m:=fP
 p:=λds s=>match ds with
  |[sh,.lst F,U]=>if eT F=I then RL [sh,.lst F,U] s else .bad
  |_=>.bad
 fr:=I
 ok {q h O vs ds s} bd hq pn r:=by
  split
  .rename_i sh F U
   split
   .rename_i fo
    unfold RL;split
    .rename_i n rows a5 a1 ac
     cases ac;split
     .rename_i rd er
      split
      .rename_i lr
       have S:=r;obtain⟨v0,t0,rfl,ap,v1,t1,rfl,W,C,t2,rfl,aF,Z⟩:=r;rw[show t2=[]from Z]at S ⊢;obtain⟨ys,rfl,ry⟩:=ap;obtain⟨B,u1,rfl,a7,y2,u2,rfl,ai,al⟩:=ry;rw[show u2=[]from al]at S ⊢;obtain⟨f,rfl,rr⟩:=ai;obtain⟨no,l,rfl,nO,Q,ro⟩:=W;have as:q<h.length:=bd q hq;obtain⟨u,P,e1,g1,l1,k1⟩:=x6 (q:=q) (h0:=h) (O:=O) (a:=h.length) (it:=⟨f,[]⟩) (λ_=>fh.mpr trivial) rows f rd [] [] Y (h++[.lst []]) er rr ⟨by simp,rfl,by simp,λm hm=>by simp at hm;lia,λi r e=>by simp at e⟩ (by simp) (λn Z=>qr Z) (by simp;lia);have c3:b9 3 (ce 1 [] (d3 (aH bz (ao 0) (mC (.int 1)))) (lR 0) ot (va CF (aq (ao 0) hG))) [J (.tup [B,.tup f]),J (.loc no),J C,Y,Y,Y,Y,Y,Y,Y] h=.nx [J (.tup [B,.tup f]),J (.loc no),J C,J (.loc h.length),Y,Y,Y,Y,Y,Y] u:=by rw[jo,jL];have i1:d3 (aH bz (ao 0) (mC (.int 1))) [J (.tup [B,.tup f]),J (.loc no),J C,Y,Y,Y,Y,Y,Y,Y] h=.ok ⟨f,[]⟩ h:=rfl;rw[i1,Out.bind_ok];refine(congrArg (λz:Out Unit=>(z.bind _).go _ _) e1).trans ?_;rfl
       have I0:SwI q h (u++[.lst []]) s h.length P rd u.length []:=by
        have l0:h.length<=u.length:=l1;refine⟨by simp;lia,λj G L=>by rw[qr ⋯];exact k1 j G,?_,(by simpa using g1:Gr u h.length h.length P rd).keep λm hm=>qr ((by simpa using g1:Gr u h.length h.length P rd).lt m hm),⟨[],by simp,rfl⟩,rfl,l0,λz=>?_⟩
        .unfold bx;rw[qr ⋯,k1 q as];exact pn
        .have:=(by simpa using g1:Gr u h.length h.length P rd).lt _ z
         lia
       have E:=uG (it:=⟨dM l,[(no,l)]⟩) (λh' s' a2 a0 ak=>by
        intro p hp
        have:p=(no,l):=by simpa using hp
        subst this
        exact(ak.mv no (aK Q) λz=>nO (z▸hq)).trans Q) bd hq S (aY F) (dM l) rd [] Y Y Y Y Y Y Y Y (u++[.lst []]) s (qM fo) (Rps.fq (qM fo) (DN ro)) (λ_ z=>by cases z) (λ_ z=>by cases z) (λ_ z=>by cases z) I0 rfl
       have run:∀o,xL ⟨dM l,[(no,l)]⟩ (yM (nu (lR 5) (nu (lR 6) yH)) 2) LQ (dM l) [J (.tup [B,.tup f]),J (.loc no),J C,J (.loc h.length),J (.loc u.length),Y,Y,Y,Y,Y] (u++[.lst []])=o->fP [.tup [B,.tup f],.loc no,C] h=(o.then (dy (ao 4))).fin:=λo e2=>by
        unfold fP;rw[gz (by rfl)]
        unfold q_;rw[show bG 10 [.tup [B,.tup f],.loc no,C]=[J (.tup [B,.tup f]),J (.loc no),J C,Y,Y,Y,Y,Y,Y,Y]from rfl];rw[dz,c3,MM.aw,dz];have c4:b9 4 (iU hG) [J (.tup [B,.tup f]),J (.loc no),J C,J (.loc h.length),Y,Y,Y,Y,Y,Y] u=.nx [J (.tup [B,.tup f]),J (.loc no),J C,J (.loc h.length),J (.loc u.length),Y,Y,Y,Y,Y] (u++[.lst []]):=by rw[jo,Gj,kQ,Out.bind_ok,rc (by simp)];rfl
        rw[c4,MM.aw,dz,hZ];have c5:vq (aq (ao 1) hG) [J (.tup [B,.tup f]),J (.loc no),J C,J (.loc h.length),J (.loc u.length),Y,Y,Y,Y,Y] (u++[.lst []])=.ok ⟨dM l,[(no,l)]⟩ (u++[.lst []]):=by have e9:(u++[MO.lst []])[no]?=J (.lst l):=(I0.mv no (aK Q) λz=>nO (z▸hq)).trans Q;unfold vq;simp only[eA,Aq,Ab,Out.bind_ok,kQ,bF,e9]
        rw[c5,aA];exact congrArg (λz:SOut=>(z.then _).fin) e2
       generalize jP (.tup [n,.tup rows]) (.lst F) U (aY F) rd [] Y Y Y s=R at E ⊢
       cases R with
       |ok wk s' =>
        obtain⟨M,ar,a9,a8,ax,a6,a3,e2,y⟩:=E;obtain⟨H,ew,rw'⟩:=y.wx;have wge:=y.wge;have X:Rps q M O wk H:=Rps.fq y.wf rw';refine⟨.loc u.length,M,run _ e2,⟨y.len,λj G L=>y.mv j G L⟩,y.pen,⟨u.length,H,rfl,λz=>by have:=bd _ z;lia,ew,X⟩,λ_ k ay e=>?_⟩
        cases k with
        |none=>cases e;exact⟨_,_,rfl,wge,ew,Rps.fq y.wf rw'⟩
        |some _=>cases e
       |exc cx s' =>
        obtain⟨M,ar,a4,Z2,e2,y⟩:=E;exact⟨M,run _ e2,⟨y.len,λj G L=>y.mv j G L⟩,y.pen⟩
       |bad=>trivial
      .trivial
     .trivial
    .trivial
   .trivial
  .trivial
def jz:Xd []:=(aG (ut (az eJ (ae (bt (ae (af h_ (aa 0) (xC (.int 0))) (ae (bt a_) a_))) (ae (aa 1) a_))))
 (aU (az mU (ae (aa 0) (ae (aa 1) (ae GC a_))))))
def dI:Fn:=bA 2 2 jz
def Aw{a:WR}{s:e_}(h:a.length=2):dI.p a s=(jz.p (lw 2 a) s).fin:=aZ h
def vw:Xe []:=(bt (ae (aa 0) (ae (m_ dE (ae (bg 1 [0] (bc (aa 2)) (ws':=[]) (h8 0) mL (az dG (ae (aa 0) (ae (m_ Lc (ae (aa 1) a_)) a_)))) a_)) a_)))
def RM:n_:=j3 (fR eL (aq (aH bz (ao 2) (ao 7)) (aq (ao 8) (aq (aH ln (cR (aq (cR (aq (ao 3) (aq (ao 4) hG))) hG)) (ao 5)) hG))))
def RN:n_:=i4 (d3 (aH ln (cR (aq (cR (aq (ao 3) (aq (mC (.tup [.int 1,.int 1])) hG))) hG)) (ao 6))) (yM (nu (lR 7) (nu (lR 8) yH)) 2) RM
def x2:n_:=cD (b9 2 (ce 1 [] (d8 (aq (ao 0) hG)) (lR 0) ot ES))
 (cD (i4 (d3 (ao 1)) (yM (nu (lR 3) (nu (lR 4) (nu (lR 5) (nu (lR 6) yH)))) 4) RN)
 (dy vw.m))
def jb:WL->MH->WZ:=cX 9 2 x2
def PY(rd:List Rd)(n a:D):aC:=[J n,J a,J (dH rd),Y,Y,Y,Y,Y,Y]
def pT(f:D):WR->List Rd->e_->Option (List Rd×e_)
 |[],rd,s=>J (rd,s)
 |x::r,rd,s=>(match g3 x with
 |some (j,l)=>(match vR rd.length j with
  |some n=>(match i6 rd n l f s with
   |some (a,i)=>pT f r a i
   |none=>Y)
  |none=>Y)
 |none=>Y)
def M8:WR->List Rd->e_->Option (List Rd×e_)
 |[],rd,s=>J (rd,s)
 |x::r,rd,s=>(match g4 x with
 |some (v,p,i,f)=>if i.length<900/\f.length<900 then (match pT (.tup (.tup [v,p]::i)) (.tup [v,.tup [.int 1,.int 1]]::f) rd s with
  |some (a,j)=>M8 r a j
  |none=>Y)else Y
 |none=>Y)
def RQ(i:WR)(s:e_):PR D:=match i with
 |[.int n,.lst a]=>if eT a=I/\0<=n/\n<900 then (match M8 a (List.replicate n.toNat (J [],[])) s with
  |some (rd,f)=>(match vw.p (PY rd (.int n) (.lst a)) f with
   |.ok d j=>if flat d=I then .ok d j else .bad
   |_=>.bad)
  |none=>.bad)else .bad
 |_=>.bad
structure PbI(q:Nat)(h0 h:MH)(s:e_)(a:Nat)(ms:WQ)(rd:List Rd):Prop where
 len:h0.length<=h.length
 mv:∀n:Nat,n<h0.length->n≠q->h[n]?=h0[n]?
 pen:bx h q s
 gr:Gr h h0.length a ms rd
section
variable{q:Nat}{h0 h h':MH}{s s':e_}{a:Nat}{ms:WQ}{rd rd':List Rd}{O:WQ}{n wk:D}{v0 v1:PV}
def PbI.kb(f:PbI q h0 h s a ms rd)(hq:q<h0.length)(k:KB q h h')(pn:bx h' q s'):PbI q h0 h' s' a ms rd:=by have l:=f.len;exact⟨oh f.len k.len,λn u i=>(k.keep n ⋯ i).trans (f.mv n u i),pn,f.gr.keep λm j=>k.keep m (f.gr.lt m j) (by have:=f.gr.ge m j;lia)⟩
def PZ{e3 e4 e5 e6 e7 e8:W0}(f:PbI q h0 h s a ms rd)(bd:∀o∈O,o<h0.length)(hq:q∈O)(r:Rps q h0 O [n,wk] [v0,v1]):PU.Cx q h h.length O O [] [J v0,J v1,J (.loc a),e3,e4,e5,e6,e7,e8] (PY rd n wk) s:=by
 have l:=f.len;have mv:Mv O h0 O h:=⟨λn C no=>f.mv n C λz=>no (z▸hq),λo j=>.inl j⟩;have u:=r.mv mv;refine⟨λo j=>by have:=bd o j;lia,λo j=>j,λo j=>by have:=bd o j;lia,hq,l_ _,f.pen,rfl,λi d e _=>?_,λi d e B=>by cases B⟩
 match i,e with
 |0,e=>cases e;obtain⟨v,e,q⟩:=u.get (i:=0) rfl;cases e;exact⟨_,rfl,q⟩
 |1,e=>cases e;obtain⟨v,e,q⟩:=u.get (i:=1) rfl;cases e;exact⟨_,rfl,q⟩
 |2,e=>cases e;exact⟨_,rfl,f.gr.rp λm y no=>by have:=f.gr.ge m y;have:=bd m no;lia⟩
 |n+9,e=>simp[PY]at e
def DM{n m:Nat}{g ps:D}{C pv:PV}(f:PbI q h0 h s a ms rd)(bd:∀o∈O,o<h0.length)(hq:q∈O)(em:ms[n]?=J m)(Z:Rp 0 [] [] g C)(rp:Rp 0 [] [] ps pv)(e:i6 rd n g ps s=J (rd',s')):
  ∃h',eL [.loc m,C,pv] h=.ok .non h'/\PbI q h0 h' s' a ms rd':=by
 unfold i6 at e
 split at e
 .rename_i r S
  split at e
  .rename_i z s1 P
   split at e
   .rename_i U ds e0
    split at e
    .rename_i fl
     obtain⟨fd,W,H⟩:=fl;cases e;obtain⟨fr,m',xs,i,E,Q⟩:=f.gr.row n r S;rw[em]at i;cases i;have F:=ml a (x3 em);have R:=f.gr.ge m F;obtain⟨h',e1,G,kp,pn,O',M,y,u⟩:=wH (np:=3) (k':=J U) (ds':=ds) (as:=[g,ps]) (λo X=>by have:=bd o X;lia) hq f.pen E fr Q (by simp[eT,W,H]) ⟨_,_,rfl,Z,_,_,rfl,rp,rfl⟩ rfl (by decide) B2 P e0;have L:=bd q hq;exact⟨h',e1,oh f.len G,λj l B=>(kp j (by have:=f.len;lia) ⋯ B).trans (f.mv j l B),pn,f.gr.put em fd y (Rps.fq fd u) λj l ne=>kp j (f.gr.lt j l) ne (by have:=f.gr.ge j l;lia)⟩
    .cases e
   .cases e
  .cases e
 .cases e
def IK{x y:PV}{xs:WL}{e0:W0}{Z:pq}{m1 m2 m3:Mx PV}(j:m1 Z h=.ok x h)(f:m2 Z h=.ok y h)(u:m3 Z h=.ok (.tup xs) h)(l:xs.length<900):aH ln (cR (aq (cR (aq m1 (aq m2 hG))) hG)) m3 Z h=.ok (.tup (.tup [x,y]::xs)) h:=by
 have i:ln (.tup [.tup [x,y]]) (.tup xs) h=.ok (.tup (.tup [x,y]::xs)) h:=by show(if [PV.tup [x,y]]≠[]then mm ([PV.tup [x,y]]++xs) h else .bad)=_;unfold mm;rw[c_ (oh (show _<=1000 by simp;lia) (by decide))];rfl
 simp[j,f,u,i]
def yA{it:MIt}{v p:D}{L:WR}{l pv:PV}{f:WL}{e6:W0}(C:∀h,it.ok h)(bd:∀o∈O,o<h0.length)(hq:q∈O)(rv:Rp 0 [] [] v l)(rp:Rp 0 [] [] p pv)(B:Rps 0 [] [] L f)(lr:L.length<900):
  ∀(P:WR)(xs:WL)(rd:List Rd)(G M:W0)(h:MH)(s:e_),eT P=I->Rps 0 [] [] P xs->PbI q h0 h s a ms rd->pT (.tup (.tup [v,p]::L)) P rd s=J (rd',s') ->
  ∃h' F E,xL it (yM (nu (lR 7) (nu (lR 8) yH)) 2) RM xs [J v0,J v1,J (.loc a),J l,J pv,J (.tup f),e6,G,M] h=.nx [J v0,J v1,J (.loc a),J l,J pv,J (.tup f),e6,F,E] h'/\PbI q h0 h' s' a ms rd'
 |[],xs,rd,G,M,h,s,fd,R,i,u=>by
  cases u;rw[show xs=[]from R];exact⟨h,G,M,hX (C h),i⟩
 |x::P,xs,rd,G,M,h,s,fd,R,i,u=>by
  rcases eg:g3 x with _|⟨j,df⟩<;>rw[pT,eg]at u
  .cases u
  obtain rfl:=Ad eg;dsimp only at u;simp only[eT,DX]at fd;obtain⟨vx,xr,rfl,X,rr⟩:=R;obtain⟨ys,rfl,ry⟩:=X;obtain⟨y1,yr,rfl,ac,z,S,rfl,W,H⟩:=ry;rw[show S=[]from H,show y1=PV.int j from ac]
  split at u
  .rename_i n en
   split at u
   .rename_i U s2 ea
    have nl:n<rd.length:=(L2.oM en).2.1;obtain⟨m,hm⟩:∃m,ms[n]?=J m:=⟨ms[n]'(by rw[i.gr.len];exact nl),yZ _⟩;obtain⟨h1,e1,I1⟩:=DM (ps:=.tup (.tup [v,p]::L)) (pv:=.tup (.tup [l,pv]::f)) i bd hq hm W ⟨_,rfl,_,_,rfl,⟨_,rfl,_,_,rfl,rv,_,_,rfl,rp,rfl⟩,B⟩ ea;obtain⟨h2,F,E,e2,I2⟩:=yA C bd hq rv rp B lr P xr U _ _ h1 s2 fd.2 rr I1 u;refine⟨h2,F,E,?_,I2⟩;have ai:o_ (ms.map PV.loc) j=J (.loc m):=by unfold o_;rw[qx,i.gr.len,en,Jy,se,hm];rfl
    have rl:f.length=L.length:=B.length;rw[fT (C h) (show yM (nu (lR 7) (nu (lR 8) yH)) 2 (.tup [.int j,z]) [J v0,J v1,J (.loc a),J l,J pv,J (.tup f),e6,G,M] h=.nx [J v0,J v1,J (.loc a),J l,J pv,J (.tup f),e6,J (.int j),J z] h from rfl)];have Q:RM [J v0,J v1,J (.loc a),J l,J pv,J (.tup f),e6,J (.int j),J z] h=.nx [J v0,J v1,J (.loc a),J l,J pv,J (.tup f),e6,J (.int j),J z] h1:=by
     have b1:aH bz (ao 2) (ao 7) [J v0,J v1,J (.loc a),J l,J pv,J (.tup f),e6,J (.int j),J z] h=.ok (.loc m) h:=by simp[fW i.gr.top,ai]
     have b2:=IK (h:=h) (Z:=[J v0,J v1,J (.loc a),J l,J pv,J (.tup f),e6,J (.int j),J z]) (m1:=ao 3) (m2:=ao 4) (m3:=ao 5) (e0:=Y) (x:=l) (y:=pv) (xs:=f) rfl rfl rfl ⋯;unfold RM;rw[pZ,v3,eA,b1,Out.bind_ok,eA,show ao 8 [J v0,J v1,J (.loc a),J l,J pv,J (.tup f),e6,J (.int j),J z] h=.ok z h from rfl,Out.bind_ok,eA,b2,Out.bind_ok,kQ];simp only[Out.bind_ok];rw[e1];rfl
    rw[Q];exact e2
   .cases u
  .cases u
def AM{it:MIt}(C:∀h s rd,PbI q h0 h s a ms rd->it.ok h)(bd:∀o∈O,o<h0.length)(hq:q∈O):
  ∀(P:WR)(xs:WL)(rd:List Rd)(e3 e4 e5 L u z:W0)(h:MH)(s:e_),eT P=I->Rps 0 [] [] P xs->PbI q h0 h s a ms rd->M8 P rd s=J (rd',s') ->
  ∃h' E ai X W G F,xL it (yM (nu (lR 3) (nu (lR 4) (nu (lR 5) (nu (lR 6) yH)))) 4) RN xs [J v0,J v1,J (.loc a),e3,e4,e5,L,u,z] h=.nx [J v0,J v1,J (.loc a),E,ai,X,W,G,F] h'/\PbI q h0 h' s' a ms rd'
 |[],xs,rd,e3,e4,e5,L,u,z,h,s,fd,Q,j,l=>by
  cases l;rw[show xs=[]from Q];exact⟨h,e3,e4,e5,L,u,z,hX (C h _ _ j),j⟩
 |x::P,xs,rd,e3,e4,e5,L,u,z,h,s,fd,Q,j,l=>by
  rcases eg:g4 x with _|⟨v,p,rs,cs⟩<;>rw[M8,eg]at l
  .cases l
  obtain rfl:=uZ eg;dsimp only at l;simp only[eT,DX]at fd;have fk:flat v=I/\flat p=I/\eT rs=I/\eT cs=I:=by simpa [flat,eT]using fd.1
  obtain⟨vx,xr,rfl,S,rr⟩:=Q;obtain⟨us,rfl,ru⟩:=S;obtain⟨B,t1,rfl,H,M,t2,rfl,al,u3,t3,rfl,U,u4,t4,rfl,ac,R⟩:=ru;rw[show t4=[]from R];obtain⟨i,rfl,r3⟩:=U;obtain⟨f,rfl,r4⟩:=ac
  split at l
  .rename_i lc
   split at l
   .rename_i ak s2 e2
    have cl:f.length=cs.length:=r4.length;obtain⟨h1,G,F,e1,I1⟩:=yA (it:=⟨.tup [B,.tup [.int 1,.int 1]]::f,[]⟩) (v0:=v0) (v1:=v1) (e6:=J (.tup f)) (λ_=>fh.mpr trivial) bd hq H al r3 lc.1 (.tup [v,.tup [.int 1,.int 1]]::cs) (.tup [B,.tup [.int 1,.int 1]]::f) rd u z h s (by simp[eT,flat,fk.1,fk.2.2.2]) ⟨_,_,rfl,⟨_,rfl,_,_,rfl,H,_,_,rfl,⟨_,rfl,_,_,rfl,rfl,_,_,rfl,rfl,rfl⟩,rfl⟩,r4⟩ j e2;obtain⟨h2,f3,f4,f5,f6,f7,f8,E,I2⟩:=AM C bd hq P xr ak _ _ _ _ _ _ h1 s2 fd.2 rr I1 l;refine⟨h2,f3,f4,f5,f6,f7,f8,?_,I2⟩;rw[fT (C h _ _ j) (show yM (nu (lR 3) (nu (lR 4) (nu (lR 5) (nu (lR 6) yH)))) 4 (.tup [B,M,.tup i,.tup f]) [J v0,J v1,J (.loc a),e3,e4,e5,L,u,z] h=.nx [J v0,J v1,J (.loc a),J B,J M,J (.tup i),J (.tup f),u,z] h from rfl)];have b2:=IK (h:=h) (Z:=[J v0,J v1,J (.loc a),J B,J M,J (.tup i),J (.tup f),u,z]) (m1:=ao 3) (m2:=mC (.tup [.int 1,.int 1])) (m3:=ao 6) (e0:=Y) (x:=B) (y:=.tup [.int 1,.int 1]) (xs:=f) rfl rfl rfl ⋯;have b:RN [J v0,J v1,J (.loc a),J B,J M,J (.tup i),J (.tup f),u,z] h=.nx [J v0,J v1,J (.loc a),J B,J M,J (.tup i),J (.tup f),G,F] h1:=by unfold RN;rw[hZ,sx,b2,Out.bind_ok];exact e1
    rw[b];exact E
   .cases l
  .cases l
def BA{it:MIt}(i:∀h,it.ok h):∀(xs:WL)(f:List Rd)(ms:WQ)(z:W0)(h:MH),Gr h h0.length a ms f->h0.length<=h.length->(∀j:Nat,j<h0.length->h[j]?=h0[j]?)->ms.length+xs.length<1000 ->
  ∃h' l,B_ it a (lR 0) ot ES xs [z] h=.ok () h'/\Gr h' h0.length a l (f++List.replicate xs.length (J [],[]))/\h0.length<=h'.length/\∀j:Nat,j<h0.length->h'[j]?=h0[j]?
 |[],f,ms,z,h,g,y,kp,u=>⟨h,ms,lg (i h),by simpa using g,y,kp⟩
 |x::xs,f,ms,z,h,g,y,kp,u=>by
  have g2:=rL g (r:=(J [],[])) y rfl rfl;have B:=g.ge a (by simp);obtain⟨h',l,H,E,F,G⟩:=BA i xs _ _ (J x) _ g2 (by simp;lia) (λj C=>by rw[qa ⋯,qr ⋯];exact kp j C) (by simp at u ⊢;lia);refine⟨h',l,?_,by rw[DR,Jq,List.append_cons];exact E,F,G⟩;rw[kT (i h) rfl rfl rfl (by rw[qr (aK g.top)];exact g.top) (by simp at u ⊢;lia)];exact H
end
def qQ:Fn where
 m:=jb
 p:=RQ
 fr:=I
 ok {q h O vs ds s} bd hq pn r:=by
  unfold RQ;split
  .rename_i n wk
   split
   .rename_i cn
    obtain⟨fw,n0,n9⟩:=cn;split
    .rename_i rd s1 U
     split
     .rename_i d s2 ed
      split
      .rename_i fd
       have G:=r;obtain⟨v0,t0,rfl,H,v1,t1,rfl,L,F⟩:=r;rw[show t1=[]from F]at G ⊢;rw[show v0=PV.int n from H]at G ⊢;obtain⟨no,f,rfl,X,B,ro⟩:=L;obtain⟨k,rfl⟩:∃k:Nat,n=(k:Int):=⟨n.toNat,⋯⟩;rw[Eu]at U;have y:q<h.length:=bd q hq;obtain⟨l,ms,e1,M,l1,W⟩:=BA (h0:=h) (a:=h.length) (it:=⟨bI 0 k,[]⟩) (λ_=>fh.mpr trivial) (bI 0 k) [] [] Y (h++[.lst []]) ⟨by simp,rfl,by simp,λm hm=>by simp at hm;lia,λi r e=>by simp at e⟩ (by simp) (λn F=>qr F) (by rw[MM.dD];simp;lia);rw[MM.dD,Si]at M;have R:PbI q h l s h.length ms (List.replicate k (J [],[])):=⟨l1,λj C _=>W j C,by unfold bx;rw[W q y];exact pn,M⟩
       obtain⟨h2,f3,f4,f5,f6,f7,f8,em,Q⟩:=AM (v0:=.int (k:Int)) (v1:=.loc no) (it:=⟨f,[(no,f)]⟩) (λh' s' ac E=>by
        intro p hp
        have:p=(no,f):=by simpa using hp
        subst this
        exact(E.mv no (aK B) λz=>X (z▸hq)).trans B) bd hq wk f _ Y Y Y Y Y Y l s fw (Rps.fq fw ro) R U
       have P:=vw.ok (PZ (e3:=f3) (e4:=f4) (e5:=f5) (e6:=f6) (e7:=f7) (e8:=f8) Q bd hq G);rw[ed]at P;obtain⟨v,Z,e3,kb,u,_,rz,_⟩:=P;have S:=Q.kb y kb u;have run:jb [.int (k:Int),.loc no] h=.ok v Z:=by
        unfold jb;rw[gz (by rfl)];unfold x2;rw[show bG 9 [.int (k:Int),.loc no]=[J (.int (k:Int)),J (.loc no),Y,Y,Y,Y,Y,Y,Y]from rfl];have c2:b9 2 (ce 1 [] (d8 (aq (ao 0) hG)) (lR 0) ot ES) [J (.int (k:Int)),J (.loc no),Y,Y,Y,Y,Y,Y,Y] h=.nx [J (.int (k:Int)),J (.loc no),J (.loc h.length),Y,Y,Y,Y,Y,Y] l:=by rw[jo,jL,Gx (n:=k) (h1:=h) rfl ⋯,Out.bind_ok];refine(congrArg (λz:Out Unit=>(z.bind _).go _ _) e1).trans ?_;rfl
        rw[dz,c2,MM.aw,dz,hZ];have c3:d3 (ao 1) [J (.int (k:Int)),J (.loc no),J (.loc h.length),Y,Y,Y,Y,Y,Y] l=.ok ⟨f,[(no,f)]⟩ l:=by rw[sx];show sv (.loc no) l=_;exact sY ((R.mv no (aK B) λz=>X (z▸hq)).trans B)
        rw[c3,aA];refine(congrArg (λz:SOut=>(z.then _).fin) em).trans ?_;rw[MM.aw,sA,e3];rfl
       refine⟨v,Z,run,⟨S.len,λj C nq=>S.mv j C nq⟩,u,Rp.fq fd (rz rfl),λ_ kk ai e=>?_⟩;rw[e]at fd;cases kk<;>simp[dl,flat]at fd
      .trivial
     .trivial
    .trivial
   .trivial
  .trivial
abbrev P0:Xd [3]:=pQ 3 (az fZ (ae (af h_ (aa 3) (aa 8)) (ae (az dB (ae (aa 9) (ae (af h_ (aa 3) (aa 4)) a_))) a_))) (aa 8)
abbrev P1:Xd [3]:=pQ 3 (az fZ (ae (af h_ (aa 3) (aa 4)) (ae (az dB (ae (aa 11) (ae (af h_ (aa 3) (aa 10)) a_))) a_))) (aa 4)
abbrev Um:Xd [3]:=pQ 3 (az gI (ae (af h_ (aa 3) (aa 4)) (ae (aa 5) a_))) (aa 4)
def jN:Xd [3]:=(aG (eO 3 (bg 1 [2] (bT E6 (ae (aa 0) a_)) (ws':=[]) (h8 0) mL (af h_ (aa 1) (aa 0))))
 (aG (cE (bc (aa 1)) (p_ (ki (h8 4) (ki (h8 5) (ki (h8 6) (ki (h8 7) p6)))) 4) (cE (bc (aa 7)) (p_ (ki (h8 8) (ki (h8 9) p6)) 2) P0))
 (aG (cE (bT Ui (ae (aa 1) a_)) (p_ (ki (h8 4) (ki (h8 5) (ki (h8 6) (ki (h8 7) p6)))) 4) (aG (cE (bc (aa 6)) (p_ (ki (h8 10) (ki (h8 11) p6)) 2) P1)
 Um))
 (mQ 3))))
def g6:Fn:=bA 12 3 jN
def Ax{a:WR}{s:e_}(h:a.length=3):g6.p a s=(jN.p (lw 12 a) s).fin:=aZ h
def rZ{h:MH}{p:Nat}{o:MO}(a:p<h.length):(h.set p o)[p]?=J o:=C_ a
def VN:vR 3 2=J 2:=gq (n:=3) (m:=2) (by decide)
def Wr:vR 3 1=J 1:=gq (n:=3) (m:=1) (by decide)
def kS(s:e_)(a:Int)(H:0<a)(P:a.natAbs.log2<9000):∃x:Int×Int,(0<=x.1/\x.1<a)/\∀(h:MH)(p:Nat),bx h p s->dZ [.loc p,.int a] h=.ok (.int x.1) (h.set p (.lst [.int s.1,.int x.2,.int (s.2.2+1)])):=by
 obtain⟨m,c,t⟩:=s;have f:a≠0:=by lia
 have st:∀n:Int,0<=n.fmod a/\n.fmod a<a:=λn=>by
  rw[QG n ⋯];exact⟨Jz n f,Jw n H⟩
 by_cases u:m=1
 .subst u;refine⟨(c.fmod a,c.fdiv a),st c,λh p e=>?_⟩;have l:p<h.length:=(pf.mp e).1;have e2:(h.set p (.lst [.int 1,.int c,.int (t+1)]))[p]?=J (.lst [.int 1,.int c,.int (t+1)]):=rZ l;refine(gz (by rfl)).trans ?_;unfold zh;simp[bG,List.replicate,fW e,lO e,VN,fW e2,ie f,x4 f,lO e2,Wr]
 .have j:∀n k:Int,0<k->0<=n.fmod k/\n.fmod k<k:=λn k O=>by
   rw[QG n ⋯];exact⟨Jz n ⋯,Jw n O⟩
  generalize z:((c+40503*(t+1)+1)*48271).fmod 2147483647=A;have G:=j ((c+40503*(t+1)+1)*48271) 2147483647 (by decide);rw[z]at G;generalize y:(A*(A.fmod 65521+(t+1)+3)).fmod 2147483629=C;have F:=j (A*(A.fmod 65521+(t+1)+3)) 2147483629 (by decide);rw[y]at F;refine⟨((((C*(C.fmod 8191+7)).fmod 2147483563).fdiv 64).fmod a,c),st _,λh p e=>?_⟩;have e:h[p]?=J (.lst [.int m,.int c,.int t]):=e;have l:p<h.length:=(pf.mp e).1;have e2:(h.set p (.lst [.int m,.int c,.int (t+1)]))[p]?=J (.lst [.int m,.int c,.int (t+1)]):=rZ l;have E:-(2^64)<A/\A<2^64:=by lia
  have B:-(2^64)<C/\C<2^64:=by lia
  have L:∀{i:Int}{h:MH},mh (.int 40503) (.int i) h=.ok (.int (40503*i)) h:=jn (by decide);have M:∀{i:Int}{h:MH},mh (.int i) (.int 48271) h=.ok (.int (i*48271)) h:=Gk (by decide);unfold dZ;refine(gz (by rfl)).trans ?_;unfold zh;simp[bG,List.replicate,fW e,lO e,VN,fW e2,u,L,M,ie,z,jn E,y,jn B,x4 (show(64:Int)≠0 by decide),ie f]
open Classical in
def oH(s:e_)(a:Int):Int×Int:=if z:0<a/\a.natAbs.log2<9000 then(kS s a z.1 z.2).choose else(0,0)
def qI(a:WR):WW:=match a with
 |[.pen,.int i]=>J i
 |_=>Y
def yO{a:WR}{i:Int}(e:qI a=J i):a=[.pen,.int i]:=by
 unfold qI at e
 split at e
 .cases e;rfl
 .cases e
open Classical in
def bK:Fn where
 m:=dZ
 p:=λf s=>match qI f with
  |some a=>if 0<a/\a.natAbs.log2<9000 then .ok (.int (oH s a).1) (s.1,(oH s a).2,s.2.2+1)else .bad
  |none=>.bad
 fr:=I
 ok {q h O vs f s} bd hq pn r:=by
  cases e:qI f with
  |none=>trivial
  |some a =>
   have:=yO e
   subst this;dsimp only;by_cases z:0<a/\a.natAbs.log2<9000
   .rw[c_ z];obtain⟨x,t,rfl,B,y,l,rfl,j,i⟩:=r;rw[show x=PV.loc q from B,show y=PV.int a from j,show l=[]from i];have k:=(kS s a z.1 z.2).choose_spec.2 h q pn;have u:oH s a=(kS s a z.1 z.2).choose:=by unfold oH;rw[dif_pos z]
    rw[<-u]at k;refine⟨_,_,k,⟨by simp,λn E C=>qa (Ne.symm C)⟩,rZ (aK pn),rfl,λ_ k f e=>by cases k<;>cases e⟩
   .rw[g_ z];trivial
open Classical in
theorem eE{s:e_}{size:Int}(i:0<size)(l:size<=2000000000):∃d f,0<=d/\d<size/\bK.p [.pen,.int size] s=.ok (.int d) f:=by
 have a:size.natAbs.log2<9000:=by have u:size.natAbs.log2<31:=(Nat.log2_lt ⋯).mpr ⋯;lia
 have z:0<size/\size.natAbs.log2<9000:=⟨i,a⟩;have j:oH s size=(kS s size z.1 z.2).choose:=by unfold oH;rw[dif_pos z]
 have k:=(kS s size z.1 z.2).choose_spec.1;rw[<-j]at k;exact⟨_,_,k.1,k.2,by show(if 0<size/\size.natAbs.log2<9000 then _ else _)=_;rw[c_ z]⟩
abbrev u0:Xt []:=xB (af OF (aa 3) (xC (.int 0)))
abbrev we:Xd []:=vM 2 3 (ae (aa 3) (ae (af iV (aa 2) (aa 3)) a_))
def gV:Xd []:=(aG (vM 2 3 (ae (m_ nF (ae (aa 0) a_)) (ae (m_ nF (ae (aa 1) a_)) a_)))
 (aG (K_ 2000000 u0 we nP)
 (aG (sw (xB (af GH (aa 1) (xC (.int 0)))) (aP 2 (y7 sy (aa 2))) i_)
 (aU (bt (ae (af GJ (aa 0) (aa 2)) (ae (af GJ (aa 1) (aa 2)) a_)))))))
def bh:Fn:=bA 4 2 gV
def wV{a:WR}{s:e_}(h:a.length=2):bh.p a s=(gV.p (lw 4 a) s).fin:=aZ h
def hJ(F:Fn):Xd []:=(aG (sw (xB (af (Ea T) (aa 1) (xC .non))) (aU (af (Ea T) (aa 0) (xC .non))) i_)
 (aG (sw (xB (y7 (bL ["list","tuple"]) (aa 1))) (aG (sw (CV (bQ (xB (y7 (bL ["list","tuple"]) (aa 0)))) (xB (af xg (y7 (bL ["list"]) (aa 0)) (y7 (bL ["list"]) (aa 1))))) (aU (xC (.bl T))) i_)
 (aU (fu (af Dl (m_ b7 (ae (aa 0) a_)) (m_ b7 (ae (aa 1) a_))) (m_ ss (ae (bg 2 [] (bT iZ (ae (aa 0) (ae (aa 1) a_))) (ws':=[]) (p_ (ki (h8 0) (ki (h8 1) p6)) 2) mL (az F (ae (aa 0) (ae (aa 1) a_)))) a_))))) i_)
 (aU (fu (y7 (bL ["int"]) (aa 0)) (fu (oV (y7 (bL ["bool"]) (aa 0))) (af Dl (aa 0) (aa 1)))))))
def dL:Nat->Fn
 |0=>IC (cX 2 2 λ_ _=>.bad)
 |n+1=>bA 2 2 (hJ (dL n))
def tf{n:Nat}{a:WR}{s:e_}(h:a.length=2):(dL (n+1)).p a s=((hJ (dL n)).p (lw 2 a) s).fin:=aZ h
def cW:Fn:=dL 8
def gC:Xd []:=(aG (aP 1 (az bK (ae (aa 0) (ae (xC (.int 8)) a_))))
 (aG (sw (xB (af Dl (aa 1) (xC (.int 7)))) (aU (az bh (ae (af c8 (af mD (az bK (ae (aa 0) (ae (af mD (af b8 (xC (.int 2)) (af uF (xC (.int 10)) (xC (.int 6)))) (xC (.int 1))) a_))) (af uF (xC (.int 10)) (xC (.int 6)))) (xC (.int 1))) (ae (af c8 (xC (.int 1)) (az bK (ae (aa 0) (ae (af mD (af uF (xC (.int 10)) (xC (.int 6))) (xC (.int 1))) a_)))) a_)))) i_)
 (aU (az bh (ae (af mD (az bK (ae (aa 0) (ae (xC (.int 13)) a_))) (xC (.int 6))) (ae (af c8 (xC (.int 1)) (az bK (ae (aa 0) (ae (af h_ (d9 (ae (xC (.int 1)) (ae (xC (.int 1)) (ae (xC (.int 5)) a_)))) (af iV (aa 1) (xC (.int 3)))) a_)))) a_))))))
def cP:Fn:=bA 2 1 gC
def wS{a:WR}{s:e_}(h:a.length=1):cP.p a s=(gC.p (lw 2 a) s).fin:=aZ h
def iM:Xd [2]:=(aG (eO 2 (d9 a_))
 (aG (cE (bT E6 (ae (aa 1) a_)) (h8 3) (E3 Ci 2 (ae (az bK (ae (aa 0) (ae (af c8 (aa 3) (xC (.int 1))) a_))) (ae (aa 3) a_))))
 (mQ 2)))
def f9:Fn:=bA 4 2 iM
def y0{a:WR}{s:e_}(h:a.length=2):f9.p a s=(iM.p (lw 4 a) s).fin:=aZ h
abbrev VO:Xe [3]:=(bg 1 [0,2,4] (bT E6 (ae (aa 1) a_)) (ws':=[]) (h8 0) (xB (af GH (az bK (ae (aa 1) (ae (af h_ (d9 (ae (aa 2) (ae (xC (.int 4)) a_))) (m_ qe (ae (af Dl (aa 0) (aa 3)) a_))) a_))) (af h_ (d9 (ae (xC (.int 1)) (ae (xC (.int 3)) a_))) (m_ qe (ae (af Dl (aa 0) (aa 3)) a_))))) (bt (ae (aa 0) (ae (az cP (ae (aa 1) a_)) a_))))
abbrev Uo:Xd [3]:=(aG (aP 5 VO)
 (E3 tr 3 (ae (m_ dE (ae (bg 2 [] (bc (aa 5)) (ws':=[]) (p_ (ki (h8 0) (ki (h8 1) p6)) 2) (xB (af xg (af h_ (aa 1) (xC (.int 0))) (xC (.int 0)))) (bt (ae (aa 0) (ae (aa 1) a_)))) a_)) a_)))
def jC:Xd [3]:=(aG (aP 2 (af c8 (xC (.int 1)) (az bK (ae (aa 0) (ae (xC (.int 4)) a_)))))
 (aG (eO 3 (d9 a_))
 (aG (cE (bT E6 (ae (aa 1) a_)) (h8 4) Uo)
 (aU (m_ dE (ae (aa 3) a_))))))
def jO:Fn:=bA 6 2 jC
def Af{a:WR}{s:e_}(h:a.length=2):jO.p a s=(jC.p (lw 6 a) s).fin:=aZ h
def jA:Xd []:=(aU (az bh (ae (af c8 (af b8 (af h_ (aa 0) (xC (.int 0))) (af h_ (aa 1) (xC (.int 1)))) (af b8 (af h_ (aa 1) (xC (.int 0))) (af h_ (aa 0) (xC (.int 1))))) (ae (af b8 (af h_ (aa 0) (xC (.int 1))) (af h_ (aa 1) (xC (.int 1)))) a_))))
def d6:Fn:=bA 2 2 jA
def Bh{a:WR}{s:e_}(h:a.length=2):d6.p a s=(jA.p (lw 2 a) s).fin:=aZ h
def iO:Xd []:=(aU (az bh (ae (af b8 (af h_ (aa 0) (xC (.int 0))) (af h_ (aa 1) (xC (.int 0)))) (ae (af b8 (af h_ (aa 0) (xC (.int 1))) (af h_ (aa 1) (xC (.int 1)))) a_))))
def eP:Fn:=bA 2 2 iO
def zg{a:WR}{s:e_}(h:a.length=2):eP.p a s=(iO.p (lw 2 a) s).fin:=aZ h
def jI:Xd []:=(aU (af c8 (bg 2 [1] (bc (aa 0)) (ws':=[]) (p_ (ki (h8 0) (ki (h8 1) p6)) 2) (xB (af Dl (aa 0) (aa 2))) (aa 1)) (bg 2 [1] (bc (aa 0)) (ws':=[]) (p_ (ki (h8 0) (ki (h8 1) p6)) 2) (xB (af Dl (aa 1) (aa 2))) (aa 0))))
def g7:Fn:=bA 2 2 jI
def AJ{a:WR}{s:e_}(h:a.length=2):g7.p a s=(jI.p (lw 2 a) s).fin:=aZ h
abbrev P2:Xt [3]:=xB (af GH (aa 4) (m_ b7 (ae (aa 3) a_)))
abbrev VP:Xt [3]:=(CV (xB (af Dl (aa 4) (xC (.int 0)))) (xB (af (EG T) (af h_ (aa 3) (aa 4)) (GN (aa 1) GK (GL (aa 2))))))
abbrev Ws:Xe [3]:=(bg 1 [3] (bc (az g7 (ae (aa 0) (ae (af h_ (aa 3) (aa 4)) a_)))) (ws':=[1]) (h8 0) (xB (af (EG I) (aa 0) (aa 1))) (aa 0))
abbrev P4:Xd [3]:=(aG (sw VP (E3 Ec 3 (ae Ws a_)) i_)
 (aP 4 (af c8 (aa 4) (xC (.int 1)))))
def iI:Xd [3]:=(aG (eO 3 (d9 (ae (af h_ (aa 1) (aa 2)) a_)))
 (aG (aP 4 (xC (.int 0)))
 (aG (K_ 2000000 P2 P4 nP)
 (aU (bg 1 [3] (bc (GN (aa 1) (GL (af c8 (aa 2) (xC (.int 1)))) GK)) (ws':=[1]) (h8 0) (xB (af (EG T) (aa 0) (aa 1))) (aa 0))))))
def gu:Fn:=bA 5 3 iI
def zn{a:WR}{s:e_}(h:a.length=3):gu.p a s=(iI.p (lw 5 a) s).fin:=aZ h
abbrev Up:Xd [2]:=(aG (aP 5 (az gu (ae (aa 0) (ae (aa 1) (ae (aa 3) a_)))))
 (sw (xB (af xg (aa 5) (d9 a_))) (pQ 2 (af h_ (aa 5) (xC (.int 0))) (aa 4)) i_))
def iP:Xd [2]:=(aG (eO 2 (bg 1 [] (bc (aa 1)) (ws':=[]) (h8 0) mL (xC .non)))
 (aG (cE (bT iE (ae (aa 1) a_)) (p_ (ki (h8 3) (ki (h8 4) p6)) 2) Up)
 (mQ 2)))
def iH:Fn:=bA 6 2 iP
def zR{a:WR}{s:e_}(h:a.length=2):iH.p a s=(iP.p (lw 6 a) s).fin:=aZ h
abbrev VQ:Xs [1]:=(ae (bt (ae (m_ oo (ae (aa 2) (ae (aa 4) a_))) (ae (m_ vF (ae (aa 2) (ae (aa 4) a_))) a_))) a_)
abbrev RR:Xd [1]:=(sw (kH (xB (af xg (aa 2) (aa 4))) (xB (af (EG I) (bt (ae (m_ oo (ae (aa 2) (ae (aa 4) a_))) (ae (m_ vF (ae (aa 2) (ae (aa 4) a_))) a_))) (aa 1)))) (E3 tr 1 VQ) i_)
def fB:Xd [1]:=(aG (eO 1 (d9 a_))
 (aG (cE (bT iE (ae (af h_ (aa 0) (xC (.int 1))) a_)) (p_ (ki (h8 2) (ki (h8 3) p6)) 2) (cE (bc (aa 3)) (p_ (ki (h8 4) (ki (h8 5) p6)) 2) RR))
 (aU (m_ uO (ae (aa 1) a_)))))
def fJ:Fn:=bA 6 1 fB
def uU{a:WR}{s:e_}(h:a.length=1):fJ.p a s=(fB.p (lw 6 a) s).fin:=aZ h
def iD:Xd []:=(aU (fu (y7 (bL ["int"]) (aa 0)) (oV (y7 (bL ["bool"]) (aa 0)))))
def cU:Fn:=bA 1 1 iD
def yE{a:WR}{s:e_}(h:a.length=1):cU.p a s=(iD.p (lw 1 a) s).fin:=aZ h
def eB:Xd []:=(aG (sw (CV (bQ (xB (y7 (bL ["tuple"]) (aa 0)))) (CV (xB (af xg (m_ b7 (ae (aa 0) a_)) (xC (.int 2)))) (CV (bQ (xB (az cU (ae (af h_ (aa 0) (xC (.int 0))) a_)))) (bQ (xB (az cU (ae (af h_ (aa 0) (xC (.int 1))) a_))))))) (aU (xC (.bl T))) i_)
 (aU (fu (af xg (af h_ (aa 0) (xC (.int 0))) (xC (.int 0))) (fu (af OF (af h_ (aa 0) (xC (.int 1))) (xC (.int 0))) (af Dl (az bh (ae (af h_ (aa 0) (xC (.int 0))) (ae (af h_ (aa 0) (xC (.int 1))) a_))) (aa 0))))))
def cF:Fn:=bA 1 1 eB
def sP{a:WR}{s:e_}(h:a.length=1):cF.p a s=(eB.p (lw 1 a) s).fin:=aZ h
abbrev Uq:Xd []:=(aG (sw (CV (bQ (xB (y7 (bL ["tuple"]) (aa 3)))) (CV (xB (af xg (m_ b7 (ae (aa 3) a_)) (xC (.int 2)))) (CV (bQ (xB (az cU (ae (af h_ (aa 3) (xC (.int 0))) a_)))) (xB (af (EG I) (af h_ (aa 3) (xC (.int 0))) (aa 1)))))) (aU (xC (.bl T))) i_)
 (aG (sw (CV (xB (af OE (af h_ (aa 3) (xC (.int 0))) (aa 2))) (bQ (xB (az cF (ae (af h_ (aa 3) (xC (.int 1))) a_))))) (aU (xC (.bl T))) i_)
 (aP 2 (af h_ (aa 3) (xC (.int 0))))))
def eK:Xd []:=(aG (sw (bQ (xB (y7 (bL ["tuple"]) (aa 0)))) (aU (xC (.bl T))) i_)
 (aG (aP 2 (y7 sy (xC (.int 1))))
 (aG (cE (bc (aa 0)) (h8 3) Uq)
 (aU (xC (.bl I))))))
def dA:Fn:=bA 4 2 eK
def sJ{a:WR}{s:e_}(h:a.length=2):dA.p a s=(eK.p (lw 4 a) s).fin:=aZ h
abbrev VR:Xd []:=(aG (aP 4 (af h_ (aa 0) (aa 2)))
 (aG (sw (CV (bQ (xB (y7 (bL ["tuple"]) (aa 4)))) (CV (xB (af xg (m_ b7 (ae (aa 4) a_)) (xC (.int 4)))) (CV (bQ (xB (az cU (ae (af h_ (aa 4) (xC (.int 0))) a_)))) (xB (af xg (af h_ (aa 4) (xC (.int 0))) (aa 3)))))) (aU (xC (.bl T))) i_)
 (aG (sw (CV (bQ (xB (az cF (ae (af h_ (aa 4) (xC (.int 1))) a_)))) (bQ (xB (az dA (ae (af h_ (aa 4) (xC (.int 2))) (ae (GN (aa 1) (GL (af c8 (aa 2) (xC (.int 1)))) GK) a_)))))) (aU (xC (.bl T))) i_)
 (sw (bQ (xB (az dA (ae (af h_ (aa 4) (xC (.int 3))) (ae (GN (aa 1) (GL (af c8 (aa 2) (xC (.int 1)))) GK) a_))))) (aU (xC (.bl T))) i_))))
def fA:Xd []:=(aG (sw (CV (bQ (xB (y7 (bL ["list"]) (aa 0)))) (xB (af xg (m_ b7 (ae (aa 0) a_)) (m_ b7 (ae (aa 1) a_))))) (aU (xC (.bl T))) i_)
 (aG (cE (bT iE (ae (aa 1) a_)) (p_ (ki (h8 2) (ki (h8 3) p6)) 2) VR)
 (aU (xC (.bl I)))))
def fF:Fn:=bA 5 2 fA
def wo{a:WR}{s:e_}(h:a.length=2):fF.p a s=(fA.p (lw 5 a) s).fin:=aZ h
def wB:Xe []:=(az d6 (ae (af h_ (af h_ (aa 2) (aa 7)) (aa 9)) (ae (az eP (ae (aa 8) (ae (aa 10) a_))) a_)))
def uM:Xe []:=(bt (ae (aa 0) (ae (m_ dE (ae (bg 1 [] (bc (aa 2)) (ws':=[]) (h8 0) mL (m_ dE (ae (bg 2 [] (bT iE (ae (aa 0) a_)) (ws':=[]) (p_ (ki (h8 0) (ki (h8 1) p6)) 2) (xB (af xg (aa 1) (bt (ae (xC (.int 0)) (ae (xC (.int 1)) a_))))) (bt (ae (aa 0) (ae (aa 1) a_)))) a_))) a_)) a_)))
def Hk:n_:=nI wB.m (FE (aH bz (ao 2) (ao 7)) (ao 9))
def Hl:n_:=i4 (d3 (aH ln (cR (aq (cR (aq (ao 3) (aq (ao 4) hG))) hG)) (ao 5))) (yM (nu (lR 9) (nu (lR 10) yH)) 2) Hk
def Hm:n_:=i4 (d3 (aH ln (cR (aq (cR (aq (ao 3) (aq (cR (aq (mC (.int 1)) (aq (mC (.int 1)) hG))) hG))) hG)) (ao 6))) (yM (nu (lR 7) (nu (lR 8) yH)) 2) Hl
def LR:Mx PV:=cR (aq (mC (.int 0)) (aq (mC (.int 1)) hG))
def qi:n_:=cD (b9 2 (ce 1 [0] (d8 (aq (ao 0) hG)) (lR 0) ot (ce 1 [] (d8 (aq (ao 1) hG)) (lR 0) ot LR)))
 (cD (i4 (d3 (ao 1)) (yM (nu (lR 3) (nu (lR 4) (nu (lR 5) (nu (lR 6) yH)))) 4) Hm)
 (dy uM.m))
def fj:WL->MH->WZ:=cX 11 2 qi
structure C8 where
 (c0 c1 c2 c3 c4 c5 c6 c7:WG)
def mE(rd:List Rd)(n a:D)(c:C8):aC:=[J n,J a,J (dH rd),c.c0,c.c1,c.c2,c.c3,c.c4,c.c5,c.c6,c.c7]
def qK(n l:D)(rd:List Rd)(c:C8)(s:e_):Option (List Rd×e_):=match wB.p (mE rd n l c) s,c.c4,c.c6 with
 |.ok d f,J (.int i),J (.int j)=>(match vR rd.length i with
  |some x=>(match rd[x]? with
   |some (Y,a)=>(match vR a.length j with
    |some y=>if flat d=I then J (rd.set x (Y,a.set y d),f)else Y
    |none=>Y)
   |_=>Y)
  |none=>Y)
 |_,_,_=>Y
def LS(n f:D):WR->List Rd->C8->e_->Option (List Rd×C8×e_)
 |[],rd,c,s=>J (rd,c,s)
 |x::r,rd,c,s=>(match g2 x with
 |some (j,i)=>(match qK n f rd { c with c6:=J j,c7:=J i} s with
  |some (a,l)=>LS n f r a { c with c6:=J j,c7:=J i} l
  |none=>Y)
 |none=>Y)
def LU(n f v p:D)(i:WR):WR->List Rd->C8->e_->Option (List Rd×C8×e_)
 |[],rd,c,s=>J (rd,c,s)
 |x::r,rd,c,s=>(match g2 x with
 |some (l,y)=>(match LS n f (.tup [v,p]::i) rd { c with c4:=J l,c5:=J y} s with
  |some (a,j,u)=>LU n f v p i r a j u
  |none=>Y)
 |none=>Y)
def M9(n j:D):WR->List Rd->C8->e_->Option (List Rd×C8×e_)
 |[],rd,c,s=>J (rd,c,s)
 |x::r,rd,c,s=>(match g4 x with
 |some (v,p,i,f)=>if i.length<900/\f.length<900 then (match LU n j v p i (.tup [v,.tup [.int 1,.int 1]]::f) rd { c with c0:=J v,c1:=J p,c2:=J (.tup i),c3:=J (.tup f)} s with
  |some (a,l,u)=>M9 n j r a l u
  |none=>Y)else Y
 |none=>Y)
def RT(i:WR)(s:e_):PR D:=match i with
 |[.int n,.lst a]=>if eT a=I/\0<=n/\n<900 then (match M9 (.int n) (.lst a) a (List.replicate n.toNat (Y,List.replicate n.toNat (.tup [.int 0,.int 1]))) ⟨Y,Y,Y,Y,Y,Y,Y,Y⟩ s with
  |some (rd,c,f)=>(match uM.p (mE rd (.int n) (.lst a) c) f with
   |.ok d j=>if flat d=I then .ok d j else .bad
   |_=>.bad)
  |none=>.bad)else .bad
 |_=>.bad
structure MuI(q:Nat)(h0 h:MH)(s:e_)(a:Nat)(ms:WQ)(rd:List Rd):Prop where
 len:h0.length<=h.length
 mv:∀n:Nat,n<h0.length->n≠q->h[n]?=h0[n]?
 pen:bx h q s
 gr:Gr h h0.length a ms rd
structure E8 where
 (e0 e1 e2 e3 e4 e5 e6 e7:W0)
def sE(i f:PV)(a:Nat)(e:E8):pq:=[J i,J f,J (.loc a),e.e0,e.e1,e.e2,e.e3,e.e4,e.e5,e.e6,e.e7]
structure O8(c:C8)(e:E8):Prop where
 (o0:OR c.c0 e.e0) (o1:OR c.c1 e.e1) (o2:OR c.c2 e.e2) (o3:OR c.c3 e.e3) (o4:OR c.c4 e.e4) (o5:OR c.c5 e.e5) (o6:OR c.c6 e.e6) (o7:OR c.c7 e.e7)
def sX:∀{a:WR}{d:D}{i:Nat},eT a=I->flat d=I->eT (a.set i d)=I
 |[],_,_,f,_=>f
 |x::a,d,0,f,g=>by
  simp only[eT,DX,yT]at f ⊢;exact⟨g,f.2⟩
 |x::a,d,i+1,f,g=>by
  simp only[eT,DX,zJ]at f ⊢;exact⟨f.1,sX f.2 g⟩
def OR.of{d:D}{v:PV}(f:flat d=I)(r:Rp 0 [] [] d v):OR (J d) (J v):=λz a=>by cases a;exact⟨f,_,rfl,r⟩
section
variable{q:Nat}{h0 h h':MH}{s s':e_}{a:Nat}{ms:WQ}{rd rd':List Rd}{O:WQ}{n wk:D}{v0 v1:PV}{c c':C8}{e e':E8}
def MuI.kb(f:MuI q h0 h s a ms rd)(hq:q<h0.length)(k:KB q h h')(pn:bx h' q s'):MuI q h0 h' s' a ms rd:=by have l:=f.len;exact⟨oh f.len k.len,λn u i=>(k.keep n ⋯ i).trans (f.mv n u i),pn,f.gr.keep λm j=>k.keep m (f.gr.lt m j) (by have:=f.gr.ge m j;lia)⟩
def IL(j:MuI q h0 h s a ms rd)(bd:∀o∈O,o<h0.length)(hq:q∈O)(r:Rps q h0 O [n,wk] [v0,v1])(o:O8 c e):PU.Cx q h h.length O O [] (sE v0 v1 a e) (mE rd n wk c) s:=by
 have l:=j.len;have mv:Mv O h0 O h:=⟨λn F no=>j.mv n F λz=>no (z▸hq),λo u=>.inl u⟩;have B:=r.mv mv;have one:∀{x:WG}{y:W0}{d:D},OR x y->x=J d->∃v,J y=J (J v)/\Rp q h O d v:=λ{x y d} o e=>by
  obtain⟨f,v,e2,r⟩:=o d e;exact⟨v,by rw[e2],Rp.fq f r⟩
 refine⟨λo u=>by have:=bd o u;lia,λo u=>u,λo u=>by have:=bd o u;lia,hq,l_ _,j.pen,rfl,λi d e _=>?_,λi d e E=>by cases E⟩
 match i,e with
 |0,e=>cases e;obtain⟨v,e,q⟩:=B.get (i:=0) rfl;cases e;exact⟨_,rfl,q⟩
 |1,e=>cases e;obtain⟨v,e,q⟩:=B.get (i:=1) rfl;cases e;exact⟨_,rfl,q⟩
 |2,e=>cases e;exact⟨_,rfl,j.gr.rp λm C no=>by have:=j.gr.ge m C;have:=bd m no;lia⟩
 |3,e=>exact one o.o0 (by injection e)
 |4,e=>exact one o.o1 (by injection e)
 |5,e=>exact one o.o2 (by injection e)
 |6,e=>exact one o.o3 (by injection e)
 |7,e=>exact one o.o4 (by injection e)
 |8,e=>exact one o.o5 (by injection e)
 |9,e=>exact one o.o6 (by injection e)
 |10,e=>exact one o.o7 (by injection e)
def C4(z:MuI q h0 h s a ms rd)(bd:∀o∈O,o<h0.length)(hq:q∈O)(r:Rps q h0 O [n,wk] [v0,v1])(o:O8 c e)(l:qK n wk rd c s=J (rd',s')):∃h',Hk (sE v0 v1 a e) h=.nx (sE v0 v1 a e) h'/\MuI q h0 h' s' a ms rd':=by
 have B:=bd q hq;unfold qK at l
 split at l
 .rename_i d s1 i j M H P
  split at l
  .rename_i x ex
   split at l
   .rename_i C R
    split at l
    .rename_i y ey
     split at l
     .rename_i fd
      cases l;have k:=wB.ok (IL z bd hq r o);rw[M]at k;obtain⟨v,f,em,kb,pn,_,F,_⟩:=k;have u:=z.kb B kb pn;obtain⟨fl,m,xs,e1,e2,e3⟩:=u.gr.row x _ R;obtain⟨_,_,e4,Z⟩:=o.o4 _ H;obtain⟨_,_,e6,W⟩:=o.o6 _ P;have X:=aK e2;have G:=ml a (x3 e1);have Q:=u.gr.ge m G;have xl:xs.length=C.length:=e3.length;have U:Rp 0 [] [] d v:=Rp.fq fd (F rfl);have L:o_ (ms.map PV.loc) i=J (.loc m):=by unfold o_;rw[qx,u.gr.len,ex,Jy,se,e1];rfl
      refine⟨f.set m (.lst (xs.set y v)),?_,by rw[Sf];exact u.len,λj E nq=>(qa ⋯).trans (u.mv j E nq),?_,u.gr.put (r':=(Y,C.set y d)) e1 ?_ (C_ X) (e3.set y U) λj _ ne=>qa (Ne.symm ne)⟩
      .unfold Hk nI zv;rw[em];have g:FE (aH bz (ao 2) (ao 7)) (ao 9) v (sE v0 v1 a e) f=.nx (sE v0 v1 a e) (f.set m (.lst (xs.set y v))):=by
        rw[KP];have S:aH bz (ao 2) (ao 7) (sE v0 v1 a e) f=.ok (.loc m) f:=by
         rw[Gi];have z1:ao 2 (sE v0 v1 a e) f=.ok (.loc a) f:=rfl;have z2:ao 7 (sE v0 v1 a e) f=.ok (.int i) f:=by show ao 7 [J v0,J v1,J (.loc a),e.e0,e.e1,e.e2,e.e3,e.e4,e.e5,e.e6,e.e7] f=_;rw[e4,show _=PV.int i from Z];rfl
         rw[z1,Out.bind_ok,z2,Out.bind_ok,fW u.gr.top,L];rfl
        have z3:ao 9 (sE v0 v1 a e) f=.ok (.int j) f:=by show ao 9 [J v0,J v1,J (.loc a),e.e0,e.e1,e.e2,e.e3,e.e4,e.e5,e.e6,e.e7] f=_;rw[e6,show _=PV.int j from W];rfl
        rw[S,aA,KO,z3,aA,lO e2,xl,ey];rfl
       dsimp only;rw[g]
      .have:=u.pen
       unfold bx at this ⊢;rw[qa ⋯];exact this
      .exact sX fl fd
     .cases l
    .cases l
   .cases l
  .cases l
 .cases l
def x9{x y:D}{v:PV}(r:Rp 0 [] [] (.tup [x,y]) v):∃a b,v=.tup [a,b]/\Rp 0 [] [] x a/\Rp 0 [] [] y b:=by obtain⟨ys,rfl,u⟩:=r;obtain⟨z,C,rfl,i,B,l,rfl,j,f⟩:=u;rw[show l=[]from f];exact⟨_,_,rfl,i,j⟩
def BK{it:MIt}(i:∀h,it.ok h)(bd:∀o∈O,o<h0.length)(hq:q∈O)(r:Rps q h0 O [n,wk] [v0,v1]):∀(l:WR)(xs:WL)(rd:List Rd)(c:C8)(e:E8)(h:MH)(s:e_),eT l=I->Rps 0 [] [] l xs->O8 c e->MuI q h0 h s a ms rd->LS n wk l rd c s=J (rd',c',s') ->
  ∃h' y u,xL it (yM (nu (lR 9) (nu (lR 10) yH)) 2) Hk xs (sE v0 v1 a e) h=.nx (sE v0 v1 a { e with e6:=y,e7:=u}) h'/\MuI q h0 h' s' a ms rd'/\O8 c' { e with e6:=y,e7:=u}/\c'.c0=c.c0/\c'.c1=c.c1/\c'.c2=c.c2/\c'.c3=c.c3
 |[],xs,rd,c,e,h,s,fd,B,o,j,f=>by
  cases f;rw[show xs=[]from B];exact⟨h,e.e6,e.e7,hX (i h),j,o,rfl,rfl,rfl,rfl⟩
 |x::l,xs,rd,c,e,h,s,fd,B,o,j,f=>by
  rcases eg:g2 x with _|⟨M,Q⟩<;>rw[LS,eg]at f
  .cases f
  obtain rfl:=qZ eg;dsimp only at f;simp only[eT,DX]at fd;have L:flat M=I/\flat Q=I:=by simpa [flat,eT]using fd.1
  obtain⟨vx,S,rfl,G,Z⟩:=B;obtain⟨C,z,rfl,H,F⟩:=x9 G
  split at f
  .rename_i E R e2
   have P:O8 { c with c6:=J M,c7:=J Q} { e with e6:=J C,e7:=J z}:=⟨o.o0,o.o1,o.o2,o.o3,o.o4,o.o5,OR.of L.1 H,OR.of L.2 F⟩;obtain⟨W,e1,I1⟩:=C4 j bd hq r P e2;obtain⟨h2,y,u,e3,U,X,k⟩:=BK i bd hq r l S E _ _ W R fd.2 Z P I1 f;refine⟨h2,y,u,?_,U,X,k⟩;rw[fT (i h) (show yM (nu (lR 9) (nu (lR 10) yH)) 2 (.tup [C,z]) (sE v0 v1 a e) h=.nx (sE v0 v1 a { e with e6:=J C,e7:=J z}) h from rfl),e1];exact e3
  .cases f
def Bf{it:MIt}{v p:D}{B:WR}{i pv:PV}{f:WL}(u:∀h,it.ok h)(bd:∀o∈O,o<h0.length)(hq:q∈O)(r:Rps q h0 O [n,wk] [v0,v1])(fv:flat v=I)(fp:flat p=I)(fr:eT B=I)(rv:Rp 0 [] [] v i)(rp:Rp 0 [] [] p pv)(l:Rps 0 [] [] B f)(lr:B.length<900):
  ∀(E:WR)(xs:WL)(rd:List Rd)(c:C8)(e:E8)(h:MH)(s:e_),eT E=I->Rps 0 [] [] E xs->O8 c e->MuI q h0 h s a ms rd->e.e0=J i->e.e1=J pv->e.e2=J (.tup f)->LU n wk v p B E rd c s=J (rd',c',s') ->
  ∃h' e4 e5 G F,xL it (yM (nu (lR 7) (nu (lR 8) yH)) 2) Hl xs (sE v0 v1 a e) h=.nx (sE v0 v1 a { e with e4:=e4,e5:=e5,e6:=G,e7:=F}) h'/\MuI q h0 h' s' a ms rd'/\O8 c' { e with e4:=e4,e5:=e5,e6:=G,e7:=F}
 |[],xs,rd,c,e,h,s,fd,L,o,y,z0,z1,P,j=>by
  cases j;rw[show xs=[]from L];exact⟨h,e.e4,e.e5,e.e6,e.e7,hX (u h),y,o⟩
 |x::E,xs,rd,c,e,h,s,fd,L,o,y,z0,z1,P,j=>by
  rcases eg:g2 x with _|⟨di,df⟩<;>rw[LU,eg]at j
  .cases j
  obtain rfl:=qZ eg;dsimp only at j;simp only[eT,DX]at fd;have fk:flat di=I/\flat df=I:=by simpa [flat,eT]using fd.1
  obtain⟨vx,xr,rfl,W,rr⟩:=L;obtain⟨C,z,rfl,X,U⟩:=x9 W
  split at j
  .rename_i R c2 s2 e2
   have o2:O8 { c with c4:=J di,c5:=J df} { e with e4:=J C,e5:=J z}:=⟨o.o0,o.o1,o.o2,o.o3,OR.of fk.1 X,OR.of fk.2 U,o.o6,o.o7⟩;have rl:f.length=B.length:=l.length;obtain⟨h1,G,F,e1,I1,o3,_⟩:=BK (it:=⟨.tup [i,pv]::f,[]⟩) (λ_=>fh.mpr trivial) bd hq r (.tup [v,p]::B) (.tup [i,pv]::f) rd _ _ h s (by simp[eT,flat,fv,fp,fr]) ⟨_,_,rfl,⟨_,rfl,_,_,rfl,rv,_,_,rfl,rp,rfl⟩,l⟩ o2 y e2;obtain⟨h2,S,Q,H,Z,e3,I2,o4⟩:=Bf u bd hq r fv fp fr rv rp l lr E xr R _ _ h1 s2 fd.2 rr o3 I1 z0 z1 P j;refine⟨h2,S,Q,H,Z,?_,I2,o4⟩;rw[fT (u h) (show yM (nu (lR 7) (nu (lR 8) yH)) 2 (.tup [C,z]) (sE v0 v1 a e) h=.nx (sE v0 v1 a { e with e4:=J C,e5:=J z}) h from rfl)];have M:d3 (aH ln (cR (aq (cR (aq (ao 3) (aq (ao 4) hG))) hG)) (ao 5)) (sE v0 v1 a { e with e4:=J C,e5:=J z}) h=.ok ⟨.tup [i,pv]::f,[]⟩ h:=by
    unfold sE;rw[z0,z1,P];have t1:mm [PV.tup [i,pv]] h=.ok (.tup [.tup [i,pv]]) h:=by unfold mm;rw[c_ (oh (show _<=1000 by simp) (by decide))]
    have t2:mm [i,pv] h=.ok (.tup [i,pv]) h:=by unfold mm;rw[c_ (oh (show _<=1000 by simp) (by decide))]
    have t3:ln (.tup [.tup [i,pv]]) (.tup f) h=.ok (.tup (.tup [i,pv]::f)) h:=by show(if [PV.tup [i,pv]]≠[]then mm ([PV.tup [i,pv]]++f) h else .bad)=_;unfold mm;rw[c_ (oh (show _<=1000 by simp;lia) (by decide))];rfl
    simp[cR,t1,t2,t3]
   have b:Hl (sE v0 v1 a { e with e4:=J C,e5:=J z}) h=.nx (sE v0 v1 a { e with e4:=J C,e5:=J z,e6:=G,e7:=F}) h1:=by unfold Hl;rw[hZ,M,aA];exact e1
   rw[b];exact e3
  .cases j
def BV{it:MIt}(z:∀h s rd,MuI q h0 h s a ms rd->it.ok h)(bd:∀o∈O,o<h0.length)(hq:q∈O)(r:Rps q h0 O [n,wk] [v0,v1]):
  ∀(L:WR)(xs:WL)(rd:List Rd)(c:C8)(e:E8)(h:MH)(s:e_),eT L=I->Rps 0 [] [] L xs->O8 c e->MuI q h0 h s a ms rd->M9 n wk L rd c s=J (rd',c',s') ->
  ∃h' e',xL it (yM (nu (lR 3) (nu (lR 4) (nu (lR 5) (nu (lR 6) yH)))) 4) Hm xs (sE v0 v1 a e) h=.nx (sE v0 v1 a e') h'/\MuI q h0 h' s' a ms rd'/\O8 c' e'
 |[],xs,rd,c,e,h,s,fd,Q,o,l,u=>by
  cases u;rw[show xs=[]from Q];exact⟨h,e,hX (z h _ _ l),l,o⟩
 |x::L,xs,rd,c,e,h,s,fd,Q,o,l,u=>by
  rcases eg:g4 x with _|⟨v,p,Z,P⟩<;>rw[M9,eg]at u
  .cases u
  obtain rfl:=uZ eg;dsimp only at u;simp only[eT,DX]at fd;have y:flat v=I/\flat p=I/\eT Z=I/\eT P=I:=by simpa [flat,eT]using fd.1
  obtain⟨vx,xr,rfl,W,rr⟩:=Q;obtain⟨us,rfl,ru⟩:=W;obtain⟨i,X,rfl,B,C,t2,rfl,H,u3,t3,rfl,E,u4,t4,rfl,G,R⟩:=ru;rw[show t4=[]from R];have M:=E;have F:=G;obtain⟨j,rfl,r3⟩:=E;obtain⟨f,rfl,r4⟩:=G
  split at u
  .rename_i lc
   split at u
   .rename_i U c2 s2 e2
    have o2:O8 { c with c0:=J v,c1:=J p,c2:=J (.tup Z),c3:=J (.tup P)} { e with e0:=J i,e1:=J C,e2:=J (.tup j),e3:=J (.tup f)}:=⟨OR.of y.1 B,OR.of y.2.1 H,OR.of (by simp[flat,y.2.2.1]) M,OR.of (by simp[flat,y.2.2.2]) F,o.o4,o.o5,o.o6,o.o7⟩;have cl:f.length=P.length:=r4.length;obtain⟨h1,e4,e5,e6,e7,e1,I1,o3⟩:=Bf (it:=⟨.tup [i,.tup [.int 1,.int 1]]::f,[]⟩) (λ_=>fh.mpr trivial) bd hq r y.1 y.2.1 y.2.2.1 B H r3 lc.1 (.tup [v,.tup [.int 1,.int 1]]::P) (.tup [i,.tup [.int 1,.int 1]]::f) rd _ _ h s (by simp[eT,flat,y.1,y.2.2.2]) ⟨_,_,rfl,⟨_,rfl,_,_,rfl,B,_,_,rfl,⟨_,rfl,_,_,rfl,rfl,_,_,rfl,rfl,rfl⟩,rfl⟩,r4⟩ o2 l rfl rfl rfl e2;obtain⟨h2,e',e3,I2,o4⟩:=BV z bd hq r L xr U _ _ h1 s2 fd.2 rr o3 I1 u;refine⟨h2,e',?_,I2,o4⟩;rw[fT (z h _ _ l) (show yM (nu (lR 3) (nu (lR 4) (nu (lR 5) (nu (lR 6) yH)))) 4 (.tup [i,C,.tup j,.tup f]) (sE v0 v1 a e) h=.nx (sE v0 v1 a { e with e0:=J i,e1:=J C,e2:=J (.tup j),e3:=J (.tup f)}) h from rfl)];have S:d3 (aH ln (cR (aq (cR (aq (ao 3) (aq (cR (aq (mC (.int 1)) (aq (mC (.int 1)) hG))) hG))) hG)) (ao 6)) (sE v0 v1 a { e with e0:=J i,e1:=J C,e2:=J (.tup j),e3:=J (.tup f)}) h=.ok ⟨.tup [i,.tup [.int 1,.int 1]]::f,[]⟩ h:=by
     unfold sE;have t0:mm [PV.int 1,.int 1] h=.ok (.tup [.int 1,.int 1]) h:=by unfold mm;rw[c_ (oh (show _<=1000 by simp) (by decide))]
     have X:mm [PV.tup [i,.tup [.int 1,.int 1]]] h=.ok (.tup [.tup [i,.tup [.int 1,.int 1]]]) h:=by unfold mm;rw[c_ (oh (show _<=1000 by simp) (by decide))]
     have t2:mm [i,.tup [.int 1,.int 1]] h=.ok (.tup [i,.tup [.int 1,.int 1]]) h:=by unfold mm;rw[c_ (oh (show _<=1000 by simp) (by decide))]
     have t3:ln (.tup [.tup [i,.tup [.int 1,.int 1]]]) (.tup f) h=.ok (.tup (.tup [i,.tup [.int 1,.int 1]]::f)) h:=by show(if [PV.tup [i,.tup [.int 1,.int 1]]]≠[]then mm ([PV.tup [i,.tup [.int 1,.int 1]]]++f) h else .bad)=_;rw[c_ (by simp)];unfold mm;rw[c_ (oh (show _<=1000 by simp;lia) (by decide))];rfl
     simp[cR,t0,X,t2,t3]
    have b:Hm (sE v0 v1 a { e with e0:=J i,e1:=J C,e2:=J (.tup j),e3:=J (.tup f)}) h=.nx (sE v0 v1 a { e with e0:=J i,e1:=J C,e2:=J (.tup j),e3:=J (.tup f),e4:=e4,e5:=e5,e6:=e6,e7:=e7}) h1:=by unfold Hm;rw[hZ,S,aA];exact e1
    rw[b];exact e3
   .cases u
  .cases u
def As{it:MIt}(f:∀h,it.ok h):∀(xs ys:WL)(z:W0)(h:MH)(m:Nat),m=h.length->ys.length+xs.length<1000->B_ it m (lR 0) ot LR xs [z] (h++[.lst ys])=.ok () (h++[.lst (ys++List.replicate xs.length (.tup [.int 0,.int 1]))])
 |[],ys,z,h,m,j,i=>by rw[lg (f _)];simp
 |x::xs,ys,z,h,m,j,i=>by
  subst j;have l:LR [J x] (h++[.lst ys])=.ok (.tup [.int 0,.int 1]) (h++[.lst ys]):=by unfold LR cR;simp[mm,sizeLine]
  rw[kT (Z1:=[J x]) (h1:=h++[.lst ys]) (h2:=h++[.lst ys]) (h3:=h++[.lst ys]) (f _) rfl rfl l Ir (by simp at i;lia)];have u:(h++[MO.lst ys]).set h.length (.lst (ys++[.tup [.int 0,.int 1]]))=h++[.lst (ys++[.tup [.int 0,.int 1]])]:=by simp
  rw[u,As f xs _ (J x) h _ rfl (by simp at i ⊢;lia),DR,Jq,QT];rfl
def yg{it:MIt}{n:Nat}(H:n<900)(i:∀h,it.ok h):∀(xs:WL)(f:List Rd)(ms:WQ)(z:W0)(h:MH),Gr h h0.length a ms f->h0.length<=h.length->(∀j:Nat,j<h0.length->h[j]?=h0[j]?)->ms.length+xs.length<1000 ->
  ∃h' l,B_ it a (lR 0) ot (ce 1 [] (d8 (aq (ao 1) hG)) (lR 0) ot LR) xs [z,J (.int (n:Int))] h=.ok () h'/\Gr h' h0.length a l (f++List.replicate xs.length (Y,List.replicate n (.tup [.int 0,.int 1])))/\h0.length<=h'.length/\∀j:Nat,j<h0.length->h'[j]?=h0[j]?
 |[],f,ms,z,h,g,y,kp,u=>⟨h,ms,lg (i h),by simpa using g,y,kp⟩
 |x::xs,f,ms,z,h,g,y,kp,u=>by
  have rep:∀k:Nat,eT (List.replicate k (D.tup [.int 0,.int 1]))=I/\Rps 0 [] [] (List.replicate k (D.tup [.int 0,.int 1])) (List.replicate k (.tup [.int 0,.int 1])):=λk=>by
   induction k with
   |zero=>exact⟨rfl,rfl⟩
   |succ k B=>exact⟨by simp[Jq,eT,flat,B.1],_,_,rfl,⟨_,rfl,_,_,rfl,rfl,_,_,rfl,rfl,rfl⟩,B.2⟩
  have g2:=rL g (r:=(Y,List.replicate n (.tup [.int 0,.int 1]))) (xs:=List.replicate n (.tup [.int 0,.int 1])) y (rep n).1 (rep n).2;have C:=g.ge a (by simp);obtain⟨h',l,e',F,G,L⟩:=yg H i xs _ _ (J x) _ g2 (by simp;lia) (λj E=>by rw[qa ⋯,qr ⋯];exact kp j E) (by simp at u ⊢;lia);refine⟨h',l,?_,by rw[DR,Jq,List.append_cons];exact F,G,L⟩;have M:ce 1 [] (d8 (aq (ao 1) hG)) (lR 0) ot LR [J x,J (.int (n:Int))] h=.ok (.loc h.length) (h++[.lst (List.replicate n (.tup [.int 0,.int 1]))]):=by rw[jL,Gx (n:=n) (h1:=h) rfl ⋯,Out.bind_ok];refine(congrArg (λz:Out Unit=>z.bind _) (As (it:=⟨bI 0 n,[]⟩) (λ_=>fh.mpr trivial) (bI 0 n) [] Y h h.length rfl (by rw[MM.dD];simp;lia))).trans ?_;rw[MM.dD,Si];rfl
  rw[kT (Z1:=[J x,J (.int (n:Int))]) (h1:=h) (h2:=h) (v:=.loc h.length) (h3:=h++[mo Y (List.replicate n (.tup [.int 0,.int 1]))]) (ys:=ms.map .loc) (i h) rfl rfl M (by rw[qr (aK g.top)];exact g.top) (by simp at u ⊢;lia)];exact e'
end
def gZ:Fn where
 m:=fj
 p:=RT
 fr:=I
 ok {q h O vs ds s} bd hq pn r:=by
  unfold RT;split
  .rename_i n wk
   split
   .rename_i cn
    obtain⟨fw,n0,n9⟩:=cn;split
    .rename_i rd c s1 U
     split
     .rename_i d s2 ed
      split
      .rename_i fd
       have B:=r;obtain⟨v0,t0,rfl,H,v1,t1,rfl,L,G⟩:=r;rw[show t1=[]from G]at B ⊢;rw[show v0=PV.int n from H]at B ⊢;obtain⟨no,f,rfl,X,C,ro⟩:=L;obtain⟨k,rfl⟩:∃k:Nat,n=(k:Int):=⟨n.toNat,⋯⟩;rw[Eu]at U;have y:q<h.length:=bd q hq;obtain⟨l,ms,e1,M,l1,W⟩:=yg (h0:=h) (a:=h.length) (n:=k) (it:=⟨bI 0 k,[]⟩) ⋯ (λ_=>fh.mpr trivial) (bI 0 k) [] [] Y (h++[.lst []]) ⟨by simp,rfl,by simp,λm hm=>by simp at hm;lia,λi r e=>by simp at e⟩ (by simp) (λn G=>qr G) (by rw[MM.dD];simp;lia);rw[MM.dD,Si]at M;have R:MuI q h l s h.length ms (List.replicate k (Y,List.replicate k (.tup [.int 0,.int 1]))):=⟨l1,λj E _=>W j E,by unfold bx;rw[W q y];exact pn,M⟩;have o0:O8 ⟨Y,Y,Y,Y,Y,Y,Y,Y⟩ ⟨Y,Y,Y,Y,Y,Y,Y,Y⟩:=⟨λ_ z=>(by cases z),λ_ z=>(by cases z),λ_ z=>(by cases z),λ_ z=>(by cases z),λ_ z=>(by cases z),λ_ z=>(by cases z),λ_ z=>(by cases z),λ_ z=>(by cases z)⟩
       obtain⟨h2,e2,em,Q,o2⟩:=BV (it:=⟨f,[(no,f)]⟩) (λh' s' ac F=>by
        intro p hp
        have:p=(no,f):=by simpa using hp
        subst this
        exact(F.mv no (aK C) λz=>X (z▸hq)).trans C) bd hq B wk f _ _ _ l s fw (Rps.fq fw ro) o0 R U
       have P:=uM.ok (IL Q bd hq B o2);rw[ed]at P;obtain⟨v,Z,e3,kb,u,_,rz,_⟩:=P;have S:=Q.kb y kb u;have run:fj [.int (k:Int),.loc no] h=.ok v Z:=by
        unfold fj;rw[gz (by rfl)];unfold qi;rw[show bG 11 [.int (k:Int),.loc no]=[J (.int (k:Int)),J (.loc no),Y,Y,Y,Y,Y,Y,Y,Y,Y]from rfl];have c2:b9 2 (ce 1 [0] (d8 (aq (ao 0) hG)) (lR 0) ot (ce 1 [] (d8 (aq (ao 1) hG)) (lR 0) ot LR)) [J (.int (k:Int)),J (.loc no),Y,Y,Y,Y,Y,Y,Y,Y,Y] h=.nx (sE (.int (k:Int)) (.loc no) h.length ⟨Y,Y,Y,Y,Y,Y,Y,Y⟩) l:=by rw[jo,jL,Gx (n:=k) (h1:=h) rfl ⋯,Out.bind_ok];refine(congrArg (λz:Out Unit=>(z.bind _).go _ _) e1).trans ?_;rfl
        rw[dz,c2,MM.aw,dz,hZ];have c3:d3 (ao 1) (sE (.int (k:Int)) (.loc no) h.length ⟨Y,Y,Y,Y,Y,Y,Y,Y⟩) l=.ok ⟨f,[(no,f)]⟩ l:=by rw[sx];show sv (.loc no) l=_;exact sY ((R.mv no (aK C) λz=>X (z▸hq)).trans C)
        rw[c3,aA];refine(congrArg (λz:SOut=>(z.then _).fin) em).trans ?_;rw[MM.aw,sA,e3];rfl
       refine⟨v,Z,run,⟨S.len,λj E nq=>S.mv j E nq⟩,u,Rp.fq fd (rz rfl),λ_ kk ai e=>?_⟩;rw[e]at fd;cases kk<;>simp[dl,flat]at fd
      .trivial
     .trivial
    .trivial
   .trivial
  .trivial
abbrev Wt:Xe [2]:=(bg 2 [3] (bc (aa 4)) (ws':=[]) (p_ (ki (h8 0) (ki (h8 1) p6)) 2) (xB (af xg (aa 0) (aa 2))) (bt (ae (aa 0) (ae (az bh (ae (af mD (af iV (af h_ (aa 1) (xC (.int 0))) (xC (.int 9))) (xC (.int 4))) (ae (af c8 (xC (.int 1)) (af iV (af h_ (aa 1) (xC (.int 1))) (xC (.int 3)))) a_))) a_))))
abbrev Wu:Xe [2]:=(bg 2 [] (bc (aa 5)) (ws':=[]) (p_ (ki (h8 0) (ki (h8 1) p6)) 2) (xB (af xg (af h_ (aa 1) (xC (.int 0))) (xC (.int 0)))) (bt (ae (aa 0) (ae (aa 1) a_))))
abbrev Ur:Xd [2]:=(aP 6 (az d6 (ae (aa 6) (ae (bt (ae (m_ nF (ae (af h_ (aa 8) (xC (.int 0))) a_)) (ae (af h_ (aa 8) (xC (.int 1))) a_))) a_))))
abbrev Us:Xd [2]:=(aG (aP 5 Wt) (aG (aP 5 Wu)
 (aG (aP 6 (bt (ae (af c8 (xC (.int 1)) (az bK (ae (aa 0) (ae (xC (.int 3)) a_)))) (ae (xC (.int 1)) a_))))
 (aG (cE (bc (aa 5)) (p_ (ki (h8 7) (ki (h8 8) p6)) 2) Ur)
 (E3 tr 2 (ae (m_ dE (ae (m_ iL (ae (af c8 (aa 5) (d9 (ae (bt (ae (aa 3) (ae (aa 6) a_))) a_))) a_)) a_)) a_))))))
def eI:Xd [2]:=(aG (eO 2 (d9 a_))
 (aG (cE (bT iE (ae (aa 1) a_)) (p_ (ki (h8 3) (ki (h8 4) p6)) 2) Us)
 (aU (m_ dE (ae (aa 2) a_)))))
def cC:Fn:=bA 9 2 eI
def sO{a:WR}{s:e_}(h:a.length=2):cC.p a s=(eI.p (lw 9 a) s).fin:=aZ h
abbrev Ut:Xt [2]:=(xB (af GH (m_ b7 (ae (aa 2) a_)) (m_ b7 (ae (aa 1) a_))))
abbrev VS:Xe [2]:=(bg 1 [2] (bT E6 (ae (m_ b7 (ae (aa 1) a_)) a_)) (ws':=[1]) (h8 0) (xB (af (EG I) (aa 0) (aa 1))) (aa 0))
abbrev VT:Xe [2]:=(bg 1 [1] (bc (aa 3)) (ws':=[]) (h8 0) mL (af h_ (aa 1) (aa 0)))
abbrev VU:Xe [2]:=(bg 1 [4] (bc (aa 3)) (ws':=[]) (h8 0) (xB (af (EG I) (aa 0) (aa 1))) (aa 0))
def fE:Xd [2]:=(aG (eO 2 (d9 a_))
 (aG (K_ 2000000 Ut (aG (aP 3 VS)
 (aG (aP 4 VT)
 (aG (aP 5 VU)
 (E3 tr 2 (ae (af h_ (aa 5) (az bK (ae (aa 0) (ae (m_ b7 (ae (aa 5) a_)) a_)))) a_))))) nP)
 (mQ 2)))
def fG:Fn:=bA 6 2 fE
def uV{a:WR}{s:e_}(h:a.length=2):fG.p a s=(fE.p (lw 6 a) s).fin:=aZ h
def gR:Xd []:=(aG (aP 2 (xC .non))
 (aG (uz "NoPivot" 2 (aP 2 (az dI (ae (aa 0) (ae (m_ gH (ae (aa 1) a_)) a_)))))
 (aU (aa 2))))
def bY:Fn:=bA 3 2 gR
def wQ{a:WR}{s:e_}(h:a.length=2):bY.p a s=(gR.p (lw 3 a) s).fin:=aZ h
abbrev Uu:Xd []:=aP 5 (az d6 (ae (aa 5) (ae (az eP (ae (aa 7) (ae (af h_ (aa 1) (aa 6)) a_))) a_)))
abbrev VV:Xd []:=(aG (aP 5 (bt (ae (xC (.int 0)) (ae (xC (.int 1)) a_))))
 (aG (cE (bc (aa 3)) (p_ (ki (h8 6) (ki (h8 7) p6)) 2) Uu)
 (sw (xB (af xg (aa 5) (aa 4))) (aU (xC (.bl T))) i_)))
def nk:Xd []:=(aG (cE (bT iZ (ae (af h_ (aa 0) (xC (.int 1))) (ae (aa 2) a_))) (p_ (ki (h8 3) (ki (h8 4) p6)) 2) VV)
 (aU (xC (.bl I))))
def j6:Fn:=bA 8 3 nk
def dC:Xd []:=(aG (sw (CV (bQ (xB (az fF (ae (aa 3) (ae (aa 2) a_))))) (xB (af xg (az gZ (ae (af h_ (aa 1) (xC (.int 0))) (ae (aa 3) a_))) (aa 1)))) (aU (xC (.bl T))) i_)
 (aG (aP 4 (az fG (ae (aa 0) (ae (az iH (ae (az fJ (ae (aa 1) a_)) (ae (aa 2) a_))) a_))))
 (aG (aP 5 (az bY (ae (aa 1) (ae (aa 4) a_))))
 (aG (sw (CV (xB (af (Ea T) (aa 5) (xC .non))) (CV (bQ (xB (az cW (ae (m_ iL (ae (aa 5) a_)) (ae (m_ iL (ae (aa 3) a_)) a_))))) (xB (af xg (bg 1 [] (bc (aa 5)) (ws':=[]) (h8 0) mL (af h_ (aa 0) (xC (.int 0)))) (aa 4))))) (aU (xC (.bl T))) i_)
 (aU (az cW (ae (az qQ (ae (af h_ (aa 1) (xC (.int 0))) (ae (aa 3) a_))) (ae (aa 1) a_))))))))
def cz:Fn:=bA 6 4 dC
def pR{a:WR}{s:e_}(h:a.length=4):cz.p a s=(dC.p (lw 6 a) s).fin:=aZ h
abbrev VW:Xe []:=bg 1 [0] (bT E6 (ae (aa 1) a_)) (ws':=[]) (h8 0) mL (az cP (ae (aa 1) a_))
def iN:Xd []:=(aG (aP 1 (af h_ (d9 (ae (xC (.int 4)) (ae (xC (.int 3)) (ae (xC (.int 5)) (ae (xC (.int 2)) (ae (xC (.int 6)) (ae (xC (.int 1)) (ae (xC (.int 0)) (ae (xC (.int 5)) a_))))))))) (az bK (ae (aa 0) (ae (xC (.int 8)) a_)))))
 (aG (aP 2 (af Dl (az bK (ae (aa 0) (ae (xC (.int 2)) a_))) (xC (.int 0))))
 (aG (sw (bQ (GW (aa 2))) (aP 1 (m_ oo (ae (aa 1) (ae (xC (.int 4)) a_)))) i_)
 (aG (aP 3 (az jO (ae (aa 0) (ae (aa 1) a_))))
 (aG (sw (GW (aa 2)) (aP 3 (az cC (ae (aa 0) (ae (aa 3) a_)))) i_)
 (aG (aP 4 (bt (ae (aa 1) (ae (aa 3) a_))))
 (aG (aP 5 VW)
 (aG (aP 6 (xC .non))
 (aG (cE (bT E6 (ae (xC (.int 3)) a_)) (h8 7) (aG (aP 8 (az f9 (ae (aa 0) (ae (aa 1) a_))))
 (aG (aP 9 (az bY (ae (aa 4) (ae (aa 8) a_))))
 (aG (sw (kH (xB (af (Ea T) (aa 9) (xC .non))) (GW (aa 2))) (aU (xC (.bl T))) i_)
 (sw (xB (af (Ea I) (aa 9) (xC .non))) (aG (sw (bQ (xB (az cz (ae (aa 0) (ae (aa 4) (ae (aa 8) (ae (aa 9) a_))))))) (aU (xC (.bl T))) i_)
 (aG (aP 10 (az g6 (ae (aa 1) (ae (aa 9) (ae (m_ gH (ae (aa 5) a_)) a_)))))
 (aG (sw (kH (xB (af (Ea I) (aa 6) (xC .non))) (bQ (xB (az cW (ae (aa 10) (ae (aa 6) a_)))))) (aU (xC (.bl T))) i_)
 (aP 6 (aa 10))))) i_)))))
 (aU (GD (af (Ea T) (aa 6) (xC .non)) (fu (y7 (bL ["list"]) (aa 6)) (fu (af Dl (m_ b7 (ae (aa 6) a_)) (aa 1)) (az j6 (ae (aa 4) (ae (aa 6) (ae (aa 5) a_)))))))))))))))))
def dX:Fn:=bA 11 1 iN
def zL{a:WR}{s:e_}(h:a.length=1):dX.p a s=(iN.p (lw 11 a) s).fin:=aZ h
def Fp:n_:=(dy (va EF (aq (ce 1 [0] (d8 (aq (va Er (aq (mC (.int 1)) (aq (va zQ (aq (va s_ (aq (ao 0) hG)) (aq (mC (.int 8)) hG))) hG))) hG)) (lR 0) ot (fR dX.m (aq (fR kZ (aq (ao 1) (aq (ao 0) hG))) hG))) hG)))
def EQ:WL->MH->WZ:=cX 1 1 Fp
abbrev jV:=dX.m
def wK:dX.m=jV:=rfl
end
end Law
namespace Law
open MM PU SetT SortT
open L2 (vR o_ jq)
set_option maxHeartbeats 1000000
def p8:(dw lo c).length=c:=by simp[dw]
def wJ(h:(dw 0 c)[i]?=J x):x=.int (i:Int)/\i<c:=by unfold dw at h;rw[se,Bi]at h;obtain⟨k,f,rfl⟩:=h;obtain⟨a,b⟩:=pf.mp f;simp at a b;subst b;exact⟨by simp,a⟩
def jm(e1:a.p env s=.ok as s1)(e2:env[i]?=J (J (.lst ds)))(e3:o.p ds as=J (r,ds')):(E3 o i a hi hz).p env s=.nx (env.set i (J (.lst ds'))) s1:=by rw[OL,BL e1 e2 e3]
abbrev nD(t b:Int):D:=.tup [.int t,.int b]
def mw(f:0<=a)(i:0<=b):Int.gcd b (a % b)=Int.gcd a b:=by obtain⟨m,rfl⟩:=US f;obtain⟨n,rfl⟩:=US i;show Nat.gcd n (m % n)=Nat.gcd m n;rw[Nat.gcd_comm m n,Nat.gcd_rec n m,Nat.gcd_comm]
def jQ(f:0<b):iV.p (.int a) (.int b)=J (.int (a % b)):=by rw[GR ⋯,QG _ ⋯]
def vZ(f:b≠0):GJ.p (.int a) (.int b)=J (.int (a.fdiv b)):=c_ f
def oY(f:0<b):GJ.p (.int a) (.int b)=J (.int (a/b)):=by rw[vZ ⋯,Int.fdiv_eq_ediv_of_nonneg _ ⋯]
def LV:(if a<0 then -a else a)=(a.natAbs:Int):=by split<;>lia
def vV:nF.p [.int a]=J (.int (a.natAbs:Int)):=by show J (D.int (if a<0 then -a else a))=_;rw[LV]
def P5{a:WQ}{N:Nat}{t:Xt a}{b:Xd a}(f:∀{Z h n},cO t.m b.m n Z h≠.bad->Kx t.m b.m Z h=cO t.m b.m n Z h){env:aC}{s:e_}:(K_ N t b f).p env s=c9 t.p b.p N env s:=rfl
def wj{b r:Int}(a:0<r)(j:r<b):0<=b % r/\b % r<r/\2*(b % r)<b:=by
 have i:=Jz b (show r≠0 by lia);have l:=Jw b a;have u:=Int.mul_ediv_add_emod b r;have f:1<=b/r:=by rw[Int.le_ediv_iff_mul_le a];lia
 have y:r*1<=r*(b/r):=Int.mul_le_mul_of_nonneg_left f ⋯;lia
def gi(h:0<=a):((Int.gcd a 0:Nat):Int)=a:=by rw[Int.gcd_zero_right];lia
def P6(f:0<b):c9 u0.p we.p (n+1) [x,y,J (.int a),J (.int b)] s=c9 u0.p we.p n [x,y,J (.int b),J (.int (a % b))] s:=by rw[c9];simp[jQ f,f]
def LW:c9 u0.p we.p (n+1) [x,y,J (.int a),J (.int 0)] s=.nx [x,y,J (.int a),J (.int 0)] s:=by rw[c9];simp[PR.bl]
def Hn:∀(k n:Nat)(a b:Int),0<=a->0<=b->b<2^k->2*k+1<=n->c9 u0.p we.p n [x,y,J (.int a),J (.int b)] s=.nx [x,y,J (.int (Int.gcd a b)),J (.int 0)] s:=by
 intro k
 induction k with
 |zero =>
  intro n a b i j u E;obtain⟨m,rfl⟩:∃m,n=m+1:=⟨n-1,⋯⟩
  have:b=0:=by simp at u;lia
  subst this;rw[LW,gi i]
 |succ k B =>
  intro n a b i j u E;obtain⟨m,rfl⟩:∃m,n=m+1+1:=⟨n-2,⋯⟩;by_cases e:b=0
  .subst e;rw[LW,gi i]
  .have f:0<b:=by lia
   rw[P6 f,<-mw i j];have l:=Jz a e;have z:=Jw a f;generalize a % b=r at l z ⊢;by_cases C:r=0
   .subst C;rw[LW,gi j]
   .obtain⟨F,H,G⟩:=wj (b:=b) (r:=r) ⋯ z;rw[P6 ⋯,<-mw j l];refine B m r (b % r) l F ?_ ⋯;rw[Int.pow_succ]at u;lia
abbrev qD(q:Rat):D:=nD q.num (q.den:Int)
def sz(q:Rat):Nat:=max (q.num.natAbs.log2+1) (q.den.log2+1)
def A7(n:Nat):n<2^(n.log2+1):=Nat.lt_log2_self
def cg(q:Rat):q.num.natAbs<2^sz q:=t_ (A7 _) (H4 (by decide) (Nat.le_max_left _ _))
def bB(q:Rat):q.den<2^sz q:=t_ (A7 _) (H4 (by decide) (Nat.le_max_right _ _))
def uN(a:0<k)(h:n<2^k):n.log2+1<=k:=by
 rcases Nat.eq_zero_or_pos n with e|e
 .subst e;simp only[Nat.log2_zero];lia
 .exact (Nat.log2_lt ⋯).mpr h
def P7(a:0<k)(i:q.num.natAbs<2^k)(f:q.den<2^k):sz q<=k:=Nat.max_le.mpr ⟨uN a i,uN a f⟩
def vf(q:Rat):0<sz q:=t_ (Nat.succ_pos _) (Nat.le_max_left _ _)
def su(t:Int)(b:Nat)(a:b≠0):(Rat.divInt t b).num=t/(Nat.gcd t.natAbs b:Int)/\(Rat.divInt t b).den=b/Nat.gcd t.natAbs b:=by rw[Rat.divInt_ofNat];unfold mkRat;rw[dif_neg a,Rat.normalize_eq];exact⟨rfl,rfl⟩
def Hr{t:Int}{g:Nat}:(t/(g:Int)).natAbs<=t.natAbs:=Int.natAbs_ediv_le_natAbs t g
def iF{t:Int}{b k:Nat}(f:b≠0)(j:0<k)(i:t.natAbs<2^k)(a:b<2^k):sz (Rat.divInt t b)<=k:=by
 obtain⟨e1,e2⟩:=su t b f;refine P7 j ?_ ?_
 .rw[e1];exact QS Hr i
 .rw[e2];exact QS (Nat.div_le_self _ _) a
def oS(p q:Rat):p+q=Rat.divInt (p.num*q.den+q.num*p.den) ((p.den*q.den:Nat):Int):=by
 have:=Rat.divInt_add_divInt p.num q.num (d₁:=p.den) (d₂:=q.den) (by have:=p.den_nz;lia) (by have:=q.den_nz;lia)
 simp_all
def kO(p q:Rat):p*q=Rat.divInt (p.num*q.num) ((p.den*q.den:Nat):Int):=by
 have:=Rat.divInt_mul_divInt p.num q.num (d₁:=p.den) (d₂:=q.den)
 rw[Rat.num_divInt_den,Rat.num_divInt_den]at this;rw[this];rfl
def bN(i:a<2^j)(f:b<2^k):a*b<2^(j+k):=by rw[Q4];exact Sd i f
def LX{a b c d:Int}{j k:Nat}(i:a.natAbs<2^j)(f:b.natAbs<2^k)(u:c.natAbs<2^k)(l:d.natAbs<2^j):(a*b+c*d).natAbs<2^(j+k+1):=by have e1:=bN i f;have e2:=bN u l;have e3:=Int.natAbs_add_le (a*b) (c*d);rw[FD,FD]at e3;rw[Sk];lia
def LY(p q:Rat):sz (p+q)<=sz p+sz q+1:=by
 rw[oS];refine iF (FN p.den_nz q.den_nz) ⋯ ?_ ?_
 .exact LX (cg p) (by simpa using bB q) (cg q) (by simpa using bB p)
 .have:=bN (bB p) (bB q)
  rw[Sk];lia
def jH(p q:Rat):sz (p*q)<=sz p+sz q:=by rw[kO];refine iF (FN p.den_nz q.den_nz) (by have:=vf p;lia) ?_ (bN (bB p) (bB q));rw[FD];exact bN (cg p) (cg q)
def Ai(p:Rat):sz (-p)=sz p:=by unfold sz;rw[Rat.neg_num,Rat.neg_den,Int.natAbs_neg]
def jv{t:Int}{b k:Nat}{s:e_}(j:b≠0)(u:b<2^k)(C:k<=950000):bh.p [.int t,.int (b:Int)] s=.ok (qD (Rat.divInt t b)) s:=by
 obtain⟨e1,e2⟩:=su t b j;have f:((b:Nat):Int)<2^k:=by
  have:=Q1.mpr u
  simpa using this
 have i:0<(Nat.gcd t.natAbs b:Int):=by
  have:0<Nat.gcd t.natAbs b:=UR _ ⋯
  lia
 rw[wV (by rfl)];unfold gV;have e0:lw 4 [D.int t,.int (b:Int)]=[J (.int t),J (.int (b:Int)),Y,Y]:=rfl;have q:=Hn (x:=J (.int t)) (y:=J (.int (b:Int))) (s:=s) k 2000000 (t.natAbs:Int) ((b:Int).natAbs:Int) ⋯ ⋯ (by simpa using f) ⋯;rw[e0];simp only[aB,Lh,ah,au,bC,ag,Pb,vV];refine(congrArg (λz:PS=>(z.then _).fin) q).trans ?_;have B:=oY (a:=t) i;have l:=oY (a:=(b:Int)) i;rw[qD,e1,e2];simp[PR.bl,show ¬(b:Int)<0 by lia,B,l]
def xK(h:a.natAbs<2^k)(f:k<=1000000):Builtin.Int.intBits a<=2^20:=by
 unfold Builtin.Int.intBits;rcases Nat.eq_zero_or_pos k with e|e
 .subst e
  have:a.natAbs=0:=by simpa using h
  rw[this];split<;>simp
 .have:=uN e h
  split<;>lia
def cG{a b:Int}{j k:Nat}(l:a.natAbs<2^j)(i:b.natAbs<2^k)(f:j<=1000000:=by lia)(u:k<=1000000:=by lia):b8.p (.int a) (.int b)=J (.int (a*b)):=c_ (IntMulOk.of_bits (xK l f) (xK i u))
def z0{x y:D}:o_ [x,y] 0=J x:=rfl
def z1{x y:D}:o_ [x,y] 1=J y:=rfl
local macro_rules | `(tactic| simp! [$a,*]) => `(tactic| simp only [$a,*, Pb, ag, aj])
local macro_rules | `(tactic| dsimp! [$a,*]) => `(tactic| simp only [$a,*, PU.aw, yT, zJ])
def vg(h:sz p+sz q<=900000):d6.p [qD p,qD q] s=.ok (qD (p+q)) s:=by
 have j:=cg p;have i:=bB p;have u:=cg q;have f:=bB q;rw[Bh (by rfl)];unfold jA;rw[show lw 2 [qD p,qD q]=[J (qD p),J (qD q)]from rfl];have l:=jv (t:=p.num*q.den+q.num*p.den) (s:=s) (FN p.den_nz q.den_nz) (bN (bB p) (bB q)) ⋯;rw[<-oS,Mz]at l
 simp![bJ,aE,ah,aD,bf,aR,oQ,z0,z1,Pf,au,cG (b:=(q.den:Int)) j (by simpa using f),cG (b:=(p.den:Int)) u (by simpa using i),fi,l,Pg,PU.bH,cG (a:=(p.den:Int)) (b:=(q.den:Int)) (by simpa using i) (by simpa using f)]
def xQ(h:sz p+sz q<=900000):eP.p [qD p,qD q] s=.ok (qD (p*q)) s:=by have f:=cg p;have j:=bB p;have u:=cg q;have i:=bB q;rw[zg (by rfl)];unfold iO;rw[show lw 2 [qD p,qD q]=[J (qD p),J (qD q)]from rfl];have l:=jv (t:=p.num*q.num) (s:=s) (FN p.den_nz q.den_nz) (bN (bB p) (bB q)) ⋯;rw[<-kO,Mz]at l;simp![bJ,aE,ah,aD,bf,aR,oQ,z0,z1,Pf,au,cG f u,cG (a:=(p.den:Int)) (b:=(q.den:Int)) (by simpa using j) (by simpa using i),l,Pg,PU.bH]
def Db{t:Int}{b:Nat}(a:b≠0)(i:t.natAbs<=1000000)(f:b<=1000000):sz (Rat.divInt t b)<=20:=iF a (by decide) ⋯ ⋯
def tH(i:1<=b)(a:t.natAbs<=1000000)(f:b<=1000000):∃q:Rat,bh.p [.int t,.int b] s=.ok (qD q) s/\sz q<=20:=by obtain⟨n,rfl⟩:=eQ (show 0<=b by lia);exact⟨_,jv (k:=20) ⋯ ⋯ ⋯,Db ⋯ a ⋯⟩
def VX(f:0<b):c9 PQ.p PX.p (n+1) [J (.int a),J (.int b),x] s=c9 PQ.p PX.p n [J (.int b),J (.int (a % b)),J (.int (a % b))] s:=by rw[c9];simp[jQ f,PR.bl,show ¬b=0 by lia]
def Uv:c9 PQ.p PX.p (n+1) [J (.int a),J (.int 0),x] s=.nx [J (.int a),J (.int 0),x] s:=by rw[c9];simp[PR.bl]
def LZ:∀(k n:Nat)(a b:Int)(x:WG),0<=a->0<=b->b<2^k->2*k+1<=n->∃B,c9 PQ.p PX.p n [J (.int a),J (.int b),x] s=.nx [J (.int (Int.gcd a b)),J (.int 0),B] s:=by
 intro k
 induction k with
 |zero =>
  intro n a b x i j u E;obtain⟨m,rfl⟩:∃m,n=m+1:=⟨n-1,⋯⟩
  have:b=0:=by simp at u;lia
  subst this;exact⟨x,by rw[Uv,gi i]⟩
 |succ k z =>
  intro n a b x i j u E;obtain⟨m,rfl⟩:∃m,n=m+1+1:=⟨n-2,⋯⟩;by_cases e:b=0
  .subst e;exact⟨x,by rw[Uv,gi i]⟩
  .have f:0<b:=by lia
   rw[VX f,<-mw i j];have l:=Jz a e;have y:=Jw a f;generalize a % b=r at l y ⊢;by_cases C:r=0
   .subst C;exact⟨_,by rw[Uv,gi j]⟩
   .obtain⟨F,H,G⟩:=wj (b:=b) (r:=r) ⋯ y;rw[VX ⋯,<-mw j l];refine z m r (b % r) _ l F ?_ ⋯;rw[Int.pow_succ]at u;lia
def P8(h:a<2^k):((a:Nat):Int)<2^k:=by
 have:=Q1.mpr h
 simpa using this
def De{a b k:Nat}{s:e_}(f:b<2^k)(i:k<=950000):cK.p [.int (a:Int),.int (b:Int)] s=.ok (.int (Nat.gcd a b:Int)) s:=by
 rw[m5 (by rfl)];unfold cH;obtain⟨j,q⟩:=LZ (s:=s) k 2000000 (a:Int) (b:Int) Y ⋯ ⋯ (P8 f) ⋯;rw[show lw 3 [D.int (a:Int),.int (b:Int)]=[J (.int (a:Int)),J (.int (b:Int)),Y]from rfl,aB,P5 nP]
 simp_all
def xk:dY.p [.int i] s=.ok (.bl I) s:=rfl
def Hs(a:b≠0):Rat.divInt t b=Rat.divInt (if b<0 then -t else t) (b.natAbs:Nat):=by
 split
 .have:((b.natAbs:Nat):Int) = -b:=by lia
  rw[this];exact(Rat.neg_divInt_neg t b).symm
 .have:((b.natAbs:Nat):Int)=b:=by lia
  rw[this]
def AQ{t:Int}{g:Nat}(hg:0<g)(hd:(g:Int) ∣ t):t.fdiv (-(g:Int))=(-t)/(g:Int):=by
 obtain⟨c,rfl⟩:=hd;have a:(g:Int)≠0:=by lia
 have e1:((g:Int)*c).fdiv (-(g:Int)) = -c:=by rw[show(g:Int)*c=(-(g:Int))*(-c) by rw[Int.neg_mul_neg],Int.mul_fdiv_cancel_left _ ⋯]
 rw[e1,<-Int.mul_neg,Int.mul_ediv_cancel_left _ a]
def ip{t b:Int}{k:Nat}(y:b≠0)(F:b.natAbs<2^k)(C:k<=950000):bO.p [.int t,.int b] s=.ok (qD (Rat.divInt t b)) s:=by
 have l:b.natAbs≠0:=by lia
 have u:0<Nat.gcd t.natAbs b.natAbs:=UR _ ⋯;have E:=De (a:=t.natAbs) (s:=s) F C;rw[Hs y];obtain⟨e1,e2⟩:=su (if b<0 then -t else t) b.natAbs l;have H:(if b<0 then -t else t).natAbs=t.natAbs:=by split<;>simp
 rw[vi (by rfl)];unfold fC;rw[show lw 3 [D.int t,.int b]=[J (.int t),J (.int b),Y]from rfl];simp![aB,bq,im,cN,bM,aE,ah,au,xk,PR.bl,Eg,wy,if_false,Pg,bo,PU.aw,aD,bf,aR,gB,cV,Pf,decide_eq_false y,aS,bC,vV,E,zJ,yT,BC];have B:(Nat.gcd t.natAbs b.natAbs:Int) ∣ t:=Int.ofNat_dvd_left.mpr (Nat.gcd_dvd_left _ _);have G:(Nat.gcd t.natAbs b.natAbs:Int) ∣ b:=Int.ofNat_dvd_left.mpr (Nat.gcd_dvd_right _ _);by_cases z:b<0
 .rw[decide_eq_true z];have j:GJ.p (.int t) (.int (-(Nat.gcd t.natAbs b.natAbs:Int)))=J (.int ((-t)/(Nat.gcd t.natAbs b.natAbs:Int))):=by rw[vZ ⋯,AQ u B]
  have f:GJ.p (.int b) (.int (-(Nat.gcd t.natAbs b.natAbs:Int)))=J (.int ((-b)/(Nat.gcd t.natAbs b.natAbs:Int))):=by rw[vZ ⋯,AQ u G]
  have e3:(-b:Int)=(b.natAbs:Nat):=by lia
  rw[qD,e1,e2,c_ z];have i:sy.p (.int (Nat.gcd t.natAbs b.natAbs:Int))=J (.int (-(Nat.gcd t.natAbs b.natAbs:Int))):=rfl;simp[j,f,e3,i]
 .rw[decide_eq_false z];have j:=oY (a:=t) (b:=(Nat.gcd t.natAbs b.natAbs:Int)) ⋯;have f:=oY (a:=b) (b:=(Nat.gcd t.natAbs b.natAbs:Int)) ⋯;have e3:((b.natAbs:Nat):Int)=b:=by lia
  rw[qD,e1,e2,g_ z];simp[j,f,e3]
def pK(a:Nat)(f:List Rat):Nat:=f.foldl (λa q=>a*q.den/Nat.gcd a q.den) a
def xj:∀(f:List Rat)(a:Nat),a ∣ pK a f/\∀q∈f,q.den ∣ pK a f
 |[],a=>⟨Nat.dvd_refl _,by simp⟩
 |q::f,a=>by
  obtain⟨j,l⟩:=xj f (Nat.lcm a q.den);refine⟨Nat.dvd_trans (Nat.dvd_lcm_left _ _) j,λp i=>?_⟩;rcases nw.mp i with rfl|i
  .exact Nat.dvd_trans (Nat.dvd_lcm_right _ _) j
  .exact l p i
def rR:∀(f:List Rat)(a:Nat),0<a->0<pK a f
 |[],a,h=>h
 |q::f,a,h=>by exact rR f _ (Nat.lcm_pos h (Nat.pos_of_ne_zero q.den_nz))
def M_(a:List Rat):Nat:=(a.map sz).sum
def CC:M_ (q::qs)=sz q+M_ qs:=by simp[M_]
def A4:∀(f:List Rat)(a k:Nat),a<2^k->pK a f<2^(k+M_ f)
 |[],a,k,h=>by simpa [M_,pK]using h
 |q::f,a,k,h=>by
  have i:Nat.lcm a q.den<2^(k+sz q):=QS (Nat.div_le_self _ _) (bN h (bB q))
  have:=A4 f _ _ i
  rwa [Nat.add_assoc]at this
def P9(h:sz p+sz q<=900000):gX.p [qD p,qD q] s=.ok (qD (p+q)) s:=by
 have f:=cg p;have hq:=cg q;have dp:=bB p;have a:=bB q;have e1:b8.p (.int p.num) (.int (q.den:Int))=J (.int (p.num*q.den)):=cG (j:=sz p) (k:=sz q) f (by simpa using a);have e2:b8.p (.int q.num) (.int (p.den:Int))=J (.int (q.num*p.den)):=cG (j:=sz q) (k:=sz p) hq (by simpa using dp);have e3:b8.p (.int (p.den:Int)) (.int (q.den:Int))=J (.int ((p.den:Int)*q.den)):=cG (j:=sz p) (k:=sz q) (by simpa using dp) (by simpa using a);have i:((p.den:Int)*q.den)≠0:=MB (by have:=p.den_nz;lia) (by have:=q.den_nz;lia);have dl:((p.den:Int)*q.den).natAbs<2^(sz p+sz q):=by rw[FD];exact bN (by simpa using dp) (by simpa using a)
 have l:=ip (t:=p.num*q.den+q.num*p.den) (s:=s) i dl ⋯;rw[Hi (by rfl)];unfold m4;rw[show lw 2 [qD p,qD q]=[J (qD p),J (qD q)]from rfl];simp![bJ,aE,ah,aD,bf,aR,oQ,z0,z1,Pf,e1,e2,e3,fi,au,l,Pg,PU.bH];rw[oS p q,Mz]
def vY(h:sz p+sz q<=900000):dB.p [qD p,qD q] s=.ok (qD (p*q)) s:=by
 have f:=cg p;have hq:=cg q;have dp:=bB p;have a:=bB q;have e1:=cG f hq;have e3:b8.p (.int (p.den:Int)) (.int (q.den:Int))=J (.int ((p.den:Int)*q.den)):=cG (by simpa using dp) (by simpa using a);have i:((p.den:Int)*q.den)≠0:=MB (by have:=p.den_nz;lia) (by have:=q.den_nz;lia);have dl:((p.den:Int)*q.den).natAbs<2^(sz p+sz q):=by exact bN (by simpa using dp) (by simpa using a)
 have j:=ip (t:=p.num*q.num) (s:=s) i dl ⋯;rw[CT (by rfl)];unfold kY;rw[show lw 2 [qD p,qD q]=[J (qD p),J (qD q)]from rfl];simp![bJ,aE,ah,aD,bf,aR,oQ,z0,z1,Pf,e1,e3,au,j,Pg,PU.bH];rw[kO p q,Mz]
def Ht(p q:Rat):p-q=Rat.divInt (p.num*q.den-q.num*p.den) ((p.den*q.den:Nat):Int):=by rw[Rat.sub_eq_add_neg,oS,Rat.neg_num,Rat.neg_den];rw[Int.neg_mul,Int.sub_eq_add_neg]
def vT(h:sz p+sz q<=900000):fZ.p [qD p,qD q] s=.ok (qD (p-q)) s:=by
 have f:=cg p;have hq:=cg q;have dp:=bB p;have a:=bB q;have e1:b8.p (.int p.num) (.int (q.den:Int))=J (.int (p.num*q.den)):=cG f (by simpa using a);have e2:b8.p (.int q.num) (.int (p.den:Int))=J (.int (q.num*p.den)):=cG hq (by simpa using dp);have e3:b8.p (.int (p.den:Int)) (.int (q.den:Int))=J (.int ((p.den:Int)*q.den)):=cG (k:=sz q) (by simpa using dp) (by simpa using a);have i:((p.den:Int)*q.den)≠0:=MB (by have:=p.den_nz;lia) (by have:=q.den_nz;lia);have dl:((p.den:Int)*q.den).natAbs<2^(sz p+sz q):=by exact bN (by simpa using dp) (by simpa using a)
 have j:=ip (t:=p.num*q.den-q.num*p.den) (s:=s) i dl ⋯;rw[C2 (by rfl)];unfold li;rw[show lw 2 [qD p,qD q]=[J (qD p),J (qD q)]from rfl];simp![bJ,aE,ah,aD,bf,aR,oQ,z0,z1,Pf,e1,e2,e3,pc,au,j,Pg,PU.bH];rw[Ht p q,Mz]
def Hu:p/q=Rat.divInt (p.num*q.den) ((p.den:Int)*q.num):=by rw[Rat.div_def,Rat.inv_def,kO];have a:=Rat.num_divInt_den p;have e:Rat.divInt p.num p.den*Rat.divInt (q.den:Int) q.num=Rat.divInt (p.num*q.den) ((p.den:Int)*q.num):=Rat.divInt_mul_divInt ..;rw[<-kO,<-e,a]
def IM(a:q≠0)(h:sz p+sz q<=900000):gI.p [qD p,qD q] s=.ok (qD (p/q)) s:=by
 have f:=cg p;have hq:=cg q;have dp:=bB p;have u:=bB q;have e1:b8.p (.int p.num) (.int (q.den:Int))=J (.int (p.num*q.den)):=cG f (by simpa using u);have e3:b8.p (.int (p.den:Int)) (.int q.num)=J (.int ((p.den:Int)*q.num)):=cG (by simpa using dp) hq;have l:=λz=>a (Rat.num_eq_zero.mp z);have i:((p.den:Int)*q.num)≠0:=MB (by have:=p.den_nz;lia) l;have dl:((p.den:Int)*q.num).natAbs<2^(sz p+sz q):=by rw[FD];exact bN (by simpa using dp) hq
 have j:=ip (t:=p.num*q.den) (s:=s) i dl ⋯;rw[Hj (by rfl)];unfold mW;rw[show lw 2 [qD p,qD q]=[J (qD p),J (qD q)]from rfl];simp![bJ,aE,ah,aD,bf,aR,oQ,z0,z1,Pf,e1,e3,au,j,Pg,PU.bH];rw[Hu]
def vW:∃q M,cP.p [.pen] s=.ok (qD q) M/\sz q<=20:=by
 obtain⟨w,B,S,Q,C⟩:=eE (s:=s) (size:=8) (by decide) (by decide);rw[wS (by rfl)];unfold gC;rw[show lw 2 [D.pen]=[J .pen,Y]from rfl];by_cases z:w=7
 .subst z;obtain⟨a,u,G,L,i⟩:=eE (s:=B) (size:=2*10^6-1) (by decide) (by decide);obtain⟨b,f,E,P,y⟩:=eE (s:=u) (size:=10^6-1) (by decide) (by decide);obtain⟨q,l,hq⟩:=tH (t:=a-10^6+1) (b:=1+b) (s:=f) ⋯ ⋯ ⋯;refine⟨q,f,?_,hq⟩;have H:uF.p (.int 10) (.int 6)=J (.int (10^6)):=c_ ⟨by decide,by decide,by decide⟩;have O:b8.p (.int 2) (.int (10^6))=J (.int (2*10^6)):=cG (j:=2) (k:=20) (by decide) (by decide);simp![aB,aS,aE,ah,bf,aR,au,C,Pg,zJ,yT,PU.aw,bq,bM,aD,gB,cV,Pf,PR.bl,decide_true,if_true,bJ,wy,if_false,H,O,pc,i,fi,y,l,PU.xM,PU.bH]
 .obtain⟨m,em,F,R⟩:∃m:Int,o_ [D.int 1,.int 1,.int 5] (w % 3)=J (.int m)/\0<m/\m<=5:=by
   obtain e|e | e:w % 3=0\/w % 3=1\/w % 3=2:=by lia
   .rw[e];exact⟨1,rfl,by decide,by decide⟩
   .rw[e];exact⟨1,rfl,by decide,by decide⟩
   .rw[e];exact⟨5,rfl,by decide,by decide⟩
  obtain⟨a,u,G,L,i⟩:=eE (s:=B) (size:=13) (by decide) (by decide);obtain⟨b,f,E,P,y⟩:=eE (s:=u) (size:=m) F ⋯;obtain⟨q,l,hq⟩:=tH (t:=a-6) (b:=1+b) (s:=f) ⋯ ⋯ ⋯;refine⟨q,f,?_,hq⟩;simp![aB,aS,aE,ah,bf,aR,au,C,Pg,zJ,yT,PU.aw,bq,bM,aD,gB,cV,Pf,PR.bl,decide_eq_false z,if_true,bJ,wy,if_false,jQ (show(0:Int)<3 by decide),gJ,DR,FC,show(0+1+1+1:Nat)<=100000 by decide,d7,em,pc,i,fi,y,l,bo,PU.bH]
structure On(n:Nat)(ns:WQ):Prop where
 n12:n<=12
 pm:ns.Perm (List.range n)
def On.len(o:On n ns):ns.length=n:=by have:=o.pm.length_eq;simpa using this
def On.nd(o:On n ns):ns.Nodup:=o.pm.symm.nodup Fb
def On.lt(o:On n ns):∀x∈ns,x<n:=λx a=>by simpa using o.pm.mem_iff.mp a
abbrev inD'(x:Nat):D:=.int (x:Int)
abbrev j_(ns:WQ):D:=.lst (ns.map inD')
def Hv{n:Nat}{s:e_}(C:n<=12):∃ns i,f9.p [.pen,.int (n:Int)] s=.ok (j_ ns) i/\On n ns:=by
 rw[y0 (by rfl)];unfold iM;have e0:lw 4 [D.pen,.int (n:Int)]=[J .pen,J (.int (n:Int)),Y,Y]:=rfl;obtain⟨u,i,e,z,f,rfl,pm⟩:=dR (g:=(h8 3:Xg [2]).p) (b:=(E3 Ci 2 (ae (az bK (ae (aa 0) (ae (af c8 (aa 3) (xC (.int 1))) a_))) (ae (aa 3) a_)):Xd [2]).p)
  (λj env i=>∃z f,env=[J .pen,J (.int (n:Int)),J (j_ f),z]/\f.Perm (List.range j)) (dw 0 n) 0 [J .pen,J (.int (n:Int)),J (.lst []),Y] s ⟨Y,[],rfl,by simp⟩ (λj env i d ⟨z,f,F,pm⟩ hd=>by
   rw[ER]at pm ⊢;subst F;obtain⟨rfl,G⟩:=wJ hd;have y:f.length=j:=by have:=pm.length_eq;simpa using this
   obtain⟨d,l,E,H,B⟩:=eE (s:=i) (size:=(j:Int)+1) ⋯ ⋯;obtain⟨k,rfl⟩:=eQ E;refine⟨[J .pen,J (.int (n:Int)),J (j_ f),J (.int (j:Int))],[J .pen,J (.int (n:Int)),J (j_ (f.take k++j::f.drop k)),J (.int (j:Int))],l,rfl,?_,_,f.take k++j::f.drop k,rfl,?_⟩
   .rw[jm (s1:=l) (as:=[.int (k:Int),.int (j:Int)]) (ds':=(f.take k++j::f.drop k).map inD') (r:=.non) (by simp[B]) rfl (by
     rw[Br (by simp;lia) (by simp;lia)];simp)]
    rfl
   .have:(f.take k++j::f.drop k).Perm (j::f):=by
     have:=List.perm_middle (a:=j) (l₁:=f.take k) (l₂:=f.drop k)
     rwa [List.take_append_drop]at this
    refine this.trans ((pm.cons _).trans ?_);rw[List.range_succ]
    exact(List.perm_append_singleton _ _).symm)
 rw[p8,ER]at pm;refine⟨f,i,?_,C,pm⟩;have st:(eO 2 (d9 a_):Xd [2]).p [J .pen,J (.int (n:Int)),Y,Y] s=.nx [J .pen,J (.int (n:Int)),J (.lst []),Y] s:=by simp
 rw[e0,aB,st,PU.aw,aB,dW,dS,ah];simp![au];rw[lM ⋯,Eu,Pf,Pg,e,PU.aw,oX rfl,PU.bH]
def tt(n:Nat)(ns:WQ)(k:Nat):WQ:=(List.range n).filter λx=>decide (x∈ns.drop (k+1))
def cu(o:On n ns):x∈tt n ns k↔x∈ns.drop (k+1):=by unfold tt;rw[zN,decide_eq_true_eq,zl];exact⟨λh=>h.2,λh=>⟨o.lt x (QO h),h⟩⟩
def ly(o:On n ns):(tt n ns k).Perm (ns.drop (k+1)) :=
 (RX (Fb.filter _) (o.nd.sublist (List.drop_sublist _ _))).mpr λx=>cu o
def rP:(tt n ns k).Pairwise (·<·):=R0.filter _
def tq(a:ns.length<64):jl.p [.lst (ns.map .int)]=J (.lst ((iW ns).map .int)):=by
 have e:∀ns:WN,lu (ns.map .int)=J ns:=λns=>by
  induction ns with
  |nil=>rfl
  |cons i k f=>rw[k_,lu,f];rfl
 show(uy (ns.map .int)).map _=_;simp only[uy,e];rw[c_ a];rfl
def xx(o:On n ns)(i:k<n):jl.p [.lst (gQ (ns.map inD') (J ((k:Int)+1)) Y)]=J (j_ (tt n ns k)):=by
 have f:=o.len;have n12:=o.n12;have e1:gQ (ns.map inD') (J ((k:Int)+1)) Y=((ns.drop (k+1)).map λ(x:Nat)=>(x:Int)).map .int:=by unfold gQ;rw[HT.lW,qx,show(k:Int)+1=((k+1:Nat):Int) by lia,HT.oJ,QY ⋯,qo,<-MD];exact QK (by simp)
 rw[e1,tq (by simp;lia)];have e2:iW ((ns.drop (k+1)).map λ(x:Nat)=>(x:Int))=(tt n ns k).map λ(x:Nat)=>(x:Int) :=
  kK (qh _) (rP.map _ (λa b h=>by lia)) ((jX _).trans ((ly o).symm.map _))
 rw[e2,qo];rfl
abbrev Pt:=Nat×Rat
abbrev jj(p:Pt):D:=.tup [.int (p.1:Int),qD p.2]
structure Wk where
 (v:Nat) (p:Rat) (r c:List Pt)
abbrev n8(w:Wk):D:=.tup [.int (w.v:Int),qD w.p,.tup (w.r.map jj),.tup (w.c.map jj)]
def P_(p:Pt):g2 (jj p)=J (.int (p.1:Int),qD p.2):=rfl
def Qa(p:Pt):g3 (jj p)=J ((p.1:Int),qD p.2):=rfl
def Qb(w:Wk):g4 (n8 w)=J (.int (w.v:Int),qD w.p,w.r.map jj,w.c.map jj):=rfl
def nQ{α:Type}{g:D->aC->Option aC}{t:aC->e_->PR Bool}{e:aC->e_->PR D}{s:e_}(S:aC->Prop)(item i:α->D)(p:α->Bool):∀(l:List α)(env:aC),S env ->
  (∀x∈l,∀env,S env->∃a,g (item x) env=J a/\S a/\t a s=.ok (p x) s/\(p x=I->e a s=.ok (i x) s))->dN g t e (l.map item) env s=.ok ((l.filter p).map i) s
 |[],env,B,f=>rfl
 |x::l,env,B,f=>by
  obtain⟨a,e1,j,e2,e3⟩:=f x (by simp) env B;have z:=nQ S item i p l a j λy C=>f y (ml _ C);rw[k_,dN,e1];dsimp only;rw[e2]
  cases u:p x with
  |true=>simp only[Pb,if_true,e3 u,z,QI u,k_]
  |false=>simp only[Pb,wy,if_false,z,QJ (show ¬p x=I by simp[u])]
def eX{α:Type}{ws ws':WQ}{env:aC}{s s0:e_}{fm:WQ}{i:Xi ws}{t:Xt ws'}{e:Xe ws'}{l:List α}(item a:α->D)(p:α->Bool)(C:i.p env s0=.ok (l.map item) s)(F:l.length<=100000)(f:∀x∈l,t.p (J (item x)::fm.map λi=>(env[i]?).getD Y) s=.ok (p x) s/\(p x=I->e.p (J (item x)::fm.map λi=>(env[i]?).getD Y) s=.ok (a x) s))(B:ws'.contains 0=T:=by exact ys rfl)(G:EN 1 fm ws=ws':=by exact ys rfl)(u:e.fz=I:=by exact ys rfl):
  (bg 1 fm i (h8 0 B) t e G u).p env s0=.ok (.lst ((l.filter p).map a)) s:=by
 rw[lq,C,Pb,c_ (by simpa using F)]
 have:=nQ (g:=(h8 0 B:Xg ws').p) (λv=>∃z,v=z::fm.map λi=>(env[i]?).getD Y) item a p l (w_ 1 fm env) ⟨Y,rfl⟩ λx E y j=>by
  obtain⟨z,u⟩:=j;subst u;exact⟨_,rfl,⟨J (item x),rfl⟩,f x E⟩
 rw[this]
def qE{α:Type}{ws ws':WQ}{env:aC}{s s0:e_}{fm:WQ}{i:Xi ws}{t:Xt ws'}{e:Xe ws'}{l:List α}(A B:α->D)(a:α->D)(p:α->Bool)(G:i.p env s0=.ok (l.map λx=>.tup [A x,B x]) s)(L:l.length<=100000)(f:∀x∈l,t.p (J (A x)::J (B x)::fm.map λi=>(env[i]?).getD Y) s=.ok (p x) s/\(p x=I->e.p (J (A x)::J (B x)::fm.map λi=>(env[i]?).getD Y) s=.ok (a x) s))(E:ws'.contains 0=T:=by exact ys rfl)(F:ws'.contains 1=T:=by exact ys rfl)(M:EN 2 fm ws=ws':=by exact ys rfl)(u:e.fz=I:=by exact ys rfl):
  (bg 2 fm i (p_ (ki (h8 0 E) (ki (h8 1 F) p6)) 2) t e M u).p env s0=.ok (.lst ((l.filter p).map a)) s:=by
 rw[lq,G,Pb,c_ (by simpa using L)]
 have:=nQ (g:=(p_ (ki (h8 0 E) (ki (h8 1 F) p6)) 2:Xg ws').p) (λv=>∃y z,v=y::z::fm.map λi=>(env[i]?).getD Y) (λx=>.tup [A x,B x]) a p l (w_ 2 fm env) ⟨Y,Y,rfl⟩ λx H C j=>by
  obtain⟨y,z,u⟩:=j;subst u;exact⟨_,rfl,⟨J (A x),J (B x),rfl⟩,f x H⟩
 rw[this]
def Cm(m:Nat)(q:Rat):Prop:=∃z:Int,q=Rat.divInt z 144/\z.natAbs<=m
def Cm.sz(h:Cm m q)(i:m<2^k)(a:8<=k):sz q<=k:=by obtain⟨z,rfl,f⟩:=h;exact iF (by decide) (by ext) (by ext) (t_ (by decide) (H4 (by decide) a))
def Cm.mono(h:Cm m q)(f:m<=m'):Cm m' q:=let⟨z,e,a⟩:=h;⟨z,e,by ext⟩
def Cm.add(h:Cm m p)(a:Cm m' q):Cm (m+m') (p+q):=by
 obtain⟨z,rfl,f⟩:=h;obtain⟨y,rfl,i⟩:=a;refine⟨z+y,?_,by ext⟩;rw[Rat.divInt_eq_div,Rat.divInt_eq_div,Rat.divInt_eq_div]
 grind
def Cm.neg(h:Cm m p):Cm m (-p):=by
 obtain⟨z,rfl,a⟩:=h;refine⟨-z,?_,by ext⟩;rw[Rat.divInt_eq_div,Rat.divInt_eq_div];push_cast
 grind
def jx(g:Nat->Nat->Rat)(i j:Nat)(q:Rat):Nat->Nat->Rat:=λa b=>if a=i/\b=j then q else g a b
def bE(n:Nat)(g:Nat->Nat->Rat):List Rd:=(List.range n).map λi=>(Y,(List.range n).map λj=>qD (g i j))
def wz(a:i<n):(bE n g)[i]?=J (Y,(List.range n).map λj=>qD (g i j)):=by unfold bE;simp[a]
def Dw(u:i<n)(y:j<n):(bE n g).set i (Y,((List.range n).map λj=>qD (g i j)).set j (qD q))=bE n (jx g i j q):=by
 unfold bE;apply E_;intro a;by_cases f:a<n
 .by_cases e:i=a
  .subst e;rw[C_ (by simpa using u)];simp only[se,Jt f,Ib,Option.some.injEq,Prod.mk.injEq,true_and];apply E_;intro b;by_cases l:b<n
   .by_cases e:j=b
    .subst e;simp[l,jx]
    .rw[qa e];simp[l,jx,Ne.symm e]
   .rw[Di (by simp;ext),Di (by simp;ext)]
  .rw[qa e];simp only[se,Jt f];simp[jx,Ne.symm e]
 .rw[Di (by simp;ext),Di (by simp;ext)]
def Hw(a:i<n):h_.p (dH (bE n g)) (.int (i:Int))=J (.lst ((List.range n).map λj=>qD (g i j))):=by exact L2.bZ (by rw[se,wz a];rfl)
def Qc(a:i<n)(l:j<n)(e4:c.c4=J (inD' i))(e5:c.c5=J (qD f))(u:c.c6=J (inD' j))(y:c.c7=J (qD x))(G:sz f+sz x<=900000)(F:sz (g i j)+sz (f*x)<=900000):
  qK (.int (n:Int)) wk (bE n g) c s=J (bE n (jx g i j (g i j+f*x)),s):=by
 have B:o_ ((List.range n).map λj=>qD (g i j)) (j:Int)=J (qD (g i j)):=L2.bZ (by simp[l]);have C:=xQ (s:=s) G;have L:=vg (s:=s) F;have z:wB.p (mE (bE n g) (.int (n:Int)) wk c) s=.ok (qD (g i j+f*x)) s:=by unfold wB mE;rw[e4,e5,u,y];simp![aE,ah,aD,Hw a,Pf,d7,B,au,C,L]
 have E:vR (bE n g).length (i:Int)=J i:=by unfold bE;simp only[qx,EK];exact MM.gq a
 have H:vR ((List.range n).map λj=>qD (g i j)).length (j:Int)=J j:=by simp only[qx,EK];exact MM.gq l
 unfold qK;rw[z,e4,u];dsimp only;rw[E];dsimp only;rw[wz a];dsimp only;rw[H];dsimp only;rw[c_ (by rfl:flat (qD (g i j+f*x))=I),Dw a l]
def gW(g:Nat->Nat->Rat)(i:Nat)(f:Rat)(a:List Pt):Nat->Nat->Rat:=a.foldl (λg p=>jx g i p.1 (g i p.1+f*p.2)) g
def qC(g:Nat->Nat->Rat)(a f:List Pt):Nat->Nat->Rat:=a.foldl (λg p=>gW g p.1 p.2 f) g
def ub(h:a≠i):∀{j:List Pt}{g:Nat->Nat->Rat},gW g i f j a b=g a b
 |[],g=>rfl
 |p::j,g=>by
  show gW (jx g i p.1 (g i p.1+f*p.2)) i f j a b=_;rw[ub h];exact g_ λz=>h z.1
def IN(u:i<n):∀(a:List Pt)(g:Nat->Nat->Rat)(c:C8),(∀p∈a,p.1<n/\sz f+sz p.2<=900000/\sz (g i p.1)+sz (f*p.2)<=900000)->(a.map (·.1)).Nodup->c.c4=J (inD' i)->c.c5=J (qD f) ->
  ∃j,LS (.int (n:Int)) wk (a.map jj) (bE n g) c s=J (bE n (gW g i f a),j,s)
 |[],g,c,l,nd,e4,e5=>⟨c,rfl⟩
 |p::a,g,c,l,nd,e4,e5=>by
  obtain⟨y,G,B⟩:=l p (by simp);rw[k_,vz]at nd;have e:=Qc (wk:=wk) (c:={ c with c6:=J (inD' p.1),c7:=J (qD p.2)}) (s:=s) u y e4 e5 rfl rfl G B
  obtain⟨j,e2⟩:=IN u a (jx g i p.1 (g i p.1+f*p.2)) { c with c6:=J (inD' p.1),c7:=J (qD p.2)} (λq hq=>by
   obtain⟨F,C,E⟩:=l q (ml _ hq);refine⟨F,C,?_⟩;have ne:¬q.1=p.1:=λz=>nd.1 (z▸nr.mpr ⟨q,hq,rfl⟩)
   have:jx g i p.1 (g i p.1+f*p.2) i q.1=g i q.1:=g_ λz=>ne z.2
   rw[this];exact E) nd.2 e4 e5
  refine⟨j,?_⟩;rw[k_,LS,P_];dsimp only;rw[e];exact e2
def IQ{n v:Nat}{l:D}{p:Rat}{a:List Pt}{s:e_}(B:(((v,p)::a).map (·.1)).Nodup):∀(f:List Pt)(g:Nat->Nat->Rat)(c:C8),(f.map (·.1)).Nodup->(∀q∈f,q.1<n/\∀r∈(v,p)::a,r.1<n/\sz q.2+sz r.2<=900000/\sz (g q.1 r.1)+sz (q.2*r.2)<=900000) ->
  ∃E,LU (.int (n:Int)) l (.int (v:Int)) (qD p) (a.map jj) (f.map jj) (bE n g) c s=J (bE n (qC g f ((v,p)::a)),E,s)
 |[],g,c,nd,j=>⟨c,rfl⟩
 |q::f,g,c,nd,j=>by
  obtain⟨P,O⟩:=j q (by simp);rw[k_,vz]at nd;obtain⟨y,e1⟩:=IN P ((v,p)::a) g { c with c4:=J (inD' q.1),c5:=J (qD q.2)} O B rfl rfl
  obtain⟨G,e2⟩:=IQ B f (gW g q.1 q.2 ((v,p)::a)) y nd.2 (λx u=>by
   obtain⟨M,F⟩:=j x (ml _ u);refine⟨M,λr hr=>?_⟩;obtain⟨L,H,C⟩:=F r hr;refine⟨L,H,?_⟩;have ne:x.1≠q.1:=λz=>nd.1 (z▸nr.mpr ⟨x,u,rfl⟩)
   rw[ub ne];exact C)
  refine⟨G,?_⟩;rw[k_,LU,P_];dsimp only;have i:LS (.int (n:Int)) l (.tup [.int (v:Int),qD p]::a.map jj) (bE n g) { c with c4:=J (inD' q.1),c5:=J (qD q.2)} s=J (bE n (gW g q.1 q.2 ((v,p)::a)),y,s):=e1;rw[i];exact e2
def lT(g:Nat->Nat->Rat)(w:Wk):Nat->Nat->Rat:=qC g ((w.v,1)::w.c) ((w.v,w.p)::w.r)
structure VY(w:Wk):Prop where
 r:(w.v::w.r.map (·.1)).Nodup
 c:(w.v::w.c.map (·.1)).Nodup
structure Wv(n:Nat)(g:Nat->Nat->Rat)(w:Wk):Prop where
 d:VY w
 lr:w.r.length<=12
 lc:w.c.length<=12
 ok:∀q∈(w.v,(1:Rat))::w.c,q.1<n/\∀r∈(w.v,w.p)::w.r,r.1<n/\sz q.2+sz r.2<=900000/\sz (g q.1 r.1)+sz (q.2*r.2)<=900000
def Hx(n:Nat):List Wk->(Nat->Nat->Rat)->Prop
 |[],_=>True
 |w::a,g=>Wv n g w/\Hx n a (lT g w)
def IR:∀(a:List Wk)(g:Nat->Nat->Rat)(c:C8),Hx n a g ->
  ∃l,M9 (.int (n:Int)) wk (a.map n8) (bE n g) c s=J (bE n (a.foldl lT g),l,s)
 |[],g,c,j=>⟨c,rfl⟩
 |w::a,g,c,j=>by
  obtain⟨h,hr⟩:=j;obtain⟨i,e1⟩:=IQ h.d.r ((w.v,1)::w.c) g { c with c0:=J (.int (w.v:Int)),c1:=J (qD w.p),c2:=J (.tup (w.r.map jj)),c3:=J (.tup (w.c.map jj))} h.d.c h.ok;obtain⟨u,e2⟩:=IR a (lT g w) i hr;refine⟨u,?_⟩;rw[k_,M9,Qb];dsimp only;rw[c_ ⟨by have:=h.lr;simp;ext,by have:=h.lc;simp;ext⟩];have f:LU (.int (n:Int)) wk (.int (w.v:Int)) (qD w.p) (w.r.map jj) (.tup [.int (w.v:Int),.tup [.int 1,.int 1]]::w.c.map jj) (bE n g) { c with c0:=J (.int (w.v:Int)),c1:=J (qD w.p),c2:=J (.tup (w.r.map jj)),c3:=J (.tup (w.c.map jj))} s=J (bE n (lT g w),i,s):=e1;rw[f];exact e2
def aX(n:Nat)(f:Nat->Rat):List Pt:=((List.range n).filter λj=>!decide (f j=0)).map λj=>(j,f j)
def pu(n:Nat)(g:Nat->Nat->Rat):D:=.tup [.int (n:Int),.tup ((List.range n).map λi=>.tup ((aX n (g i)).map jj))]
def p7:C0 neg (qD p) (qD q)=J (.bl (if neg then !decide (p=q)else decide (p=q))):=by
 have e:(p.num=q.num/\(p.den:Int)=q.den)↔p=q:=⟨λh=>Rat.ext h.1 (by ext),λh=>by subst h;exact⟨rfl,rfl⟩⟩
 have:PyData.eqvAll [PyData.int p.num,.int p.den] [.int q.num,.int q.den]=decide (p=q):=by
  rw[show PyData.eqvAll [PyData.int p.num,.int p.den] [.int q.num,.int q.den]=decide ([p.num,(p.den:Int)]=[q.num,(q.den:Int)])from ir [p.num,(p.den:Int)] [q.num,(q.den:Int)]]
  simp_all
 simp only[C0,py,Eb,Ib];rw[c_ ⟨⟨by simp[y_,qp],by simp[y_,qp]⟩,by simp[SeqAt.shaped,PyData.canLay0,PyData.canLayAll0,PyData.depth,PyData.depthAll],by simp[SeqAt.shaped,PyData.canLay0,PyData.canLayAll0,PyData.depth,PyData.depthAll]⟩];simp only[PyData.eqv,this]
def fU:∀{a:WR},(∀d∈a,flat d=I)->eT a=I
 |[],_=>rfl
 |d::a,h=>by
  simp only[eT,DX];exact⟨h d (by simp),fU λx f=>h x (ml _ f)⟩
def pM(a:List Pt):eT (a.map jj)=I:=fU λd hd=>by
 obtain⟨p,_,rfl⟩:=nr.mp hd;rfl
def sC(w:Wk):flat (n8 w)=I:=by simp[flat,eT,pM]
def ym:flat (pu n g)=I:=by
 have:eT ((List.range n).map λi=>D.tup ((aX n (g i)).map jj))=I:=fU λd hd=>by
  obtain⟨i,_,rfl⟩:=nr.mp hd;simp[flat,pM]
 simp[pu,flat,eT,this]
def L0{n:Nat}{f:Nat->Rat}:aY ((List.range n).map λj=>qD (f j))=(List.range n).map λj=>.tup [inD' j,qD (f j)]:=by
 apply E_;intro i;unfold aY;rw[se,Nd,se,se];by_cases h:i<n
 .simp[h]
 .simp[h]
def Uw{n:Nat}{u:D}{g:Nat->Nat->Rat}{c:C8}{s:e_}(F:n<=12):uM.p (mE (bE n g) (.int (n:Int)) u c) s=.ok (pu n g) s:=by
 have z:∀{x y:D}{s:e_},(if [x,y].length<=100000 then PR.ok (D.tup [x,y]) s else .bad)=.ok (.tup [x,y]) s:=λ{x y s}=>c_ (by simp);have inn:∀(f:Nat->Rat)(s:e_),(m_ dE (ae (bg 2 [] (bT iE (ae (aa 0) a_)) (ws':=[]) (p_ (ki (h8 0) (ki (h8 1) p6)) 2) (xB (af xg (aa 1) (bt (ae (xC (.int 0)) (ae (xC (.int 1)) a_))))) (bt (ae (aa 0) (ae (aa 1) a_)))) a_):Xe []).p [J (.lst ((List.range n).map λj=>qD (f j)))] s=.ok (.tup ((aX n f).map jj)) s:=λf s=>by
  have q:=qE (ws:=[]) (ws':=[]) (env:=[J (.lst ((List.range n).map λj=>qD (f j)))]) (s:=s) (s0:=s) (fm:=[]) (i:=bT iE (ae (aa 0) a_)) (t:=xB (af xg (aa 1) (bt (ae (xC (.int 0)) (ae (xC (.int 1)) a_))))) (e:=bt (ae (aa 0) (ae (aa 1) a_))) (l:=List.range n) (λj=>inD' j) (λj=>qD (f j)) (λj=>jj (j,f j)) (λj=>!decide (f j=0)) (by
   simp only[dS,ah,ag,Pb,au,TC,Pf,L0]) (by simp;ext) (λj C=>⟨by
    simp![bM,aD,cj,ah,bf,aR,au,z,d4];rw[show(D.tup [.int 0,.int 1])=qD 0 from rfl,p7];rfl,λ_=>by
    simp![cj,ah,au,z]⟩)
  rw[bC,ah,q];simp only[Pb,au,g8,Pf,aX,qo];rfl
 have a:=eX (ws:=[]) (ws':=[]) (env:=mE (bE n g) (.int (n:Int)) u c) (fm:=[]) (i:=bc (aa 2)) (t:=mL) (e:=(m_ dE (ae (bg 2 [] (bT iE (ae (aa 0) a_)) (ws':=[]) (p_ (ki (h8 0) (ki (h8 1) p6)) 2) (xB (af xg (aa 1) (bt (ae (xC (.int 0)) (ae (xC (.int 1)) a_))))) (bt (ae (aa 0) (ae (aa 1) a_)))) a_))) (l:=List.range n) (λi=>.lst ((List.range n).map λj=>qD (g i j))) (λi=>.tup ((aX n (g i)).map jj)) (λ_=>I) (by
  rw[cM];show(PR.ok (dH (bE n g)) s).bind _=_;show PR.of (J ((bE n g).map λr=>dl r.1 r.2)) s=_;unfold bE
  rw[qo];rfl) (by simp;ext) (λi E=>⟨rfl,λ_=>inn (g i) s⟩)
 unfold uM;rw[cj,ah];show(((PR.ok (D.int (n:Int)) s).bind _).bind _)=_;rw[Pb,ah,bC,ah,a];have B:(List.range n).filter (λ_=>I)=List.range n:=Js.mpr (by simp);rw[B];rfl
def L4(a:n<=12)(l:ws.length<=12)(j:Hx n ws λ_ _=>0):gZ.p [.int (n:Int),.lst (ws.map n8)] s=.ok (pu n (ws.foldl lT λ_ _=>0)) s:=by
 obtain⟨c,e⟩:=IR ws (λ_ _=>0) ⟨Y,Y,Y,Y,Y,Y,Y,Y⟩ j;have f:bE n (λ_ _=>0)=List.replicate n (Y,List.replicate n (.tup [.int 0,.int 1])):=by unfold bE;rw[Ni,Ni,EK];rfl
 have i:eT (ws.map n8)=I:=fU λd hd=>by
  obtain⟨w,_,rfl⟩:=nr.mp hd;exact sC w
 show RT [.int (n:Int),.lst (ws.map n8)] s=_;unfold RT;dsimp only;rw[c_ ⟨i,by ext,by ext⟩,Eu,<-f,e];dsimp only;rw[Uw a];dsimp only;rw[c_ ym]
def ky(a:WQ):WN:=a.map λ(k:Nat)=>(k:Int)
def vl(a:WQ)(f:Nat->Rat):WR:=a.map λk=>qD (f k)
structure Kf(ks:WQ)(f:Nat->Rat):Prop where
 nd:ks.Nodup
 off:∀j,j∉ks->f j=0
def zW{f:Nat->Rat}{j:Nat}:∀{ks:WQ},vp (ky ks) (vl ks f) (j:Int)=if j∈ks then J (qD (f j))else Y
 |[]=>rfl
 |k::ks=>by
  have a:=zW (f:=f) (j:=j) (ks:=ks);show(if(k:Int)=(j:Int)then J (qD (f k))else vp (ky ks) (vl ks f) (j:Int))=_;by_cases e:k=j
  .subst e;simp
  .rw[g_ ⋯,a];simp[Ne.symm e]
def bj(f:Nat->Rat)(j:Nat)(q:Rat):Nat->Rat:=λa=>if a=j then q else f a
def ins(a:WQ)(j:Nat):WQ:=if j∈a then a else a++[j]
def L5(h:j∉ks):vl ks (bj f j q)=vl ks f:=by refine Et λk a=>?_;simp[bj,show k≠j from λz=>h (z▸a)]
def A9{f:Nat->Rat}{j:Nat}{q:Rat}:∀{a:WQ},a.Nodup->km (ky a) (vl a f) (j:Int) (qD q)=(ky (ins a j),vl (ins a j) (bj f j q))
 |[],_=>by simp[ky,vl,km,ins,bj]
 |k::a,nd=>by
  rw[vz]at nd;have l:=A9 (f:=f) (j:=j) (q:=q) nd.2;show(if(k:Int)=(j:Int)then((k:Int)::ky a,qD q::vl a f)else((k:Int)::(km (ky a) (vl a f) (j:Int) (qD q)).1,qD (f k)::(km (ky a) (vl a f) (j:Int) (qD q)).2))=_;by_cases e:k=j
  .subst e
   have:ins (k::a) k=k::a:=by simp[ins]
   rw[this];show _=((k:Int)::ky a,qD (bj f k q k)::vl a (bj f k q));rw[L5 nd.1];simp[bj]
  .rw[g_ ⋯,l];have i:ins (k::a) j=k::ins a j:=by
    unfold ins;by_cases m:j∈a
    .simp[m]
    .simp[m,Ne.symm e]
   rw[i];show _=((k:Int)::ky (ins a j),qD (bj f j q k)::vl (ins a j) (bj f j q));simp[bj,e]
def Kf.put(h:Kf ks f):Kf (ins ks j) (bj f j q):=by
 unfold ins;constructor
 .split
  .exact h.nd
  .rename_i z
   rw[Ia];refine⟨h.nd,by simp,λa i b l e=>z ?_⟩
   simp_all
 .intro a i;unfold bj
  split at i
  .rename_i z
   rw[g_ (λe=>i (by rw[e];exact z))];exact h.off a i
  .have:a∉ks/\a≠j:=by simpa using i
   rw[g_ this.2];exact h.off a this.1
abbrev Ew(ks:WQ)(f:Nat->Rat):D:=.dic T (ky ks) (vl ks f)
def qF{a:WQ}{f:Nat->Rat}{j:Nat}(h:Kf a f):(vp (ky a) (vl a f) (j:Int)).getD (qD 0)=qD (f j):=by
 rw[zW];split
 .rfl
 .rename_i z;rw[h.off j z];rfl
def rN(f:Nat->Rat)(a:Rat)(i:List Pt):Nat->Rat:=i.foldl (λf p=>bj f p.1 (f p.1+a*p.2)) f
def vA(a:WQ)(f:List Pt):WQ:=f.foldl (λa p=>ins a p.1) a
def Hy:(ins ks j).length<=ks.length+1:=by unfold ins;split<;>simp
def IS:∀(l:List Pt)(i:WQ)(f:Nat->Rat)(y u:WG),(∀p∈l,sz a+sz p.2<=900000/\sz (f p.1)+sz (a*p.2)<=900000)->(l.map (·.1)).Nodup->Kf i f->i.length+l.length<=90000 ->
  (∃C E,Ei (p_ (ki (h8 3) (ki (h8 4) p6)) 2:Xg [0]).p Ul.p (l.map jj) [J (Ew i f),J (qD a),P,y,u] s=.nx [J (Ew (vA i l) (rN f a l)),J (qD a),P,C,E] s)/\Kf (vA i l) (rN f a l)/\(vA i l).length<=i.length+l.length
 |[],i,f,y,u,F,nd,B,L=>⟨⟨y,u,rfl⟩,B,l_ _⟩
 |p::l,i,f,y,u,F,nd,B,L=>by
  obtain⟨G,W⟩:=F p (by simp);rw[k_,vz]at nd;have Q:i.length+(l.length+1)<=90000:=L;have M:=vY (p:=a) (q:=p.2) (s:=s) G;have O:=P9 (p:=f p.1) (q:=a*p.2) (s:=s) W;have U:=qF (j:=p.1) B;have Z:=Hy (ks:=i) (j:=p.1)
  obtain⟨⟨C,E,e⟩,G,X⟩:=IS (P:=P) (s:=s) l (ins i p.1) (bj f p.1 (f p.1+a*p.2)) (J (inD' p.1)) (J (qD p.2)) (λx H=>by
   obtain⟨S,R⟩:=F x (ml _ H);refine⟨S,?_⟩;have ne:¬x.1=p.1:=λz=>nd.1 (z▸nr.mpr ⟨x,H,rfl⟩)
   rw[show bj f p.1 (f p.1+a*p.2) x.1=f x.1 from g_ ne];exact R) nd.2 B.put ⋯
  refine⟨⟨C,E,?_⟩,G,oh X (by simp;lia)⟩;have b:Ul.p [J (Ew i f),J (qD a),P,J (inD' p.1),J (qD p.2)] s=.nx [J (Ew (ins i p.1) (bj f p.1 (f p.1+a*p.2))),J (qD a),P,J (inD' p.1),J (qD p.2)] s:=by
   rw[G2,Cc (v:=qD (f p.1+a*p.2)) (s1:=s) (s2:=s) (j:=(p.1:Int)) (ks:=ky i) (ds:=vl i f) (by
    simp![aE,ah,qm,au,show ∀(e:aC)(s:e_),(C1 0 1:Xe [0]).p e s=.ok (D.tup [.int 0,.int 1]) s from λ_ _=>rfl];rw[show D.tup [.int 0,.int 1]=qD 0 from rfl,U]
    simp only[Pb,M,O]) (by rfl) rfl (by simp[ky];lia),A9 B.nd]
   rfl
  rw[k_,eW (show(p_ (ki (h8 3) (ki (h8 4) p6)) 2:Xg [0]).p (jj p) [J (Ew i f),J (qD a),P,y,u]=J [J (Ew i f),J (qD a),P,J (inD' p.1),J (qD p.2)]from rfl),b];exact e
structure St where
 (K:Nat->WQ) (F:Nat->Nat->Rat)
def r_(n:Nat)(x:St):List Rd:=(List.range n).map λi=>(J (ky (x.K i)),vl (x.K i) (x.F i))
structure EJ(n t z:Nat)(R:WQ)(x:St):Prop where
 kf:∀i,i<n->Kf (x.K i) (x.F i)
 kl:∀i,(x.K i).length<=t
 sz:∀i∈R,∀j∈R,sz (x.F i j)<=z
def St.put(x:St)(i:Nat)(j:WQ)(f:Nat->Rat):St:=⟨λa=>if a=i then j else x.K a,λa=>if a=i then f else x.F a⟩
def AX(a:i<n):(r_ n x)[i]?=J (J (ky (x.K i)),vl (x.K i) (x.F i)):=by unfold r_;simp[a]
def L6(l:i<n):(r_ n x).set i (J (ky ks),vl ks f)=r_ n (x.put i ks f):=by
 unfold r_;apply E_;intro a;by_cases j:a<n
 .by_cases e:i=a
  .subst e;simp[j,St.put]
  .rw[qa e];simp[j,St.put,Ne.symm e]
 .rw[Di (by simp;lia),Di (by simp;lia)]
def kW(a:i<n):h_.p (dH (r_ n x)) (.int (i:Int))=J (Ew (x.K i) (x.F i)):=by exact L2.bZ (by rw[se,AX a];rfl)
def St.add(x:St)(i:Nat)(a:Rat)(f:List Pt):St:=x.put i (vA (x.K i) f) (rN (x.F i) a f)
def xX:eT (vl ks f)=I:=fU λd hd=>by
 unfold vl at hd;obtain⟨k,_,rfl⟩:=nr.mp hd;rfl
def xh(kf:∀i,i<n->Kf (x.K i) (x.F i))(kl:∀i,(x.K i).length<=t)(j:i<n)(B:∀p∈f,sz a+sz p.2<=900000/\sz (x.F i p.1)+sz (a*p.2)<=900000)(nd:(f.map (·.1)).Nodup)(L:f.length<=12)(H:t<=9000):
  i6 (r_ n x) i (qD a) (.tup (f.map jj)) s=J (r_ n (x.add i a f),s)/\(∀b,b<n->Kf ((x.add i a f).K b) ((x.add i a f).F b))/\∀b,((x.add i a f).K b).length<=t+12:=by
 have E:=kl i;obtain⟨⟨l,y,e⟩,C,M⟩:=IS (P:=J (.tup (f.map jj))) (s:=s) f (x.K i) (x.F i) Y Y B nd (kf i j) ⋯;refine⟨?_,λb u=>?_,λb=>?_⟩
 .unfold i6;rw[AX j];dsimp only;have G:cT.p (lw 5 [dl (J (ky (x.K i))) (vl (x.K i) (x.F i)),qD a,.tup (f.map jj)]) s=.nx [J (Ew (vA (x.K i) f) (rN (x.F i) a f)),J (qD a),J (.tup (f.map jj)),l,y] s:=by
   unfold cT;rw[show lw 5 [dl (J (ky (x.K i))) (vl (x.K i) (x.F i)),qD a,.tup (f.map jj)]=[J (Ew (x.K i) (x.F i)),J (qD a),J (.tup (f.map jj)),Y,Y]from rfl,dW,cM];exact e
  rw[G];simp only[Fx];rw[c_ ⟨xX,rfl,by simp[flat,pM]⟩,L6 j];rfl
 .unfold St.add St.put;dsimp only;by_cases z:b=i
  .rw[c_ z,c_ z];exact C
  .rw[g_ z,g_ z];exact kf b u
 .unfold St.add St.put;dsimp only;by_cases z:b=i
  .rw[c_ z];lia
  .rw[g_ z];have:=kl b;lia
def Cr(a:WQ)(f:Nat->Rat):List Pt:=(a.filter λj=>!decide (f j=0)).map λj=>(j,f j)
def L7(e:aC)(s:e_):(C1 0 1:Xe ws).p e s=.ok (qD 0) s:=rfl
def IT(h:Kf ks f)(a:f j≠0):og.p (Ew ks f) (.int (j:Int))=J (qD (f j)):=by show vp (ky ks) (vl ks f) (j:Int)=_;rw[zW,c_ (Classical.byContradiction λz=>a (h.off j z))]
def xP(h:Kf ks f)(B:ls.length<=100):dG.p [Ew ks f,j_ ls] s=.ok (.tup ((Cr ls f).map jj)) s:=by
 have u:∀{x y:D}{s:e_},(if [x,y].length<=100000 then PR.ok (D.tup [x,y]) s else .bad)=.ok (.tup [x,y]) s:=λ{x y s}=>c_ (by simp)
 have q:=eX (ws:=[]) (ws':=[]) (env:=[J (Ew ks f),J (j_ ls)]) (s0:=s) (fm:=[0]) (i:=bc (aa 1)) (t:=xB (af xg (EO (aa 1) (ae (aa 0) (ae (C1 0 1) a_))) (C1 0 1))) (e:=bt (ae (aa 0) (ae (af og (aa 1) (aa 0)) a_))) (λj=>inD' j) (λj=>jj (j,f j)) (λj=>!decide (f j=0)) (by
  rfl) ⋯ (λj z=>⟨by
   simp![bM,aD,qm,ah,L7,au,k_,Fx,FA,d4];rw[qF h,p7];rfl,λl=>by
   have a:f j≠0:=by simpa using l
   simp![cj,ah,aD,k_,Fx,FA,IT h a,Pf,au,u]⟩)
 rw[wO (by rfl)];unfold gP;rw[show lw 2 [Ew ks f,j_ ls]=[J (Ew ks f),J (j_ ls)]from rfl,bJ,bC,ah,q];simp only[Cr,qo];rfl
def L8(h:EJ n t z R x)(hv:v<n)(W:a.length<=100)(B:∀i∈a,i<n)(E:v∈R)(M:∀i∈a,i∈R)(P:z<=400000)(pv:x.F v v≠0):
  fY.p [dH (r_ n x),inD' v,j_ a] s=.ok (n8 ⟨v,x.F v v,Cr a (x.F v),(a.filter λi=>!decide (x.F i v=0)).map λi=>(i,x.F i v/x.F v v)⟩) s:=by
 have Q:∀{x y:D}{s:e_},(if [x,y].length<=100000 then PR.ok (D.tup [x,y]) s else .bad)=.ok (.tup [x,y]) s:=λ{x y s}=>c_ (by simp);have H:∀{x y z u:D}{s:e_},(if [x,y,z,u].length<=100000 then PR.ok (D.tup [x,y,z,u]) s else .bad)=.ok (.tup [x,y,z,u]) s:=λ{x y z u s}=>c_ (by simp)
 have q:=eX (ws:=[]) (ws':=[]) (env:=[J (dH (r_ n x)),J (inD' v),J (j_ a),J (qD (x.F v v)),Y]) (s:=s) (s0:=s) (fm:=[3,1,0]) (i:=bc (aa 2)) (t:=xB (af xg (EO (af h_ (aa 3) (aa 0)) (ae (aa 2) (ae (C1 0 1) a_))) (C1 0 1))) (e:=bt (ae (aa 0) (ae (az gI (ae (af og (af h_ (aa 3) (aa 0)) (aa 2)) (ae (aa 1) a_))) a_))) (l:=a) (λi=>inD' i) (λi=>jj (i,x.F i v/x.F v v)) (λi=>!decide (x.F i v=0)) (by
  simp![cM];rfl) ⋯ (λi C=>⟨by
   have f:=B i C;simp![bM,aD,qm,ah,L7,au,k_,EZ,Fx,Mw,FA,kW f,Pf,d4];rw[qF (h.kf i f),p7];rfl,λS=>by
   have f:=B i C;have F:x.F i v≠0:=by simpa using S
   have U:=IM (p:=x.F i v) (q:=x.F v v) (s:=s) pv (by have:=h.sz i (M i C) v E;have:=h.sz v E v E;lia)
   simp![cj,ah,aE,aD,k_,EZ,Fx,Mw,FA,kW f,Pf,IT (h.kf i f) F,au,U,Q]⟩)
 have L:=xP (s:=s) (ls:=a) (h.kf v hv) W;have O:=qF (j:=v) (h.kf v hv);have e0:C0 T (qD (x.F v v)) (qD 0)=J (.bl T):=by rw[p7];simp[pv]
 rw[qw (by rfl)];unfold gh;rw[show lw 5 [dH (r_ n x),inD' v,j_ a]=[J (dH (r_ n x)),J (inD' v),J (j_ a),Y,Y]from rfl];rw[aB,aS];simp![qm,aD,kW hv,Pf,ah,L7,au,O,Pg,zJ,yT,PU.aw];rw[aB,bq];simp![bM,aD,L7,gB,e0,Pf,Pl,Pg,wy,if_false,bo,PU.aw];rw[aB,aS];rw[show(bg 1 [3,1,0] (bc (aa 2)) (ws':=[]) (h8 0) (xB (af xg (EO (af h_ (aa 3) (aa 0)) (ae (aa 2) (ae (C1 0 1) a_))) (C1 0 1))) (bt (ae (aa 0) (ae (az gI (ae (af og (af h_ (aa 3) (aa 0)) (aa 2)) (ae (aa 1) a_))) a_))):Xe []).p [J (dH (r_ n x)),J (inD' v),J (j_ a),J (qD (x.F v v)),Y] s=_ from q];dsimp![Pg];simp![bJ,cj,ah,aE,aD,kW hv,Pf,au,L,bC,g8,H,Pg,PU.bH,qo];have G:(((a.filter λi=>!decide (x.F i v=0)).map λi=>(i,x.F i v/x.F v v)):List Pt).map jj=(a.filter λi=>!decide (x.F i v=0)).map λi=>jj (i,x.F i v/x.F v v):=by rw[qo];rfl
 unfold n8;rw[G]
def io(a:List Pt)(j:Nat):Rat:=((a.find? λp=>p.1==j).map (·.2)).getD 0
def dJ:io [] j=0:=rfl
def bi:io (p::ps) j=if p.1=j then p.2 else io ps j:=by
 unfold io;rw[QX];by_cases h:p.1=j
 .simp[h]
 .have e:(p.1==j)=T:=by simpa using h
  rw[e,g_ h]
def cA(h:j∉a.map (·.1)):io a j=0:=by
 induction a with
 |nil=>rfl
 |cons p a f =>
  rw[k_,nw,not_or]at h;rw[bi,g_ (λe=>h.1 e.symm),f h.2]
def yB:∀{i:List Pt}{f:Nat->Rat},(i.map (·.1)).Nodup->rN f a i j=f j+a*io i j
 |[],f,_=>by show f j=_;rw[dJ];grind
 |p::i,f,nd=>by
  rw[k_,vz]at nd;show rN (bj f p.1 (f p.1+a*p.2)) a i j=_;rw[yB nd.2,bi];unfold bj;by_cases e:p.1=j
  .subst e;rw[cA nd.1];grind
  .rw[g_ (Ne.symm e),g_ e]
def td:∀{j:List Pt}{g:Nat->Nat->Rat},(j.map (·.1)).Nodup->gW g i f j a b=g a b+if a=i then f*io j b else 0
 |[],g,_=>by show g a b=_;rw[dJ];split<;>grind
 |p::j,g,nd=>by
  rw[k_,vz]at nd;show gW (jx g i p.1 (g i p.1+f*p.2)) i f j a b=_;rw[td nd.2,bi];unfold jx;by_cases l:a=i
  .subst l;by_cases u:b=p.1
   .subst u;rw[cA nd.1];grind
   .rw[g_ (λz=>u z.2),c_ rfl,c_ rfl,g_ (Ne.symm u)]
  .rw[g_ (λz=>l z.1),g_ l,g_ l]
def sV(i:(rs.map (·.1)).Nodup):∀{cs:List Pt}{g:Nat->Nat->Rat},(cs.map (·.1)).Nodup->qC g cs rs a b=g a b+io cs a*io rs b
 |[],g,_=>by show g a b=_;rw[dJ];grind
 |p::cs,g,nd=>by
  rw[k_,vz]at nd;show qC (gW g p.1 p.2 rs) cs rs a b=_;rw[sV i nd.2,td i,bi];by_cases f:a=p.1
  .subst f;rw[cA nd.1];grind
  .rw[g_ f,g_ (Ne.symm f)];grind
def cl(w:Wk)(i:Nat):Rat:=io ((w.v,1)::w.c) i
def rw'(w:Wk)(j:Nat):Rat:=io ((w.v,w.p)::w.r) j
def fK:(aX n f).map (·.1)=(List.range n).filter λj=>!decide (f j=0):=by unfold aX;rw[qo];exact(Et (g:=id) λ_ _=>rfl).trans (List.map_id _)
def Ej(n:Nat)(g:Nat->Nat->Rat):St:=⟨λi=>(List.range n).filter λj=>!decide (g i j=0),λi j=>if j<n then g i j else 0⟩
def DK(E:n<=12):jK ((List.range n).map λi=>.tup ((aX n (g i)).map jj))=J (r_ n (Ej n g)):=by
 have one:∀i,ON (.tup ((aX n (g i)).map jj))=J ((aX n (g i)).map λp=>((p.1:Int),qD p.2)):=λi=>by
  have B:∀f:List Pt,k9 (f.map jj)=J (f.map λp=>((p.1:Int),qD p.2)):=λf=>by
   induction f with
   |nil=>rfl
   |cons p f u=>rw[k_,k9,u];rfl
  unfold ON;dsimp only;rw[B];dsimp only;rw[c_];rw[qo]
  have:((aX n (g i)).map ((·.1)∘λp:Pt=>((p.1:Int),qD p.2)))=((aX n (g i)).map (·.1)).map λ(k:Nat)=>(k:Int):=by rw[qo];rfl
  rw[this,fK];exact(Fb.filter _).map (λ(k:Nat)=>(k:Int)) (λa b h=>by lia)
 have gen:∀l:WQ,(∀i∈l,i<n)->jK (l.map λi=>.tup ((aX n (g i)).map jj))=J (l.map λi=>(J (ky ((Ej n g).K i)),vl ((Ej n g).K i) ((Ej n g).F i))):=λl=>by
  induction l with
  |nil=>intro;rfl
  |cons i l u =>
   intro h;rw[k_,jK,one i,u λx z=>h x (ml _ z)];dsimp only;have e1:((aX n (g i)).map λp=>((p.1:Int),qD p.2)).map (·.1)=ky ((Ej n g).K i):=by rw[qo];show _=((List.range n).filter λj=>!decide (g i j=0)).map _;rw[<-fK,qo];rfl
   have e2:((aX n (g i)).map λp=>((p.1:Int),qD p.2)).map (·.2)=vl ((Ej n g).K i) ((Ej n g).F i):=by
    rw[qo];unfold aX vl Ej;rw[qo];refine Et λj y=>?_
    have:j<n:=by simpa using(zN.mp y).1
    simp[this]
   rw[e1,e2,c_ xX,k_]
 exact gen _ λi C=>by simpa using C
def L9(f:1<=z)(hg:∀i j,sz (g i j)<=z):EJ n n z R (Ej n g):=by
 refine⟨λi l=>⟨Fb.filter _,λj a=>?_⟩,λi=>?_,λi _ j _=>?_⟩
 .unfold Ej at a ⊢;dsimp only at a ⊢
  simp_all
 .unfold Ej
  have:=Ef (λj=>!decide (g i j=0)) (List.range n)
  simpa using this
 .unfold Ej;dsimp only;split
  .exact hg i j
  .rw[show Law.sz 0=1 by decide +kernel];exact f
def d_(ns:WQ)(k:Nat):Nat:=ns.getD k 0
def av(ns:WQ)(g:Nat->Nat->Rat):Nat->Nat->Nat->Rat
 |0=>g
 |k+1=>λi j=>av ns g k i j-av ns g k i (d_ ns k)/av ns g k (d_ ns k) (d_ ns k)*av ns g k (d_ ns k) j
def hI(n:Nat)(ns:WQ)(g:Nat->Nat->Rat)(k:Nat):Wk :=
 ⟨d_ ns k,av ns g k (d_ ns k) (d_ ns k),Cr (tt n ns k) (av ns g k (d_ ns k)),((tt n ns k).filter λi=>!decide (av ns g k i (d_ ns k)=0)).map λi=>(i,av ns g k i (d_ ns k)/av ns g k (d_ ns k) (d_ ns k))⟩
structure Em(n z m:Nat)(ns:WQ)(g:Nat->Nat->Rat):Prop where
 o:On n ns
 mn:m<=n
 off:∀i j,¬(i<n/\j<n)->g i j=0
 pv:∀k,k<m->av ns g k (d_ ns k) (d_ ns k)≠0
 si:∀k i j,k<=m->sz (av ns g k i j)<=z
 z0:z<=200000
abbrev El(n z:Nat)(ns:WQ)(g:Nat->Nat->Rat):Prop:=Em n z n ns g
def bu(o:On n ns)(a:k<n):ns[k]?=J (d_ ns k):=by
 have:=o.len
 unfold d_;rw[HZ,yZ ⋯];rfl
def bU{k v:Nat}{ns:WQ}(a:ns[k]?=J v):ns.drop k=v::ns.drop (k+1):=by obtain⟨h,rfl⟩:=pf.mp a;exact QH h
def L_(q:Rat):sz q⁻¹<=sz q:=by
 by_cases h:q=0
 .subst h
  grind
 .have a:=λz=>h (Rat.num_eq_zero.mp z);rw[Rat.inv_def,Hs a];refine iF ⋯ (vf q) ?_ (cg q)
  have:=bB q
  split<;>lia
def Ma(p q:Rat):sz (p/q)<=sz p+sz q:=by rw[Rat.div_def];exact oh (jH p q⁻¹) (Nat.add_le_add_left (L_ q) _)
def rM{f:Nat->Rat}{p:Nat->Bool}{j:Nat}:∀{ls:WQ},io ((ls.filter p).map λi=>(i,f i)) j=if j∈ls/\p j=I then f j else 0
 |[]=>by simp[dJ]
 |l::ls=>by
  have u:=rM (f:=f) (p:=p) (j:=j) (ls:=ls);by_cases a:p l=I
  .rw[QI a,k_,bi,u];by_cases e:l=j
   .subst e;simp[a]
   .simp[e,Ne.symm e]
  .rw[QJ a,u];by_cases e:l=j
   .subst e;simp[a]
   .simp[Ne.symm e]
section
variable{n z m:Nat}{ns:WQ}{g:Nat->Nat->Rat}
def Em.zero(h:Em n z m ns g):∀(k:Nat),k<=m->∀i j,(i∉ns.drop k\/j∉ns.drop k)->av ns g k i j=0
 |0,_,i,j,a=>by
  refine h.off i j λu=>?_;obtain⟨B,y⟩:=u;rcases a with q|q
  .exact q (h.o.pm.mem_iff.mpr (zl.mpr B))
  .exact q (h.o.pm.mem_iff.mpr (zl.mpr y))
 |k+1,G,i,j,a=>by
  have f:=Em.zero h k ⋯;have E:=h.pv k ⋯;have F:=bU (bu h.o (show k<n by have:=h.mn;lia));show av ns g k i j-av ns g k i (d_ ns k)/av ns g k (d_ ns k) (d_ ns k)*av ns g k (d_ ns k) j=0;have l:∀x,x∉ns.drop (k+1)->x=d_ ns k\/x∉ns.drop k:=λx C=>by
   grind
  rcases a with q|q<;>rcases l _ q with e|e
  .rw[e];grind
  .rw[f i j (.inl e),f i _ (.inl e)];grind
  .rw[e];grind
  .rw[f i j (.inr e),f _ j (.inr e)];grind
def nK{k x:Nat}(o:On n ns)(a:k<n):x∈ns.drop k↔x=d_ ns k\/x∈tt n ns k:=by rw[bU (bu o a),nw,cu o]
def uu{k:Nat}(o:On n ns)(a:k<n):d_ ns k∉tt n ns k:=λm=>by
 have nd:=o.nd.sublist (List.drop_sublist k ns);rw[bU (bu o a),vz]at nd;exact nd.1 ((cu o).mp m)
def Em.rw(h:Em n z m ns g)(a:k<m):rw' (hI n ns g k) j=av ns g k (d_ ns k) j:=by
 unfold rw' hI Cr;dsimp only;rw[bi,rM];by_cases e:d_ ns k=j
 .rw[c_ e,e]
 .rw[g_ e];by_cases m:j∈tt n ns k
  .by_cases q:av ns g k (d_ ns k) j=0
   .simp[q]
   .simp[m,q]
  .rw[g_ λz=>m z.1];exact(h.zero k ⋯ _ j (.inr λq=>((nK h.o (t_ a h.mn)).mp q).elim (λz=>e z.symm) m)).symm
def Em.cl(h:Em n z m ns g)(a:k<m):cl (hI n ns g k) i=av ns g k i (d_ ns k)/av ns g k (d_ ns k) (d_ ns k):=by
 have f:=h.pv k a;unfold Law.cl hI;rw[bi,rM];by_cases e:d_ ns k=i
 .rw[c_ e,<-e];grind
 .rw[g_ e];by_cases m:i∈tt n ns k
  .by_cases q:av ns g k i (d_ ns k)=0
   .simp[q];grind
   .simp[m,q]
  .rw[g_ λz=>m z.1,h.zero k ⋯ i _ (.inl λq=>((nK h.o (t_ a h.mn)).mp q).elim (λz=>e z.symm) m)]
   grind
def Ah{f:Nat->Rat}{a:WQ}:(a.map λi=>((i,f i):Pt)).map (·.1)=a:=by rw[qo];exact(Et λ_ _=>rfl).trans (List.map_id _)
def Mb(o:On n ns)(j:k<n):VY (hI n ns g k):=by
 have a:∀(p:Nat->Bool)(f:Nat->Rat),(d_ ns k::(((tt n ns k).filter p).map λi=>((i,f i):Pt)).map (·.1)).Nodup:=λp f=>by
  rw[Ah,vz];exact⟨λm=>uu o j (zN.mp m).1,(rP.imp λh=>zt h).sublist Nf⟩
 exact⟨a _ _,a _ _⟩
def oO(o:On n ns):(tt n ns k).length<=12:=by
 have:=(ly (k:=k) o).length_eq
 have:=o.len
 have:=o.n12
 simp at *;lia
def Ae(o:On n ns)(h:x∈tt n ns k):x<n:=o.lt x (QO ((cu o).mp h))
def Em.w_c(h:Em n z m ns g)(f:k<m):∀q∈(d_ ns k,(1:Rat))::(hI n ns g k).c,q.1<n/\sz q.2<=2*z:=λq hq=>by
 have z1:=h.si k (d_ ns k) (d_ ns k) ⋯;have j:=vf (av ns g k (d_ ns k) (d_ ns k));rcases nw.mp hq with rfl|hq
 .refine⟨h.o.lt _ (x3 (bu h.o (t_ f h.mn))),?_⟩;rw[show sz 1=1 by decide +kernel];lia
 .obtain⟨i,a,rfl⟩:=nr.mp hq;refine⟨Ae h.o (zN.mp a).1,oh (Ma _ _) ?_⟩
  have:=h.si k i (d_ ns k) ⋯
  lia
def Em.w_r(h:Em n z m ns g)(f:k<m):∀q∈(d_ ns k,(hI n ns g k).p)::(hI n ns g k).r,q.1<n/\sz q.2<=z:=λq hq=>by
 rcases nw.mp hq with rfl|hq
 .exact⟨h.o.lt _ (x3 (bu h.o (t_ f h.mn))),h.si k _ _ ⋯⟩
 .obtain⟨i,a,rfl⟩:=nr.mp hq;exact⟨Ae h.o (zN.mp a).1,h.si k _ _ ⋯⟩
def BD(p q:Rat):sz (p-q)<=sz p+sz q+1:=by rw[Rat.sub_eq_add_neg,<-Ai q];exact LY p (-q)
def El.mu(h:El n z ns g)(B:z<=150000):∀(m k:Nat)(G:Nat->Nat->Rat),k+m=n->(∀i j,G i j=g i j-av ns g k i j) ->
  Hx n ((List.range' k m).map (hI n ns g)) G/\∀i j,((List.range' k m).map (hI n ns g)).foldl lT G i j=g i j
 |0,k,G,C,l=>⟨trivial,λi j=>by
  show G i j=_;have E:=h.o.len
  rw[l,Em.zero h k ⋯ i j (.inl (by rw[QL ⋯];exact Fa))];grind⟩
 |m+1,k,G,C,l=>by
  have f:k<n:=by lia
  have d:=Mb (g:=g) h.o f;have nx:∀i j,lT G (hI n ns g k) i j=g i j-av ns g (k+1) i j:=λi j=>by
   unfold lT;rw[sV (rs:=((hI n ns g k).v,(hI n ns g k).p)::(hI n ns g k).r) d.r (cs:=((hI n ns g k).v,1)::(hI n ns g k).c) d.c];show G i j+Law.cl (hI n ns g k) i*rw' (hI n ns g k) j=_;rw[Em.cl h f,Em.rw h f,l];show _=g i j-(av ns g k i j-_)
   grind
  obtain⟨a,b⟩:=El.mu h B m (k+1) (lT G (hI n ns g k)) ⋯ nx;have u:=oO (k:=k) h.o;refine⟨⟨⟨d,?_,?_,λq hq=>⟨(Em.w_c h f q hq).1,λr hr=>⟨(Em.w_r h f r hr).1,?_,?_⟩⟩⟩,a⟩,b⟩
  .unfold hI Cr;rw[qx];exact oh (Ef _ _) u
  .unfold hI;rw[qx];exact oh (Ef _ _) u
  .have:=(Em.w_c h f q hq).2;have:=(Em.w_r h f r hr).2;lia
  .have O:=(Em.w_c h f q hq).2;have H:=(Em.w_r h f r hr).2;have M:=jH q.2 r.2;have F:=BD (g q.1 r.1) (av ns g k q.1 r.1);have y:=h.si 0 q.1 r.1 ⋯;have L:=h.si k q.1 r.1 ⋯;have y:sz (g q.1 r.1)<=z:=y;rw[l];lia
def El.mult(h:El n z ns g)(f:z<=150000):gZ.p [.int (n:Int),.lst (((List.range n).map (hI n ns g)).map n8)] s=.ok (pu n g) s:=by
 obtain⟨a,b⟩:=h.mu f n 0 (λ_ _=>0) ⋯ λi j=>by show(0:Rat)=g i j-g i j;grind
 rw[<-R1]at a b
 have:=L4 (s:=s) h.o.n12 (by simpa using h.o.n12) a
 rw[this];congr 2;funext i j;exact b i j
end
def uP(h:∀j∈a,f j=g j):Cr a f=Cr a g:=by
 unfold Cr;have e:(a.filter λj=>!decide (f j=0))=a.filter λj=>!decide (g j=0):=QU λj i=>by rw[h j i]
 rw[e];exact Et λj i=>by rw[h j (zN.mp i).1]
def St.add_F{x:St}{i a b:Nat}{q:Rat}{f:List Pt}(nd:(f.map (·.1)).Nodup):(x.add i q f).F a b=x.F a b+if a=i then q*io f b else 0:=by
 unfold St.add St.put;dsimp only;by_cases e:a=i
 .subst e;rw[c_ rfl,c_ rfl,yB nd]
 .rw[g_ e,g_ e];grind
def St.adds(x:St)(a f:List Pt):St:=a.foldl (λx p=>x.add p.1 (-p.2) f) x
def Bb{i:List Pt}(j:(i.map (·.1)).Nodup){a b:Nat}:∀{f:List Pt}{x:St},(f.map (·.1)).Nodup->(x.adds f i).F a b=x.F a b-io f a*io i b
 |[],x,_=>by show x.F a b=_;rw[dJ];grind
 |p::f,x,nd=>by
  rw[k_,vz]at nd;show((x.add p.1 (-p.2) i).adds f i).F a b=_;rw[Bb j nd.2,St.add_F j,bi];by_cases e:a=p.1
  .subst e;rw[cA nd.1];grind
  .rw[g_ e,g_ (Ne.symm e)];grind
def Ux{rd:List Rd}{i a:D}{b:Bool}{k v st f:WG}{j:Int}{s:e_}:ux.p (iT rd i a (.dic b [] []) k v st (J (.int j)) f) s=.ok I s:=rfl
def Uy{rd:List Rd}{j a f:D}{k v st i:WG}{q:Rat}{s:e_}(h:sz q<=800000):ou.p (iT rd j a f k v st i (J (qD q))) s=.ok (qD (-q)) s:=by
 have m:=vT (q:=q) (s:=s) (by rw[show sz 0=1 by decide +kernel];lia);unfold ou iT;simp![aE,ah,L7,au,m];congr 2
 grind
def AI{x:St}{i b:Nat}{a:Rat}{f:List Pt}(h:b≠i):(x.add i a f).F b=x.F b:=g_ h
def BJ{n z:Nat}{sh od:D}{b:Bool}{k v:WG}{st:D}{l:List Pt}{s:e_}(hr:∀r∈l,sz r.2<=z)(H:(l.map (·.1)).Nodup)(lr:l.length<=12)(hz:z<=200000):∀(j:List Pt)(x:St)(t:Nat)(i f:WG),(j.map (·.1)).Nodup->(∀p∈j,p.1<n/\sz p.2<=2*z/\∀r∈l,sz (x.F p.1 r.1)<=z)->(∀i,i<n->Kf (x.K i) (x.F i))->(∀i,(x.K i).length<=t)->t+12*j.length<=9000 ->
  (∃C y,mY sh od (.dic b [] []) k v st (.tup (l.map jj)) (j.map jj) (r_ n x) i f s=J (r_ n (x.adds j l),C,y,s))/\(∀i,i<n->Kf ((x.adds j l).K i) ((x.adds j l).F i))/\∀i,((x.adds j l).K i).length<=t+12*j.length
 |[],x,t,i,f,u,B,kf,kl,E=>⟨⟨i,f,rfl⟩,kf,kl⟩
 |p::j,x,t,i,f,u,B,kf,kl,E=>by
  obtain⟨G,px,S⟩:=B p (by simp);rw[k_,vz]at u;have Q:t+12*(j.length+1)<=9000:=E
  obtain⟨Z,R,X⟩:=xh (s:=s) (a:=-p.2) kf kl G (λr h=>by
   have h1:=hr r h;have L:=S r h;have M:=jH (-p.2) r.2;have h4:=Ai p.2
   lia) H lr ⋯
  obtain⟨⟨C,y,e⟩,L,M⟩:=BJ (sh:=sh) (od:=od) (b:=b) (k:=k) (v:=v) (st:=st) (s:=s) hr H lr hz j (x.add p.1 (-p.2) l) (t+12) (J (inD' p.1)) (J (qD p.2)) u.2 (λq hq=>by
   obtain⟨W,U,O⟩:=B q (ml _ hq);have ne:q.1≠p.1:=λz=>u.1 (z▸nr.mpr ⟨q,hq,rfl⟩);rw[AI ne]
   exact⟨W,U,O⟩) R X ⋯
  refine⟨⟨C,y,?_⟩,L,λi=>by rw[DR,show t+12*(j.length+1)=t+12+12*j.length by lia];exact M i⟩;have P:vR (r_ n x).length (p.1:Int)=J p.1:=by unfold r_;simp only[qx,EK];exact MM.gq G
  rw[k_,mY,Qa];dsimp only;rw[Ux];dsimp only;rw[Uy ⋯,P];dsimp only;rw[Z];exact e
def Uz{n k v t z:Nat}{ns:WQ}{x:St}{sh:D}{b:Bool}{st i f:WG}{s:e_}(o:On n ns)(a:ns[k]?=J v)(h:EJ n t z (ns.drop k) x)(y:z<=400000)(pv:x.F v v≠0):
  kh.p (iT (r_ n x) sh (j_ ns) (.dic b [] []) (J (inD' k)) (J (inD' v)) st i f) s=.ok (n8 ⟨v,x.F v v,Cr (tt n ns k) (x.F v),((tt n ns k).filter λi=>!decide (x.F i v=0)).map λi=>(i,x.F i v/x.F v v)⟩) s:=by
 have C:=o.len;have n12:=o.n12;have u:k<n:=by have:=(pf.mp a).1;lia
 have l:(tt n ns k).length<=100:=by have:=(ly (k:=k) o).length_eq;simp at this;lia
 have lt:=xx o u;have B:=L8 (s:=s) h (o.lt v (x3 a)) l (λi j=>o.lt i (QO ((cu o).mp j))) (by rw[bU a];simp) (λi j=>by rw[bU a];exact ml _ ((cu o).mp j)) y pv;have E:(G1 T).p (inD' v) (.dic b [] [])=J (.bl T):=rfl;unfold kh iT;rw[BI]
 simp_all
def Qd{v:Nat}(h:v<12):ik "the pivot of the place " " is nought" (v:Int):=by
 unfold ik;revert v
 decide +kernel
def Mc{n t z v:Nat}{R:WQ}{ls:WQ}(h:EJ n t z R x)(hv:v<n)(a:v<12)(pv:x.F v v=0):fY.p [dH (r_ n x),inD' v,j_ ls] s=.exc "NoPivot" s:=by
 have f:=qF (j:=v) (h.kf v hv);have e0:C0 T (qD (x.F v v)) (qD 0)=J (.bl I):=by rw[p7];simp[pv]
 rw[qw (by rfl)];unfold gh;rw[show lw 5 [dH (r_ n x),inD' v,j_ ls]=[J (dH (r_ n x)),J (inD' v),J (j_ ls),Y,Y]from rfl];rw[aB,aS];simp![qm,aD,kW hv,Pf,ah,L7,au,f,Pg,zJ,yT,PU.aw];rw[aB,bq];simp![bM,aD,L7,gB,e0,Pf,Pl,Pg];have i:(oA "NoPivot" "the pivot of the place " " is nought" (ae (aa 1) a_):Xd []).p [J (dH (r_ n x)),J (inD' v),J (j_ ls),J (qD (x.F v v)),Y] s=.rse "NoPivot" [J (dH (r_ n x)),J (inD' v),J (j_ ls),J (qD (x.F v v)),Y] s:=c_ (Qd a);rw[i];rfl
def UA{n k v t z:Nat}{ns:WQ}{x:St}{sh:D}{b:Bool}{st i f:WG}{s:e_}(o:On n ns)(a:ns[k]?=J v)(h:EJ n t z (ns.drop k) x)(pv:x.F v v=0):
  kh.p (iT (r_ n x) sh (j_ ns) (.dic b [] []) (J (inD' k)) (J (inD' v)) st i f) s=.exc "NoPivot" s:=by
 have j:k<n:=by have:=(pf.mp a).1;have:=o.len;lia
 have lt:=xx o j;have l:=Mc (s:=s) (ls:=tt n ns k) h (o.lt v (x3 a)) (by have:=o.lt v (x3 a);have:=o.n12;lia) pv;have u:(G1 T).p (inD' v) (.dic b [] [])=J (.bl T):=rfl;unfold kh iT;rw[BI]
 simp_all
def nM{k v:Nat}{ns:WQ}(f:ns[k]?=J v):(aY (ns.map inD')).drop k=.tup [inD' k,inD' v]::(aY (ns.map inD')).drop (k+1):=by
 have a:=pf.mp f;have l:k<(aY (ns.map inD')).length:=by simp[aY,a.1]
 have e:(aY (ns.map inD'))[k]?=J (.tup [inD' k,inD' v]):=by
  unfold aY
  simp_all
 rw[QH l];congr 1;rw[yZ l]at e;exact Option.some.inj e
def Em.run{n z e:Nat}{ns:WQ}{g:Nat->Nat->Rat}(h:Em n z e ns g){sh:D}{b:Bool}{s:e_}:∀(m k:Nat)(x:St)(t:Nat)(G:WR)(st i f:WG),k+m=e->(∀i,i<n->Kf (x.K i) (x.F i))->(∀i,(x.K i).length<=t)->t+150*m<=9000->G.length=k->(∀i j,i∈ns.drop k->j∈ns.drop k->x.F i j=av ns g k i j) ->
  ∃H L P R,jP sh (j_ ns) (.dic b [] []) ((aY (ns.map inD')).drop k) (r_ n x) G st i f s=jP sh (j_ ns) (.dic b [] []) ((aY (ns.map inD')).drop e) (r_ n H) (G++((List.range' k m).map (hI n ns g)).map n8) L P R s/\(∀i,i<n->Kf (H.K i) (H.F i))/\(∀i,(H.K i).length<=t+150*m)/\∀i j,i∈ns.drop e->j∈ns.drop e->H.F i j=av ns g e i j
 |0,k,x,t,G,st,i,f,hk,kf,kl,ht,hl,l=>by
  subst hk;exact⟨x,st,i,f,by simp,kf,kl,l⟩
 |m+1,k,x,t,G,st,i,f,hk,kf,kl,ht,hl,l=>by
  have o:=h.o;have n12:=o.n12;have z0:=h.z0;have mn:=h.mn;have E:k<e:=by lia
  have C:k<n:=by lia
  have hv:=bu o C;have p0:=h.pv k E;have u:d_ ns k∈ns.drop k:=(nK o C).mpr (.inl rfl);have B:∀j∈tt n ns k,j∈ns.drop k:=λj F=>(nK o C).mpr (.inr F);have so:EJ n t z (ns.drop k) x:=⟨kf,kl,λi O j F=>by rw[l i j O F];exact h.si k i j ⋯⟩;have e1:=Uz (sh:=sh) (b:=b) (st:=st) (i:=i) (f:=f) (s:=s) o hv so ⋯ (by rw[l _ _ u u];exact p0);have er:Cr (tt n ns k) (x.F (d_ ns k))=Cr (tt n ns k) (av ns g k (d_ ns k)):=uP λj F=>l _ j u (B j F);have ec:(((tt n ns k).filter λi=>!decide (x.F i (d_ ns k)=0)).map λi=>(i,x.F i (d_ ns k)/x.F (d_ ns k) (d_ ns k)))=(hI n ns g k).c:=by
   unfold hI;dsimp only;have e:((tt n ns k).filter λi=>!decide (x.F i (d_ ns k)=0))=(tt n ns k).filter λi=>!decide (av ns g k i (d_ ns k)=0):=QU λj F=>by rw[l j _ (B j F) u]
   rw[e];exact Et λj F=>by rw[l j _ (B j (zN.mp F).1) u,l _ _ u u]
  rw[er,ec,l _ _ u u]at e1;have e1:kh.p (iT (r_ n x) sh (j_ ns) (.dic b [] []) (J (inD' k)) (J (inD' (d_ ns k))) st i f) s=.ok (n8 (hI n ns g k)) s:=e1;have d:=Mb (g:=g) o C;have dr:=vz.mp d.r;have dc:=vz.mp d.c;have ll:=oO (k:=k) o;have lr:(hI n ns g k).r.length<=12:=by unfold hI Cr;rw[qx];exact oh (Ef _ _) ll
  have lc:(hI n ns g k).c.length<=12:=by unfold hI;rw[qx];exact oh (Ef _ _) ll
  have Z:∀r∈(hI n ns g k).r,r.1∈tt n ns k:=λr hr=>by
   have hr:r∈((tt n ns k).filter λj=>!decide (av ns g k (d_ ns k) j=0)).map λj=>(j,av ns g k (d_ ns k) j):=hr;obtain⟨i,O,rfl⟩:=nr.mp hr;exact(zN.mp O).1
  have ac:∀r∈(hI n ns g k).c,r.1∈tt n ns k:=λr hr=>by
   obtain⟨i,O,rfl⟩:=nr.mp hr;exact(zN.mp O).1
  obtain⟨⟨P,R,e2⟩,k2,l2⟩:=BJ (sh:=sh) (od:=j_ ns) (b:=b) (k:=J (inD' k)) (v:=J (inD' (d_ ns k))) (st:=n8 (hI n ns g k)) (s:=s) (λr hr=>(h.w_r E r (ml _ hr)).2) dr.2 lr z0 (hI n ns g k).c x t i f dc.2 (λp hp=>by
   obtain⟨a1,a2⟩:=h.w_c E p (ml _ hp)
   exact⟨a1,a2,λr hr=>so.sz _ (B _ (ac p hp)) _ (B _ (Z r hr))⟩) kf kl ⋯
  obtain⟨H,L,i2,f2,ih,U,W,Q⟩:=Em.run h (sh:=sh) (b:=b) (s:=s) m (k+1) (x.adds (hI n ns g k).c (hI n ns g k).r) (t+150) (G++[n8 (hI n ns g k)]) (J (n8 (hI n ns g k))) P R ⋯ k2 (λi=>oh (l2 i) ⋯) ⋯ (by simp[hl]) (λa c ha hc=>by
   have la:a∈tt n ns k:=(cu o).mpr ha;have lc:c∈tt n ns k:=(cu o).mpr hc;have ne:∀y,y∈tt n ns k->¬d_ ns k=y:=λy hy e=>uu o C (e▸hy);have M:=h.cl (i:=a) E;have S:=h.rw (j:=c) E;unfold Law.cl at M;unfold rw' at S;rw[bi]at M S;have M:=(g_ (ne a la)).symm.trans M;have S:=(g_ (ne c lc)).symm.trans S;rw[Bb dr.2 dc.2,l a c (B a la) (B c lc),M,S]
   rfl)
  refine⟨H,L,i2,f2,?_,U,λi=>oh (W i) ⋯,Q⟩;have ed:=nM (k:=k) (v:=d_ ns k) (ns:=ns) hv;rw[ed,jP,show g2 (.tup [inD' k,inD' (d_ ns k)])=J (inD' k,inD' (d_ ns k))from rfl];dsimp only;rw[e1]
  show (if flat (n8 (hI n ns g k))=I/\G.length<1000/\flat (inD' k)=I/\flat (inD' (d_ ns k))=I then (match mY sh (j_ ns) (.dic b [] []) (J (inD' k)) (J (inD' (d_ ns k))) (n8 (hI n ns g k)) (.tup ((hI n ns g k).r.map jj)) ((hI n ns g k).c.map jj) (r_ n x) i f s with
   |some (X,P,R,s2)=>jP sh (j_ ns) (.dic b [] []) ((aY (ns.map inD')).drop (k+1)) X (G++[n8 (hI n ns g k)]) (J (n8 (hI n ns g k))) P R s2
   |none=>.bad)else .bad)=_
  rw[c_ ⟨sC _,⋯,rfl,rfl⟩,e2];dsimp only;rw[ih];simp[List.range'_succ]
def Hz{n x:Nat}{s:e_}(h:x<n):eZ.p [.int (n:Int),inD' x] s=.ok (.bl I) s:=by rw[wU (by rfl)];unfold gG;rw[show lw 2 [.int (n:Int),inD' x]=[J (.int (n:Int)),J (inD' x)]from rfl];simp[xk,h]
def HA{n:Nat}{ns:WQ}{s:e_}(o:On n ns):eJ.p [.tup [.int (n:Int),.tup []],j_ ns] s=.ok .non s:=by
 have G:=o.len;have n12:=o.n12
 have q:=eX (ws:=[]) (ws':=[]) (env:=[J (.tup [.int (n:Int),.tup []]),J (j_ ns)]) (s:=s) (s0:=s) (fm:=[0]) (i:=bc (aa 1)) (t:=mL) (e:=az eZ (ae (af h_ (aa 1) (xC (.int 0))) (ae (aa 0) a_))) (l:=ns) (λj=>inD' j) (λ_=>.bl I) (λ_=>I) (by
  simp![cM];rfl) ⋯ (λj u=>⟨rfl,λ_=>by
   have f:h_.p (.tup [.int (n:Int),.tup []]) (.int 0)=J (.int (n:Int)):=rfl
   simp![aE,ah,aD,bf,aR,k_,EZ,Fx,FA,f,Pf,au,Hz (o.lt j u)]⟩)
 have E:ss.p [.lst ((ns.filter λ_=>I).map λ_=>D.bl I)]=J (.bl I):=by
  have:∀l:WQ,kB (l.map λ_=>D.bl I)=J (l.map λ_=>I):=λl=>by
   induction l with
   |nil=>rfl
   |cons a l B=>rw[k_,kB,B];rfl
  show((J ((ns.filter λ_=>I).map λ_=>D.bl I)).bind kB).map _=_;rw[Jy,this,Ib];simp
 have y:jl.p [j_ ns]=J (.lst ((List.range n).map inD')):=by
  have e1:j_ ns=.lst ((ns.map λ(x:Nat)=>(x:Int)).map .int):=by rw[qo];rfl
  rw[e1,tq (by simp;lia)];have e2:iW (ns.map λ(x:Nat)=>(x:Int))=(List.range n).map λ(x:Nat)=>(x:Int) :=
   kK (qh _) (R0.map (S:=(·<=·)) _ (λa b h=>by lia)) ((jX _).trans (o.pm.map _))
  rw[e2,qo];rfl
 have lr:Lc.p [.int (n:Int)]=J (.lst ((List.range n).map inD')):=by rw[ID ⋯,Eu];simp[dw]
 have F:C0 T (.lst ((List.range n).map inD')) (.lst ((List.range n).map inD'))=J (.bl I):=by
  have e1:(List.range n).map inD'=((List.range n).map λ(x:Nat)=>(x:Int)).map .int:=by rw[qo];rfl
  rw[e1,pW];simp
 have z:gN.p [.tup [.int (n:Int),.tup []],j_ ns] s=.ok (.bl I) s:=by
  rw[w6 (by rfl)];unfold gO;rw[show lw 2 [.tup [.int (n:Int),.tup []],j_ ns]=[J (.tup [.int (n:Int),.tup []]),J (j_ ns)]from rfl];have C:(bL ["list"]).p (j_ ns)=J (.bl I):=by simp[dU]
  have f:h_.p (.tup [.int (n:Int),.tup []]) (.int 0)=J (.int (n:Int)):=rfl;rw[aB,bq];simp![cN,bM,lK,C,Pf,Pl,Eg,Pg,wy,if_false,bo,PU.aw];rw[aB,bq,cN,bM,bC,ah,q];simp only[Pb,au,E,Pf,Pl,Eg,Pg,wy,if_false,bo,PU.aw];simp![bJ,aD,bC,ah,au,y,Pf,bf,aR,f,lr,gB,F,Pg,PU.bH]
 rw[rT (by rfl)];unfold eD;rw[show lw 2 [.tup [.int (n:Int),.tup []],j_ ns]=[J (.tup [.int (n:Int),.tup []]),J (j_ ns)]from rfl,bq];simp![cN,bM,aE,ah,au,z,Pl,Eg,Pg,wy,if_false,bo,PU.AT]
def Em.go{n z m:Nat}{ns:WQ}{g:Nat->Nat->Rat}(h:Em n z m ns g)(F:m=n\/(m<n/\av ns g m (d_ ns m) (d_ ns m)=0)){s:e_}:jP (pu n g) (j_ ns) (.dic T [] []) (aY (ns.map inD')) (r_ n (Ej n g)) [] Y Y Y s=if m=n then .ok (((List.range n).map (hI n ns g)).map n8) s else .exc "NoPivot" s:=by
 have o:=h.o;have n12:=o.n12;have E:=o.len;have mn:=h.mn;have so:=L9 (n:=n) (z:=z+1) (R:=ns) (g:=g) ⋯ (λi j=>by have:=h.si 0 i j ⋯;have:sz (g i j)<=z:=this;lia)
 obtain⟨x,st,i,f,e,kf,kl,a⟩:=h.run m 0 (Ej n g) n [] Y Y Y ⋯ so.kf so.kl ⋯ rfl (λi j C u=>by
  have:=o.lt j (QO u)
  unfold Ej;dsimp only
  rw[c_ this];rfl)
 rw[List.drop_zero,<-R1]at e;rw[e];rcases F with rfl|⟨B,G⟩
 .rw[c_ rfl,QL (by simp[aY,E])];rfl
 .rw[g_ ⋯];have hv:=bu o B;have l:=(nK o B).mpr (.inl rfl);have y:EJ n (n+150*m) z (ns.drop m) x:=⟨kf,kl,λi C j u=>by rw[a i j C u];exact h.si m i j (l_ _)⟩;have e1:=UA (sh:=pu n g) (b:=T) (st:=st) (i:=i) (f:=f) (s:=s) o hv y (by rw[a _ _ l l];exact G);rw[nM hv,jP,show g2 (.tup [inD' m,inD' (d_ ns m)])=J (inD' m,inD' (d_ ns m))from rfl];dsimp only;rw[e1]
def Em.struck(h:Em n z m ns g)(a:m=n\/(m<n/\av ns g m (d_ ns m) (d_ ns m)=0)):dI.p [pu n g,j_ ns] s=if m=n then .ok (.lst (((List.range n).map (hI n ns g)).map n8)) s else .exc "NoPivot" s:=by
 have o:=h.o;have n12:=o.n12;have go:=h.go a (s:=s);have j:eT (ns.map inD')=I:=fU λd hd=>by
  obtain⟨x,_,rfl⟩:=nr.mp hd;rfl
 have u:mU.p [pu n g,j_ ns,.dic T [] []] s=if m=n then .ok (.lst (((List.range n).map (hI n ns g)).map n8)) s else .exc "NoPivot" s:=by
  show(if eT (ns.map inD')=I then RL [pu n g,j_ ns,.dic T [] []] s else .bad)=_;rw[c_ j];unfold RL pu;dsimp only;rw[DK n12];dsimp only;rw[c_ (by simp;lia)];unfold pu at go;rw[go];by_cases z:m=n
  .rw[c_ z,c_ z]
  .rw[g_ z,g_ z]
 have f:h_.p (pu n g) (.int 0)=J (.int (n:Int)):=rfl;have i:∀{x y:D}{s:e_},(if [x,y].length<=100000 then PR.ok (D.tup [x,y]) s else .bad)=.ok (.tup [x,y]) s:=λ{x y s}=>c_ (by simp);have l:∀{s:e_},(if([]:WR).length<=100000 then PR.ok (D.tup []) s else .bad)=.ok (.tup []) s:=λ{s}=>c_ (by decide);rw[Aw (by rfl)];unfold jz;rw[show lw 2 [pu n g,j_ ns]=[J (pu n g),J (j_ ns)]from rfl,aB,GQ];simp![aE,ah,cj,aD,bf,aR,f,Pf,au,l,i,HA o,Pg,PU.aw];simp![bJ,aE,ah,Ld,au,u];by_cases z:m=n
 .simp only[c_ z];rfl
 .simp only[g_ z];rfl
def Ov(e:Nat)(A:Nat->Nat->Rat):Prop:=∃E:Nat,E≠0/\E<2^e/\∀i j,∃a:Int,A i j=Rat.divInt a E/\a.natAbs<2^e
def Ov.sz(u:0<e)(h:Ov e A)(i j:Nat):sz (A i j)<=e:=by obtain⟨E,e0,e1,h⟩:=h;obtain⟨a,l,f⟩:=h i j;rw[l];exact iF e0 u f e1
def Ov.step(h:Ov e A)(hv:A v v≠0):Ov (2*e+1) λi j=>A i j-A i v/A v v*A v j:=by
 obtain⟨E,e0,e1,h⟩:=h;obtain⟨b,B,C⟩:=h v v;have u:b≠0:=λz=>hv (by rw[B,z];simp);have R:(b:Rat)≠0:=by exact_mod_cast u
 have S:2^(2*e+1)=2^e*2^e+2^e*2^e:=by rw[Sk,Nat.two_mul,Q4];ext
 have f:∀x y:Int,x.natAbs<2^e->y.natAbs<2^e->(x*y).natAbs<2^e*2^e:=λx y L G=>by
  rw[FD];exact Sd L G
 refine⟨E*b.natAbs,FN e0 (by ext),?_,λi j=>?_⟩
 .have:=Sd e1 C
  ext
 .obtain⟨a,P,F⟩:=h i j;obtain⟨c,O,M⟩:=h i v;obtain⟨d,H,hd⟩:=h v j;have l:A i j-A i v/A v v*A v j=Rat.divInt (a*b-c*d) ((E:Int)*b):=by
   rw[P,B,O,H];simp only[Rat.divInt_eq_div];push_cast
   grind
  have Q:=f a b F C;have U:=f c d M hd;refine⟨if(E:Int)*b<0 then -(a*b-c*d)else a*b-c*d,?_,?_⟩
  .show A i j-A i v/A v v*A v j=_;rw[l,Hs (MB (by ext) u),FD,Int.natAbs_natCast]
  .split<;>ext
def ex:Nat->Nat
 |0=>350
 |k+1=>2*ex k+1
def uw:∀k,k<=6->0<ex k/\ex k<=120000:=by decide
def qX(a:Ov 350 g)(pv:∀k,k<m->av ns g k (d_ ns k) (d_ ns k)≠0):∀k,k<=m->Ov (ex k) (av ns g k)
 |0,_=>a
 |k+1,f=>(qX a pv k (by ext)).step (pv k (by ext))
structure Sh(n:Nat)(g:Nat->Nat->Rat):Prop where
 n6:n<=6
 off:∀i j,¬(i<n/\j<n)->g i j=0
 ov:Ov 350 g
def Sh.em(h:Sh n g)(o:On n ns)(mn:m<=n)(pv:∀k,k<m->av ns g k (d_ ns k) (d_ ns k)≠0):Em n 120000 m ns g :=
 ⟨o,mn,h.off,pv,λk i j a=>by
  have:=uw k (by have:=h.n6;ext)
  exact oh ((qX h.ov pv k a).sz this.1 i j) this.2,by ext⟩
def A2(P:Nat->Prop):∀n,∃m,m<=n/\(∀k,k<m->P k)/\(m=n\/(m<n/\¬P m))
 |0=>⟨0,l_ _,λ_ h=>absurd h (Sg _),.inl rfl⟩
 |n+1=>by
  obtain⟨m,i,a,f⟩:=A2 P n
  grind
abbrev kG(n:Nat)(ns:WQ)(g:Nat->Nat->Rat):D:=.lst (((List.range n).map (hI n ns g)).map n8)
def Sh.struck(h:Sh n g)(o:On n ns):bY.p [pu n g,j_ ns] s=.ok .non s/\(∃k,k<n/\av ns g k (d_ ns k) (d_ ns k)=0)\/(El n 120000 ns g/\bY.p [pu n g,j_ ns] s=.ok (kG n ns g) s):=by
 have cl:gH.p [j_ ns]=J (j_ ns):=xc (by have:=o.len;have:=o.n12;simp;ext);have st:∀(r:PR D),dI.p [pu n g,j_ ns] s=r->(aP 2 (az dI (ae (aa 0) (ae (m_ gH (ae (aa 1) a_)) a_))):Xd []).p [J (pu n g),J (j_ ns),J .non] s=r.go [J (pu n g),J (j_ ns),J .non] λd env s=>.nx (env.set 2 (J d)) s:=λr hr=>by
  rw[aS];simp![aE,ah,bC,au,cl,Pf,hr]
 have go:∀d,(uz "NoPivot" 2 (aP 2 (az dI (ae (aa 0) (ae (m_ gH (ae (aa 1) a_)) a_)))):Xd []).p [J (pu n g),J (j_ ns),J .non] s=.nx [J (pu n g),J (j_ ns),J d] s->bY.p [pu n g,j_ ns] s=.ok d s:=λd hd=>by
  rw[wQ (by rfl)];unfold gR;rw[show lw 3 [pu n g,j_ ns]=[J (pu n g),J (j_ ns),Y]from rfl,aB,aS];dsimp![bf,Pg];refine(congrArg (λz:PS=>(z.then _).fin) hd).trans ?_;rfl
 obtain⟨m,mn,i,j⟩:=A2 (λk=>av ns g k (d_ ns k) (d_ ns k)≠0) n;have em:=h.em o mn i;by_cases z:m=n
 .subst z;refine .inr ⟨em,go _ ?_⟩;have e:=Em.struck em (.inl rfl) (s:=s);rw[c_ rfl]at e
  show (match (aP 2 (az dI (ae (aa 0) (ae (m_ gH (ae (aa 1) a_)) a_))):Xd []).p [J (pu m g),J (j_ ns),J .non] s with
   |.exc x e s=>if x="NoPivot" then PS.nx (e.set 2 (J .non)) s else .bad
   |.rse _ _ _=>.bad
   |r=>r)=_
  rw[st _ e];rfl
 .obtain⟨f,a⟩:=j.resolve_left z;have a:av ns g m (d_ ns m) (d_ ns m)=0:=Classical.not_not.mp a;refine .inl ⟨go _ ?_,m,f,a⟩;have e:=Em.struck em (.inr ⟨f,a⟩) (s:=s);rw[g_ z]at e
  show (match (aP 2 (az dI (ae (aa 0) (ae (m_ gH (ae (aa 1) a_)) a_))):Xd []).p [J (pu n g),J (j_ ns),J .non] s with
   |.exc x e s=>if x="NoPivot" then PS.nx (e.set 2 (J .non)) s else .bad
   |.rse _ _ _=>.bad
   |r=>r)=_
  rw[st _ e];exact c_ rfl
def St.addp(x:St)(f a:List Pt):St:=f.foldl (λx q=>x.add q.1 q.2 a) x
def BH(f:(ps.map (·.1)).Nodup):∀{cs:List Pt}{x:St},(cs.map (·.1)).Nodup->(x.addp cs ps).F a b=x.F a b+io cs a*io ps b
 |[],x,_=>by show x.F a b=_;rw[dJ];grind
 |p::cs,x,nd=>by
  rw[k_,vz]at nd;show((x.add p.1 p.2 ps).addp cs ps).F a b=_;rw[BH f nd.2,St.add_F f,bi];by_cases e:a=p.1
  .subst e;rw[cA nd.1];grind
  .rw[g_ e,g_ (Ne.symm e)];grind
def Bu(B:(ps.map (·.1)).Nodup)(lr:ps.length<=12):∀(f:List Pt)(x:St)(t:Nat),(f.map (·.1)).Nodup->(∀q∈f,q.1<n/\∀r∈ps,sz q.2+sz r.2<=900000/\sz (x.F q.1 r.1)+sz (q.2*r.2)<=900000)->(∀i,i<n->Kf (x.K i) (x.F i))->(∀i,(x.K i).length<=t)->t+12*f.length<=9000 ->
  pT (.tup (ps.map jj)) (f.map jj) (r_ n x) s=J (r_ n (x.addp f ps),s)/\(∀i,i<n->Kf ((x.addp f ps).K i) ((x.addp f ps).F i))/\∀i,((x.addp f ps).K i).length<=t+12*f.length
 |[],x,t,j,l,kf,kl,u=>⟨rfl,kf,kl⟩
 |p::f,x,t,j,l,kf,kl,u=>by
  obtain⟨y,Q⟩:=l p (by simp);rw[k_,vz]at j;have E:t+12*(f.length+1)<=9000:=u;obtain⟨O,G,M⟩:=xh (s:=s) (a:=p.2) kf kl y (λr h=>Q r h) B lr ⋯
  obtain⟨e,P,R⟩:=Bu (s:=s) B lr f (x.add p.1 p.2 ps) (t+12) j.2 (λq hq=>by
   obtain⟨L,H⟩:=l q (ml _ hq);have ne:q.1≠p.1:=λz=>j.1 (z▸nr.mpr ⟨q,hq,rfl⟩);rw[AI ne]
   exact⟨L,H⟩) G M ⋯
  refine⟨?_,P,λi=>by rw[DR,show t+12*(f.length+1)=t+12+12*f.length by lia];exact R i⟩;have C:vR (r_ n x).length (p.1:Int)=J p.1:=by unfold r_;simp only[qx,EK];exact MM.gq y
  rw[k_,pT,Qa];dsimp only;rw[C];dsimp only;rw[O];exact e
section
variable{n z:Nat}{ns:WQ}{g:Nat->Nat->Rat}
def Md(o:On n ns)(a:k<n):(tt n ns k).length<=11:=by
 have:=(ly (k:=k) o).length_eq
 have:=o.len
 have:=o.n12
 simp at *;lia
def El.pbw(h:El n z ns g)(H:z<=150000):∀(m k t:Nat)(x:St),k+m=n->(∀i j,x.F i j=g i j-av ns g k i j)->(∀i,i<n->Kf (x.K i) (x.F i))->(∀i,(x.K i).length<=t)->t+200*m<=9000 ->
  ∃f:St,M8 (((List.range' k m).map (hI n ns g)).map n8) (r_ n x) s=J (r_ n f,s)/\(∀i j,f.F i j=g i j)/\∀i,i<n->Kf (f.K i) (f.F i)
 |0,k,t,x,M,l,kf,kl,E=>⟨x,rfl,λi j=>by
  have O:=h.o.len
  rw[l,Em.zero h k ⋯ i j (.inl (by rw[QL ⋯];exact Fa))];grind,kf⟩
 |m+1,k,t,x,M,l,kf,kl,E=>by
  have a:k<n:=by lia
  have d:=Mb (g:=g) h.o a;have C:=Md h.o a;have lr:(hI n ns g k).r.length<=11:=by unfold hI Cr;rw[qx];exact oh (Ef _ _) C
  have lc:(hI n ns g k).c.length<=11:=by unfold hI;rw[qx];exact oh (Ef _ _) C
  obtain⟨e1,B,u⟩:=Bu (n:=n) (ps:=((hI n ns g k).v,(hI n ns g k).p)::(hI n ns g k).r) (s:=s) d.r (by simp;lia) (((hI n ns g k).v,1)::(hI n ns g k).c) x t d.c (λq hq=>⟨(Em.w_c h a q hq).1,λr hr=>by
   have S:=(Em.w_c h a q hq).2;have R:=(Em.w_r h a r hr).2;refine⟨⋯,?_⟩;have U:=jH q.2 r.2;have P:=BD (g q.1 r.1) (av ns g k q.1 r.1);have W:sz (g q.1 r.1)<=z:=h.si 0 q.1 r.1 ⋯;have Q:=h.si k q.1 r.1 ⋯
   rw[l];lia⟩) kf kl (by simp;lia)
  have nx:∀i j,(x.addp (((hI n ns g k).v,1)::(hI n ns g k).c) (((hI n ns g k).v,(hI n ns g k).p)::(hI n ns g k).r)).F i j=g i j-av ns g (k+1) i j:=λi j=>by
   rw[BH (ps:=((hI n ns g k).v,(hI n ns g k).p)::(hI n ns g k).r) d.r (cs:=((hI n ns g k).v,1)::(hI n ns g k).c) d.c];show x.F i j+Law.cl (hI n ns g k) i*rw' (hI n ns g k) j=_;rw[Em.cl h a,Em.rw h a,l];show _=g i j-(av ns g k i j-_)
   grind
  obtain⟨f,e2,G,L⟩:=El.pbw h H (s:=s) m (k+1) (t+200) _ ⋯ nx B (λi=>oh (u i) (by simp;lia)) ⋯;refine⟨f,?_,G,L⟩;rw[List.range'_succ,k_,k_,M8,Qb];dsimp only;rw[c_ ⟨by simp;lia,by simp;lia⟩];have y:pT (.tup (.tup [.int ((hI n ns g k).v:Int),qD (hI n ns g k).p]::(hI n ns g k).r.map jj)) (.tup [.int ((hI n ns g k).v:Int),.tup [.int 1,.int 1]]::(hI n ns g k).c.map jj) (r_ n x) s=_:=e1;rw[y];exact e2
def UB(u:n<=12)(kf:∀i,i<n->Kf (x.K i) (x.F i)):vw.p (PY (r_ n x) (.int (n:Int)) wk) s=.ok (pu n x.F) s:=by
 have lr:Lc.p [.int (n:Int)]=J (j_ (List.range n)):=by rw[ID ⋯];simp[dw]
 have a:=eX (ws:=[]) (ws':=[]) (env:=PY (r_ n x) (.int (n:Int)) wk) (fm:=[0]) (i:=bc (aa 2)) (t:=mL) (λi=>Ew (x.K i) (x.F i)) (λi=>.tup ((aX n (x.F i)).map jj)) (λ_=>I) (by
  rw[cM];show PR.of (J ((r_ n x).map λr=>dl r.1 r.2)) s=_;unfold r_
  rw[qo];rfl) (by simp;lia) (λi j=>⟨rfl,λ_=>by
   have f:=zl.mp j;show(az dG (ae (aa 0) (ae (m_ Lc (ae (aa 1) a_)) a_)):Xe []).p [J (Ew (x.K i) (x.F i)),J (.int (n:Int))] s=_;simp![aE,ah,bC,au,lr]
   exact xP (kf i f) (by simp;lia)⟩)
 unfold vw;rw[cj,ah];show(((PR.ok (D.int (n:Int)) s).bind _).bind _)=_;rw[Pb,ah,bC,ah,a];have l:(List.range n).filter (λ_=>I)=List.range n:=Js.mpr (by simp);rw[l];rfl
def El.back(h:El n z ns g)(a:z<=150000):qQ.p [.int (n:Int),.lst (((List.range n).map (hI n ns g)).map n8)] s=.ok (pu n g) s:=by
 have n12:=h.o.n12;obtain⟨x,e,f,kf⟩:=h.pbw a n 0 0 ⟨λ_=>[],λ_ _=>0⟩ ⋯ (λi j=>by show(0:Rat)=g i j-g i j;grind) (λi _=>⟨QZ,λ_ _=>rfl⟩) (λ_=>l_ _) ⋯;rw[<-R1]at e;have l:r_ n ⟨λ_=>[],λ_ _=>0⟩=List.replicate n (J [],[]):=by unfold r_;rw[show(λi:Nat=>((J (ky ([]:WQ)),vl ([]:WQ) (λ_=>(0:Rat))):Rd))=λ_=>(J [],[])from rfl,Ni,EK]
 have u:eT (((List.range n).map (hI n ns g)).map n8)=I:=fU λd hd=>by
  obtain⟨w,_,rfl⟩:=nr.mp hd;exact sC w
 show RQ [.int (n:Int),.lst (((List.range n).map (hI n ns g)).map n8)] s=_;unfold RQ;dsimp only;rw[c_ ⟨u,⋯,⋯⟩,Eu,<-l,e];dsimp only;rw[UB n12 kf];dsimp only;have y:x.F=g:=by funext i j;exact f i j
 rw[y,c_ ym]
end
def EV(k:Nat)(d:D):Prop:=∀s,(dL k).p [d,d] s=.ok (.bl I) s
def gK:EV (k+1) (.int i):=λs=>by
 rw[tf (by rfl)];unfold hJ;simp[lw,dU,PR.bl,Ea]
def HB(d:D)(C:f.length<=1000)(j:(bT iZ (ae (aa 0) (ae (aa 1) a_)):Xi []).p [J d,J d] s=.ok (jM f f) s)(h:∀x∈f,EV k x):
  (m_ ss (ae (bg 2 [] (bT iZ (ae (aa 0) (ae (aa 1) a_))) (ws':=[]) (p_ (ki (h8 0) (ki (h8 1) p6)) 2) mL (az (dL k) (ae (aa 0) (ae (aa 1) a_)))) a_):Xe []).p [J d,J d] s=.ok (.bl I) s:=by
 have c:=zP (ws':=[]) (fm:=[]) (t:=mL) (e:=az (dL k) (ae (aa 0) (ae (aa 1) a_))) (λ_=>I) (λ_=>.bl I) j (by simp[jM];ext) (λx z=>by
  obtain⟨p,i,rfl⟩:=nr.mp z;have e:p.1=p.2:=by rw[List.zip_eq_zipWith,List.zipWith_self]at i;obtain⟨x,_,rfl⟩:=nr.mp i;rfl
  have B:=h p.1 (QW i).1 s;rw[<-e]
  exact⟨_,_,rfl,rfl,λ_=>by simp[B]⟩)
 rw[BS]at c;have u:ss.p [.lst ((jM f f).map λ_=>.bl I)]=J (.bl I):=by
  have:∀l:WR,kB (l.map λ_=>D.bl I)=J (l.map λ_=>I):=λl=>by
   induction l with
   |nil=>rfl
   |cons a l y=>rw[k_,kB,y];rfl
  show((J ((jM f f).map λ_=>D.bl I)).bind kB).map _=_;rw[Jy,this];simp
 rw[bC,ah,c];simp only[Pb,au,u,Pf]
def IU{d:D}(hd:d=.tup a\/d=.lst a)(f:a.length<=1000)(h:∀x∈a,EV k x):EV (k+1) d:=λs=>by
 rw[tf (by rfl)];unfold hJ;rw[show lw 2 [d,d]=[J d,J d]from rfl];have c:=HB d (s:=s) f (by rcases hd with rfl|rfl<;>simp) h;have l:(xB (af (Ea T) (aa 1) (xC .non)):Xt []).p [J d,J d] s=.ok T s:=by rcases hd with rfl|rfl<;>rfl
 have j:(xB (y7 (bL ["list","tuple"]) (aa 1)):Xt []).p [J d,J d] s=.ok I s:=by rcases hd with rfl|rfl<;>simp[dU]
 have u:(CV (bQ (xB (y7 (bL ["list","tuple"]) (aa 0)))) (xB (af xg (y7 (bL ["list"]) (aa 0)) (y7 (bL ["list"]) (aa 1)))):Xt []).p [J d,J d] s=.ok T s:=by rcases hd with rfl|rfl<;>simp[dU]
 have i:(af Dl (m_ b7 (ae (aa 0) a_)) (m_ b7 (ae (aa 1) a_)):Xe []).p [J d,J d] s=.ok (.bl I) s:=by rcases hd with rfl|rfl<;>simp
 rw[aB,bq,l];simp only[Pg,wy,if_false,bo,PU.aw];rw[aB,bq,j];simp only[Pg];rw[aB,bq,u];simp only[Pg,wy,if_false,bo,PU.aw];rw[bJ,oz];rw[i,Pl,Pb,c];rfl
def qz(f:a.length<=1000)(h:∀x∈a,EV k x):EV (k+1) (.tup a):=IU (.inl rfl) f h
def AC(f:a.length<=1000)(h:∀x∈a,EV k x):EV (k+1) (.lst a):=IU (.inr rfl) f h
def om(i:EV k a)(j:EV k b):EV (k+1) (.tup [a,b]):=qz (by simp) λx f=>by
 simp only[nw,Fa,or_false]at f;rcases f with rfl|rfl
 .exact i
 .exact j
def vB{k:Nat}{l:List Pt}(h:l.length<=1000):EV (k+4) (.tup (l.map jj)):=qz (by rw[qx];exact h) λx a=>by
 obtain⟨p,_,rfl⟩:=nr.mp a;exact om gK (om gK gK)
def Qe(i:w.r.length<=1000)(f:w.c.length<=1000):EV (k+5) (n8 w):=qz (by simp) λx a=>by
 simp only[nw,Fa,or_false]at a;rcases a with rfl|rfl|rfl|rfl
 .exact gK
 .exact om gK gK
 .exact vB i
 .exact vB f
def HC(f:n<=12):cW.p [pu n g,pu n g] s=.ok (.bl I) s :=
 om gK (qz (by simp;ext) λx a=>by
  obtain⟨i,_,rfl⟩:=nr.mp a
  exact vB (by
   have:(aX n (g i)).length<=n:=by unfold aX;rw[qx];exact oh (Ef _ _) (by simp)
   ext)) s
def kI(k:Nat)(d:D):Prop:=∃x,py d=J x/\y_ d<=k/\x.canLay0=I/\x.depth<=k
def p5:kI k (.int i):=⟨.int i,rfl,by simp[y_],rfl,by simp[PyData.depth]⟩
def Dk(h:∀d∈a,kI k d):∃xs,Eb a=J xs/\qp a<=k/\PyData.canLayAll0 xs=I/\PyData.depthAll xs<=k:=by
 induction a with
 |nil=>exact⟨[],rfl,by simp[qp],rfl,by simp[PyData.depthAll]⟩
 |cons d a u =>
  obtain⟨xs,i,C,l,z⟩:=u λd hd=>h d (ml _ hd);obtain⟨x,j,y,f,B⟩:=h d (by simp);exact⟨x::xs,by simp[Eb,i,j],by simp only[qp];ext,by simp[PyData.canLayAll0,l,f],by simp only[PyData.depthAll];ext⟩
def jy(h:∀d∈f,kI k d):kI (k+1) (.tup f):=by obtain⟨xs,a,l,i,j⟩:=Dk h;exact⟨.tuple xs,by simp[py,a],by simp only[y_];ext,by simpa [PyData.canLay0]using i,by simp only[PyData.depth];ext⟩
def Dt:kI (k+1) (nD t b):=jy λd hd=>by
 simp only[nw,Fa,or_false]at hd;rcases hd with rfl|rfl<;>exact p5
def AH(h:kI 60 d):C0 neg d d=J (.bl (!neg)):=by obtain⟨x,i,f,a,j⟩:=h;unfold C0;rw[i];dsimp only;rw[c_ ⟨⟨f,f⟩,j4 a (by ext),j4 a (by ext)⟩,SeqAt.eqv_refl x a];cases neg<;>rfl
def HD:kI 60 (pu n g):=by
 have f:∀p:Pt,kI 2 (jj p):=λp=>jy λd hd=>by
  simp only[nw,Fa,or_false]at hd;rcases hd with rfl|rfl
  .exact p5
  .exact Dt
 have mono:∀{k m:Nat}{d:D},k<=m->kI k d->kI m d:=λ{k m d} h ⟨x,a,b,c,e⟩=>⟨x,a,oh b h,c,oh e h⟩;refine mono (show 5<=60 by decide) (jy λd hd=>?_);simp only[nw,Fa,or_false]at hd;rcases hd with rfl|rfl
 .exact p5
 .refine jy λd hd=>?_;obtain⟨i,_,rfl⟩:=nr.mp hd;refine jy λd hd=>?_;obtain⟨p,_,rfl⟩:=nr.mp hd;exact f p
def pJ:cU.p [.int i] s=.ok (.bl I) s:=by rw[yE (by rfl)];unfold iD;have e1:(bL ["int"]).p (.int i)=J (.bl I):=rfl;have e2:(bL ["bool"]).p (.int i)=J (.bl T):=rfl;rw[show lw 1 [D.int i]=[J (.int i)]from rfl];simp only[bJ,oz,lK,ag,Pb,e1,e2,Pf,PR.bl,if_true,GP,Bool.not_false,Pg,PU.bH]
def IV(y:q≠0)(E:sz q<=900000):cF.p [qD q] s=.ok (.bl I) s:=by
 have i:h_.p (qD q) (.int 0)=J (.int q.num):=rfl;have f:h_.p (qD q) (.int 1)=J (.int (q.den:Int)):=rfl;have l:(bL ["tuple"]).p (qD q)=J (.bl I):=rfl;have j:b7.p [qD q]=J (.int 2):=rfl;have C:¬q.num=0:=λz=>y (Rat.num_eq_zero.mp z);have u:=q.den_nz;have a:=jv (t:=q.num) (s:=s) u (bB q) ⋯;rw[Rat.num_divInt_den]at a;rw[sP (by rfl)];unfold eB;rw[show lw 1 [qD q]=[J (qD q)]from rfl,aB,bq];simp only[im,cN,bM,lK,ag,Pb,l,Pf,Pl,Eg,wy,if_false,aD,bC,ah,au,j,bf,aR,d4,cV,decide_true,if_true,i,f,aE,pJ,Pg,bo,PU.aw];have B:OF.p (.int (q.den:Int)) (.int 0)=J (.bl I):=by simp;lia
 simp only[bJ,oz,aD,ag,bf,aR,Pb,i,f,Pf,d4,cV,C,decide_false,Bool.not_false,if_true,Pl,B,aE,ah,au,a,gB,p7,decide_true,wy,if_false,Pg,PU.bH]
structure RU(ls:WQ)(ps:List Pt):Prop where
 ris:(ps.map (·.1)).Pairwise (·<·)
 inn:∀p∈ps,p.1∈ls/\p.2≠0/\sz p.2<=900000
def IW:∀(f:List Pt)(a:Int)(z:WG),RU ls f->(∀p∈f,a<(p.1:Int))->∃y i,Ei (h8 3:Xg []).p Uq.p (f.map jj) [P,J (j_ ls),J (.int a),z] s=.nx [P,J (j_ ls),y,i] s
 |[],a,z,_,_=>⟨_,_,rfl⟩
 |p::f,a,z,h,l=>by
  obtain⟨H,E,G⟩:=h.inn p (by simp);have hr:=QR.mp h.ris;obtain⟨y,i,e⟩:=IW (P:=P) (ls:=ls) (s:=s) f (p.1:Int) (J (jj p)) ⟨hr.2,λq hq=>h.inn q (ml _ hq)⟩ λq hq=>by
   have:p.1<q.1:=hr.1 q.1 (nr.mpr ⟨q,hq,rfl⟩)
   lia
  have j:h_.p (jj p) (.int 0)=J (.int (p.1:Int)):=rfl;have F:h_.p (jj p) (.int 1)=J (qD p.2):=rfl;have C:(bL ["tuple"]).p (jj p)=J (.bl I):=rfl;have B:b7.p [jj p]=J (.int 2):=rfl;have L:=l p (by simp);have le:OE.p (.int (p.1:Int)) (.int a)=J (.bl T):=by simp;lia
  have u:E5 I (.int (p.1:Int)) (j_ ls)=J (.bl T):=by
   rw[nU (xs:=ls.map λ(x:Nat)=>(x:Int)) (by rw[qo];rfl)]
   have:(p.1:Int)∈ls.map λ(x:Nat)=>(x:Int):=nr.mpr ⟨p.1,H,rfl⟩
   simp only[this,decide_true,Eg,if_true]
  refine⟨y,i,?_⟩;rw[k_,eW (show(h8 3:Xg []).p (jj p) [P,J (j_ ls),J (.int a),z]=J [P,J (j_ ls),J (.int a),J (jj p)]from rfl)];have b:Uq.p [P,J (j_ ls),J (.int a),J (jj p)] s=.nx [P,J (j_ ls),J (.int (p.1:Int)),J (jj p)] s:=by rw[aB,bq];simp![im,cN,bM,lK,C,Pf,Pl,Eg,wy,if_false,aD,bC,ah,au,B,bf,aR,d4,cV,decide_true,if_true,j,aE,pJ,zH,u,Pg,bo,PU.aw];rw[aB,bq];simp![im,cN,bM,Pf,Pl,Eg,wy,if_false,aD,ah,au,bf,aR,j,F,le,aE,IV E G,Pg,bo,PU.aw];simp![aS,aD,bf,aR,j,Pf,Pg,zJ,yT]
  rw[b];exact e
def Az(h:RU ls ps):dA.p [.tup (ps.map jj),j_ ls] s=.ok (.bl I) s:=by
 obtain⟨y,z,e⟩:=IW (P:=J (.tup (ps.map jj))) (s:=s) ps (-1) Y h (λp _=>by lia);have a:(bL ["tuple"]).p (.tup (ps.map jj))=J (.bl I):=rfl;have f:sy.p (.int 1)=J (.int (-1)):=rfl;rw[sJ (by rfl)];unfold eK;rw[show lw 4 [.tup (ps.map jj),j_ ls]=[J (.tup (ps.map jj)),J (j_ ls),Y,Y]from rfl]
 simp_all
def Me{ns:WQ}{k:Nat}(a:k<ns.length):gQ (ns.map inD') (J ((k:Int)+1)) Y=(ns.drop (k+1)).map inD':=by unfold gQ;rw[HT.lW,qx,show(k:Int)+1=((k+1:Nat):Int) by lia,HT.oJ,QY ⋯,<-MD];exact QK (by simp)
structure VZ(ns:WQ)(k:Nat)(w:Wk):Prop where
 v:ns[k]?=J w.v
 p:w.p≠0/\sz w.p<=900000
 r:RU (ns.drop (k+1)) w.r
 c:RU (ns.drop (k+1)) w.c
def Qf{ns:WQ}{ws:List Wk}{s:e_}(M:ws.length=ns.length)(O:ns.length<=12)(S:∀(k:Nat) w,ws[k]?=J w->VZ ns k w):fF.p [.lst (ws.map n8),j_ ns] s=.ok (.bl I) s:=by
 obtain⟨B,f,e,u,y,a,rfl,rfl⟩:=dR (g:=(p_ (ki (h8 2) (ki (h8 3) p6)) 2:Xg []).p) (b:=VR.p)
  (λj env f=>∃u y a,env=[J (.lst (ws.map n8)),J (j_ ns),u,y,a]/\f=s) (aY (ns.map inD')) 0 [J (.lst (ws.map n8)),J (j_ ns),Y,Y,Y] s ⟨Y,Y,Y,rfl,rfl⟩ (λk env f d l hd=>by
   obtain⟨u,y,a,W,P⟩:=l;subst P;subst W;obtain⟨v,hv,rfl⟩:∃v,ns[k]?=J v/\d=.tup [inD' k,inD' v]:=by
    unfold aY at hd;rw[se,Nd,se]at hd
    cases q:ns[k]? with
    |none=>rw[q]at hd;cases hd
    |some v=>rw[q]at hd;simp at hd;exact⟨v,rfl,hd.symm⟩
   have U:=(pf.mp hv).1;obtain⟨w,C⟩:∃w,ws[k]?=J w:=⟨ws[k]'⋯,yZ _⟩;have ok:=S k w C;have L:w.v=v:=by have:=ok.v;rw[hv]at this;injection this with this;exact this.symm
   have e0:o_ (ws.map n8) (k:Int)=J (n8 w):=L2.bZ (by simp[C]);have i:(bL ["tuple"]).p (n8 w)=J (.bl I):=rfl;have H:b7.p [n8 w]=J (.int 4):=rfl;have X:h_.p (n8 w) (.int 0)=J (.int (w.v:Int)):=rfl;have R:h_.p (n8 w) (.int 1)=J (qD w.p):=rfl;have Q:h_.p (n8 w) (.int 2)=J (.tup (w.r.map jj)):=rfl;have E:h_.p (n8 w) (.int 3)=J (.tup (w.c.map jj)):=rfl;have ct:=Me U;refine⟨[J (.lst (ws.map n8)),J (j_ ns),J (inD' k),J (inD' v),a],[J (.lst (ws.map n8)),J (j_ ns),J (inD' k),J (inD' v),J (n8 w)],f,rfl,?_,_,_,_,rfl,rfl⟩;rw[aB,aS];simp![aD,d7,e0,Pf,Pg,zJ,yT,PU.aw];rw[aB,bq];simp![im,cN,bM,lK,i,Pf,Pl,Eg,wy,if_false,aD,bC,ah,au,H,bf,aR,d4,cV,decide_true,if_true,X,aE,pJ,L,Pg,bo,PU.aw];rw[aB,bq];simp![im,cN,bM,Pf,Pl,Eg,wy,if_false,aD,ah,au,bf,aR,R,Q,aE,IV ok.p.1 ok.p.2,zq,yC,zK,fi,zS,ct,Az ok.r,Pg,bo,PU.aw];rw[bq]
   simp![cN,bM,Pf,Pl,Eg,wy,if_false,aD,ah,au,bf,aR,E,aE,zq,yC,zK,fi,zS,ct,Az ok.c,Pg,bo])
 have i:(bL ["list"]).p (.lst (ws.map n8))=J (.bl I):=rfl;have F:b7.p [.lst (ws.map n8)]=J (.int (ns.length:Int)):=by simp[M]
 have G:b7.p [j_ ns]=J (.int (ns.length:Int)):=by simp
 rw[wo (by rfl)];unfold fA;rw[show lw 5 [.lst (ws.map n8),j_ ns]=[J (.lst (ws.map n8)),J (j_ ns),Y,Y,Y]from rfl,aB,bq];simp![im,cN,bM,lK,i,Pf,Pl,Eg,wy,if_false,aD,bC,ah,au,F,G,d4,cV,decide_true,if_true,Pg,bo,PU.aw];rw[aB,dW,dS,ah];refine(congrArg (λz:PS=>(z.then _).fin) e).trans ?_;rfl
def El.wok(h:El n z ns g)(B:z<=150000):∀(k:Nat) w,((List.range n).map (hI n ns g))[k]?=J w->VZ ns k w:=λk w e=>by
 have j:k<n:=by have:=(pf.mp e).1;simpa using this
 rw[se,Jt j]at e;cases e;have o:=h.o;have pv:=h.pv k j;have ris:∀(p:Nat->Bool)(f:Nat->Rat),((((tt n ns k).filter p).map λi=>((i,f i):Pt)).map (·.1)).Pairwise (·<·):=λp f=>by
  rw[Ah];exact rP.sublist Nf
 refine⟨bu o j,⟨pv,?_⟩,⟨ris _ _,λq hq=>?_⟩,⟨ris _ _,λq hq=>?_⟩⟩
 .have:=h.si k (d_ ns k) (d_ ns k) ⋯
  show sz (av ns g k (d_ ns k) (d_ ns k))<=_;lia
 .have y:=(Em.w_r h j q (ml _ hq)).2;obtain⟨i,l,rfl⟩:=nr.mp hq;obtain⟨u,a⟩:=zN.mp l;exact⟨(cu o).mp u,by simpa using a,⋯⟩
 .have y:=(Em.w_c h j q (ml _ hq)).2;obtain⟨i,l,rfl⟩:=nr.mp hq;obtain⟨u,a⟩:=zN.mp l;have a:av ns g k i (d_ ns k)≠0:=by simpa using a
  refine⟨(cu o).mp u,λz=>a ?_,⋯⟩
  grind
def nR{Q:Rat->Prop}{g:D->aC->Option aC}{t:aC->e_->PR Bool}{e:aC->e_->PR D}(S:aC->Prop):∀(l:WQ)(env:aC)(s:e_),S env ->
  (∀x∈l,∀env s,S env->∃a,g (inD' x) env=J a/\S a/\∃b z,t a s=.ok b z/\(b=I->∃q B,e a z=.ok (jj (x,q)) B/\Q q)) ->
  ∃(j:List Pt)(L:e_),dN g t e (l.map inD') env s=.ok (j.map jj) L/\(j.map (·.1)).Sublist l/\∀p∈j,Q p.2
 |[],env,s,G,f=>⟨[],s,rfl,List.Sublist.slnil,λ_ h=>nomatch h⟩
 |x::l,env,s,G,f=>by
  obtain⟨a,e1,u,b,z,e2,e3⟩:=f x (by simp) env s G;have i:=λy H=>f y (ml x H);rw[k_,dN,e1];dsimp only;rw[e2,Pb]
  cases b with
  |true =>
   obtain⟨q,B,e4,hq⟩:=e3 rfl;obtain⟨j,E,e5,F,C⟩:=nR S l a B u i;refine⟨(x,q)::j,E,by simp only[if_true,e4,Pb,e5,k_],F.cons_cons _,λp h=>?_⟩;rcases nw.mp h with rfl|h
   .exact hq
   .exact C p h
  |false =>
   obtain⟨j,E,e5,F,C⟩:=nR S l a z u i;exact⟨j,E,by simp only[wy,if_false,e5],F.cons _,C⟩
def sF:Cr (l::ls) f=if f l=0 then Cr ls f else(l,f l)::Cr ls f:=by
 unfold Cr;by_cases h:f l=0
 .simp[h]
 .simp[h]
def qJ:∀{f:WQ}{a:List Pt},f.Nodup->(a.map (·.1)).Sublist f->Cr f (io a)=a.filter λp=>!decide (p.2=0)
 |[],a,_,h=>by
  have:a=[]:=by simpa using List.sublist_nil.mp h
  subst this;rfl
 |l::f,[],nd,h=>by
  rw[sF];exact qJ (vz.mp nd).2 (List.nil_sublist _)
 |l::f,p::a,nd,h=>by
  rw[vz]at nd;have u:=h;by_cases e:p.1=l
  .subst e;have i:=(List.cons_sublist_cons).mp u;have c0:io (p::a) p.1=p.2:=by rw[bi,c_ rfl]
   have B:=qJ nd.2 i;have C:Cr f (io (p::a))=Cr f (io a):=uP λj y=>by
    rw[bi,g_ (λe:p.1=j=>nd.1 (by rw[e];exact y))]
   rw[sF]
   grind
  .have i:(p.1::a.map (·.1)).Sublist f:=by
    cases u with
    |cons _ s=>exact s
    |cons_cons _ s=>exact absurd rfl e
   have z:io (p::a) l=0:=cA λm=>nd.1 (i.subset (by exact m));rw[sF,c_ z];exact qJ nd.2 i
abbrev bP(n:Nat)(f:Nat->Rat):D:=.tup ((aX n f).map jj)
def Qg{n i:Nat}{sm:Int}{rs:D}{z5:WG}{s:e_}(hn:n<=12)(R:0<sm)(h1:sm<=4):∃(a:List Pt)(l:e_),VO.p [J .pen,J (.int (n:Int)),J (.int sm),J rs,J (inD' i),z5] s=.ok (.lst (a.map jj)) l/\(a.map (·.1)).Sublist (List.range n)/\∀p∈a,sz p.2<=20:=by
 have P:∀{x y:D}{s:e_},(if [x,y].length<=100000 then PR.ok (D.tup [x,y]) s else .bad)=.ok (.tup [x,y]) s:=λ{x y s}=>c_ (by simp);have S:∀{x y:D}{s:e_},(if [x,y].length<=100000 then PR.ok (D.lst [x,y]) s else .bad)=.ok (.lst [x,y]) s:=λ{x y s}=>c_ (by simp)
 obtain⟨a,l,e,O,M⟩:=nR (Q:=λq=>sz q<=20) (g:=(h8 0:Xg []).p) (t:=(xB (af GH (az bK (ae (aa 1) (ae (af h_ (d9 (ae (aa 2) (ae (xC (.int 4)) a_))) (m_ qe (ae (af Dl (aa 0) (aa 3)) a_))) a_))) (af h_ (d9 (ae (xC (.int 1)) (ae (xC (.int 3)) a_))) (m_ qe (ae (af Dl (aa 0) (aa 3)) a_)))):Xt []).p) (e:=(bt (ae (aa 0) (ae (az cP (ae (aa 1) a_)) a_)):Xe []).p) (λv=>∃z,v=z::[J .pen,J (.int sm),J (inD' i)]) (List.range n) (Y::[J .pen,J (.int sm),J (inD' i)]) s ⟨Y,rfl⟩ (λx hx B s j=>by
  obtain⟨z,X⟩:=j;subst X;have U:C0 T (inD' x) (inD' i)=J (.bl (decide ((x:Int)=(i:Int)))):=by rw[cV];rfl
  obtain⟨f,G,Z,em,C,b1⟩:∃z m:Int,h_.p (.lst [.int sm,.int 4]) (.int (if decide ((x:Int)=(i:Int))=I then 1 else 0))=J (.int z)/\h_.p (.lst [.int 1,.int 3]) (.int (if decide ((x:Int)=(i:Int))=I then 1 else 0))=J (.int m)/\0<z/\z<=4:=by
   by_cases y:(x:Int)=(i:Int)
   .exact⟨4,3,by rw[decide_eq_true y];rfl,by rw[decide_eq_true y];rfl,by decide,by decide⟩
   .exact⟨sm,1,by rw[decide_eq_false y];rfl,by rw[decide_eq_false y];rfl,R,h1⟩
  obtain⟨d,u,d0,d1,H⟩:=eE (s:=s) (size:=f) C ⋯;refine⟨_,rfl,⟨J (inD' x),rfl⟩,decide (d<G),u,?_,λ_=>?_⟩
  .simp![bM,aD,aE,ah,yT,gJ,bf,aR,au,S,bC,gB,U,Pf,Lg,Z,H,em,BC,Pl]
  .obtain⟨q,F,E,hq⟩:=vW (s:=u)
   exact⟨q,F,by simp![cj,ah,yT,aE,au,E,P],hq⟩)
 refine⟨a,l,?_,O,M⟩;rw[lq,dS,ah];simp![au];rw[lM ⋯,Eu,Pf,Pb,c_ (by simp[dw];lia)];have L:dw 0 n=(List.range n).map inD':=by simp[dw]
 rw[L];have W:w_ 1 [0,2,4] [J D.pen,J (.int (n:Int)),J (.int sm),J rs,J (inD' i),z5]=Y::[J .pen,J (.int sm),J (inD' i)]:=rfl;rw[W,e]
structure RV(n:Nat)(ps:List Pt):Prop where
 sub:(ps.map (·.1)).Sublist (List.range n)
 sz:∀p∈ps,sz p.2<=20
abbrev Na(n:Nat)(sm:Int)(fs:List (List Pt))(z4 z5:WG):aC:=[J .pen,J (.int (n:Int)),J (.int sm),J (.lst (fs.map λps=>bP n (io ps))),z4,z5]
def rw_b{n i:Nat}{sm:Int}(C:n<=12)(H:0<sm)(L:sm<=4)(hf:fs.length<=100):
  ∃(a:List Pt)(u:WG)(F:e_),Uo.p (Na n sm fs (J (inD' i)) z5) s=.nx (Na n sm (fs++[a]) (J (inD' i)) u) F/\RV n a:=by
 have E:∀{x y:D}{s:e_},(if [x,y].length<=100000 then PR.ok (D.tup [x,y]) s else .bad)=.ok (.tup [x,y]) s:=λ{x y s}=>c_ (by simp);obtain⟨a,f,e1,j,B⟩:=Qg (i:=i) (sm:=sm) (rs:=.lst (fs.map λa=>bP n (io a))) (z5:=z5) (s:=s) C H L;refine⟨a,J (.lst (a.map jj)),f,?_,j,B⟩;have O:a.length<=n:=by have:=j.length_le;simpa using this
 have q:=qE (ws:=[3]) (ws':=[]) (env:=Na n sm fs (J (inD' i)) (J (.lst (a.map jj)))) (s:=f) (s0:=f) (fm:=[]) (i:=bc (aa 5)) (t:=xB (af xg (af h_ (aa 1) (xC (.int 0))) (xC (.int 0)))) (e:=bt (ae (aa 0) (ae (aa 1) a_))) (l:=a) (λp=>inD' p.1) (λp=>qD p.2) jj (λp=>!decide (p.2=0)) (by
  simp![cM,sZ,Pf]) ⋯ (λp j=>⟨by
   have M:h_.p (qD p.2) (.int 0)=J (.int p.2.num):=rfl;have G:(p.2.num=0)↔p.2=0:=Rat.num_eq_zero;simp![bM,aD,bf,aR,M,Pf,d4,cV,if_true,Pl];congr 2;exact decide_eq_decide.mpr G,λ_=>by
   simp![cj,ah,au,E]⟩)
 have z:bP n (io a)=.tup ((a.filter λp=>!decide (p.2=0)).map jj):=by rw[<-qJ Fb j];rfl
 rw[aB,aS,e1,Pg];dsimp![PU.aw]
 rw[jm (s1:=f) (as:=[bP n (io a)]) (ds:=fs.map λa=>bP n (io a)) (ds':=(fs.map λa=>bP n (io a))++[bP n (io a)]) (r:=.non) (by
  rw[ah,bC,ah,q]
  simp only[Pb,au,g8,Pf,z]) rfl (jT (by simp;lia))]
 unfold Na;rw[Fc];rfl
abbrev gF(fs:List (List Pt))(i:Nat):Nat->Rat:=io (fs.getD i [])
def yc{fs:List (List Pt)}{i:Nat}:fs.getD i []=[]\/fs.getD i []∈fs:=by
 rw[HZ]
 cases e:fs[i]? with
 |none=>exact .inl rfl
 |some x=>exact .inr (x3 e)
def xD:io ps j=0\/∃p∈ps,p.2=io ps j:=by
 induction ps with
 |nil=>exact .inl rfl
 |cons p ps i =>
  rw[bi];split
  .exact .inr ⟨p,by simp,rfl⟩
  .rcases i with h|⟨q,f,a⟩
   .exact .inl h
   .exact .inr ⟨q,ml _ f,a⟩
def Mf(h:∀q∈f,sz q<=20):M_ f<=20*f.length:=by
 induction f with
 |nil=>exact l_ _
 |cons q f j =>
  have a:=h q (by simp);have b:=j λx i=>h x (ml _ i);rw[CC,DR];lia
def yx{f:List Rat}{e:Nat}(G:20*f.length+21<=e)(h:∀q∈f,sz q<=20):∃E:Nat,E≠0/\E<2^e/\∀q,q=0\/q∈f->∃a:Int,q=Rat.divInt a E/\a.natAbs<2^e:=by
 have y:=A4 f 1 1 (by decide);have C:=rR f 1 (by decide);have F:=Mf h;have i:pK 1 f<2^(20*f.length+1):=t_ y (H4 (by decide) ⋯);refine⟨pK 1 f,⋯,t_ i (H4 (by decide) ⋯),λq hq=>?_⟩;rcases hq with rfl|j
 .exact⟨0,(Rat.zero_divInt _).symm,Nat.two_pow_pos e⟩
 .obtain⟨c,l⟩:=(xj f 1).2 _ j;refine⟨q.num*c,?_,?_⟩
  .rw[l,Mz,Rat.divInt_mul_right λz=>by
    lia]
   exact(Rat.num_divInt_den q).symm
  .have B:=t_ (cg q) (H4 (by decide) (h _ j));have u:=bN B (QS (Nat.le_mul_of_pos_left c q.den_pos) (by rw[<-l];exact i));rw[FD];exact t_ u (H4 (by decide) ⋯)
def Qh{n:Nat}{fs:List (List Pt)}(Q:n<=4)(C:fs.length=n)(h:∀f∈fs,RV n f):Sh n (gF fs):=by
 constructor
 .lia
 .intro i j B;rcases yc (fs:=fs) (i:=i)with e|e
  .unfold gF;rw[e];rfl
  .by_cases H:i<n
   .exact cA λm=>B ⟨H,by simpa using(h _ e).sub.subset m⟩
   .unfold gF;rw[HZ,Di ⋯];rfl
 .have y:∀l:List (List Pt),(∀f∈l,RV n f)->((l.flatten).map (·.2)).length<=4*l.length/\∀q∈(l.flatten).map (·.2),sz q<=20:=λl=>by
   induction l with
   |nil=>intro _;exact⟨l_ _,λq hq=>nomatch hq⟩
   |cons f l F =>
    intro C;obtain⟨a,b⟩:=F λx G=>C x (ml _ G);have o:=C f (by simp)
    have:f.length<=n:=by have:=o.sub.length_le;simpa using this
    rw[List.flatten_cons,Fc];refine⟨by rw[Fz,qx,DR];lia,λq hq=>?_⟩;rcases DY.mp hq with hq|hq
    .obtain⟨p,u,rfl⟩:=nr.mp hq;exact o.sz p u
    .exact b q hq
  obtain⟨kl,L⟩:=y fs h;obtain⟨E,O,M,P⟩:=yx (e:=350) ⋯ L;refine⟨E,O,M,λi j=>P _ ?_⟩;rcases xD (ps:=fs.getD i []) (j:=j)with z|⟨p,u,e⟩
  .exact .inl z
  .refine .inr ?_;show io (fs.getD i []) j∈_;rw[<-e];refine nr.mpr ⟨p,List.mem_flatten.mpr ⟨fs.getD i [],?_,u⟩,rfl⟩;rcases yc (fs:=fs) (i:=i)with e|e
   .rw[e]at u;cases u
   .exact e
def BR{n:Nat}{fs:List (List Pt)}(j:fs.length=n):(fs.map λa=>bP n (io a))=(List.range n).map λi=>bP n (gF fs i):=by
 apply E_;intro k;by_cases f:k<n
 .rw[se,se,Jt f]
  grind
 .rw[Di (by simp;lia),Di (by simp;lia)]
def w9{n m:Nat}{f:Nat->D}{d:D}(hd:(aY ((List.range n).map f))[m]?=J d):m<n/\d=.tup [inD' m,f m]:=by
 unfold aY at hd;rw[se,Bi]at hd;obtain⟨p,a,rfl⟩:=hd;rw[Nd,Bi]at a;obtain⟨x,i,rfl⟩:=a;rw[se,Bi]at i;obtain⟨y,j,rfl⟩:=i;have l:=(pf.mp j).1
 simp_all
def Mh{n:Nat}{s:e_}(X:n<=6):∃g B,jO.p [.pen,.int (n:Int)] s=.ok (.tup ((List.range n).map λi=>bP n (g i))) B/\(n<=4->Sh n g):=by
 obtain⟨a,H,S,Z,Q⟩:=eE (s:=s) (size:=4) (by decide) (by decide);obtain⟨G,M,e,fs,C,u,rfl,l,F⟩:=dR (g:=(h8 4:Xg [3]).p) (b:=Uo.p)
  (λj env B=>∃fs C u,env=Na n (1+a) fs C u/\(fs:List (List Pt)).length=j/\∀y∈fs,RV n y) (dw 0 n) 0 (Na n (1+a) [] Y Y) H ⟨[],_,_,rfl,rfl,λ_ h=>nomatch h⟩ (λi env B d E hd=>by
   obtain⟨fs,C,u,R,l,F⟩:=E;subst R;obtain⟨rfl,U⟩:=wJ hd;obtain⟨y,W,P,e,o⟩:=rw_b (n:=n) (i:=i) (sm:=1+a) (fs:=fs) (z5:=u) (s:=B) ⋯ ⋯ ⋯ ⋯;refine⟨_,_,P,rfl,e,fs++[y],_,_,rfl,by simp[l],λx f=>?_⟩;rcases DY.mp f with f|f
   .exact F x f
   .have:x=y:=by simpa using f
    subst this;exact o)
 rw[p8,ER]at l;refine⟨gF fs,M,?_,λL=>Qh L l F⟩;have O:=BR l;rw[Af (by rfl)];unfold jC;rw[show lw 6 [D.pen,.int (n:Int)]=[J .pen,J (.int (n:Int)),Y,Y,Y,Y]from rfl,aB,aS];dsimp![aD,bf,aR,Pb,aE,ah,ag,au,Q,fi,Pf,Pg];rw[aB,hW];dsimp![gJ,au,Pb,FC,Eo,if_true,ju,Pg];rw[aB,dW,dS,ah];simp![au];rw[lM ⋯,Eu,Pf,Pg];refine(congrArg (λz:PS=>(z.then _).fin) e).trans ?_;rw[PU.aw];simp![bJ,bC,ah,au,g8,Pf,O,Pg,PU.bH]
def kr(a:List Pt)(x:Nat->Rat):Rat:=(a.map λp=>p.2*x p.1).sum
def gw:kr (p::ps) x=p.2*x p.1+kr ps x:=by simp[kr]
def vn(n:Nat)(f x:Nat->Rat):Rat:=((List.range n).map λj=>f j*x j).sum
def eV:vn (n+1) f x=vn n f x+f n*x n:=by unfold vn;rw[List.range_succ,Fc,List.sum_append,k_,EZ,Eh,Q2];grind
def fX:vn 0 f x=0:=rfl
def sQ:∀n,vn n (λj=>f j-c*h j) x=vn n f x-c*vn n h x
 |0=>by rw[fX,fX,fX];grind
 |n+1=>by rw[eV,eV,eV,sQ n];grind
def xO:∀n,vn n (λj=>f j+h j) x=vn n f x+vn n h x
 |0=>by rw[fX,fX,fX];grind
 |n+1=>by rw[eV,eV,eV,xO n];grind
def xG:∀n,vn n (λj=>if a=j then q else 0) x=if a<n then q*x a else 0
 |0=>by rw[fX,g_ ⋯]
 |n+1=>by
  rw[eV,xG n];by_cases e:a=n
  .subst e;rw[g_ ⋯];grind
  .grind
def mZ(e:∀j,j<n->f j=h j):vn n f x=vn n h x:=by unfold vn;rw[Et λj a=>by rw[e j (zl.mp a)]]
def IY:∀n,vn n (λ_=>0) x=0
 |0=>rfl
 |n+1=>by rw[eV,IY n];grind
def wm:∀{ps:List Pt},(ps.map (·.1)).Nodup->(∀p∈ps,p.1<n)->vn n (io ps) x=kr ps x
 |[],_,_=>by
  rw[mZ λj _=>dJ];rw[IY];rfl
 |p::ps,nd,a=>by
  rw[k_,vz]at nd;have e:vn n (io (p::ps)) x=vn n (λj=>(if p.1=j then p.2 else 0)+io ps j) x:=mZ λj _=>by
   rw[bi];by_cases z:p.1=j
   .rw[<-z,cA nd.1];grind
   .rw[g_ z,g_ z];grind
  rw[e,xO,xG,c_ (a p (by simp)),wm nd.2 λq hq=>a q (ml _ hq),gw]
def v5{f x:Nat->Rat}:∀(l:WQ),kr ((l.filter λj=>!decide (f j=0)).map λj=>(j,f j)) x=(l.map λj=>f j*x j).sum
 |[]=>rfl
 |j::l=>by
  have a:=v5 (f:=f) (x:=x) l;rw[k_,Eh];by_cases z:f j=0
  .rw[QJ (by simp[z]),a,z];grind
  .rw[QI (by simp[z]),k_,gw,a]
def HE:kr (aX n f) x=vn n f x:=v5 _
section
variable{n z:Nat}{ns:WQ}{g:Nat->Nat->Rat}
def El.row(h:El n z ns g)(a:k<n)(x:Nat->Rat):vn n (av ns g k (d_ ns k)) x=av ns g k (d_ ns k) (d_ ns k)*x (d_ ns k)+kr (hI n ns g k).r x:=by have d:=(Mb (g:=g) h.o a).r;have e:vn n (av ns g k (d_ ns k)) x=vn n (io (((hI n ns g k).v,(hI n ns g k).p)::(hI n ns g k).r)) x:=mZ λj _=>(Em.rw h a).symm;rw[e,wm (ps:=((hI n ns g k).v,(hI n ns g k).p)::(hI n ns g k).r) d λp f=>(h.w_r a p f).1];rfl
def El.cf(h:El n z ns g)(f:k<n):io (hI n ns g k).c i=if d_ ns k=i then 0 else av ns g k i (d_ ns k)/av ns g k (d_ ns k) (d_ ns k):=by
 have a:=h.cl (i:=i) f;have d:=vz.mp (Mb (g:=g) h.o f).c;by_cases e:d_ ns k=i
 .rw[c_ e,<-e];exact cA d.1
 .unfold Law.cl at a;rw[bi]at a;rw[g_ e];exact(g_ e).symm.trans a
def fw(n:Nat)(ns:WQ)(g:Nat->Nat->Rat)(b:Nat->Rat):Nat->Nat->Rat
 |0=>b
 |k+1=>λi=>fw n ns g b k i-io (hI n ns g k).c i*fw n ns g b k (d_ ns k)
def E9(v:Nat)(p:Rat)(r:List Pt)(x:Nat->Rat):Nat->Rat:=bj x v ((x v-kr r x)/p)
def bw(n:Nat)(ns:WQ)(g:Nat->Nat->Rat)(b:Nat->Rat):Nat->Nat->Rat
 |0=>fw n ns g b n
 |m+1=>E9 (d_ ns (n-1-m)) (av ns g (n-1-m) (d_ ns (n-1-m)) (d_ ns (n-1-m))) (hI n ns g (n-1-m)).r (bw n ns g b m)
abbrev sol(n:Nat)(ns:WQ)(g:Nat->Nat->Rat)(b:Nat->Rat):Nat->Rat:=bw n ns g b n
def yY(o:On n ns)(a:i<n)(f:j<n)(e:d_ ns i=d_ ns j):i=j :=
 (My (by rw[o.len];exact a) o.nd).mp ((bu o a).trans ((congrArg J e).trans (bu o f).symm))
def El.fw_st(h:El n z ns g)(j:k<n):∀d,k+d<=n->fw n ns g b (k+d) (d_ ns k)=fw n ns g b k (d_ ns k)
 |0,_=>rfl
 |d+1,hd=>by
  have y:=El.fw_st h (b:=b) j d ⋯;show fw n ns g b (k+d) (d_ ns k)-io (hI n ns g (k+d)).c (d_ ns k)*fw n ns g b (k+d) (d_ ns (k+d))=_;have c0:io (hI n ns g (k+d)).c (d_ ns k)=0:=by
   rw[h.cf ⋯];by_cases e:d_ ns (k+d)=d_ ns k
   .rw[c_ e]
   .rw[h.zero (k+d) ⋯ (d_ ns k) _ (.inl λm=>?_)]
    .grind
    .obtain⟨i,l,f⟩:=H_ m;rw[R8]at f;have u:=h.o.len;have a:k+d+i<n:=by simp at l;lia
     have:=yY h.o j a (by
      have q:=bu h.o a;rw[yZ ⋯,f]at q
      exact Option.some.inj q)
     grind
  grind
def fe(h:a≠j):bj f j q a=f a:=g_ h
def jp:bj f j q j=q:=c_ rfl
def AF(o:On n ns)(a:k<n):∀m,m+k<n->bw n ns g b m (d_ ns k)=fw n ns g b n (d_ ns k)
 |0,_=>rfl
 |m+1,f=>by
  show E9 _ _ _ _ _=_;unfold E9;rw[fe λe=>by have:=yY o a ⋯ e;lia];exact AF o a m ⋯
def qO(o:On n ns)(a:k<n):∀d,n-k+d<=n->bw n ns g b (n-k+d) (d_ ns k)=bw n ns g b (n-k) (d_ ns k)
 |0,_=>rfl
 |d+1,hd=>by
  show E9 (d_ ns (n-1-(n-k+d))) _ _ (bw n ns g b (n-k+d)) _=_;unfold E9;rw[fe λe=>by have:=yY o a ⋯ e;lia];exact qO o a d ⋯
def HF(o:On n ns)(h:x∈ns.drop k):∃l,k<=l/\l<n/\x=d_ ns l:=by
 obtain⟨i,f,e⟩:=H_ h;have j:=o.len;have a:k+i<n:=by simp at f;lia
 refine⟨k+i,⋯,a,?_⟩;have q:=bu o a
 simp_all
def Qi(h:q∈(hI n ns g k).r):q.1∈tt n ns k:=by have hr:=h;obtain⟨i,a,rfl⟩:=nr.mp hr;exact(zN.mp a).1
def v9(e:∀p∈a,x p.1=y p.1):kr a x=kr a y:=by unfold kr;rw[Et λp f=>by rw[e p f]]
def El.bck(h:El n z ns g)(a:k<n):vn n (av ns g k (d_ ns k)) (sol n ns g b)=fw n ns g b k (d_ ns k):=by
 have o:=h.o;have u:=h.pv k a;have e1:sol n ns g b (d_ ns k)=bw n ns g b (n-k) (d_ ns k):=by
  have:=qO (g:=g) (b:=b) o a k ⋯
  rwa [show n-k+k=n by lia]at this
 have e2:bw n ns g b (n-k) (d_ ns k)=(fw n ns g b k (d_ ns k)-kr (hI n ns g k).r (bw n ns g b (n-k-1)))/av ns g k (d_ ns k) (d_ ns k):=by
  have e:n-k=(n-k-1)+1:=by lia
  rw[e];show E9 _ _ _ _ _=_;rw[show n-1-(n-k-1)=k by lia];unfold E9;rw[jp,AF o a (n-k-1) ⋯]
  have:=h.fw_st (b:=b) a (n-k) ⋯
  rw[show k+(n-k)=n by lia]at this;rw[this,show n-k-1+1-1=n-k-1 by lia]
 have e3:kr (hI n ns g k).r (bw n ns g b (n-k-1))=kr (hI n ns g k).r (sol n ns g b):=v9 λq hq=>by
  obtain⟨l,y,f,e⟩:=HF o ((cu o).mp (Qi hq));rw[e];have i:=qO (g:=g) (b:=b) o f (l-k-1) ⋯;have j:=qO (g:=g) (b:=b) o f l ⋯;rw[show n-l+(l-k-1)=n-k-1 by lia]at i;rw[show n-l+l=n by lia]at j;exact i.trans j.symm
 rw[h.row a,e1,e2,e3]
 grind
def El.rows(h:El n z ns g):∀(m k:Nat),k+m=n->∀i,i∈ns.drop k->vn n (av ns g k i) (sol n ns g b)=fw n ns g b k i
 |0,k,y,i,u=>by
  have C:=h.o.len
  grind
 |m+1,k,y,i,u=>by
  have a:k<n:=by lia
  have bk:=h.bck (b:=b) a;by_cases e:i=d_ ns k
  .rw[e];exact bk
  .have j:i∈ns.drop (k+1):=by
    rw[bU (bu h.o a)]at u;exact(nw.mp u).resolve_left e
   have B:=El.rows h (b:=b) m (k+1) ⋯ i j;have l:vn n (av ns g (k+1) i) (sol n ns g b)=vn n (av ns g k i) (sol n ns g b)-av ns g k i (d_ ns k)/av ns g k (d_ ns k) (d_ ns k)*vn n (av ns g k (d_ ns k)) (sol n ns g b):=sQ n;have f:fw n ns g b (k+1) i=fw n ns g b k i-io (hI n ns g k).c i*fw n ns g b k (d_ ns k):=rfl;rw[f,h.cf a,g_ λz=>e z.symm]at B
   grind
def El.sol(h:El n z ns g)(a:i<n):vn n (g i) (sol n ns g b)=b i :=
 h.rows n 0 ⋯ i (by exact h.o.pm.mem_iff.mpr (zl.mpr a))
def El.one(h:El n z ns g)(e:∀i,i<n->vn n (g i) x=vn n (g i) y):∀i,i<n->x i=y i:=by
 have o:=h.o;have up:∀k,k<=n->∀i,i<n->vn n (av ns g k i) x=vn n (av ns g k i) y:=λk=>by
  induction k with
  |zero=>exact λ_=>e
  |succ k j =>
   intro u i a;have l:∀x,vn n (av ns g (k+1) i) x=vn n (av ns g k i) x-av ns g k i (d_ ns k)/av ns g k (d_ ns k) (d_ ns k)*vn n (av ns g k (d_ ns k)) x:=λx=>sQ n;rw[l,l,j ⋯ i a,j ⋯ _ (o.lt _ (x3 (bu o ⋯)))]
 have B:∀m k,k+m=n->∀i,i∈ns.drop k->x i=y i:=λm=>by
  induction m with
  |zero =>
   intro k u i a;have C:=o.len;rw[QL ⋯]at a;cases a
  |succ m j =>
   intro k u i a;have f:k<n:=by lia
   rw[bU (bu o f)]at a;have j:=j (k+1) ⋯;rcases nw.mp a with rfl|a
   .have q:=up k ⋯ (d_ ns k) (o.lt _ (x3 (bu o f)));have E:=h.pv k f;rw[h.row f,h.row f,v9 λq hq=>j q.1 ((cu o).mp (Qi hq))]at q
    grind
   .exact j i a
 exact λi a=>B n 0 ⋯ i (by exact o.pm.mem_iff.mpr (zl.mpr a))
end
abbrev DW(d:Nat)(x:Nat->Rat):Prop:=Ov d λi _=>x i
def Ov.mono(h:Ov d A)(le:d<=d'):Ov d' A:=by obtain⟨E,e0,e1,h⟩:=h;have p:2^d<=2^d':=H4 (by decide) le;refine⟨E,e0,t_ e1 p,λi j=>?_⟩;obtain⟨a,l,f⟩:=h i j;exact⟨a,l,t_ f p⟩
def V0{t b:Int}{D:Nat}(i:D≠0)(f:b≠0):∃a:Int,Rat.divInt t ((D:Int)*b)=Rat.divInt a ((D*b.natAbs:Nat):Int)/\a.natAbs=t.natAbs:=by refine⟨if(D:Int)*b<0 then -t else t,?_,by split<;>ext⟩;rw[Hs (MB (by ext) f),FD,Int.natAbs_natCast]
def oC{x y:Int}{d e:Nat}(a:x.natAbs<2^d)(f:y.natAbs<2^e):(x*y).natAbs<2^(d+e):=by rw[FD];exact bN a f
def Ww{a b q y D E:Rat}(i:D≠0)(j:E≠0)(f:b≠0):a/D-q/E/(b/E)*(y/D)=(a*b-q*y)/(D*b):=by grind
def Wz{a b y D:Rat}(i:D≠0)(f:b≠0):a/D-0*y=a*b/(D*b):=by grind
def WA{a b S D E:Rat}(f:D≠0)(i:E≠0):a/E*(b/D)+S/(E*D)=(a*b+S)/(E*D):=by grind
def WB{y S D E:Rat}(a:D≠0)(f:E≠0):y/D-S/(E*D)=(y*E-S)/(E*D):=by grind
def WC{a b D E:Rat}(i:D≠0)(j:E≠0)(f:b≠0):a/(E*D)/(b/E)=a/(D*b):=by grind
def WD{a b D:Rat}(i:D≠0)(f:b≠0):a/D=a*b/(D*b):=by grind
def Ov.fw{d e v:Nat}{x c:Nat->Rat}{A:Nat->Nat->Rat}(f:DW d x)(l:Ov e A)(hv:A v v≠0)(U:∀i,c i=0\/c i=A i v/A v v):DW (d+e+1) λi=>x i-c i*x v:=by
 obtain⟨D,O,Q,f⟩:=f;obtain⟨E,e0,e1,l⟩:=l;obtain⟨b,L,B⟩:=l v v;obtain⟨R,u,C⟩:=f v 0;have X:(E:Rat)≠0:=by
  have:E≠0:=by ext
  exact_mod_cast this
 have M:(D:Rat)≠0:=by
  have:D≠0:=by ext
  exact_mod_cast this
 have G:b≠0:=λz=>hv (by rw[L,z];simp);have H:(b:Rat)≠0:=by exact_mod_cast G
 refine⟨D*b.natAbs,FN O (by ext),by have:=bN Q B;ext,λi j=>?_⟩;obtain⟨a,P,F⟩:=f i 0;obtain⟨t,S,Z⟩:∃t:Int,x i-c i*x v=Rat.divInt t ((D:Int)*b)/\t.natAbs<2^(d+e+1):=by
  rcases U i with z|z
  .refine⟨a*b,?_,by have:=oC F B;ext⟩;rw[z,show x i=_ from P];simp only[Rat.divInt_eq_div];push_cast;exact Wz M H
  .obtain⟨q,W,hq⟩:=l i v;refine⟨a*b-q*R,?_,by have:=oC F B;have:=oC hq C;rw[Q3 e d]at this;ext⟩;rw[z,show x i=_ from P,show x v=_ from u,W,L];simp only[Rat.divInt_eq_div];push_cast;exact Ww M X H
 obtain⟨y,e1,e2⟩:=V0 O G;exact⟨y,S.trans e1,by ext⟩
def v7{d e D E:Nat}{x:Nat->Rat}(F:D≠0)(L:E≠0)(j:∀i,∃a:Int,x i=Rat.divInt a D/\a.natAbs<2^d):∀f:List Pt,(∀p∈f,∃a:Int,p.2=Rat.divInt a E/\a.natAbs<2^e)->∃S:Int,kr f x=Rat.divInt S ((E*D:Nat):Int)/\S.natAbs<=f.length*2^(e+d)
 |[],_=>⟨0,by rw[Rat.zero_divInt];rfl,by simp⟩
 |p::f,l=>by
  obtain⟨S,z,M⟩:=v7 F L j f λq hq=>l q (ml _ hq);obtain⟨a,H,u⟩:=l p (by simp);obtain⟨b,B,C⟩:=j p.1;have G:(E:Rat)≠0:=by simp_all
  have y:(D:Rat)≠0:=by
   have:D≠0:=by ext
   exact_mod_cast this
  refine⟨a*b+S,?_,?_⟩
  .rw[gw,z,H,B];simp only[Rat.divInt_eq_div];push_cast;exact WA y G
  .have:=oC u C
   rw[DR,Nat.add_mul];ext
def UC{d e:Nat}{v:Nat}(a:DW d x)(f:Ov e A)(hr:∀p∈r,p.2=A v p.1)(z:r.length<=12):sz (kr r x)<=d+e+4:=by
 obtain⟨D,j,l,a⟩:=a;obtain⟨E,e0,e1,f⟩:=f;obtain⟨S,u,C⟩:=v7 j e0 (λi=>a i 0) r λp y=>by rw[hr p y];exact f v p.1
 rw[u];have B:2^(d+e+4)=16*2^(e+d):=by rw[Q4,Q3 d e];ext
 have m:=Nat.mul_le_mul_right (2^(e+d)) z;have q:=Nat.two_pow_pos (e+d);exact iF (FN e0 j) (by ext) (by ext) (by have:=bN e1 l;ext)
def Qj{d e v:Nat}{x:Nat->Rat}{A:Nat->Nat->Rat}(l:DW d x)(B:Ov e A)(hv:A v v≠0){r:List Pt}(hr:∀p∈r,p.2=A v p.1)(M:r.length<=12):DW (d+e+4) (E9 v (A v v) r x)/\∀k,sz (x v-kr (r.take k) x)<=d+e+4:=by
 obtain⟨D,u,Q,l⟩:=l;obtain⟨E,e0,e1,B⟩:=B;obtain⟨b,U,W⟩:=B v v;obtain⟨xv,C,O⟩:=l v 0;have X:(E:Rat)≠0:=by
  have:E≠0:=by ext
  exact_mod_cast this
 have G:(D:Rat)≠0:=by
  have:D≠0:=by ext
  exact_mod_cast this
 have P:b≠0:=λz=>hv (by rw[U,z];simp);have R:(b:Rat)≠0:=by exact_mod_cast P
 have p2:2^(d+e+4)=16*2^(d+e):=by rw[Q4];ext
 have top:∀r:List Pt,(∀p∈r,p.2=A v p.1)->r.length<=12->∃f:Int,x v-kr r x=Rat.divInt f ((E*D:Nat):Int)/\f.natAbs<2^(d+e+4):=λr hr M=>by
  obtain⟨S,eS,hS⟩:=v7 u e0 (λi=>l i 0) r λp H=>by rw[hr p H];exact B v p.1
  have m:=Nat.mul_le_mul_right (2^(e+d)) M;rw[Q3 e d]at hS m;have hE:((E:Int)).natAbs<2^e:=by simpa using e1
  refine⟨xv*E-S,?_,by have:=oC O hE;ext⟩;rw[eS,show x v=_ from C];simp only[Rat.divInt_eq_div];push_cast;exact WB G X
 constructor
 .refine⟨D*b.natAbs,FN u (by ext),by have:=bN Q W;ext,λi j=>?_⟩;obtain⟨t,et,ht⟩:∃t:Int,E9 v (A v v) r x i=Rat.divInt t ((D:Int)*b)/\t.natAbs<2^(d+e+4):=by
   unfold E9;by_cases z:i=v
   .obtain⟨f,F,L⟩:=top r hr M;refine⟨f,?_,L⟩;rw[z,jp,F,U];simp only[Rat.divInt_eq_div];push_cast;exact WC G X R
   .obtain⟨a,ea,Z⟩:=l i 0;refine⟨a*b,?_,by have:=oC Z W;ext⟩;rw[fe z,show x i=_ from ea];simp only[Rat.divInt_eq_div];push_cast;exact WD G R
  obtain⟨y,e1,e2⟩:=V0 (t:=t) u P;exact⟨y,et.trans e1,by ext⟩
 .intro k;obtain⟨f,F,L⟩:=top (r.take k) (λp H=>hr p (R3 H)) (by rw[Jx];ext);rw[F];exact iF (FN e0 u) (by ext) L (by have:=bN e1 Q;rw[Q3 e d]at this;ext)
section
variable{n:Nat}{ns:WQ}{g:Nat->Nat->Rat}
def El.fw_ov(h:El n 120000 ns g)(f:Sh n g)(a:DW 300 b):∀k,k<=n->DW (300+ex k) (Law.fw n ns g b k)
 |0,_=>a.mono (by ext)
 |k+1,j=>by
  have:=Ov.fw (c:=io (hI n ns g k).c) (El.fw_ov h f a k (by ext)) (qX f.ov h.pv k (by ext)) (h.pv k (by ext)) λi=>by
   rw[h.cf (by ext)];by_cases e:d_ ns k=i
   .exact .inl (c_ e)
   .exact .inr (g_ e)
  exact this.mono (by show _<=300+(2*ex k+1);ext)
def El.r_av(h:El n 120000 ns g):∀p∈(hI n ns g k).r,p.2=av ns g k (d_ ns k) p.1:=λq hq=>by
 have hr:=hq;obtain⟨i,a,rfl⟩:=nr.mp hr;rfl
def IZ(o:On n ns):(hI n ns g k).r.length<=12:=by unfold hI Cr;rw[qx];exact oh (Ef _ _) (oO o)
def El.bw_ov(h:El n 120000 ns g)(a:Sh n g)(f:DW 300 b):∀m,m<=n->∃d,d+ex (n-m)=300+2*ex n+3*m/\DW d (bw n ns g b m)
 |0,_=>⟨300+ex n,by rw[Nat.sub_zero];ext,h.fw_ov a f n (l_ _)⟩
 |m+1,l=>by
  obtain⟨d,j,hd⟩:=El.bw_ov h a f m (by ext);have i:n-1-m<n:=by ext
  have:=(Qj hd (qX a.ov h.pv (n-1-m) (by ext)) (h.pv _ i) h.r_av (IZ h.o)).1
  refine⟨d+ex (n-1-m)+4,?_,this⟩;have e:ex (n-m)=2*ex (n-1-m)+1:=by rw[show n-m=(n-1-m)+1 by ext];rfl
  grind
def El.bw_le(h:El n 120000 ns g)(a:Sh n g)(f:DW 300 b)(i:m<=n):DW 250000 (bw n ns g b m):=by
 obtain⟨d,e,hd⟩:=h.bw_ov a f m i
 have:=(uw n a.n6).2
 have:=h.o.n12
 exact hd.mono (by ext)
end
abbrev ql(n:Nat)(x:Nat->Rat):D:=.lst ((List.range n).map λi=>qD (x i))
def md{n i:Nat}{x:Nat->Rat}(h:i<n):o_ ((List.range n).map λi=>qD (x i)) (i:Int)=J (qD (x i)):=L2.bZ (by simp[h])
def yL{n i:Nat}{x:Nat->Rat}(h:i<n):vR ((List.range n).map λi=>qD (x i)).length (i:Int)=J i:=by simp only[qx,EK];exact MM.gq h
def ww(h:i<n):((List.range n).map λi=>qD (x i)).set i (qD q)=(List.range n).map λa=>qD (bj x i q a):=by
 apply E_;intro a;by_cases f:a<n
 .by_cases e:i=a
  .subst e;simp[f,bj]
  .rw[qa e];simp[f,bj,Ne.symm e]
 .rw[Di (by simp;ext),Di (by simp;ext)]
abbrev DQ(n:Nat)(wk rt:D)(x:Nat->Rat)(z4 z5 z6 z7 z8 z9 z10 z11:WG):aC:=[J (.int (n:Int)),J wk,J rt,J (ql n x),z4,z5,z6,z7,z8,z9,z10,z11]
def RW(v:Nat)(a:List Pt)(x:Nat->Rat):Nat->Rat:=a.foldl (λx p=>bj x p.1 (x p.1-p.2*x v)) x
def AO:∀{a:List Pt}{x:Nat->Rat},(a.map (·.1)).Nodup->v∉a.map (·.1)->RW v a x i=x i-io a i*x v
 |[],x,_,_=>by show x i=_;rw[dJ];grind
 |p::a,x,nd,hv=>by
  rw[k_,vz]at nd;rw[k_,nw,not_or]at hv;show RW v a (bj x p.1 (x p.1-p.2*x v)) i=_;rw[AO nd.2 hv.2,fe hv.1,bi];by_cases e:p.1=i
  .subst e;rw[jp,cA nd.1];grind
  .rw[fe (Ne.symm e),g_ e]
def I_{n v:Nat}{j rt:D}{u l y f a:WG}{s:e_}(hv:v<n):∀(i:List Pt)(x:Nat->Rat)(B C:WG),(∀p∈i,p.1<n/\sz p.2+sz (x v)<=900000/\sz (x p.1)+sz (p.2*x v)<=900000)->(i.map (·.1)).Nodup->v∉i.map (·.1) ->
  ∃F E,Ei (p_ (ki (h8 8) (ki (h8 9) p6)) 2:Xg [3]).p P0.p (i.map jj) (DQ n j rt x (J (inD' v)) u l y B C f a) s=.nx (DQ n j rt (RW v i x) (J (inD' v)) u l y F E f a) s
 |[],x,B,C,_,_,_=>⟨B,C,rfl⟩
 |p::i,x,B,C,L,nd,G=>by
  obtain⟨H,U,S⟩:=L p (by simp);rw[k_,vz]at nd;rw[k_,nw,not_or]at G;have M:=vY (s:=s) U;have P:=vT (s:=s) S
  obtain⟨F,E,e⟩:=I_ hv i (bj x p.1 (x p.1-p.2*x v)) (J (inD' p.1)) (J (qD p.2)) (λq hq=>by
   obtain⟨R,O,Q⟩:=L q (ml _ hq);have ne:q.1≠p.1:=λz=>nd.1 (z▸nr.mpr ⟨q,hq,rfl⟩);rw[fe G.1,fe ne]
   exact⟨R,O,Q⟩) nd.2 G.2
  refine⟨F,E,?_⟩;have b:P0.p (DQ n j rt x (J (inD' v)) u l y (J (inD' p.1)) (J (qD p.2)) f a) s=.nx (DQ n j rt (bj x p.1 (x p.1-p.2*x v)) (J (inD' v)) u l y (J (inD' p.1)) (J (qD p.2)) f a) s:=by
   rw[qT,kP (v:=qD (x p.1-p.2*x v)) (s1:=s) (s2:=s) (n:=p.1) (by
    simp![aE,ah,aD,d7,md H,md hv,Pf,au,M,P]) (by simp only[aj,ag]) rfl (yL H),ww H]
   rfl
  rw[k_,eW (show(p_ (ki (h8 8) (ki (h8 9) p6)) 2:Xg [3]).p (jj p) (DQ n j rt x (J (inD' v)) u l y B C f a)=J (DQ n j rt x (J (inD' v)) u l y (J (inD' p.1)) (J (qD p.2)) f a)from rfl),b];exact e
def Ja{n v B:Nat}{wk rt:D}{z5 z6 z7 z8 z9:WG}{s:e_}(hv:v<n):∀(f:List Pt)(x:Nat->Rat)(u l:WG),(∀p∈f,p.1<n/\sz p.2+sz (x p.1)+B<=900000)->(∀k,sz (x v-kr (f.take k) x)<=B)->v∉f.map (·.1) ->
  ∃C y,Ei (p_ (ki (h8 10) (ki (h8 11) p6)) 2:Xg [3]).p P1.p (f.map jj) (DQ n wk rt x (J (inD' v)) z5 z6 z7 z8 z9 u l) s=.nx (DQ n wk rt (bj x v (x v-kr f x)) (J (inD' v)) z5 z6 z7 z8 z9 C y) s
 |[],x,u,l,_,_,_=>⟨u,l,by
  have:bj x v (x v-kr [] x)=x:=by
   funext a;unfold bj;split
   .rename_i e;rw[e,show kr [] x=0 from rfl];grind
   .rfl
  rw[this];rfl⟩
 |p::f,x,u,l,L,M,E=>by
  obtain⟨U,W⟩:=L p (by simp);rw[k_,nw,not_or]at E;have z0:=M 0;have z0:sz (x v)<=B:=by
   have e:x v-kr ((p::f).take 0) x=x v:=by rw[List.take_zero,show kr [] x=0 from rfl];grind
   rw[e]at z0;exact z0
  have O:=vY (p:=p.2) (q:=x p.1) (s:=s) (by ext);have Q:=vT (p:=x v) (q:=p.2*x p.1) (s:=s) (by have:=jH p.2 (x p.1);ext);have H:∀F:List Pt,v∉F.map (·.1)->kr F (bj x v (x v-p.2*x p.1))=kr F x:=λF hq=>v9 λq G=>fe λz=>hq (z▸nr.mpr ⟨q,G,rfl⟩)
  obtain⟨C,y,e⟩:=Ja (B:=B) (wk:=wk) (rt:=rt) (z5:=z5) (z6:=z6) (z7:=z7) (z8:=z8) (z9:=z9) (s:=s) hv f (bj x v (x v-p.2*x p.1)) (J (inD' p.1)) (J (qD p.2)) (λq hq=>by
   obtain⟨S,P⟩:=L q (ml _ hq);have ne:q.1≠v:=λz=>E.2 (z▸nr.mpr ⟨q,hq,rfl⟩);rw[fe ne]
   exact⟨S,P⟩) (λk=>by
   have:=M (k+1)
   rw[List.take_succ_cons,gw]at this;rw[jp,H _ λm=>E.2 (nr.mpr (let⟨q,hq,e⟩:=nr.mp m;⟨q,R3 hq,e⟩))];rw[show x v-p.2*x p.1-kr (f.take k) x=x v-(p.2*x p.1+kr (f.take k) x) by grind]
   exact this) E.2
  refine⟨C,y,?_⟩;have b:P1.p (DQ n wk rt x (J (inD' v)) z5 z6 z7 z8 z9 (J (inD' p.1)) (J (qD p.2))) s=.nx (DQ n wk rt (bj x v (x v-p.2*x p.1)) (J (inD' v)) z5 z6 z7 z8 z9 (J (inD' p.1)) (J (qD p.2))) s:=by
   rw[qT,kP (v:=qD (x v-p.2*x p.1)) (s1:=s) (j:=(v:Int)) (s2:=s) (ds:=(List.range n).map λi=>qD (x i)) (n:=v) (by
    simp![aE,ah,aD,d7,md U,md hv,Pf,au,O,Q]) (by simp only[aj,ag]) rfl (yL hv),ww hv]
   rfl
  have R:bj (bj x v (x v-p.2*x p.1)) v (bj x v (x v-p.2*x p.1) v-kr f (bj x v (x v-p.2*x p.1)))=bj x v (x v-kr (p::f) x):=by
   rw[jp,H _ E.2,gw];funext a;unfold bj;split
   .grind
   .rfl
  rw[R]at e;rw[k_,eW (show(p_ (ki (h8 10) (ki (h8 11) p6)) 2:Xg [3]).p (jj p) (DQ n wk rt x (J (inD' v)) z5 z6 z7 z8 z9 u l)=J (DQ n wk rt x (J (inD' v)) z5 z6 z7 z8 z9 (J (inD' p.1)) (J (qD p.2)))from rfl),b];exact e
section
variable{n:Nat}{ns:WQ}{g:Nat->Nat->Rat}
def El.fw_p(h:El n 120000 ns g)(u:Sh n g)(z:DW 300 b)(l:k<n):∃j f,(cE (bc (aa 7)) (p_ (ki (h8 8) (ki (h8 9) p6)) 2) P0:Xd [3]).p (DQ n wk rt (Law.fw n ns g b k) (J (inD' (d_ ns k))) (J (qD (hI n ns g k).p)) (J (.tup ((hI n ns g k).r.map jj))) (J (.tup ((hI n ns g k).c.map jj))) z8 z9 z10 z11) s=.nx (DQ n wk rt (Law.fw n ns g b (k+1)) (J (inD' (d_ ns k))) (J (qD (hI n ns g k).p)) (J (.tup ((hI n ns g k).r.map jj))) (J (.tup ((hI n ns g k).c.map jj))) j f z10 z11) s:=by
 have o:=h.o;have d:=vz.mp (Mb (g:=g) o l).c;have y:=o.lt _ (x3 (bu o l));have le:=uw k (by have:=u.n6;ext);have ov:=h.fw_ov u z k (by ext);have a:=λi=>ov.sz (by ext) i 0
 obtain⟨j,f,e⟩:=I_ y (hI n ns g k).c (Law.fw n ns g b k) z8 z9 (λp C=>by
  obtain⟨E,G⟩:=h.w_c l p (ml _ C);have L:=a (d_ ns k);have H:=a p.1;have F:=jH p.2 (Law.fw n ns g b k (d_ ns k))
  exact⟨E,by ext,by ext⟩) d.2 d.1
 refine⟨j,f,?_⟩;have B:RW (d_ ns k) (hI n ns g k).c (Law.fw n ns g b k)=Law.fw n ns g b (k+1):=by funext i;exact AO d.2 d.1
 rw[B]at e;rw[dW];show PR.go (PR.of (J ((hI n ns g k).c.map jj)) s) _ _=_;exact e
def El.bk_p(h:El n 120000 ns g)(C:Sh n g){b:Nat->Rat}(F:DW 300 b){m k:Nat}(y:k<n)(Q:m<n)(M:k=n-1-m){wk rt:D}{z8 z9 z10 z11:WG}{s:e_}:∃l f,(aG (cE (bc (aa 6)) (p_ (ki (h8 10) (ki (h8 11) p6)) 2) P1) Um:Xd [3]).p (DQ n wk rt (bw n ns g b m) (J (inD' (d_ ns k))) (J (qD (hI n ns g k).p)) (J (.tup ((hI n ns g k).r.map jj))) (J (.tup ((hI n ns g k).c.map jj))) z8 z9 z10 z11) s=.nx (DQ n wk rt (bw n ns g b (m+1)) (J (inD' (d_ ns k))) (J (qD (hI n ns g k).p)) (J (.tup ((hI n ns g k).r.map jj))) (J (.tup ((hI n ns g k).c.map jj))) z8 z9 l f) s:=by
 have o:=h.o;have d:=vz.mp (Mb (g:=g) o y).r;have u:d_ ns k<n:=o.lt _ (x3 (bu o y));have E:=h.pv k y;have ov:=h.bw_le C F (m:=m) (by ext);have le:=uw k (by have:=C.n6;ext);have bk:=(Qj ov (qX C.ov h.pv k (by ext)) E h.r_av (IZ o)).2
 obtain⟨l,f,e⟩:=Ja (B:=370004) (wk:=wk) (rt:=rt) (z5:=J (qD (hI n ns g k).p)) (z6:=J (.tup ((hI n ns g k).r.map jj))) (z7:=J (.tup ((hI n ns g k).c.map jj))) (z8:=z8) (z9:=z9) (s:=s) u (hI n ns g k).r (bw n ns g b m) z10 z11 (λp H=>by
  obtain⟨L,P⟩:=h.w_r y p (ml _ H);have R:sz (bw n ns g b m p.1)<=250000:=ov.sz (by ext) p.1 0
  exact⟨L,by ext⟩) (λi=>by have:=bk i;ext) d.1
 refine⟨l,f,?_⟩;have O:sz (bw n ns g b m (d_ ns k)-kr (hI n ns g k).r (bw n ns g b m))<=370004:=by
  have:=bk (hI n ns g k).r.length
  rw[R_]at this;ext
 have S:=h.si k (d_ ns k) (d_ ns k) (by ext);have q:=IM (p:=bw n ns g b m (d_ ns k)-kr (hI n ns g k).r (bw n ns g b m)) (q:=av ns g k (d_ ns k) (d_ ns k)) (s:=s) E (by ext);rw[aB,dW,cM];show PS.then (PR.go (PR.of (J ((hI n ns g k).r.map jj)) s) _ _) _=_;refine(congrArg (λz:PS=>z.then _) e).trans ?_
 rw[PU.aw,qT,kP (v:=qD ((bw n ns g b m (d_ ns k)-kr (hI n ns g k).r (bw n ns g b m))/av ns g k (d_ ns k) (d_ ns k))) (s1:=s) (j:=(d_ ns k:Int)) (s2:=s) (ds:=(List.range n).map λi=>qD (bj (bw n ns g b m) (d_ ns k) (bw n ns g b m (d_ ns k)-kr (hI n ns g k).r (bw n ns g b m)) i)) (n:=d_ ns k) (by
  simp![aE,ah,aD,d7,md u,Pf,au,jp]
  exact q) (by simp only[aj,ag]) rfl (yL u),ww u]
 have G:bj (bj (bw n ns g b m) (d_ ns k) (bw n ns g b m (d_ ns k)-kr (hI n ns g k).r (bw n ns g b m))) (d_ ns k) ((bw n ns g b m (d_ ns k)-kr (hI n ns g k).r (bw n ns g b m))/av ns g k (d_ ns k) (d_ ns k))=bw n ns g b (m+1):=by
  show _=E9 _ _ _ _;rw[<-M];unfold E9;funext a;unfold bj
  split<;>rfl
 rw[G];rfl
def El.solved(h:El n 120000 ns g)(Z:Sh n g){b:Nat->Rat}(X:DW 300 b){s:e_}:g6.p [.int (n:Int),.lst (((List.range n).map (hI n ns g)).map n8),ql n b] s=.ok (ql n (Law.sol n ns g b)) s:=by
 have o:=h.o;have n12:=o.n12;generalize hw:D.lst (((List.range n).map (hI n ns g)).map n8)=a
 have W:=eX (ws:=[3]) (ws':=[]) (env:=[J (.int (n:Int)),J a,J (ql n b),Y,Y,Y,Y,Y,Y,Y,Y,Y]) (s:=s) (s0:=s) (fm:=[2]) (i:=bT E6 (ae (aa 0) a_)) (t:=mL) (e:=af h_ (aa 1) (aa 0)) (l:=List.range n) (λj=>inD' j) (λj=>qD (b j)) (λ_=>I) (by
  simp only[dS,ah,ag,Pb,au];rw[lM (by ext),Eu,Pf]
  simp[dw]) (by simp;ext) (λj hj=>⟨rfl,λ_=>by
   simp![aD,k_,EZ,Mw,Fx,FA,d7,md (zl.mp hj),Pf]⟩)
 have ft:(List.range n).filter (λ_=>I)=List.range n:=Js.mpr (by simp);rw[ft]at W;have w_get:∀{k:Nat}{d:D},(((List.range n).map (hI n ns g)).map n8)[k]?=J d->k<n/\d=n8 (hI n ns g k):=λ{k d} e=>by
  have L:k<n:=by have:=(pf.mp e).1;simpa using this
  rw[se,se,Jt L]at e;exact⟨L,(Option.some.inj e).symm⟩
 obtain⟨ac,s1,e1,E,G,B,H,f,y,rfl,Q⟩:=dR (g:=(p_ (ki (h8 4) (ki (h8 5) (ki (h8 6) (ki (h8 7) p6)))) 4:Xg [3]).p) (b:=(cE (bc (aa 7)) (p_ (ki (h8 8) (ki (h8 9) p6)) 2) P0:Xd [3]).p)
  (λk env u=>∃E G B H f y,env=DQ n a (ql n b) (Law.fw n ns g b k) E G B H f y Y Y/\u=s) (((List.range n).map (hI n ns g)).map n8) 0 (DQ n a (ql n b) b Y Y Y Y Y Y Y Y) s ⟨_,_,_,_,_,_,rfl,rfl⟩ (λk env u d M hd=>by
   obtain⟨E,G,B,H,f,y,S,P⟩:=M;subst S;subst P;obtain⟨L,rfl⟩:=w_get hd;rw[ER];obtain⟨y8,y9,e⟩:=h.fw_p Z X L (wk:=a) (rt:=ql n b) (z8:=f) (z9:=y) (z10:=Y) (z11:=Y) (s:=u)
   exact⟨_,_,u,rfl,e,_,_,_,_,_,_,rfl,rfl⟩)
 rw[qx,qx,EK,ER,Q]at e1;obtain⟨ai,s2,e2,u4,u5,u6,u7,u8,u9,ak,al,rfl,R⟩:=dR (g:=(p_ (ki (h8 4) (ki (h8 5) (ki (h8 6) (ki (h8 7) p6)))) 4:Xg [3]).p) (b:=(aG (cE (bc (aa 6)) (p_ (ki (h8 10) (ki (h8 11) p6)) 2) P1) Um:Xd [3]).p)
  (λm env u=>∃E G B H f y F C,env=DQ n a (ql n b) (bw n ns g b m) E G B H f y F C/\u=s) (((List.range n).map (hI n ns g)).map n8).reverse 0 (DQ n a (ql n b) (bw n ns g b 0) E G B H f y Y Y) s ⟨_,_,_,_,_,_,_,_,rfl,rfl⟩ (λm env u d O hd=>by
   obtain⟨E,G,B,H,f,y,F,C,S,P⟩:=O;subst S;subst P;have U:m<n:=by have:=(pf.mp hd).1;simpa using this
   rw[UX (by simpa using U)]at hd;simp only[qx,EK]at hd;obtain⟨L,rfl⟩:=w_get hd;rw[ER];obtain⟨ar,ap,e⟩:=h.bk_p Z X (m:=m) L U rfl (wk:=a) (rt:=ql n b) (z8:=f) (z9:=y) (z10:=F) (z11:=C) (s:=u)
   exact⟨_,_,u,rfl,e,_,_,_,_,_,_,_,_,rfl,rfl⟩)
 rw[R5,qx,qx,EK,ER,R]at e2;rw[Ax (by rfl)];unfold jN;rw[show lw 12 [.int (n:Int),a,ql n b]=[J (.int (n:Int)),J a,J (ql n b),Y,Y,Y,Y,Y,Y,Y,Y,Y]from rfl];have st:(eO 3 (bg 1 [2] (bT E6 (ae (aa 0) a_)) (ws':=[]) (h8 0) mL (af h_ (aa 1) (aa 0))):Xd [3]).p [J (.int (n:Int)),J a,J (ql n b),Y,Y,Y,Y,Y,Y,Y,Y,Y] s=.nx (DQ n a (ql n b) b Y Y Y Y Y Y Y Y) s:=by rw[hW,W,Pg,c_ ju];rfl
 rw[aB,st,PU.aw,aB,dW,cM];simp![Pb];subst hw;show((PS.then (PR.go (PR.of (J (((List.range n).map (hI n ns g)).map n8)) s) _ _) _)).fin=_;rw[Pf,Pg];refine(congrArg (λz:PS=>(z.then _).fin) e1).trans ?_;rw[PU.aw,aB,dW,dS,ah];simp![au,PN,Pf,Pg];refine(congrArg (λz:PS=>(z.then _).fin) e2).trans ?_;rw[PU.aw,oX (d:=ql n (Law.sol n ns g b)) rfl,PU.bH]
end
structure EW(n:Int)(ks:WP):Prop where
 n12:n<=12
 tie:∀k∈ks,∃a b:Int,k=[a,b]/\0<=a/\a<b/\b<n
 nd:ks.Nodup
def nbs_nd'(w:EW n C):(below v C++above v C).Nodup/\∀x∈below v C++above v C,0<=x/\x<n:=by
 have G:∀x,x∈below v C->0<=x/\x<v/\x<n:=λx f=>by
  obtain⟨k,B,e⟩:=Ju.mp f;obtain⟨a,b,rfl,_,lt,_⟩:=w.tie k B;by_cases z:b=v
  .simp[z]at e;subst e;lia
  .simp[z]at e
 have F:∀x,x∈above v C->0<=x/\v<x/\x<n:=λx f=>by
  obtain⟨k,B,e⟩:=Ju.mp f;obtain⟨a,b,rfl,_,lt,_⟩:=w.tie k B;by_cases z:a=v
  .simp[z]at e;subst e;lia
  .simp[z]at e
 refine⟨?_,λx f=>?_⟩
 .rw[Ia];refine⟨?_,?_,λx f y i=>?_⟩
  .unfold below List.Nodup;rw[UT];refine List.Pairwise.imp_of_mem (λ{k E} B u j x f y i=>?_) w.nd;obtain⟨a,b,rfl,_⟩:=w.tie k B;obtain⟨c,d,rfl,_⟩:=w.tie E u;by_cases z1:b=v
   .by_cases l:d=v
    .simp[z1]at f;simp[l]at i;subst f i;rintro rfl;exact j (by rw[z1,l])
    .simp[l]at i
   .simp[z1]at f
  .unfold above List.Nodup;rw[UT];refine List.Pairwise.imp_of_mem (λ{k E} B u j x f y i=>?_) w.nd;obtain⟨a,b,rfl,_⟩:=w.tie k B;obtain⟨c,d,rfl,_⟩:=w.tie E u;by_cases z1:a=v
   .by_cases l:c=v
    .simp[z1]at f;simp[l]at i;subst f i;rintro rfl;exact j (by rw[z1,l])
    .simp[l]at i
   .simp[z1]at f
  .have:=G x f
   have:=F y i
   lia
 .rcases DY.mp f with q|q
  .have:=G x q;lia
  .have:=F x q;lia
def zm:∀(f:WP),(∀k∈f,∃a b:Int,k=[a,b]/\0<=a/\a<b/\b<n)->(((f.map kD).filter λx=>match x with|.tup [.int a,.int b]=>decide (b=v)|_=>T).map λx=>match x with|.tup [.int a,.int b]=>.int a|_=>.non)=(below v f).map D.int:=by
 intro f
 induction f with
 |nil=>intro _;rfl
 |cons k f l =>
  intro j;obtain⟨a,b,rfl,_⟩:=j k (by simp)
  have:=l λk i=>j k (ml _ i)
  by_cases z:b=v<;>simp[below,kD,z]at this ⊢<;>exact this
def yW:∀(f:WP),(∀k∈f,∃a b:Int,k=[a,b]/\0<=a/\a<b/\b<n)->(((f.map kD).filter λx=>match x with|.tup [.int a,.int b]=>decide (a=v)|_=>T).map λx=>match x with|.tup [.int a,.int b]=>.int b|_=>.non)=(above v f).map D.int:=by
 intro f
 induction f with
 |nil=>intro _;rfl
 |cons k f l =>
  intro j;obtain⟨a,b,rfl,_⟩:=j k (by simp)
  have:=l λk i=>j k (ml _ i)
  by_cases z:a=v<;>simp[above,kD,z]at this ⊢<;>exact this
def UD(v:Int)(a:WP):WN:=below v a++above v a
def Td(f:WP)(a b:Int):Prop:=[a,b]∈f\/[b,a]∈f
def Td.symm(h:Td ks a b):Td ks b a:=h.elim .inr .inl
inductive Wy(ks:WP)(P:Int->Prop):Int->Int->Prop where
 |tie{a b:Int}:Td ks a b->Wy ks P a b
 |thru{a b c:Int}:Wy ks P a c->P c->Wy ks P c b->Wy ks P a b
def Wy.symm(h:Wy ks P a b):Wy ks P b a:=by
 induction h with
 |tie t=>exact .tie t.symm
 |thru _ p _ i j=>exact .thru j p i
def Wy.mono(f:∀x,P x->Q x)(h:Wy ks P a b):Wy ks Q a b:=by
 induction h with
 |tie t=>exact .tie t
 |thru _ p _ i j=>exact .thru i (f _ p) j
def Qk(w:EW n ks)(h:Td ks a b):a≠b/\(0<=a/\a<n)/\0<=b/\b<n:=by rcases h with h|h<;>obtain⟨x,y,e,j,f,i⟩:=w.tie _ h<;>injection e with e1 e<;>injection e with e2 _<;>subst e1 e2<;>lia
def HG(w:EW n ks):x∈UD v ks↔Td ks v x:=by
 unfold UD Td below above;rw[DY,Ju,Ju];constructor
 .rintro (⟨k,f,e⟩|⟨k,f,e⟩)<;>obtain⟨a,b,rfl,_⟩:=w.tie k f
  .by_cases z:b=v
   .simp[z]at e;subst e z;exact .inr f
   .simp[z]at e
  .by_cases z:a=v
   .simp[z]at e;subst e z;exact .inl f
   .simp[z]at e
 .rintro (h|h)
  .exact .inr ⟨_,h,by simp⟩
  .exact .inl ⟨_,h,by simp⟩
def Nb(left:WN)(x:D):Bool:=match x with
 |.int i=>decide (i∈left)
 |_=>T
@[simp]theorem V1:Nb left (.int i)=decide (i∈left):=rfl
theorem tY:∀(ns:WN),(((ns.map D.int).filter (Nb left)).map λx=>x)=(ns.filter λx=>decide (x∈left)).map D.int
 |[]=>rfl
 |i::ns=>by
  have a:=tY (left:=left) ns;by_cases z:i∈left<;>simp[z]at a ⊢<;>exact a
def CG{ns:WN}{j:Nat}(a:j<=ns.length):gQ (ns.map D.int) (J (j:Int)) Y=(ns.drop j).map .int:=by unfold gQ;rw[HT.lW,qx,HT.oJ,QY a,MD];exact QK (by simp)
def Mi{ns:WN}{k:Int}(a:0<=k):gQ (ns.map D.int) Y (J k)=(ns.take k.toNat).map .int:=by
 obtain⟨j,rfl⟩:=eQ a;unfold gQ;rw[HT.lW,HT.oJ]
 simp_all
abbrev Ex(ks:WP):D:=.lst (ks.map kD)
def Ey(v:Int)(a:WP):WN:=above v a++below v a
def HH(w:EW n ks):x∈Ey v ks↔Td ks v x:=by
 have:=HG (v:=v) (x:=x) w
 unfold UD at this;unfold Ey;rw[DY]at this ⊢;exact⟨λh=>this.mp h.symm,λh=>(this.mpr h).symm⟩
def wF(w:EW n ks):(Ey v ks).Nodup/\(Ey v ks).length<=12:=by
 obtain⟨nd,f⟩:=nbs_nd' w;have pm:(below v ks++above v ks).Perm (Ey v ks):=List.perm_append_comm
 have:=List.Nodup.length_le_of_subset (l₂:=Fo 12) nd λx a=>by
  rw[wC]
  have:=f x a
  have:=w.n12
  lia
 exact⟨pm.nodup nd,by rw[<-pm.length_eq];simpa [Fo]using this⟩
def CM(w:EW n ks):g7.p [Ex ks,.int v] s=.ok (.lst ((Ey v ks).map .int)) s:=by
 have B:=IF w.n12 w.tie w.nd;rw[AJ (by rfl)];unfold jI;rw[show lw 2 [Ex ks,.int v]=[J (Ex ks),J (.int v)]from rfl]
 have j:=zP (ws:=[]) (ws':=[]) (env:=[J (Ex ks),J (.int v)]) (s:=s) (fm:=[1]) (i:=bc (aa 0)) (t:=xB (af Dl (aa 0) (aa 2))) (e:=aa 1) (ds:=ks.map kD) (λx=>match x with|.tup [.int a,.int b]=>decide (a=v)|_=>T) (λx=>match x with|.tup [.int a,.int b]=>.int b|_=>.non) (by simp) (by simp;lia) (λx f=>by
   obtain⟨k,y,rfl⟩:=nr.mp f;obtain⟨a,b,rfl,_⟩:=w.tie k y
   exact⟨.int a,.int b,rfl,by simp[kD],λ_=>by simp[kD]⟩)
 have u:=zP (ws:=[]) (ws':=[]) (env:=[J (Ex ks),J (.int v)]) (s:=s) (fm:=[1]) (i:=bc (aa 0)) (t:=xB (af Dl (aa 1) (aa 2))) (e:=aa 0) (ds:=ks.map kD) (λx=>match x with|.tup [.int a,.int b]=>decide (b=v)|_=>T) (λx=>match x with|.tup [.int a,.int b]=>.int a|_=>.non) (by simp) (by simp;lia) (λx f=>by
   obtain⟨k,y,rfl⟩:=nr.mp f;obtain⟨a,b,rfl,_⟩:=w.tie k y
   exact⟨.int a,.int b,rfl,by simp[kD],λ_=>by simp[kD]⟩)
 have j:=j.trans (congrArg (λl=>PR.ok (D.lst l) s) (yW ks w.tie));have u:=u.trans (congrArg (λl=>PR.ok (D.lst l) s) (zm ks w.tie));have z:=(wF (v:=v) w).2;unfold Ey at z ⊢;rw[Fz]at z;rw[bJ,aD,j,Pb,u,Pb,yq (by simp;lia)];simp
structure Se(n:Nat)(ks:WP)(P:Int->Prop)(v:Int)(m:Nat)(fs:WN):Prop where
 nd:fs.Nodup
 bd:∀x∈fs,0<=x/\x<(n:Int)
 hd:fs[0]?=J v
 le:m<=fs.length
 so:∀x∈fs,x=v\/Wy ks P v x
 cl:∀i x,i<m->fs[i]?=J x->i=0\/P x->∀y,Td ks x y->y∈fs
def Se.len(h:Se n ks P v m fs):fs.length<=n:=by
 have:=List.Nodup.length_le_of_subset h.nd λx a=>wC.mpr (h.bd x a)
 simpa [Fo]using this
def Se.no(h:Se n ks P v m fs)(a:fs[m]?=J x)(c:¬(m=0\/P x)):Se n ks P v (m+1) fs :=
 ⟨h.nd,h.bd,h.hd,(pf.mp a).1,h.so,λi y j f d z t=>by
  by_cases e:i=m
  .subst e
   grind
  .exact h.cl i y ⋯ f d z t⟩
def Se.step{n:Nat}{v x:Int}{m:Nat}(w:EW n ks)(h:Se n ks P v m fs)(l:fs[m]?=J x)(c:m=0\/P x):Se n ks P v (m+1) (fs++(Ey x ks).filter λy=>!decide (y∈fs)):=by
 have E:=(pf.mp l).1;have j:∀y,y∈(Ey x ks).filter (λy=>!decide (y∈fs))↔Td ks x y/\y∉fs:=λy=>by rw[zN,HH w];simp
 have C:∀y,Td ks x y->y=v\/Wy ks P v y:=λy t=>by
  rcases c with c|c
  .subst c;have e:=h.hd;rw[l]at e;cases e;exact .inr (.tie t)
  .rcases h.so x (x3 l)with e|e
   .subst e;exact .inr (.tie t)
   .exact .inr (.thru e c (.tie t))
 refine⟨Ia.mpr ⟨h.nd,(wF w).1.filter _,λa u b B e=>?_⟩,λy f=>?_,?_,by simp;lia,λy f=>?_,λi y F f d z t=>?_⟩
 .subst e;exact((j a).mp B).2 u
 .rcases DY.mp f with f|f
  .exact h.bd y f
  .exact (Qk w ((j y).mp f).1).2.2
 .rw[qr ⋯];exact h.hd
 .rcases DY.mp f with f|f
  .exact h.so y f
  .exact C y ((j y).mp f).1
 .rw[qr ⋯]at f;by_cases e:i=m
  .subst e;rw[l]at f;cases f;by_cases k:z∈fs
   .exact Fy _ k
   .exact xn _ ((j z).mpr ⟨t,k⟩)
  .exact Fy _ (h.cl i y ⋯ f d z t)
def Se.all(h:Se n ks P v fs.length fs)(B:x≠v):x∈fs↔Wy ks P v x:=by
 refine⟨λm=>(h.so x m).resolve_left B,λl=>?_⟩;have u:=h.cl 0 v (pf.mp h.hd).1 h.hd (.inl rfl);have f:∀a b,Wy ks P a b->(∀y,Td ks a y->y∈fs)->b∈fs/\(P b->∀y,Td ks b y->y∈fs):=λa b l=>by
  have ex:∀b,b∈fs->P b->∀y,Td ks b y->y∈fs:=λb C p=>by
   obtain⟨i,z⟩:=Jp.mp C;exact h.cl i b (pf.mp z).1 z (.inr p)
  induction l with
  |tie t=>exact λH=>⟨H _ t,ex _ (H _ t)⟩
  |thru _ p _ i j=>exact λH=>j ((i H).2 p)
 exact(f v x l u).1
abbrev EX(ks:WP)(qs:WN)(j:Nat)(fs:WN)(m:Nat):aC:=[J (Ex ks),J (.lst (qs.map .int)),J (.int (j:Int)),J (.lst (fs.map .int)),J (.int (m:Int))]
def Mj{n:Nat}{a:WP}{qs:WN}{j:Nat}{v:Int}{s:e_}(w:EW n a)(n12:n<=12):∀(d N m:Nat)(fs:WN),n-m<=d->d+1<=N->Se n a (·∈qs.take j) v m fs ->
  ∃f,c9 P2.p P4.p N (EX a qs j fs m) s=.nx (EX a qs j f f.length) s/\Se n a (·∈qs.take j) v f.length f:=by
 have stop:∀(N m:Nat)(fs:WN),¬m<fs.length->Se n a (·∈qs.take j) v m fs->∃f,c9 P2.p P4.p (N+1) (EX a qs j fs m) s=.nx (EX a qs j f f.length) s/\Se n a (·∈qs.take j) v f.length f:=λN m fs H h=>by
  have:=h.le
  have em:m=fs.length:=by lia
  subst em;refine⟨fs,?_,h⟩;rw[c9]
  have:P2.p (EX a qs j fs fs.length) s=.ok T s:=by simp
  rw[this,Pg,g_ (by simp)]
 intro d
 induction d with
 |zero =>
  intro N m fs hd hN h;obtain⟨N,rfl⟩:∃k,N=k+1:=⟨N-1,⋯⟩
  have:=h.len
  exact stop N m fs ⋯ h
 |succ d u =>
  intro N m fs hd hN h;obtain⟨N,rfl⟩:∃k,N=k+1:=⟨N-1,⋯⟩;have M:=h.len;by_cases em:m<fs.length
  .have l:fs[m]?=J fs[m]:=yZ em;generalize fs[m]=x at l;have B:o_ (fs.map D.int) (m:Int)=J (.int x):=L2.bZ (by simp[l]);have ct:=Mi (ns:=qs) (k:=(j:Int)) ⋯;rw[Eu]at ct;have C:=nU (neg:=T) (x:=x) (d:=.lst ((qs.take j).map .int)) (xs:=qs.take j) rfl;have G:P2.p (EX a qs j fs m) s=.ok I s:=by simp[em]
   have to:VP.p (EX a qs j fs m) s=.ok (decide (m=0\/x∈qs.take j)) s:=by
    by_cases z:m=0
    .simp[z]
    .have E:¬(m:Int)=0:=by lia
     simp![im,bM,aD,bf,aR,gB,cV,E,decide_false,wy,if_false,Pf,Pl,d7,B,zq,zK,yC,zS,ct,zH,C,z,false_or]
   have F:=wF (v:=x) w
   have q:=IE (ws:=[3]) (ws':=[1]) (env:=EX a qs j fs m) (s:=s) (fm:=[3]) (i:=bc (az g7 (ae (aa 0) (ae (af h_ (aa 3) (aa 4)) a_)))) (t:=xB (af (EG I) (aa 0) (aa 1))) (e:=aa 0) (ds:=(Ey x a).map .int) (λd=>!Nb fs d) (λd=>d) (by
     simp![cM,aE,ah,aD,d7,B,Pf,au,CM w,sZ]) (by rw[qx];lia) (λd hd=>by
     obtain⟨i,L,rfl⟩:=nr.mp hd
     exact⟨by simp[nU (d:=.lst (fs.map .int)) rfl,Nb],λ_=>by simp⟩)
   have e3:(((Ey x a).map D.int).filter (λd=>!Nb fs d)).map (λd=>d)=((Ey x a).filter λy=>!decide (y∈fs)).map .int:=by rw[List.filter_map,qo];rfl
   rw[e3]at q;have O:((Ey x a).filter λy=>!decide (y∈fs)).length<=12:=oh (Ef _ _) F.2;rw[c9,G,Pg,c_ rfl];by_cases c:m=0\/x∈qs.take j
   .have bb:P4.p (EX a qs j fs m) s=.nx (EX a qs j (fs++(Ey x a).filter λy=>!decide (y∈fs)) (m+1)) s:=by
     rw[aB,bq,to,Pg,c_ (by simp[c]),jm (s1:=s) (as:=[.lst (((Ey x a).filter λy=>!decide (y∈fs)).map .int)]) (ds:=fs.map .int) (ds':=(fs++(Ey x a).filter λy=>!decide (y∈fs)).map .int) (r:=.non) (by rw[ah,q];rfl) rfl (by rw[Bk (by simp;lia),Fc]),PU.aw];simp
    rw[bb];exact u N (m+1) _ ⋯ ⋯ (h.step w l c)
   .have bb:P4.p (EX a qs j fs m) s=.nx (EX a qs j fs (m+1)) s:=by
     rw[aB,bq,to,Pg,g_ (by simpa using c),bo,PU.aw];simp
    rw[bb];exact u N (m+1) _ ⋯ ⋯ (h.no l c)
  .exact stop N m fs em h
def Ql{n:Nat}{l:WP}{a:WN}{j:Nat}{v:Int}{s:e_}(w:EW n l)(n12:n<=12)(G:a.length<=12)(bd:∀x∈a,0<=x/\x<(n:Int))(u:a[j]?=J v)(y:v∉a.drop (j+1)):∃p:Int->Bool,gu.p [Ex l,.lst (a.map .int),.int (j:Int)] s=.ok (.lst (((a.drop (j+1)).filter p).map .int)) s/\∀x:Int,x∈a.drop (j+1)->(p x=I↔Wy l (·∈a.take j) v x):=by
 have F:j<a.length:=(pf.mp u).1;have E:=bd _ (x3 u);obtain⟨fs,e,h⟩:=Mj (j:=j) (v:=v) (s:=s) (qs:=a) w n12 n 2000000 0 [v] ⋯ ⋯ ⟨by simp,λx f=>by rw[Jv.mp f];exact E,rfl,by simp,λx f=>.inl (Jv.mp f),λi x B=>by lia⟩;have cf:=CG (ns:=a) (j:=j+1) ⋯;push_cast at cf
 have q:=IE (ws:=[3]) (ws':=[1]) (env:=EX l a j fs fs.length) (s:=s) (fm:=[3]) (i:=bc (GN (aa 1) (GL (af c8 (aa 2) (xC (.int 1)))) GK)) (t:=xB (af (EG T) (aa 0) (aa 1))) (e:=aa 0) (ds:=(a.drop (j+1)).map .int) (Nb fs) (λx=>x) (by simp[cf]) (by simp;lia) (λx f=>by
   obtain⟨i,B,rfl⟩:=nr.mp f
   exact⟨by simp[nU (d:=.lst (fs.map .int)) rfl],λ_=>by simp⟩)
 rw[tY]at q;refine⟨λx=>decide (x∈fs),?_,λx f=>?_⟩
 .rw[zn (by rfl)];unfold iI;rw[show lw 5 [Ex l,.lst (a.map .int),.int (j:Int)]=[J (Ex l),J (.lst (a.map .int)),J (.int (j:Int)),Y,Y]from rfl];have C:o_ (a.map D.int) (j:Int)=J (.int v):=L2.bZ (by simp[u]);rw[aB,hW];simp![gJ,ah,aD,d7,C,Pf,au,DR,FC,show(0+1:Nat)<=100000 by decide,if_true,ju,Pg,zJ,yT,PU.aw,aB,aS,bf,aR];refine(congrArg (λz:PS=>(z.then _).fin) e).trans ?_;rw[PU.aw,bJ,q];rfl
 .rw[decide_eq_true_iff];exact h.all λz=>y (z▸f)
structure Qm(n:Nat)(ks:WP):Prop where
 tie:∀k∈ks,∃a b:Int,k=[a,b]/\0<=a/\a<b/\b<(n:Int)
 nd:ks.Nodup
abbrev Fq(sh:D)(ks:WP)(z2 z3 z4 z5:WG):aC:=[J sh,J (.lst (ks.map kD)),z2,z3,z4,z5]
def Qn(n12:n<=12)(R:i<n)(Q:j<n)(h:Qm n f):∃l,RR.p (Fq sh f (J (inD' i)) z3 (J (inD' j)) z5) s=.nx (Fq sh l (J (inD' i)) z3 (J (inD' j)) z5) s/\Qm n l/\(∀k∈f,k∈l)/\(i≠j->Td l (i:Int) (j:Int)):=by
 have O:f.length<=66:=IF (n:=n) ⋯ h.tie h.nd;have B:∃a b:Int,(a=i/\b=j\/a=j/\b=i)/\(i≠j->a<b)/\(if(j:Int)<i then(j:Int)else i)=a/\(if(j:Int)>i then(j:Int)else i)=b:=by
  by_cases z:(j:Int)<i
  .exact⟨j,i,.inr ⟨rfl,rfl⟩,λ_=>z,c_ z,g_ ⋯⟩
  .by_cases F:(j:Int)>i
   .exact⟨i,j,.inl ⟨rfl,rfl⟩,λ_=>F,g_ z,c_ F⟩
   .exact⟨i,i,.inl ⟨rfl,⋯⟩,λe=>by lia,g_ z,g_ F⟩
 obtain⟨a,b,ab,lt,e1,e2⟩:=B;have P:VQ.p (Fq sh f (J (inD' i)) z3 (J (inD' j)) z5) s=.ok [kD [a,b]] s:=by simp![ah,cj,bC,au,yo,GS,Pf,e1,e2];rfl
 by_cases e:i=j
 .refine⟨f,?_,h,λ_ q=>q,λz=>absurd e z⟩;subst e;simp
 .have L:¬(i:Int)=(j:Int):=by lia
  have B:=GU (neg:=I) (k:=[a,b]) (d:=.lst (f.map kD)) (ks:=f) rfl;have ct:(kH (xB (af xg (aa 2) (aa 4))) (xB (af (EG I) (bt (ae (m_ oo (ae (aa 2) (ae (aa 4) a_))) (ae (m_ vF (ae (aa 2) (ae (aa 4) a_))) a_))) (aa 1))):Xt [1]).p (Fq sh f (J (inD' i)) z3 (J (inD' j)) z5) s=.ok (!decide ([a,b]∈f)) s:=by
   have B:E5 I (.tup [.int a,.int b]) (.lst (f.map kD))=J (.bl (!decide ([a,b]∈f))):=B;have E:(if j<i then(j:Int)else i)=a:=by rw[<-e1];simp only[Q1]
   have G:(if i<j then(j:Int)else i)=b:=by rw[<-e2];simp only[gt_iff_lt,Q1]
   simp[L,E,G,B]
  have u:∀l:WP,[a,b]∈l->Td l (i:Int) (j:Int):=λl m=>by
   rcases ab with⟨rfl,rfl⟩|⟨rfl,rfl⟩
   .exact .inl m
   .exact .inr m
  rw[bq,ct,Pg];by_cases m:[a,b]∈f
  .refine⟨f,?_,h,λ_ q=>q,λ_=>u f m⟩;rw[g_ (by simp[m]),bo]
  .refine⟨f++[[a,b]],?_,⟨λk C=>?_,?_⟩,λk q=>Fy _ q,λ_=>u _ (by simp)⟩
   .rw[c_ (by simp[m]),jm (s1:=s) (as:=[kD [a,b]]) (ds:=f.map kD) (ds':=(f++[[a,b]]).map kD) (r:=.non) P rfl (by
     rw[jT (by simp;lia)];simp)]
    rfl
   .rcases DY.mp C with C|C
    .exact h.tie k C
    .have:=lt e
     exact⟨a,b,Jv.mp C,⋯,this,⋯⟩
   .exact Ia.mpr ⟨h.nd,by simp,λx M y H z=>by rw[Jv.mp H]at z;exact m (z▸M)⟩
def oP:p∈aX n f↔p.1<n/\f p.1≠0/\p.2=f p.1:=by
 unfold aX;rw[nr];constructor
 .rintro⟨j,u,rfl⟩
  simp_all
 .rintro⟨i,a,l⟩;exact⟨p.1,zN.mpr ⟨zl.mpr i,by simpa using a⟩,by rw[<-l]⟩
def Jb{n i:Nat}{sh:D}{f:Nat->Rat}{z3:WG}{s:e_}(n12:n<=12)(F:i<n):∀(y:List Pt)(l:WP)(z B:WG),(∀p∈y,p.1<n)->Qm n l ->
  ∃a u j,Ei (p_ (ki (h8 4) (ki (h8 5) p6)) 2:Xg [1]).p RR.p (y.map jj) (Fq sh l (J (inD' i)) z3 z B) s=.nx (Fq sh a (J (inD' i)) z3 u j) s/\Qm n a/\(∀k∈l,k∈a)/\∀p∈y,i≠p.1->Td a (i:Int) (p.1:Int)
 |[],l,z,B,E,h=>⟨l,z,B,rfl,h,λ_ q=>q,λ_ q=>nomatch q⟩
 |p::y,l,z,B,E,h=>by
  obtain⟨M,e1,Q,G,H⟩:=Qn n12 F (E p (by simp)) h;obtain⟨P,u,j,e2,O,C,L⟩:=Jb (f:=f) n12 F y M (J (inD' p.1)) (J (qD p.2)) (λq hq=>E q (ml _ hq)) Q;refine⟨P,u,j,?_,O,λk q=>C k (G k q),λq hq ne=>?_⟩
  .rw[k_,eW (env1:=Fq sh l (J (inD' i)) z3 (J (inD' p.1)) (J (qD p.2))) rfl,e1];exact e2
  .rcases nw.mp hq with rfl|hq
   .exact (H ne).elim (λm=>.inl (C _ m)) λm=>.inr (C _ m)
   .exact L q hq ne
def Mk{n:Nat}{g:Nat->Nat->Rat}{s:e_}(n6:n<=6):∃u,fJ.p [pu n g] s=.ok (Ex u) s/\EW n u/\∀i j,i<n->j<n->i≠j->g i j≠0->Td u (i:Int) (j:Int):=by
 have n12:n<=12:=by lia
 have run:=dR (g:=(p_ (ki (h8 2) (ki (h8 3) p6)) 2:Xg [1]).p) (b:=(cE (bc (aa 3)) (p_ (ki (h8 4) (ki (h8 5) p6)) 2) RR:Xd [1]).p)
  (λm env B=>B=s/\∃u R U E G,env=Fq (pu n g) u R U E G/\Qm n u/\∀i j,i<m->i<n->j<n->i≠j->g i j≠0->Td u (i:Int) (j:Int))
  (aY ((List.range n).map λi=>.tup ((aX n (g i)).map jj))) 0 (Fq (pu n g) [] Y Y Y Y) s ⟨rfl,[],Y,Y,Y,Y,rfl,⟨(λ_ q=>nomatch q),QZ⟩,λi j q=>by lia⟩ (λm env B d S hd=>by
   obtain⟨rfl,u,R,U,E,G,rfl,h,tk⟩:=S;have P:=w9 hd;obtain⟨P,rfl⟩:=P;obtain⟨Z,H,F,e1,L,W,t1⟩:=Jb (sh:=pu n g) (f:=g m) (z3:=J (.tup ((aX n (g m)).map jj))) (s:=B) n12 P (aX n (g m)) u E G (λp hp=>(oP.mp hp).1) h;refine⟨Fq (pu n g) u (J (inD' m)) (J (.tup ((aX n (g m)).map jj))) E G,Fq (pu n g) Z (J (inD' m)) (J (.tup ((aX n (g m)).map jj))) H F,B,rfl,?_,rfl,Z,J (inD' m),J (.tup ((aX n (g m)).map jj)),H,F,rfl,L,λi j X hn M ne nz=>?_⟩
   .rw[dW];exact e1
   .by_cases e:i=m
    .subst e;exact t1 (j,g i j) (oP.mpr ⟨M,nz,rfl⟩) ne
    .exact (tk i j ⋯ hn M ne nz).elim (λq=>.inl (W _ q)) λq=>.inr (W _ q))
 obtain⟨env,B,e,rfl,u,R,U,E,G,rfl,h,tk⟩:=run;have ac:u.length<=15:=by
  have O:∀b,b<6->∀a,a<b->[((a:Nat):Int),((b:Nat):Int)]∈vh.take 15:=by decide
  have:=List.Nodup.length_le_of_subset (l₂:=vh.take 15) h.nd λk C=>by
   obtain⟨a,b,rfl,L,h2,h3⟩:=h.tie k C;obtain⟨a,rfl⟩:=eQ L;obtain⟨b,rfl⟩:=eQ (show 0<=b by lia);exact O b ⋯ a ⋯
  exact oh this (by decide)
 have Q:∀k∈u,∃a b:Int,k=[a,b]/\0<=a/\0<=b/\b<4096/\ji I (kD k)=J (a*4096+b):=λk C=>by
  obtain⟨a,b,rfl,L,h2,h3⟩:=h.tie k C;exact⟨a,b,rfl,L,⋯,⋯,by simp[ji,kD,show 0<=b by lia,show b<4096 by lia]⟩
 have so:uO.p [.lst (u.map kD)]=J (.lst ((aT (λk=>A_ I (kD k)) u).map kD)):=by
  rw[<-gc];refine c_ ⟨λd hd=>?_,?_,by simp;lia⟩
  .obtain⟨k,C,rfl⟩:=nr.mp hd;obtain⟨a,b,_,_,_,_,e⟩:=Q k C;rw[e];rfl
  .rw[qo];refine FL.mpr ((List.Pairwise.and_mem.mp h.nd).imp λ{x y} q e=>q.2.2 ?_);obtain⟨a,b,rfl,_,_,_,e1⟩:=Q x q.1;obtain⟨c,d,rfl,_,_,_,e2⟩:=Q y q.2.1;have e:A_ I (kD [a,b])=A_ I (kD [c,d]):=e;unfold A_ at e;rw[e1,e2]at e;have e:a*4096+b=c*4096+d:=e
   have:a=c:=by lia
   have:b=d:=by lia
   subst a b;rfl
 have pm:=bX (λk=>A_ I (kD k)) u;refine⟨aT (λk=>A_ I (kD k)) u,?_,⟨⋯,λk C=>h.tie k (pm.mem_iff.mp C),pm.symm.nodup h.nd⟩,λi j X M ne nz=>?_⟩
 .rw[uU (by rfl)];unfold fB;rw[show lw 6 [pu n g]=[J (pu n g),Y,Y,Y,Y,Y]from rfl,aB,hW];dsimp![gJ,au,Pb,FC,Eo,if_true,ju,Pg];rw[aB,dW];have ei:(bT iE (ae (af h_ (aa 0) (xC (.int 1))) a_):Xi [1]).p [J (pu n g),J (.lst []),Y,Y,Y,Y] B=.ok (aY ((List.range n).map λi=>.tup ((aX n (g i)).map jj))) B:=by
   rw[dS,ah,aD,ag];rfl
  rw[ei,Pg];refine(congrArg (λz:PS=>(z.then _).fin) e).trans ?_;rw[PU.aw,bJ,bC,ah];simp![au,so,Pf,Pg,PU.bH]
 .have m:=λk=>pm.mem_iff (a:=k);by_cases z:i<0+n
  .have l:(aY ((List.range n).map λi=>D.tup ((aX n (g i)).map jj))).length=n:=by simp[aY]
   exact(tk i j (by rw[l];exact z) X M ne nz).elim (λq=>.inl ((m _).mpr q)) λq=>.inr ((m _).mpr q)
  .lia
inductive An(par:Nat->WH):Nat->Nat->Prop where
 |one{a v:Nat}:par v=J a->An par a v
 |up{a b v:Nat}:par v=J b->An par a b->An par a v
section
variable{par:Nat->WH}
def An.chain(i:An par a v)(h:An par b v):a=b\/An par a b\/An par b a:=by
 induction i with
 |one e =>
  cases h with
  |one f=>rw[e]at f;cases f;exact .inl rfl
  |up f j=>rw[e]at f;cases f;exact .inr (.inr j)
 |up e i l =>
  cases h with
  |one f=>rw[e]at f;cases f;exact .inr (.inl i)
  |up f j=>rw[e]at f;cases f;exact l j
def Co(par:Nat->WH)(a b:Nat):Prop:=a=b\/An par a b\/An par b a
def Kp(par:Nat->WH)(o:WQ):Prop:=∀(k v p:Nat),o[k]?=J v->par v=J p->p∈o.drop (k+1)
def ii{o:WQ}{k b:Nat}(h:b∈o.drop (k+1)):∃m,k<m/\o[m]?=J b:=by obtain⟨i,a,e⟩:=H_ h;rw[R8]at e;exact⟨k+1+i,⋯,by rw[<-e];exact yZ _⟩
def oE{o:WQ}{k m b:Nat}(h:o[m]?=J b)(lt:k<m):b∈o.drop (k+1):=by refine Jp.mpr ⟨m-(k+1),?_⟩;rw[R6,show k+1+(m-(k+1))=m by lia,h]
def Kp.an{o:WQ}(h:Kp par o){a v:Nat}(z:An par a v):∀k,o[k]?=J v->a∈o.drop (k+1):=by
 induction z with
 |one e=>exact λk f=>h k _ _ f e
 |up e _ l =>
  intro k f;obtain⟨m,y,em⟩:=ii (h k _ _ f e);obtain⟨j,u,i⟩:=ii (l m em);exact oE i ⋯
end
def Qo{l m:WQ}(p:l.Perm m)(f:Nat->Rat):(l.map f).sum=(m.map f).sum:=by
 induction p with
 |nil=>rfl
 |cons x _ i=>rw[k_,k_,Eh,Eh,i]
 |swap x y l=>simp only[k_,Eh];grind
 |trans _ _ a b=>exact a.trans b
def oN{l m:List Rat}:(l++m).sum=l.sum+m.sum:=by simp
def xm{l:WQ}{f:Nat->Rat}(h:∀x∈l,f x=0):(l.map f).sum=0:=by
 induction l with
 |nil=>rfl
 |cons a l j=>rw[k_,Eh,h a (by simp),j λx i=>h x (ml _ i)];grind
section
variable{n:Nat}{par:Nat->WH}{o ns:WQ}{g:Nat->Nat->Rat}
def HI(a:On n o)(h:o[k]?=J v):d_ o k=v:=by unfold d_;rw[HZ,h];rfl
def rD(a:On n o){k m v:Nat}(h:o[k]?=J v)(f:o[m]?=J v):k=m :=
 (My (pf.mp h).1 a.nd).mp (h.trans f.symm)
def q0(a:On n o)(kp:Kp par o){k i:Nat}(j:k<n)(f:i∈o.drop k):¬An par (d_ o k) i:=λz=>by
 obtain⟨d,hd,e⟩:=H_ f;rw[R8]at e;have e:o[k+d]?=J i:=by rw[<-e];exact yZ _
 obtain⟨m,lt,em⟩:=ii (kp.an z _ e)
 have:=rD a em (bu a j)
 lia
def jG(a:On n ns)(hv:v<n):ns.idxOf v<n/\d_ ns (ns.idxOf v)=v:=by
 have l:=List.idxOf_lt_length_iff.mpr (a.pm.mem_iff.mpr (zl.mpr hv));refine⟨by rw[<-a.len];exact l,?_⟩;unfold d_
 simp_all
def Jc(y:Sh n g)(l:On n o)(kp:Kp par o)(hg:∀i j,g i j≠0->Co par i j):∀k,k<=n->(∀m,m<k->av o g m (d_ o m) (d_ o m)≠0)->∀i j,av o g k i j≠0->Co par i j
 |0,_,_=>hg
 |k+1,L,pv=>λi j nz=>by
  have a:=Jc y l kp hg k ⋯ λm E=>pv m ⋯;have em:=y.em l (m:=k) ⋯ λm E=>pv m ⋯;by_cases z:av o g k i j≠0
  .exact a i j z
  .have z:=Classical.not_not.mp z;have B:av o g k i (d_ o k)≠0:=λq=>nz (by show av o g k i j-av o g k i (d_ o k)/_*_=0;rw[z];grind);have u:av o g k (d_ o k) j≠0:=λq=>nz (by show av o g k i j-_/_*av o g k (d_ o k) j=0;rw[z,q];grind);have C:=Classical.byContradiction λq=>B (em.zero k (l_ _) _ _ (.inl q));have G:=Classical.byContradiction λq=>u (em.zero k (l_ _) _ _ (.inr q));have F:=q0 l kp (show k<n by lia) C;have H:=q0 l kp (show k<n by lia) G;rcases a _ _ B with e|e | e
   .rw[e];exact a _ _ u
   .rcases a _ _ u with f|f | f
    .rw[<-f];exact .inr (.inl e)
    .exact absurd f H
    .exact e.chain f
   .exact absurd e F
def Ho(o:WQ)(g:Nat->Nat->Rat)(w i j:Nat):Rat:=av o g (o.idxOf w) i w/av o g (o.idxOf w) w w*av o g (o.idxOf w) w j
open Classical in
def tk(par:Nat->WH)(o:WQ)(g:Nat->Nat->Rat)(v i j w:Nat):Rat:=if An par v w then Ho o g w i j else 0
def k8(f:On n o)(i:k<n):o.idxOf (d_ o k)=k:=by
 have a:k<o.length:=by rw[f.len];exact i
 have:=f.nd.idxOf_getElem k a
 have e:d_ o k=o[k]:=by unfold d_;rw[HZ,yZ a];rfl
 rw[e];exact this
def vc(C:Sh n g)(a:On n o)(kp:Kp par o)(hg:∀i j,g i j≠0->Co par i j):∀k,k<=n->(∀m,m<k->av o g m (d_ o m) (d_ o m)≠0)->∀v∈o.drop k,(∀j,av o g k v j=g v j-((o.take k).map (tk par o g v v j)).sum)/\∀i,av o g k i v=g i v-((o.take k).map (tk par o g v i v)).sum
 |0,_,_=>λv _=>⟨λj=>by show g v j=_-0;grind,λi=>by show g i v=_-0;grind⟩
 |k+1,O,pv=>λv hv=>by
  have H:=bU (bu a (show k<n by lia));have l:v∈o.drop k:=by rw[H];exact ml _ hv
  obtain⟨M,L⟩:=vc C a kp hg k ⋯ (λm G=>pv m ⋯) v l;have co:=Jc C a kp hg k ⋯ λm G=>pv m ⋯;have ne:v≠d_ o k:=λe=>by
   obtain⟨m,lt,em⟩:=ii hv
   have:=rD a em (e▸bu a (show k<n by lia))
   lia
  have E:=q0 a kp (show k<n by lia) l;have y:o.take (k+1)=o.take k++[d_ o k]:=by rw[List.take_add_one,bu a (show k<n by lia)];rfl
  have F:=k8 a (show k<n by lia);have u:∀i j,(i=v\/j=v)->av o g k i (d_ o k)/av o g k (d_ o k) (d_ o k)*av o g k (d_ o k) j=tk par o g v i j (d_ o k):=λi j B=>by
   unfold tk;by_cases z:An par v (d_ o k)
   .rw[c_ z];unfold Ho;rw[F]
   .rw[g_ z];rcases B with e|e
    .have:av o g k i (d_ o k)=0:=Classical.byContradiction λq=>by
      rcases co _ _ q with f|f | f
      .exact ne (e▸f)
      .exact z (e▸f)
      .exact E (e▸f)
     rw[this];grind
    .have:av o g k (d_ o k) j=0:=Classical.byContradiction λq=>by
      rcases co _ _ q with f|f | f
      .exact ne (e▸f.symm)
      .exact E (e▸f)
      .exact z (e▸f)
     rw[this];grind
  constructor
  .intro j;show av o g k v j-_=_;rw[M j,u v j (.inl rfl),y,Fc,oN,k_,EZ,Eh,Q2]
   grind
  .intro i;show av o g k i v-_=_;rw[L i,u i v (.inr rfl),y,Fc,oN,k_,EZ,Eh,Q2]
   grind
def By(f:On n o)(kp:Kp par o){k i j:Nat}(u:k<n):((o.take k).map (tk par o g (d_ o k) i j)).sum=(o.map (tk par o g (d_ o k) i j)).sum:=by
 have e:o.map (tk par o g (d_ o k) i j)=(o.take k).map (tk par o g (d_ o k) i j)++(o.drop k).map (tk par o g (d_ o k) i j):=by simp_all
 rw[e,oN,xm (l:=o.drop k) λx a=>by
  unfold tk
  rw[g_ (q0 f kp u a)]]
 grind
def Qp(U:Sh n g)(f:On n o)(B:On n ns)(l:Kp par o)(C:Kp par ns)(hg:∀i j,g i j≠0->Co par i j)(pn:∀k,k<n->av ns g k (d_ ns k) (d_ ns k)≠0):∀k,k<n->(∀j,av o g k (d_ o k) j=av ns g (ns.idxOf (d_ o k)) (d_ o k) j)/\∀i,av o g k i (d_ o k)=av ns g (ns.idxOf (d_ o k)) i (d_ o k):=by
 have a:=λk (y:k<n)=>jG B (f.lt _ (x3 (bu f y)));intro k
 induction k using Nat.strongRecOn with
 |_ k Q =>
  intro y;obtain⟨L,O⟩:=a k y;have pv:∀m,m<k->av o g m (d_ o m) (d_ o m)≠0:=λm u=>by
   obtain⟨Z,R⟩:=a m ⋯;rw[(Q m u ⋯).1,<-R]
   have:=pn _ Z
   rw[R]at this ⊢;exact this
  have G:=vc U f l hg k ⋯ pv (d_ o k) (by rw[bU (bu f y)];simp);have P:=vc U B C hg (ns.idxOf (d_ o k)) ⋯ (λm u=>pn m ⋯) (d_ o k) (by rw[bU (bu B L),O];simp);have W:∀i j,(o.map (tk par o g (d_ o k) i j)).sum=(ns.map (tk par ns g (d_ o k) i j)).sum:=λi j=>by
   rw[<-Qo (f.pm.trans B.pm.symm)];congr 1;refine Et λw hw=>?_;unfold tk;by_cases z:An par (d_ o k) w
   .obtain⟨m,u⟩:=Jp.mp hw;have S:=HI f u;have mn:m<n:=by have:=(pf.mp u).1;rw[f.len]at this;exact this
    have mk:m<k:=by
     obtain⟨d,lt,X⟩:=ii (l.an z m u)
     have:=rD f X (bu f y)
     lia
    obtain⟨F,M⟩:=Q m mk mn;rw[S]at F M;unfold Ho;rw[show o.idxOf w=m by rw[<-S];exact k8 f mn,F,F,M]
   .rw[g_ z,g_ z]
  have H:=λi j=>By (g:=g) (i:=i) (j:=j) f l y;have E:=λi j=>By (g:=g) (i:=i) (j:=j) B C L;rw[O]at E;exact⟨λj=>by rw[G.1,P.1,H,E,W],λi=>by rw[G.2,P.2,H,E,W]⟩
def pE(G:Sh n g)(u:On n o)(B:On n ns)(E:Kp par o)(F:Kp par ns)(hg:∀i j,g i j≠0->Co par i j)(pn:∀k,k<n->av ns g k (d_ ns k) (d_ ns k)≠0)(l:k<n):av o g k (d_ o k) (d_ o k)≠0/\hI n o g k=hI n ns g (ns.idxOf (d_ o k)):=by
 have a:=λk (l:k<n)=>jG B (u.lt _ (x3 (bu u l)));obtain⟨H,C⟩:=a k l;have h:=Qp G u B E F hg pn;have pv:∀k,k<n->av o g k (d_ o k) (d_ o k)≠0:=λk l=>by
  have:=pn _ (a k l).1
  rw[(a k l).2]at this;rw[(h k l).1];exact this
 refine⟨pv k l,?_⟩;have em:=G.em u (l_ n) pv;have O:=G.em B (l_ n) pn;obtain⟨U,P⟩:=h k l;generalize hq:ns.idxOf (d_ o k)=q at *;have Q:∀f:Nat->Rat,(∀x,f x≠0->x∈o.drop k/\x∈ns.drop q)->((tt n o k).filter λi=>!decide (f i=0))=(tt n ns q).filter λi=>!decide (f i=0):=λf hf=>by
  unfold tt;rw[List.filter_filter,List.filter_filter];refine QU λx y=>?_;by_cases z:f x=0
  .simp[z]
  .obtain⟨L,R⟩:=hf x z;rw[bU (bu u l),nw]at L;rw[bU (bu B H),nw,C]at R;have M:=uu u l;have S:=uu B H;rw[cu u]at M;rw[cu B,C]at S;by_cases e:x=d_ o k
   .subst e;simp[M,S]
   .simp[L.resolve_left e,R.resolve_left e]
 have Z:=Q (av ns g q (d_ o k)) λx y=>⟨Classical.byContradiction λz=>y (by rw[<-U];exact em.zero k ⋯ _ _ (.inr z)),Classical.byContradiction λz=>y (O.zero q ⋯ _ _ (.inr z))⟩;have W:=Q (λi=>av ns g q i (d_ o k)) λx y=>⟨Classical.byContradiction λz=>y (by show av ns g q x _=0;rw[<-P];exact em.zero k ⋯ _ _ (.inl z)),Classical.byContradiction λz=>y (O.zero q ⋯ _ _ (.inl z))⟩;have X:av o g k (d_ o k)=av ns g q (d_ o k):=funext U;unfold hI Cr;rw[C];simp only[P,X];rw[Z,W]
def Cs(z:Sh n g)(l:On n o)(u:On n ns)(y:Kp par o)(a:Kp par ns)(hg:∀i j,g i j≠0->Co par i j)(pn:∀k,k<n->av ns g k (d_ ns k) (d_ ns k)≠0):((List.range n).map (hI n o g)).Perm ((List.range n).map (hI n ns g)):=by
 have e:∀o:WQ,On n o->(∀k,k<n->hI n o g k=hI n ns g (ns.idxOf (d_ o k)))->(List.range n).map (hI n o g)=o.map λv=>hI n ns g (ns.idxOf v):=λo l h=>by
  apply E_;intro k;by_cases f:k<n
  .rw[se,Jt f,se,bu l f,Ib,Ib,h k f]
  .rw[Di (by simp;lia),Di (by rw[qx,l.len];lia)]
 rw[e o l λk f=>(pE z l u y a hg pn f).2,e ns u λk f=>(pE z u u a a hg pn f).2];exact(l.pm.trans u.pm.symm).map _
end
def ab(q:Rat):Rat:=if q<0 then -q else q
def Ml:0<=ab q:=by unfold ab;split<;>grind
def vo:ab (p*q)=ab p*ab q:=by
 have m:∀{x y:Rat},0<=x->0<=y->0<=x*y:=Rat.mul_nonneg;unfold ab
 split<;>split<;>split
 .have:=m (x:=-p) (y:=-q) (by grind) (by grind);grind
 .grind
 .grind
 .have:=m (x:=p) (y:=q) (by grind) (by grind);grind
 .by_cases z:p*q=0
  .grind
  .have:=m (x:=-p) (y:=-q) (by grind) (by grind);grind
 .have:=m (x:=-p) (y:=q) (by grind) (by grind);grind
 .have:=m (x:=p) (y:=-q) (by grind) (by grind);grind
 .grind
def Mm:ab (p-q)<=ab p+ab q:=by unfold ab;split<;>split<;>split<;>grind
def ab_sub':ab p-ab q<=ab (p-q):=by unfold ab;split<;>split<;>split<;>grind
def Qq{l:WQ}{f:Nat->Rat}(h:∀x,0<=f x):0<=(l.map f).sum:=by
 induction l with
 |nil=>exact Rat.le_refl
 |cons a l i=>rw[k_,Eh];have:=h a;grind
def UE{l:WQ}{f:Nat->Rat}(h:∀x,0<=f x){i:Nat}(j:i∈l):f i<=(l.map f).sum:=by
 induction l with
 |nil=>cases j
 |cons a l u =>
  rw[k_,Eh]
  have:=h a
  have:=Qq (l:=l) h
  rcases nw.mp j with rfl|j
  .grind
  .have:=u j;grind
def Jd{l:WQ}{f h k:Nat->Rat}{c:Rat}(e:∀x,f x=h x+c*k x):(l.map f).sum=(l.map h).sum+c*(l.map k).sum:=by
 induction l with
 |nil=>show(0:Rat)=0+c*0;grind
 |cons a l i=>simp only[k_,Eh];rw[i,e];grind
def Dm(L:WQ)(a:Nat->Nat->Rat):Prop:=∀i∈L,(L.map λj=>ab (a i j)).sum<2*ab (a i i)
def Dm.nz{L:WQ}{a:Nat->Nat->Rat}(h:Dm L a){i:Nat}(u:i∈L):a i i≠0:=λz=>by
 have y:=h i u;have B:=Qq (l:=L) (f:=λj=>ab (a i j)) λ_=>Ml;rw[z]at y
 have:ab 0=0:=by decide +kernel
 grind
def Dm.step{R:WQ}{v:Nat}{a:Nat->Nat->Rat}(h:Dm (v::R) a):Dm R λi j=>a i j-a i v/a v v*a v j:=by
 intro i B;have G:=h.nz (i:=v) (by simp);have hv:=h v (by simp);have z:=h i (ml _ B);rw[k_,Eh]at hv z;have c0:0<=ab (a i v/a v v):=Ml;have F:ab (a i v)=ab (a i v/a v v)*ab (a v v):=by rw[<-vo];congr 1;grind
 have up:∀j,0<=(ab (a i j)+ab (a i v/a v v)*ab (a v j))+(-1)*ab (a i j-a i v/a v v*a v j):=λj=>by
  have:=Mm (p:=a i j) (q:=a i v/a v v*a v j)
  rw[vo]at this
  grind
 have lo:=ab_sub' (p:=a i i) (q:=a i v/a v v*a v i);rw[vo]at lo;have s:=UE (l:=R) (f:=λj=>(ab (a i j)+ab (a i v/a v v)*ab (a v j))+(-1)*ab (a i j-a i v/a v v*a v j)) up B;rw[Jd (h:=λj=>ab (a i j)+ab (a i v/a v v)*ab (a v j)) (k:=λj=>ab (a i j-a i v/a v v*a v j)) (c:=-1) λx=>rfl,Jd (h:=λj=>ab (a i j)) (k:=λj=>ab (a v j)) (c:=ab (a i v/a v v)) λx=>rfl]at s;dsimp only at s ⊢;generalize ab (a i v/a v v)=c at *;generalize (R.map λj=>ab (a i j)).sum=P at *;generalize (R.map λj=>ab (a v j)).sum=Q at *;generalize (R.map λj=>ab (a i j-a i v/a v v*a v j)).sum=S at *;generalize ab (a i i-a i v/a v v*a v i)=d at *;generalize ab (a i i)=x at *;generalize ab (a v i)=y at *;generalize ab (a v v)=w at *;generalize ab (a i v)=u at *;have m:=Rat.mul_nonneg c0 (show 0<=w-Q by grind);have e:c*(w-Q)=c*w-c*Q:=by grind
 rw[e]at m;generalize c*w=C at *;generalize c*Q=E at *;generalize c*y=H at *
 grind
def Dm.pv(a:On n o)(h:Dm (List.range n) g):∀k,k<=n->Dm (o.drop k) (av o g k)/\∀m,m<k->av o g m (d_ o m) (d_ o m)≠0
 |0,_=>⟨λi f=>by
  rw[List.drop_zero]at f ⊢
  have:=h i (a.pm.mem_iff.mp f)
  rwa [<-Qo a.pm (λj=>ab (g i j))]at this,λm l=>absurd l (Sg m)⟩
 |k+1,u=>by
  obtain⟨d,p⟩:=Dm.pv a h k (by ext);rw[bU (bu a (show k<n by ext))]at d;refine⟨d.step,λm l=>?_⟩;by_cases e:m=k
  .subst e;exact d.nz (by simp)
  .exact p m (by ext)
def bS:WH->D
 |some p=>inD' p
 |none=>.non
def HJ{n i:Nat}{f:Nat->D}{y:D}(h:i<n):((List.range n).map f).set i y=(List.range n).map λa=>if a=i then y else f a:=by
 apply E_;intro a;by_cases j:a<n
 .rw[List.getElem?_set];by_cases e:i=a
  .subst e;simp[j]
  .rw[g_ e];simp[j,Ne.symm e]
 .rw[Di (by simp;lia),Di (by simp;lia)]
section
variable{n:Nat}{ks:WP}{ns:WQ}
abbrev Fs(ns:WQ):WN:=ns.map λ(x:Nat)=>(x:Int)
open Classical in
def Wx(ks:WP)(ns:WQ)(k x:Nat):Bool:=decide (Wy ks (·∈Fs (ns.take k)) (d_ ns k:Int) (x:Int))
open Classical in
theorem nh:Wx ks ns k x=I↔Wy ks (·∈Fs (ns.take k)) (d_ ns k:Int) (x:Int):=decide_eq_true_iff
abbrev zF(ks:WP)(ns:WQ)(k:Nat):WQ:=(ns.drop (k+1)).filter (Wx ks ns k)
def pr(ks:WP)(ns:WQ)(v:Nat):WH:=(zF ks ns (ns.idxOf v)).head?
def Qr(o:On n ns)(a:k<n):d_ ns k∉ns.drop (k+1):=λm=>by
 obtain⟨d,lt,e⟩:=ii m
 have:=rD o e (bu o a)
 lia
def Qs(w:EW n ks)(o:On n ns)(i:k<n):gu.p [Ex ks,j_ ns,inD' k] s=.ok (j_ (zF ks ns k)) s:=by
 have u:j_ ns=.lst ((Fs ns).map .int):=by rw[qo];rfl
 have l:(Fs ns)[k]?=J (d_ ns k:Int):=by rw[se,bu o i];rfl
 obtain⟨p,e,j⟩:=Ql w o.n12 (by rw[qx,o.len];exact o.n12) (λx a=>by
  obtain⟨y,f,rfl⟩:=nr.mp a
  have:=o.lt y f
  lia) l (λz=>by
  rw[<-MD]at z;obtain⟨y,f,e⟩:=nr.mp z
  have:y=d_ ns k:=by lia
  exact Qr o i (this▸f))
 rw[u,e,<-MD,List.filter_map,qo]
 have:(ns.drop (k+1)).filter (p∘λ(x:Nat)=>(x:Int))=zF ks ns k:=QU λx a=>by
  have:=j x (by rw[<-MD];exact QP a)
  rw[<-List.map_take]at this;exact Bool.eq_iff_iff.mpr (this.trans nh.symm)
 rw[this];rfl
abbrev Qt(ks:WP)(ns:WQ)(n:Nat)(f:Nat->WH)(z3 z4 z5:WG):aC:=[J (Ex ks),J (j_ ns),J (.lst ((List.range n).map λv=>bS (f v))),z3,z4,z5]
def C7(ks:WP)(ns:WQ)(m v:Nat):WH:=if ns.idxOf v<m then pr ks ns v else Y
def UF(w:EW n ks)(o:On n ns)(i:m<n):∃F,Up.p (Qt ks ns n (C7 ks ns m) (J (inD' m)) (J (inD' (d_ ns m))) z5) s=.nx (Qt ks ns n (C7 ks ns (m+1)) (J (inD' m)) (J (inD' (d_ ns m))) F) s:=by
 have y:=o.lt _ (x3 (bu o i));have u:=k8 o i;have B:∀v,v<n->v≠d_ ns m->C7 ks ns (m+1) v=C7 ks ns m v:=λv hv ne=>by
  have:=jG o hv
  have:ns.idxOf v≠m:=λe=>ne (by rw[<-this.2,e])
  unfold C7;by_cases z:ns.idxOf v<m
  .rw[c_ z,c_ ⋯]
  .rw[g_ z,g_ ⋯]
 have f:C7 ks ns (m+1) (d_ ns m)=(zF ks ns m).head?:=by unfold C7 pr;rw[u,c_ ⋯]
 have l:C7 ks ns m (d_ ns m)=Y:=by unfold C7;rw[u,g_ ⋯]
 refine⟨J (j_ (zF ks ns m)),?_⟩;rw[aB,aS];simp![aE,ah,au,Qs w o i,Pg,zJ,yT,PU.aw];have e0:C0 I (j_ (zF ks ns m)) (.lst [])=J (.bl (!decide (zF ks ns m=[]))):=by
  have:=pW (neg:=I) (xs:=Fs (zF ks ns m)) (ys:=[])
  rw[qo]at this;refine Eq.trans this ?_;simp
 rw[bq];simp![bM,aD,gJ,au,FC,Eo,if_true,d4,e0,Pf,Pl,Pg]
 cases C:zF ks ns m with
 |nil =>
  rw[C]at f;simp only[decide_true,Eg,wy,if_false,bo]
  have:((List.range n).map λv=>bS (C7 ks ns m v))=(List.range n).map λv=>bS (C7 ks ns (m+1) v):=Et λv hv=>by
   by_cases e:v=d_ ns m
   .rw[e,l,f];rfl
   .rw[B v (zl.mp hv) e]
  rw[this]
 |cons x r =>
  rw[C]at f
  rw[qT,kP (v:=inD' x) (s1:=s) (j:=(d_ ns m:Int)) (s2:=s) (ds:=(List.range n).map λv=>bS (C7 ks ns m v)) (n:=d_ ns m) (by
   have E:h_.p (j_ (x::r)) (.int 0)=J (inD' x):=(d7).trans (L2.bZ (j:=0) (v:=inD' x) (by simp))
   simp![aD,bf,aR,E,Pf]) (by simp only[aj,ag]) rfl (by
   simp only[qx,EK];exact MM.gq y),HJ y]
  have:((List.range n).map λa=>if a=d_ ns m then inD' x else bS (C7 ks ns m a))=(List.range n).map λv=>bS (C7 ks ns (m+1) v):=Et λv hv=>by
   by_cases e:v=d_ ns m
   .rw[c_ e,e,f];rfl
   .rw[g_ e,B v (zl.mp hv) e]
  rw[this];rfl
def HK(w:EW n ks)(o:On n ns):iH.p [Ex ks,j_ ns] s=.ok (.lst ((List.range n).map λv=>bS (pr ks ns v))) s:=by
 have B:=o.len;have n12:=o.n12
 have c:=eX (ws:=[2]) (ws':=[]) (env:=[J (Ex ks),J (j_ ns),Y,Y,Y,Y]) (s:=s) (s0:=s) (fm:=[]) (i:=bc (aa 1)) (t:=mL) (e:=xC .non) (l:=ns) (λj=>inD' j) (λ_=>.non) (λ_=>I) (by
  simp![cM];rfl) ⋯ (λj M=>⟨rfl,λ_=>rfl⟩)
 have e0:(ns.filter λ_=>I).map (λ_=>D.non)=(List.range n).map λv=>bS (C7 ks ns 0 v):=by
  rw[Js.mpr (by simp)]
  have:(λv=>bS (C7 ks ns 0 v))=λ_=>D.non:=by funext v;unfold C7;rw[g_ ⋯];rfl
  rw[this,Ni,Ni,B,EK]
 rw[e0]at c;obtain⟨env,a,e,rfl,y,u,f,rfl⟩:=dR (g:=(p_ (ki (h8 3) (ki (h8 4) p6)) 2:Xg [2]).p) (b:=Up.p)
  (λm env a=>a=s/\∃y u f,env=Qt ks ns n (C7 ks ns m) y u f) (aY (ns.map inD')) 0 (Qt ks ns n (C7 ks ns 0) Y Y Y) s ⟨rfl,Y,Y,Y,rfl⟩ (λm env a d ⟨G,y,u,f,L⟩ hd=>by
   subst G;subst L;rw[ER];have C:m<n:=by have:=(pf.mp hd).1;simp[aY]at this;lia
   have F:=nM (k:=m) (v:=d_ ns m) (ns:=ns) (bu o C)
   have:(aY (ns.map inD'))[m]?=J (.tup [inD' m,inD' (d_ ns m)]):=by
    have:=congrArg (λl=>l[0]?) F
    simpa using this
   rw[this]at hd;cases hd;obtain⟨O,e⟩:=UF w o C (z5:=f) (s:=a)
   exact⟨_,_,a,rfl,e,rfl,_,_,_,rfl⟩)
 have H:(aY (ns.map inD')).length=n:=by simp[aY,B]
 rw[ER,H]at e;rw[zR (by rfl)];unfold iP;rw[show lw 6 [Ex ks,j_ ns]=[J (Ex ks),J (j_ ns),Y,Y,Y,Y]from rfl];rw[aB,hW,c,Pg,c_ ju];dsimp![PU.aw];have E:(bT iE (ae (aa 1) a_):Xi [2]).p (Qt ks ns n (C7 ks ns 0) Y Y Y) a=.ok (aY (ns.map inD')) a:=by rw[dS,ah];rfl
 refine(congrArg (λz:PR (WR)=>((z.go _ _).then _).fin) E).trans ?_;rw[Pg];refine(congrArg (λz:PS=>(z.then _).fin) e).trans ?_;rw[PU.aw,oX (d:=.lst ((List.range n).map λv=>bS (C7 ks ns n v))) rfl,PU.bH];congr 2;refine Et λv hv=>?_;unfold C7;rw[c_ (jG o (zl.mp hv)).1]
def Je(o:On n ns):Kp (pr ks ns) ns:=λk v p f e=>by
 have a:k<n:=by have:=(pf.mp f).1;rw[o.len]at this;exact this
 have:ns.idxOf v=k:=by rw[<-HI o f];exact k8 o a
 unfold pr at e;rw[this]at e;exact(zN.mp (List.mem_of_mem_head? e)).1
def Jf(o:On n ns):∀(d k:Nat),n-k<=d->k<n->∀x∈ns.drop (k+1),Wx ks ns k x=I->An (pr ks ns) x (d_ ns k)
 |0,k,hd,F,x,G,E=>by lia
 |d+1,k,hd,F,x,G,E=>by
  have a:x∈zF ks ns k:=zN.mpr ⟨G,E⟩;have B:pr ks ns (d_ ns k)=(zF ks ns k).head?:=by unfold pr;rw[k8 o F]
  cases l:zF ks ns k with
  |nil=>rw[l]at a;cases a
  |cons p r =>
   rw[l]at B a;rcases nw.mp a with e|hr
   .exact .one (e▸B)
   .have U:(p::r).Sublist (ns.drop (k+1)):=l▸Nf;obtain⟨C,r2,e,h1,X⟩:=List.cons_sublist_iff.mp U;obtain⟨i,L,Q⟩:=H_ h1;obtain⟨j,O,S⟩:=H_ (X.subset hr);have H:ns[k+1+i]?=J p:=by
     rw[<-R6,e,qr L,yZ L,Q]
    have Z:ns[k+1+(C.length+j)]?=J x:=by rw[<-R6,e,Ek ⋯,show C.length+j-C.length=j by lia,yZ O,S]
    have pn:k+1+i<n:=by have:=(pf.mp H).1;rw[o.len]at this;exact this
    have R:Wx ks ns k p=I:=(zN.mp (show p∈zF ks ns k by rw[l];simp)).2;have M:=HI o H;have up:∀z:Int,z∈Fs (ns.take k)->z∈Fs (ns.take (k+1+i)):=λz W=>by
     obtain⟨y,P,rfl⟩:=nr.mp W;exact QP (List.take_subset_take_left ns ⋯ P)
    have u:(d_ ns k:Int)∈Fs (ns.take (k+1+i)):=by refine QP (f:=λ(x:Nat)=>(x:Int)) (Jp.mpr ⟨k,?_⟩);rw[RY ⋯];exact bu o F
    have wx:Wx ks ns (k+1+i) x=I:=by rw[nh,M];exact .thru ((nh.mp R).mono up).symm u ((nh.mp E).mono up)
    have:=Jf o d (k+1+i) ⋯ pn x (oE Z ⋯) wx
    rw[M]at this;exact .up B this
def Qu(o:On n ns)(F:i<n)(E:j<n)(ne:i≠j)(h:Td ks (i:Int) (j:Int)):Co (pr ks ns) i j:=by
 obtain⟨B,u⟩:=jG o F;obtain⟨C,l⟩:=jG o E;have f:∀a b:Nat,ns.idxOf a<n->ns.idxOf b<n->d_ ns (ns.idxOf a)=a->d_ ns (ns.idxOf b)=b->ns.idxOf a<ns.idxOf b->Td ks (a:Int) (b:Int)->An (pr ks ns) b a:=λa b H L y G lt t=>by
  have:=Jf o n (ns.idxOf a) ⋯ H b (oE (by have:=bu o L;rwa [G]at this) lt) (nh.mpr (by rw[y];exact .tie t))
  rwa [y]at this
 rcases Nat.lt_trichotomy (ns.idxOf i) (ns.idxOf j)with z|z | z
 .exact .inr (.inr (f i j B C u l z h))
 .exact absurd (by rw[<-u,<-l,z]) ne
 .exact .inr (.inl (f j i C B l u z h.symm))
end
def xu{x:Nat}:∀(l:List (WH)),∃ys,Eb (l.map bS)=J ys/\qp (l.map bS)=0/\PyData.canLayAll0 ys=I/\ys.any (λe=>PyData.eqv e (.int (x:Int)))=decide (J x∈l)
 |[]=>⟨[],rfl,rfl,rfl,by simp⟩
 |a::l=>by
  obtain⟨ys,f,j,u,i⟩:=xu (x:=x) l
  cases a with
  |none =>
   refine⟨.none::ys,?_,?_,?_,?_⟩
   .rw[k_];simp[Eb,bS,py,f]
   .rw[k_];simp[qp,bS,y_,j]
   .simp[PyData.canLayAll0,PyData.canLay0,u]
   .rw[MC,i];simp[PyData.eqv]
  |some p =>
   refine⟨.int (p:Int)::ys,?_,?_,?_,?_⟩
   .rw[k_];simp[Eb,bS,py,f]
   .rw[k_];simp[qp,bS,y_,j]
   .simp[PyData.canLayAll0,PyData.canLay0,u]
   .rw[MC,i]
    have:PyData.eqv (.int (p:Int)) (.int (x:Int))=decide (x=p):=by simp only[PyData.eqv,UW];exact decide_eq_decide.mpr ⋯
    rw[this];by_cases z:x=p<;>simp[z]
def Mn{neg:Bool}{x:Nat}{l:List (WH)}:E5 neg (inD' x) (.lst (l.map bS))=J (.bl (if neg then !decide (J x∈l)else decide (J x∈l))):=by obtain⟨ys,a,j,i,f⟩:=xu l;have e:(D.lst (l.map bS)).items=J (l.map bS):=rfl;simp only[E5,e,py,a];rw[c_ ⟨⟨by simp[y_],⋯⟩,rfl,i⟩,f]
def Qw:E5 neg (inD' x) (j_ l)=J (.bl (if neg then !decide (x∈l)else decide (x∈l))):=by
 have e:=nU (neg:=neg) (x:=(x:Int)) (d:=j_ l) (by rw[qo];rfl)
 have:((x:Int)∈Fs l)↔x∈l:=by rw[nr];exact⟨λ⟨y,a,e⟩=>by rwa [show x=y by lia],λh=>⟨x,h,rfl⟩⟩
 rw[e,decide_eq_decide.mpr this]
abbrev V2:Xd [2]:=(aG (aP 3 VS) (aG (aP 4 VT) (aG (aP 5 VU)
 (E3 tr 2 (ae (af h_ (aa 5) (az bK (ae (aa 0) (ae (m_ b7 (ae (aa 5) a_)) a_)))) a_)))))
section
variable{n:Nat}{f:Nat->WH}
abbrev Jg(f:Nat->WH)(n:Nat)(fs:WQ)(z3 z4 z5:WG):aC:=[J .pen,J (.lst ((List.range n).map λv=>bS (f v))),J (j_ fs),z3,z4,z5]
structure Tr(n:Nat)(f:Nat->WH)(r:Nat->Nat):Prop where
 lt:∀v p,v<n->f v=J p->p<n/\r v<r p
def qP{r:Nat->Nat}(t:Tr n f r){L:WQ}(hL:∀v∈L,v<n):∀m,(∃w∈L,r w<m)->∃w∈L,J w∉L.map f
 |m+1,⟨w,a,h⟩=>by
  by_cases z:J w∈L.map f
  .obtain⟨v,hv,e⟩:=nr.mp z;exact qP t hL m ⟨v,hv,by have:=(t.lt v w (hL v hv) e).2;lia⟩
  .exact⟨w,a,z⟩
def UG{r:Nat->Nat}(t:Tr n f r)(n12:n<=12){fs:WQ}(hf:fs.length<n)(nd:fs.Nodup)(hb:∀x∈fs,x<n){Z M B:WG}{s:e_}:
  ∃x y3 y4 y5 C,V2.p (Jg f n fs Z M B) s=.nx (Jg f n (fs++[x]) y3 y4 y5) C/\x<n/\x∉fs/\∀w,w<n->f w=J x->w∈fs:=by
 generalize hL:((List.range n).filter λj=>!decide (j∈fs))=L;have u:∀x,x∈L↔x<n/\x∉fs:=λx=>by rw[<-hL,zN,zl];simp
 have lL:L.length<=12:=by rw[<-hL];exact oh (Ef _ _) (by simp;lia)
 have Q:=eX (ws:=[2]) (ws':=[1]) (env:=Jg f n fs Z M B) (s:=s) (s0:=s) (fm:=[2]) (i:=bT E6 (ae (m_ b7 (ae (aa 1) a_)) a_)) (t:=xB (af (EG I) (aa 0) (aa 1))) (e:=aa 0) (l:=List.range n) (λj=>inD' j) (λj=>inD' j) (λj=>!decide (j∈fs)) (by
  have cl:b7.p [.lst ((List.range n).map λv=>bS (f v))]=J (.int (n:Int)):=by simp
  simp![dS,ah,bC,au,cl,Pf];rw[lM ⋯,Eu,Pf]
  simp[dw]) (by simp;lia) (λj F=>⟨by
   have:=Qw (neg:=I) (x:=j) (l:=fs)
   simp[this],λ_=>by simp⟩)
 rw[hL]at Q
 have P:=eX (ws:=[2]) (ws':=[]) (env:=Jg f n fs (J (j_ L)) M B) (s:=s) (s0:=s) (fm:=[1]) (i:=bc (aa 3)) (t:=mL) (e:=af h_ (aa 1) (aa 0)) (l:=L) (λj=>inD' j) (λj=>bS (f j)) (λ_=>I) (by
  simp![cM];rfl) ⋯ (λj F=>⟨rfl,λ_=>by
   have a:o_ ((List.range n).map λv=>bS (f v)) (j:Int)=J (bS (f j)):=L2.bZ (by simp[((u j).mp F).1])
   simp![aD,k_,EZ,Mw,Fx,FA,d7,a,Pf]⟩)
 rw[Js.mpr (by simp),show(L.map λj=>bS (f j))=(L.map f).map bS by rw[qo];rfl]at P;generalize E:(L.filter λj=>!decide (J j∈L.map f))=R
 have U:=eX (ws:=[2]) (ws':=[]) (env:=Jg f n fs (J (j_ L)) (J (.lst ((L.map f).map bS))) B) (s:=s) (s0:=s) (fm:=[4]) (i:=bc (aa 3)) (t:=xB (af (EG I) (aa 0) (aa 1))) (e:=aa 0) (l:=L) (λj=>inD' j) (λj=>inD' j) (λj=>!decide (J j∈L.map f)) (by
  simp![cM];rfl) ⋯ (λj F=>⟨by
   have:=Mn (neg:=I) (x:=j) (l:=L.map f)
   simp![bM,aD,k_,EZ,Mw,Fx,FA,zH,this,if_true,Pf,Pl],λ_=>by simp⟩)
 rw[E]at U;obtain⟨w,O,wn⟩:∃w∈L,J w∉L.map f:=by
  have:∃x,x<n/\x∉fs:=Classical.byContradiction λz=>by
   have:=List.Nodup.length_le_of_subset (l₂:=fs) (Fb (n:=n)) λx H=>Classical.byContradiction λy=>z ⟨x,zl.mp H,y⟩
   simp at this;lia
  obtain⟨x,h1,h2⟩:=this;exact qP t (λv hv=>((u v).mp hv).1) (r x+1) ⟨x,(u x).mpr ⟨h1,h2⟩,⋯⟩
 have wR:w∈R:=by rw[<-E];exact zN.mpr ⟨O,by simpa using wn⟩
 have Rl:0<R.length:=List.length_pos_of_mem wR;have ac:R.length<=12:=by rw[<-E];exact oh (Ef _ _) lL
 obtain⟨d,C,d0,d1,qd⟩:=eE (s:=s) (size:=(R.length:Int)) ⋯ ⋯;obtain⟨i,rfl⟩:=eQ d0;have S:i<R.length:=by lia
 have G:R[i]∈R:=Sa S;have ex:R[i]=R[i]:=rfl;generalize H:R[i]=x at G;have W:x∈L/\J x∉L.map f:=by rw[<-E]at G;have:=zN.mp G;exact⟨this.1,by simpa using this.2⟩
 have X:=(u x).mp W.1;refine⟨x,J (j_ L),J (.lst ((L.map f).map bS)),J (j_ R),C,?_,X.1,X.2,λw O e=>Classical.byContradiction λz=>W.2 (nr.mpr ⟨w,(u w).mpr ⟨O,z⟩,e⟩)⟩;have ax:o_ (R.map inD') (i:Int)=J (inD' x):=L2.bZ (by simp[S,H]);have cl:b7.p [j_ R]=J (.int (R.length:Int)):=by simp
 rw[aB,aS,Q];dsimp![Pg];rw[aB,aS,P];dsimp![Pg];rw[aB,aS,U];dsimp![Pg]
 rw[jm (s1:=C) (as:=[inD' x]) (ds:=fs.map inD') (ds':=(fs++[x]).map inD') (r:=.non) (by
  simp![ah,aD,aE,bC,au,cl,Pf,qd,d7,ax]) rfl (by rw[jT (by simp;lia)];simp)]
 rfl
structure Kq(n:Nat)(f:Nat->WH)(fs:WQ):Prop where
 nd:fs.Nodup
 bd:∀x∈fs,x<n
 cl:∀v p,v<n->f v=J p->p∈fs->v∈fs
 or:∀(k v p:Nat),fs[k]?=J v->f v=J p->p∉fs.take k
def Kq.add(h:Kq n f fs)(t:Tr n f r)(u:x<n)(nx:x∉fs)(E:∀w,w<n->f w=J x->w∈fs):Kq n f (fs++[x]):=by
 refine⟨Ia.mpr ⟨h.nd,by simp,λa B b C e=>nx (by rw[Jv.mp C]at e;exact e▸B)⟩,λy i=>?_,λv p hv e l=>?_,λk v p j e=>?_⟩
 .rcases DY.mp i with i|i
  .exact h.bd y i
  .rw[Jv.mp i];exact u
 .rcases DY.mp l with l|l
  .exact Fy _ (h.cl v p hv e l)
  .simp_all
 .by_cases z:k<fs.length
  .rw[qr z]at j;rw[UP ⋯];exact h.or k v p j e
  .have lk:=(pf.mp j).1
   have:k=fs.length:=by simp at lk;lia
   subst this;rw[Ek (l_ _)]at j
   have:x=v:=by simpa using j
   subst this;rw[UP (l_ _),R_];exact λm=>nx (h.cl x p u e m)
def Aj(t:Tr n f r)(n12:n<=12):∀(d N:Nat)(fs:WQ)(j a i:WG)(s:e_),n-fs.length<=d->d+1<=N->Kq n f fs ->
  ∃o l y u B,c9 Ut.p V2.p N (Jg f n fs j a i) s=.nx (Jg f n o l y u) B/\Kq n f o/\n<=o.length
 |d,0,fs,j,a,i,s,hd,hN,h=>by lia
 |d,N+1,fs,j,a,i,s,hd,hN,h=>by
  have G:Ut.p (Jg f n fs j a i) s=.ok (decide (fs.length<n)) s:=by simp
  rw[c9,G,Pg];by_cases z:fs.length<n
  .obtain⟨x,l,y,u,B,e,F,C,E⟩:=UG t n12 z h.nd h.bd;rw[c_ (by simpa using z),e]
   match d,hd,hN with
   |0,hd,hN=>lia
   |d+1,hd,hN=>exact Aj t n12 d N (fs++[x]) l y u B (by simp;lia) ⋯ (h.add t F C E)
  .rw[g_ (by simpa using z)];exact⟨fs,j,a,i,s,rfl,h,⋯⟩
def A1(t:Tr n f r)(n12:n<=12):∃o a,fG.p [.pen,.lst ((List.range n).map λv=>bS (f v))] s=.ok (j_ o) a/\On n o/\Kp f o:=by
 obtain⟨o,F,H,G,a,e,h,L⟩:=Aj t n12 n 2000000 [] Y Y Y s (by simp) ⋯ ⟨QZ,(λ_ q=>nomatch q),(λ_ _ _ _ q=>nomatch q),λk v p q=>by simp at q⟩;have all:=λx C=>Classical.byContradiction λz=>by
  have:=List.Nodup.length_le_of_subset (l₁:=x::o) (l₂:=List.range n) (vz.mpr ⟨z,h.nd⟩) λy u=>zl.mpr ((nw.mp u).elim (λe=>e▸C) (h.bd y))
  simp at this;lia
 have pm:o.Perm (List.range n):=(RX h.nd Fb).mpr λx=>⟨λm=>zl.mpr (h.bd x m),λm=>all x (zl.mp m)⟩;refine⟨o,a,?_,⟨n12,pm⟩,λk v p j i=>?_⟩
 .rw[uV (by rfl)];unfold fE;rw[show lw 6 [D.pen,.lst ((List.range n).map λv=>bS (f v))]=[J .pen,J (.lst ((List.range n).map λv=>bS (f v))),Y,Y,Y,Y]from rfl,aB,hW];dsimp![gJ,au,Pb,FC,Eo,if_true,ju,Pg];refine(congrArg (λz:PS=>(z.then _).fin) e).trans ?_;rw[PU.aw,oX (d:=j_ o) rfl,PU.bH]
 .have l:=h.bd v (x3 j);obtain⟨pn,pr⟩:=t.lt v p l i;have E:=h.or k v p j i;obtain⟨m,B,em⟩:=H_ (all p pn);have em:o[m]?=J p:=by rw[<-em];exact yZ B
  refine oE em ?_;rcases Nat.lt_trichotomy k m with z|z | z
  .exact z
  .subst z;lia
  .exact absurd (Jp.mpr ⟨m,by rw[RY z];exact em⟩) E
end
def hq(q:Rat):Rat:=Rat.divInt (q.num % 9-4) (1+(q.den:Int) % 3)
def Qx{q:Rat}:Cm 576 (hq q):=by
 have f:0<=q.num % 9/\q.num % 9<9:=⟨Jz _ (by decide),Jw _ (by decide)⟩;have i:0<=(q.den:Int) % 3/\(q.den:Int) % 3<3:=⟨Jz _ (by decide),Jw _ (by decide)⟩;unfold hq;generalize q.num % 9=a at *;generalize (q.den:Int) % 3=b at *;obtain e|e | e:b=0\/b=1\/b=2:=by lia
 .subst e;exact⟨(a-4)*144,by rw[Rat.divInt_eq_div,Rat.divInt_eq_div];push_cast;grind,⋯⟩
 .subst e;exact⟨(a-4)*72,by rw[Rat.divInt_eq_div,Rat.divInt_eq_div];push_cast;grind,⋯⟩
 .subst e;exact⟨(a-4)*48,by rw[Rat.divInt_eq_div,Rat.divInt_eq_div];push_cast;grind,⋯⟩
def UH{q:Rat}{s:e_}:bh.p [.int (q.num % 9-4),.int (1+(q.den:Int) % 3)] s=.ok (qD (hq q)) s:=by
 obtain⟨b,a⟩:=eQ (show 0<=1+(q.den:Int) % 3 by lia)
 have:=jv (t:=q.num % 9-4) (b:=b) (k:=10) (s:=s) ⋯ ⋯ (by decide)
 unfold hq;rw[a];exact this
def Qy{m:Nat}{q:Rat}(h:Cm m q):Cm m (ab q):=by
 unfold ab;split
 .exact h.neg
 .exact h
def Qz{q:Rat}:D.tup [.int (q.num.natAbs:Int),.int (q.den:Int)]=qD (ab q):=by
 unfold ab;split
 .have:¬0<=q.num:=λz=>by have:=Rat.num_nonneg.mp z;grind
  show _=D.tup [.int (-q).num,.int ((-q).den:Int)];rw[Rat.neg_num,Rat.neg_den];lia
 .have:0<=q.num:=Rat.num_nonneg.mpr (by grind)
  grind
def HL{a:List Pt}{j:Nat}(h:io a j≠0):(j,io a j)∈a:=by
 induction a with
 |nil=>exact absurd dJ h
 |cons p a f =>
  rw[bi]at h ⊢;by_cases e:p.1=j
  .rw[c_ e,<-e];exact En
  .rw[g_ e]at h ⊢;exact ml _ (f h)
def rY{p:Pt}:∀{a:List Pt},(a.map (·.1)).Nodup->p∈a->io a p.1=p.2
 |q::a,nd,h=>by
  rw[k_,vz]at nd;rw[bi];rcases nw.mp h with rfl|h
  .rw[c_ rfl]
  .rw[g_ λe=>nd.1 (by rw[e];exact QP h)];exact rY nd.2 h
def Jh{c:Rat}{i:Nat}{f:Nat->Rat}(y:f i=0):∀{l:WQ},l.Nodup->i∈l->(l.map λj=>if i=j then c else f j).sum=c+(l.map f).sum
 |a::l,nd,u=>by
  rw[vz]at nd;rw[k_,k_,Eh,Eh];rcases nw.mp u with rfl|u
  .have:(l.map λj=>if i=j then c else f j)=l.map f:=Et λj z=>g_ λ(e:i=j)=>nd.1 (by rw[e];exact z)
   rw[this,y];grind
  .rw[Jh y nd.2 u,g_ λ(e:i=a)=>nd.1 (by rw[<-e];exact u)];grind
def zY{n:Nat}:∀{a:List Pt},(a.map (·.1)).Nodup->(∀p∈a,p.1<n)->((List.range n).map λj=>ab (io a j)).sum=(a.map λp=>ab p.2).sum
 |[],_,_=>xm λx _=>by rw[dJ];decide +kernel
 |p::a,nd,f=>by
  rw[k_,vz]at nd;have e:(λj=>ab (io (p::a) j))=λj=>if p.1=j then ab p.2 else ab (io a j):=by
   funext j;rw[bi]
   split<;>rfl
  rw[e,Jh (by rw[cA nd.1];decide +kernel) Fb (zl.mpr (f p (by simp))),zY nd.2 λq hq=>f q (ml _ hq),k_,Eh]
def HM{n:Nat}{i:List Pt}(nd:(i.map (·.1)).Nodup)(u:∀p∈i,p.1<n/\p.2≠0)(y:i.length<64):iL.p [.lst (i.map jj)]=J (.lst ((aX n (io i)).map jj)):=by
 have l:i.Nodup:=by refine(FL.mp nd).imp λh e=>h (by rw[e])
 have e1:iL.p [.lst (i.map jj)]=J (.lst (aT (A_ T) (i.map jj))):=by
  refine c_ ⟨λd hd=>?_,?_,by simpa using y⟩
  .obtain⟨p,_,rfl⟩:=nr.mp hd;rfl
  .rw[qo]
   have:i.map (A_ T∘jj)=(i.map (·.1)).map λ(x:Nat)=>(x:Int):=by rw[qo];rfl
   rw[this];exact FL.mpr (nd.imp λ{a b} h e=>h ⋯)
 rw[e1,gc];congr 3;have pm:(aX n (io i)).Perm i:=by
  refine(RX ?_ l).mpr λp=>?_
  .have:=fK (n:=n) (f:=io i)
   have j:((aX n (io i)).map (·.1)).Nodup:=by rw[this];exact Fb.filter _
   exact(FL.mp j).imp λh e=>h (by rw[e])
  .rw[oP];constructor
   .rintro⟨C,z,B⟩
    have:=HL z
    rwa [<-B]at this
   .intro h
    have:=rY nd h
    exact⟨(u p h).1,by rw[this];exact(u p h).2,this.symm⟩
 refine(lJ pm ?_ ?_).symm
 .show (i.map λp=>((p.1:Nat):Int)).Nodup
  have:(i.map λp=>((p.1:Nat):Int))=(i.map (·.1)).map λ(x:Nat)=>(x:Int):=by rw[qo];rfl
  rw[this];exact nd.map _ λa b h=>by lia
 .have:((aX n (io i)).map (·.1)).Pairwise (·<·):=by rw[fK];exact R0.filter _
  exact(FL.mp this).imp λ{a b} h=>by show(a.1:Int)<=(b.1:Int);lia
structure QA(n i:Nat)(ps:List Pt):Prop where
 nd:(ps.map (·.1)).Nodup
 bd:∀p∈ps,p.1<n/\p.2≠0/\Cm 8000 p.2
 dm:(ps.map λp=>ab p.2).sum<2*ab (io ps i)
abbrev Ft(rs:D)(fs:WR)(z3 z4 z5 z6 z7 z8:WG):aC:=[J .pen,J rs,J (.lst fs),z3,z4,z5,z6,z7,z8]
def ab_p'{q:Rat}(h:0<=q):ab q=q:=by unfold ab;split<;>grind
def Ji{rs z3 z4 z5:D}{fs:WR}{s:e_}:∀(a:List Pt)(w:Rat)(m:Nat)(j i:WG),(∀p∈a,Cm 576 p.2)->Cm m w->m+576*a.length<=8000 ->
  ∃u y,Ei (p_ (ki (h8 7) (ki (h8 8) p6)) 2:Xg [2]).p Ur.p (a.map jj) (Ft rs fs (J z3) (J z4) (J z5) (J (qD w)) j i) s=.nx (Ft rs fs (J z3) (J z4) (J z5) (J (qD (w+(a.map λp=>ab p.2).sum))) u y) s/\Cm (m+576*a.length) (w+(a.map λp=>ab p.2).sum)
 |[],w,m,j,i,z,l,B=>⟨j,i,by
  have:w+(([]:List Pt).map λp=>ab p.2).sum=w:=by show w+0=w;grind
  rw[this];exact⟨rfl,l⟩⟩
 |p::a,w,m,j,i,z,l,B=>by
  have f:=Qy (z p (by simp));have E:m+576*(a.length+1)<=8000:=B;have L:=l.sz (k:=13) ⋯ (by decide);have M:=f.sz (k:=13) (by decide) (by decide);have q:=vg (p:=w) (q:=ab p.2) (s:=s) ⋯;obtain⟨u,y,e,c⟩:=Ji (rs:=rs) (z3:=z3) (z4:=z4) (z5:=z5) (fs:=fs) (s:=s) a (w+ab p.2) (m+576) (J (inD' p.1)) (J (qD p.2)) (λq hq=>z q (ml _ hq)) (l.add f) ⋯;have F:w+ab p.2+(a.map λp=>ab p.2).sum=w+((p::a).map λp=>ab p.2).sum:=by rw[k_,Eh];grind
  rw[F]at e c;refine⟨u,y,?_,by rw[DR];exact c.mono ⋯⟩;have b:Ur.p (Ft rs fs (J z3) (J z4) (J z5) (J (qD w)) (J (inD' p.1)) (J (qD p.2))) s=.nx (Ft rs fs (J z3) (J z4) (J z5) (J (qD (w+ab p.2))) (J (inD' p.1)) (J (qD p.2))) s:=by have H:h_.p (qD p.2) (.int 0)=J (.int p.2.num):=rfl;have G:h_.p (qD p.2) (.int 1)=J (.int (p.2.den:Int)):=rfl;have C:nF.p [.int p.2.num]=J (.int (p.2.num.natAbs:Int)):=vV;rw[aS];simp![aE,ah,cj,bC,aD,bf,aR,H,G,Pf,au,C,DR,FC,show(0+1+1:Nat)<=100000 by decide,if_true,Qz,q,Pg,zJ,yT]
  rw[k_,eW (env1:=Ft rs fs (J z3) (J z4) (J z5) (J (qD w)) (J (inD' p.1)) (J (qD p.2))) rfl,b];exact e
def UI{n i:Nat}{g:Nat->Nat->Rat}{rs:D}{fs:WR}{z5 z6 z7 z8:WG}{s:e_}(n6:n<=6)(hi:i<n)(hf:fs.length<=100):
  ∃ps y5 y6 W P C,Us.p (Ft rs fs (J (inD' i)) (J (bP n (g i))) z5 z6 z7 z8) s=.nx (Ft rs (fs++[bP n (io ps)]) (J (inD' i)) (J (bP n (g i))) y5 y6 W P) C/\QA n i ps:=by
 have U:∀{x y:D}{s:e_},(if [x,y].length<=100000 then PR.ok (D.tup [x,y]) s else .bad)=.ok (.tup [x,y]) s:=λ{x y s}=>c_ (by simp);have lP:(aX n (g i)).length<=6:=by unfold aX;rw[qx];exact oh (Ef _ _) (by simp;lia)
 have G:=qE (ws:=[2]) (ws':=[]) (env:=Ft rs fs (J (inD' i)) (J (bP n (g i))) z5 z6 z7 z8) (s:=s) (s0:=s) (fm:=[3]) (i:=bc (aa 4)) (t:=xB (af xg (aa 0) (aa 2))) (e:=bt (ae (aa 0) (ae (az bh (ae (af mD (af iV (af h_ (aa 1) (xC (.int 0))) (xC (.int 9))) (xC (.int 4))) (ae (af c8 (xC (.int 1)) (af iV (af h_ (aa 1) (xC (.int 1))) (xC (.int 3)))) a_))) a_))) (l:=aX n (g i)) (λp=>inD' p.1) (λp=>qD p.2) (λp=>jj (p.1,hq p.2)) (λp=>!decide (p.1=i)) (by
  simp![cM];rfl) ⋯ (λp f=>⟨by
   have:C0 I (inD' p.1) (inD' i)=J (.bl (!decide (p.1=i))):=by rw[cV,c_ rfl,decide_eq_decide.mpr (show((p.1:Nat):Int)=(i:Int)↔p.1=i by lia)]
   simp![bM,aD,k_,EZ,Mw,Fx,FA,d4,this,Pf,Pl],λ_=>by
   have Z:h_.p (qD p.2) (.int 0)=J (.int p.2.num):=rfl;have i1:h_.p (qD p.2) (.int 1)=J (.int (p.2.den:Int)):=rfl;have m9:iV.p (.int p.2.num) (.int 9)=J (.int (p.2.num % 9)):=jQ (by decide);have m3:iV.p (.int (p.2.den:Int)) (.int 3)=J (.int ((p.2.den:Int) % 3)):=jQ (by decide)
   simp![cj,ah,aE,aD,bf,aR,Z,i1,Pf,m9,m3,pc,fi,au,UH,U]⟩)
 generalize H:((aX n (g i)).filter λp=>!decide (p.1=i))=A;rw[H]at G;have lA:A.length<=6:=by rw[<-H];exact oh (Ef _ _) lP
 rw[show(A.map λp=>jj (p.1,hq p.2))=(A.map λp=>((p.1,hq p.2):Pt)).map jj by rw[qo];rfl]at G;generalize L:(A.map λp=>((p.1,hq p.2):Pt))=B;rw[L]at G;have lB:B.length<=6:=by rw[<-L,qx];exact lA
 have X:=qE (ws:=[2]) (ws':=[]) (env:=Ft rs fs (J (inD' i)) (J (bP n (g i))) (J (.lst (B.map jj))) z6 z7 z8) (s:=s) (s0:=s) (fm:=[]) (i:=bc (aa 5)) (t:=xB (af xg (af h_ (aa 1) (xC (.int 0))) (xC (.int 0)))) (e:=bt (ae (aa 0) (ae (aa 1) a_))) (l:=B) (λp=>inD' p.1) (λp=>qD p.2) (λp=>jj p) (λp=>!decide (p.2=0)) (by
  simp![cM];rfl) ⋯ (λp f=>⟨by
   have Z:h_.p (qD p.2) (.int 0)=J (.int p.2.num):=rfl;simp![bM,aD,bf,aR,Z,Pf,d4,cV,if_true,Pl];rw[decide_eq_decide.mpr (Rat.num_eq_zero (q:=p.2))],λ_=>by
   simp![cj,ah,au,U]⟩)
 generalize F:(B.filter λp=>!decide (p.2=0))=Q;rw[F]at X;have lQ:Q.length<=6:=by rw[<-F];exact oh (Ef _ _) lB
 have M:∀p∈B,p.1<n/\p.1≠i/\Cm 576 p.2:=λp f=>by
  rw[<-L]at f;obtain⟨q,hq,rfl⟩:=nr.mp f;rw[<-H]at hq
  have:=zN.mp hq
  exact⟨(oP.mp this.1).1,by simpa using this.2,Qx⟩
 have j:∀p∈Q,(p.1<n/\p.1≠i/\Cm 576 p.2)/\p.2≠0:=λp f=>by
  rw[<-F]at f
  have:=zN.mp f
  exact⟨M p this.1,by simpa using this.2⟩
 have E:(Q.map (·.1)).Nodup:=by
  have n1:((aX n (g i)).map (·.1)).Nodup:=by rw[fK];exact Fb.filter _
  have n2:(A.map (·.1)).Nodup:=by rw[<-H];exact n1.sublist (Nf.map _)
  have n3:B.map (·.1)=A.map (·.1):=by rw[<-L,qo];rfl
  rw[<-F];exact(n3▸n2).sublist (Nf.map _)
 obtain⟨d,C,d0,d1,qd⟩:=eE (s:=s) (size:=3) (by decide) (by decide);obtain⟨d,rfl⟩:=eQ d0;have w0:(D.tup [.int (1+(d:Int)),.int 1])=qD ((1:Rat)+(d:Rat)):=by
  have:((1:Rat)+(d:Rat))=((1+(d:Int):Int):Rat):=by push_cast;rfl
  rw[this];show _=D.tup [.int ((1+(d:Int):Int):Rat).num,.int (((1+(d:Int):Int):Rat).den:Int)];rw[Rat.num_intCast,Rat.den_intCast];rfl
 have wc:Cm 432 ((1:Rat)+(d:Rat)):=⟨(1+(d:Int))*144,by rw[Rat.divInt_eq_div];push_cast;grind,⋯⟩;obtain⟨W,P,e3,u⟩:=Ji (rs:=rs) (z3:=inD' i) (z4:=bP n (g i)) (z5:=.lst (Q.map jj)) (fs:=fs) (s:=C) Q ((1:Rat)+(d:Rat)) 432 z7 z8 (λp f=>(j p f).1.2.2) wc ⋯;generalize O:(Q.map λp=>ab p.2).sum=S at e3 u;have S0:0<=S:=by
  rw[<-O];clear O e3 u F X j E lQ
  induction Q with
  |nil=>exact Rat.le_refl
  |cons a l ih=>rw[k_,Eh];have:=Ml (q:=a.2);grind
 have dn:(0:Rat)<=(d:Rat):=by exact_mod_cast Eo d
 generalize hw:(1:Rat)+(d:Rat)+S=w at e3 u;have wp:0<w:=by grind
 have nd:((Q++[(i,w)]).map (·.1)).Nodup:=by
  rw[Fc]
  exact Ia.mpr ⟨E,by simp,λa ha b hb e=>by
   obtain⟨p,f,rfl⟩:=nr.mp ha
   have:b=i:=by simpa using hb
   exact(j p f).1.2.1 (e.trans this)⟩
 have ca:io (Q++[(i,w)]) i=w:=rY (p:=(i,w)) nd (by simp);have R:QA n i (Q++[(i,w)]):=by
  refine⟨nd,λp f=>?_,?_⟩
  .rcases DY.mp f with f|f
   .exact⟨(j p f).1.1,(j p f).2,(j p f).1.2.2.mono (by decide)⟩
   .have:p=(i,w):=by simpa using f
    subst this;exact⟨hi,by grind,u.mono ⋯⟩
  .rw[ca,Fc,oN,O,k_,EZ,Eh,Q2,ab_p' (Rat.le_of_lt wp)]
   grind
 have so:=HM (n:=n) R.nd (λp f=>⟨(R.bd p f).1,(R.bd p f).2.1⟩) (by simp;lia);have ad:c8.p (.lst (Q.map jj)) (.lst [.tup [inD' i,qD w]])=J (.lst ((Q++[(i,w)]).map jj)):=by rw[yq (by simp;lia),Fc];rfl
 refine⟨Q++[(i,w)],J (.lst (Q.map jj)),J (qD w),W,P,C,?_,R⟩;rw[aB,aS,G];dsimp![Pg];rw[aB,aS,X];dsimp![Pg];rw[aB,aS];dsimp![cj,ah,aD,bf,aR,Pb,aE,ag,au,qd,fi,Pf,U,Pg];rw[aB,dW,cM];simp![Pb];show PS.then (PR.go (PR.of (J (Q.map jj)) C) _ _) _=_;rw[Pf,Pg,w0];refine(congrArg (λz:PS=>z.then _) e3).trans ?_
 rw[PU.aw,jm (s1:=C) (as:=[bP n (io (Q++[(i,w)]))]) (ds:=fs) (ds':=fs++[bP n (io (Q++[(i,w)]))]) (r:=.non) (by
  simp![ah,bC,aD,gJ,cj,au,DR,FC,show(0+1+1:Nat)<=100000 by decide,show(0+1:Nat)<=100000 by decide,if_true,ad,Pf,so,g8]) rfl (by rw[jT ⋯])]
 rfl
def QB{n:Nat}{fs:List (List Pt)}(n6:n<=6)(C:fs.length=n)(h:∀k f,fs[k]?=J f->QA n k f):Sh n (gF fs)/\Dm (List.range n) (gF fs):=by
 have at':∀i,i<n->∃f,gF fs i=io f/\QA n i f:=λi a=>by
  have e:=yZ (show i<fs.length by lia);exact⟨_,by unfold gF;rw[HZ,e];rfl,h i _ e⟩
 have l:∀i,¬i<n->∀j,gF fs i j=0:=λi a j=>by
  unfold gF;rw[HZ,Di ⋯];rfl
 refine⟨⟨n6,λi j y=>?_,144,by decide,by decide +kernel,λi j=>?_⟩,λi a=>?_⟩
 .by_cases a:i<n
  .obtain⟨f,e,r⟩:=at' i a;rw[e];exact cA λm=>by
    obtain⟨p,u,e⟩:=nr.mp m;exact y ⟨a,e▸(r.bd p u).1⟩
  .exact l i a j
 .by_cases a:i<n
  .obtain⟨f,e,r⟩:=at' i a;rw[e];rcases xD with z|⟨p,u,e2⟩
   .exact⟨0,by rw[z,Rat.zero_divInt],by decide +kernel⟩
   .obtain⟨z,e3,B⟩:=(r.bd p u).2.2;exact⟨z,by rw[<-e2,e3];rfl,⋯⟩
  .exact⟨0,by rw[l i a j,Rat.zero_divInt],by decide +kernel⟩
 .have a:=zl.mp a;obtain⟨f,e,r⟩:=at' i a;rw[e,zY r.nd λp u=>(r.bd p u).1];exact r.dm
def w4{n:Nat}{g:Nat->Nat->Rat}{s:e_}(n6:n<=6):∃G j,cC.p [.pen,.tup ((List.range n).map λi=>bP n (g i))] s=.ok (.tup ((List.range n).map λi=>bP n (G i))) j/\Sh n G/\Dm (List.range n) G:=by
 generalize O:D.tup ((List.range n).map λi=>bP n (g i))=E;obtain⟨env,j,e,fs,M,H,y,l,B,u,rfl,f,P⟩:=dR (g:=(p_ (ki (h8 3) (ki (h8 4) p6)) 2:Xg [2]).p) (b:=Us.p)
  (λm env j=>∃fs M H y l B u,env=Ft E (fs.map λa=>bP n (io a)) M H y l B u/\(fs:List (List Pt)).length=m/\∀k a,fs[k]?=J a->QA n k a) (aY ((List.range n).map λi=>bP n (g i))) 0 (Ft E [] Y Y Y Y Y Y) s ⟨[],_,_,_,_,_,_,rfl,rfl,λk a h=>by simp at h⟩ (λm env j d L hd=>by
   obtain⟨fs,M,H,y,l,B,u,X,f,P⟩:=L;rw[ER]at f ⊢;subst X;have F:=w9 hd;obtain⟨F,rfl⟩:=F;obtain⟨a,y5,y6,Z,y8,R,e,r⟩:=UI (n:=n) (i:=m) (g:=g) (rs:=E) (fs:=fs.map λa=>bP n (io a)) (z5:=y) (z6:=l) (z7:=B) (z8:=u) (s:=j) n6 F (by simp;lia);refine⟨_,_,R,rfl,e,fs++[a],_,_,_,_,_,_,by rw[Fc];rfl,by simp[f],λk Q C=>?_⟩;by_cases z:k<fs.length
   .rw[qr z]at C;exact P k Q C
   .have lk:=(pf.mp C).1
    have:k=fs.length:=by simp at lk;lia
    subst this
    have:a=Q:=by simpa using C
    subst this
    rw[f];exact r)
 have W:(aY ((List.range n).map λi=>bP n (g i))).length=n:=by simp[aY]
 rw[ER,W]at f;obtain⟨U,dm⟩:=QB n6 f P;refine⟨gF fs,j,?_,U,dm⟩;have S:=BR f;subst O;rw[sO (by rfl)];unfold eI;rw[show ∀x,lw 9 [D.pen,x]=[J .pen,J x,Y,Y,Y,Y,Y,Y,Y]from λ_=>rfl,aB,hW];dsimp![gJ,au,Pb,FC,Eo,if_true,ju,Pg];rw[aB,dW,dS,ah];simp![au];show((PS.then (PR.go (PR.of (J (aY ((List.range n).map λi=>bP n (g i)))) s) _ _) _)).fin=_;rw[Pf,Pg];refine(congrArg (λz:PS=>(z.then _).fin) e).trans ?_;rw[PU.aw];simp![bJ,bC,ah,au,g8,Pf,S,Pg,PU.bH]
def tJ(S:aC->Prop):∀(j:WQ)(env:aC)(s:e_),S env ->
  (∀x∈j,∀env s,S env->∃a,g (inD' x) env=J a/\S a/\∃q l,t a s=.ok I s/\e a s=.ok (qD q) l/\sz q<=20) ->
  ∃(i:List Rat)(F:e_),dN g t e (j.map inD') env s=.ok (i.map qD) F/\i.length=j.length/\∀q∈i,sz q<=20
 |[],env,s,z,f=>⟨[],s,rfl,rfl,λ_ h=>nomatch h⟩
 |x::j,env,s,z,f=>by
  obtain⟨a,e1,u,q,l,e2,e3,hq⟩:=f x (by simp) env s z;obtain⟨i,C,e5,G,E⟩:=tJ S j a l u λy B=>f y (ml x B);refine⟨q::i,C,?_,by simp[G],λp h=>?_⟩
  .rw[k_,dN,e1];dsimp only;rw[e2,Pb];simp only[if_true,e3,Pb,e5,k_]
  .rcases nw.mp h with rfl|h
   .exact hq
   .exact E p h
def HN{a:List Rat}(u:a.length<=12)(h:∀q∈a,sz q<=20):DW 300 λi=>a.getD i 0:=by
 obtain⟨E,l,j,f⟩:=yx (e:=300) ⋯ h;refine⟨E,l,j,λi _=>f _ ?_⟩;show a.getD i 0=0\/a.getD i 0∈a;rw[HZ]
 cases e:a[i]? with
 |none=>exact .inl rfl
 |some q=>exact .inr (x3 e)
def HP{a:List Rat}{n:Nat}(h:a.length=n):ql n (λi=>a.getD i 0)=.lst (a.map qD):=by
 refine congrArg D.lst ?_;apply E_
 grind
def Mo{n:Nat}{env:aC}{s:e_}(E:n<=12)(e0:env[0]?=J (J .pen))(e1:env[1]?=J (J (.int (n:Int)))):∃b f,VW.p env s=.ok (ql n b) f/\DW 300 b:=by
 have fm:(([0]:WQ).map λi=>(env[i]?).getD Y)=[J .pen]:=by simp[e0]
 obtain⟨C,f,e,l,hq⟩:=tJ (g:=(h8 0:Xg []).p) (t:=(mL:Xt []).p) (e:=(az cP (ae (aa 1) a_):Xe []).p) (λv=>∃z,v=z::[J .pen]) (List.range n) (w_ 1 [0] env) s ⟨Y,by unfold w_;rw[fm];rfl⟩ (λx B j s a=>by
  obtain⟨z,y⟩:=a;subst y;obtain⟨q,u,e,hq⟩:=vW (s:=s)
  exact⟨_,rfl,⟨J (inD' x),rfl⟩,q,u,rfl,by simp![aE,ah,yT,au,e],hq⟩)
 rw[EK]at l;refine⟨_,f,?_,HN ⋯ hq⟩;rw[HP l];have r:dw 0 n=(List.range n).map inD':=by simp[dw]
 rw[lq,dS,ah,GO e1,Pb,au,Pb,Pb,lM ⋯,Eu,Pf,Pb,c_ (by rw[p8];lia),r,e]
 try rfl
abbrev FK(a b c:D)(z3 z4 z5 z6 z7:WG):aC:=[J a,J b,J c,z3,z4,z5,z6,z7]
def Jj:∀(f:List Pt)(w:Rat)(j i:WG),(∀p∈f,p.1<n/\sz p.2+sz (x p.1)<=300000)->(∀k,sz (w+kr (f.take k) x)<=300000) ->
  ∃l u,Ei (p_ (ki (h8 6) (ki (h8 7) p6)) 2:Xg []).p Uu.p (f.map jj) (FK a (ql n x) c z4 z5 (J (qD w)) j i) s=.nx (FK a (ql n x) c z4 z5 (J (qD (w+kr f x))) l u) s
 |[],w,j,i,_,_=>⟨j,i,by
  rw[show w+kr [] x=w by rw[show kr [] x=0 from rfl];grind];rfl⟩
 |p::f,w,j,i,z,B=>by
  obtain⟨F,G⟩:=z p (by simp);have y:=B 0;have y:sz w<=300000:=by rw[show w+kr ((p::f).take 0) x=w by rw[List.take_zero,show kr [] x=0 from rfl];grind]at y;exact y
  have C:=xQ (p:=p.2) (q:=x p.1) (s:=s) ⋯;have E:=vg (p:=w) (q:=p.2*x p.1) (s:=s) (by have:=jH p.2 (x p.1);lia)
  obtain⟨l,u,e⟩:=Jj (n:=n) (a:=a) (c:=c) (x:=x) (z4:=z4) (z5:=z5) (s:=s) f (w+p.2*x p.1) (J (inD' p.1)) (J (qD p.2)) (λq hq=>z q (ml _ hq)) (λk=>by
   have:=B (k+1)
   rw[show w+p.2*x p.1+kr (f.take k) x=w+(p.2*x p.1+kr (f.take k) x) by grind]
   exact this)
  refine⟨l,u,?_⟩;have b:Uu.p (FK a (ql n x) c z4 z5 (J (qD w)) (J (inD' p.1)) (J (qD p.2))) s=.nx (FK a (ql n x) c z4 z5 (J (qD (w+p.2*x p.1))) (J (inD' p.1)) (J (qD p.2))) s:=by rw[aS];simp![aE,ah,aD,d7,md F,Pf,au,C,E,Pg,zJ,yT]
  rw[gw,show w+(p.2*x p.1+kr f x)=w+p.2*x p.1+kr f x by grind];rw[k_,eW (show(p_ (ki (h8 6) (ki (h8 7) p6)) 2:Xg []).p (jj p) (FK a (ql n x) c z4 z5 (J (qD w)) j i)=J (FK a (ql n x) c z4 z5 (J (qD w)) (J (inD' p.1)) (J (qD p.2)))from rfl),b];exact e
def xV(h:p∈aX n f):p.1<n/\p.2=f p.1:=by obtain⟨j,a,rfl⟩:=nr.mp h;exact⟨zl.mp (zN.mp a).1,rfl⟩
def UJ{n i:Nat}{g:Nat->Nat->Rat}{x b:Nat->Rat}{a c:D}{G F B:WG}{s:e_}(U:n<=12)(E:Ov 350 g)(C:DW 250000 x)(H:vn n (g i) x=b i):
  ∃P f l,VV.p (FK a (ql n x) c (J (.tup ((aX n (g i)).map jj))) (J (qD (b i))) G F B) s=.nx (FK a (ql n x) c (J (.tup ((aX n (g i)).map jj))) (J (qD (b i))) P f l) s:=by
 have hr:(aX n (g i)).length<=12:=by
  unfold aX;rw[qx]
  have:=Ef (λj=>!decide (g i j=0)) (List.range n)
  simp at this;lia
 obtain⟨f,l,e⟩:=Jj (n:=n) (a:=a) (c:=c) (x:=x) (z4:=J (.tup ((aX n (g i)).map jj))) (z5:=J (qD (b i))) (s:=s) (aX n (g i)) 0 F B (λp u=>by
  obtain⟨M,Q⟩:=xV u;have S:sz (x p.1)<=250000:=C.sz ⋯ p.1 0;have R:=E.sz ⋯ i p.1
  exact⟨M,⋯⟩) (λk=>by
  have:=UC (v:=i) C E (r:=(aX n (g i)).take k) (λp u=>(xV (R3 u)).2) (by rw[Jx];lia)
  rw[show(0:Rat)+kr ((aX n (g i)).take k) x=kr ((aX n (g i)).take k) x by grind]
  lia)
 rw[HE,H,show(0:Rat)+b i=b i by grind]at e;have L:∀{x y:D}{s:e_},(if [x,y].length<=100000 then PR.ok (D.tup [x,y]) s else .bad)=.ok (.tup [x,y]) s:=λ{x y s}=>c_ (by simp);have O:C0 I (qD (b i)) (qD (b i))=J (.bl T):=by rw[p7];simp
 refine⟨J (qD (b i)),f,l,?_⟩;rw[aB,aS];dsimp![cj,ah,bf,aR,Pb,au,L,Pg];refine(congrArg (λz:PS=>z.then _) e).trans ?_;rw[PU.aw,bq];simp![bM,aD,d4,O,Pf,Pl,Pg,wy,if_false,bo]
def HQ(O:n<=12)(P:Ov 350 g)(L:DW 250000 x)(M:∀i,i<n->vn n (g i) x=b i):j6.p [pu n g,ql n x,ql n b] s=.ok (.bl I) s:=by
 obtain⟨E,U,e2,W,Z,X,Q,H,rfl,u⟩:=dR (g:=(p_ (ki (h8 3) (ki (h8 4) p6)) 2:Xg []).p) (λk env j=>∃F B C y G,env=FK (pu n g) (ql n x) (ql n b) F B C y G/\j=s) (jM ((List.range n).map λi=>.tup ((aX n (g i)).map jj)) ((List.range n).map λi=>qD (b i))) 0 (FK (pu n g) (ql n x) (ql n b) Y Y Y Y Y) s ⟨_,_,_,_,_,rfl,rfl⟩ (λk env j d a hd=>by
  obtain⟨F,B,C,y,G,S,f⟩:=a;subst S;subst f;have R:k<n:=by have:=(pf.mp hd).1;simpa [jM]using this
  have l:d=.tup [.tup ((aX n (g k)).map jj),qD (b k)]:=by
   unfold jM at hd
   simp_all
  subst l;obtain⟨Q,H,y8,e⟩:=UJ O P L (M k R)
  exact⟨_,_,j,rfl,e,_,_,_,_,_,rfl,rfl⟩)
 rw[u]at e2;refine(congrArg (λz:PS=>(z.then _).fin) e2).trans ?_;rfl
section
variable{n:Nat}{ns:WQ}{g:Nat->Nat->Rat}
def QC(o:On n ns):Tr n (pr ks ns) ns.idxOf:=⟨λv p hv e=>by
 obtain⟨f,a⟩:=jG o hv;obtain⟨m,lt,em⟩:=ii (Je o (ns.idxOf v) v p (by rw[bu o f,a]) e);have pn:=o.lt p (x3 em)
 have:=k8 o (show m<n by have:=(pf.mp em).1;rw[o.len]at this;exact this)
 rw[HI o em]at this
 exact⟨pn,⋯⟩⟩
def xF(nd:(ws.map (·.v)).Nodup)(f:ws.length<64):iL.p [.lst (ws.map n8)]=J (.lst ((aT (λw=>(w.v:Int)) ws).map n8)):=by
 have e1:iL.p [.lst (ws.map n8)]=J (.lst (aT (A_ T) (ws.map n8))):=by
  refine c_ ⟨λd hd=>?_,?_,by simpa using f⟩
  .obtain⟨p,_,rfl⟩:=nr.mp hd;rfl
  .rw[qo]
   have:ws.map (A_ T∘n8)=(ws.map (·.v)).map λ(x:Nat)=>(x:Int):=by rw[qo];rfl
   rw[this];exact FL.mpr (nd.imp λ{a b} h e=>h ⋯)
 rw[e1,gc];rfl
def yP(o:On n ns):((List.range n).map (hI n ns g)).map (·.v)=ns:=by
 rw[qo];apply E_;intro k;by_cases a:k<n
 .rw[se,Jt a,bu o a];rfl
 .rw[Di (by simp;lia),Di (by rw[o.len];lia)]
def Cl{ws:List Wk}{s:e_}(i:ws.length<=12)(h:∀w∈ws,w.r.length<=1000/\w.c.length<=1000):cW.p [.lst (ws.map n8),.lst (ws.map n8)] s=.ok (.bl I) s :=
 AC (by rw[qx];lia) (λx f=>by
  obtain⟨w,a,rfl⟩:=nr.mp f
  exact Qe (h w a).1 (h w a).2) s
def Mp(a:n<=12):cW.p [ql n x,ql n x] s=.ok (.bl I) s :=
 AC (by rw[qx,EK];lia) (λd hd=>by
  obtain⟨i,_,rfl⟩:=nr.mp hd
  exact om gK gK) s
def CD(h:∀i,i<n->x i=y i):ql n x=ql n y :=
 congrArg D.lst (Et λi a=>by rw[h i (zl.mp a)])
def Jk(f:El n 120000 ns g):∀k,k<n->av ns g k (d_ ns k) (d_ ns k)≠0:=λk a=>f.pv k a
def uf(G:Sh n g)(o:On n ns)(L:El n 120000 ns g){s:e_}:∃s',cz.p [.pen,pu n g,j_ ns,kG n ns g] s=.ok (.bl I) s':=by
 have n12:=o.n12;have n6:=G.n6;obtain⟨R,et,wt,tk⟩:=Mk (n:=n) (g:=g) (s:=s) n6;have ea:=HK wt o (s:=s);obtain⟨f,y,ek,u,C⟩:=A1 (QC (ks:=R) o) n12 (s:=s);have hg:∀i j,g i j≠0->Co (pr R ns) i j:=λi j nz=>by
  have B:i<n/\j<n:=Classical.byContradiction λz=>nz (G.off i j z);by_cases e:i=j
  .exact .inl e
  .exact Qu o B.1 B.2 e (tk i j B.1 B.2 e nz)
 have H:=Je (ks:=R) o;have hv:=λk (M:k<n)=>(pE G u o C H hg (Jk L) M).1;obtain⟨ac,es⟩:El n 120000 f g/\bY.p [pu n g,j_ f] y=.ok (kG n f g) y:=by
  rcases G.struck u (s:=y)with⟨_,k,M,z⟩|h
  .exact absurd z (hv k M)
  .exact h
 have pm:=Cs G u o C H hg (Jk L);have E:(((List.range n).map (hI n ns g)).map (·.v)).Nodup:=by rw[yP o];exact o.nd
 have O:(((List.range n).map (hI n f g)).map (·.v)).Nodup:=by rw[yP u];exact u.nd
 have P:=xF E (by simp;lia);have F:=xF O (by simp;lia);have Q:(((List.range n).map (hI n ns g)).map λw=>(w.v:Int)).Nodup:=by
  have:=FL.mpr (E.imp (S:=λa b=>((a:Nat):Int)≠(b:Int)) λ{a b} h e=>h ⋯)
  rwa [qo]at this
 have eq:aT (λw:Wk=>(w.v:Int)) ((List.range n).map (hI n f g))=aT (λw=>(w.v:Int)) ((List.range n).map (hI n ns g)):=lJ ((bX _ _).trans pm) Q (nH _ _);rw[eq]at F;have e1:=Qf (ns:=ns) (ws:=(List.range n).map (hI n ns g)) (s:=s) (by simp[o.len]) (by rw[o.len];exact n12) (L.wok (by decide));have e2:=El.mult L (by decide) (s:=s);have e3:=AH (neg:=I) (HD (n:=n) (g:=g));have sm:=Cl (ws:=aT (λw=>(w.v:Int)) ((List.range n).map (hI n ns g))) (s:=y) (by rw[(bX _ _).length_eq];simp;lia) λw Z=>by
  have:=(bX _ _).mem_iff.mp Z
  obtain⟨k,M,rfl⟩:=nr.mp this
  have:=oO (k:=k) o
  have r1:=Ef (λj=>!decide (av ns g k (d_ ns k) j=0)) (tt n ns k);have r2:=Ef (λi=>!decide (av ns g k i (d_ ns k)=0)) (tt n ns k);unfold hI Cr;simp only[qx];lia
 have X:=eX (ws:=[]) (ws':=[]) (env:=[J .pen,J (pu n g),J (j_ ns),J (kG n ns g),J (j_ f),J (kG n f g)]) (s:=y) (s0:=y) (fm:=[]) (i:=bc (aa 5)) (t:=mL) (e:=af h_ (aa 0) (xC (.int 0))) (l:=(List.range n).map (hI n f g)) n8 (λw=>inD' w.v) (λ_=>I) (by
  simp![cM];rfl) (by simp;lia) (λw Z=>⟨rfl,λ_=>by
   have i0:h_.p (n8 w) (.int 0)=J (inD' w.v):=rfl
   simp only[aD,ag,Pb,bf,aR,i0,Pf]⟩)
 rw[Js.mpr (by simp),show(((List.range n).map (hI n f g)).map λw=>inD' w.v)=(((List.range n).map (hI n f g)).map (·.v)).map inD' by rw[qo (g:=inD')];rfl,yP u]at X;have e4:C0 I (j_ f) (j_ f)=J (.bl T):=by
  have:=pW (neg:=I) (xs:=Fs f) (ys:=Fs f)
  rw[qo]at this;refine Eq.trans this ?_;simp
 have e5:=El.back L (by decide) (s:=y);have e6:=HC (n:=n) (g:=g) (s:=y) n12;have W:h_.p (pu n g) (.int 0)=J (.int (n:Int)):=rfl;refine⟨y,?_⟩;rw[pR (by rfl)];unfold dC;rw[show lw 6 [D.pen,pu n g,j_ ns,kG n ns g]=[J .pen,J (pu n g),J (j_ ns),J (kG n ns g),Y,Y]from rfl,aB,bq];simp![im,cN,bM,aE,ah,aD,bf,aR,au,e1,Pl,Eg,wy,if_false,W,Pf,e2,d4,e3,Pg,bo,PU.aw];rw[aB,aS];simp![aE,ah,au,et,ea,ek,Pg,zJ,yT,PU.aw];rw[aB,aS];simp![aE,ah,au,es,Pg,zJ,yT,PU.aw];have U:(Ea T).p (kG n f g) .non=J (.bl T):=rfl;rw[aB,bq];simp![im,cN,bM,aE,ah,bC,aD,bf,jt,au,U,Pf,Pl,wy,if_false,P,F,sm,Eg,X,d4,e4,Pg,bo,PU.aw];simp![bJ,aE,ah,aD,bf,aR,W,Pf,au,e5,e6,Pg,PU.bH]
end
abbrev V3:Xd []:=(aG (aP 8 (az f9 (ae (aa 0) (ae (aa 1) a_))))
 (aG (aP 9 (az bY (ae (aa 4) (ae (aa 8) a_))))
 (aG (sw (kH (xB (af (Ea T) (aa 9) (xC .non))) (GW (aa 2))) (aU (xC (.bl T))) i_)
 (sw (xB (af (Ea I) (aa 9) (xC .non))) (aG (sw (bQ (xB (az cz (ae (aa 0) (ae (aa 4) (ae (aa 8) (ae (aa 9) a_))))))) (aU (xC (.bl T))) i_)
 (aG (aP 10 (az g6 (ae (aa 1) (ae (aa 9) (ae (m_ gH (ae (aa 5) a_)) a_)))))
 (aG (sw (kH (xB (af (Ea I) (aa 6) (xC .non))) (bQ (xB (az cW (ae (aa 10) (ae (aa 6) a_)))))) (aU (xC (.bl T))) i_)
 (aP 6 (aa 10))))) i_))))
section
variable{n:Nat}{g:Nat->Nat->Rat}{b:Nat->Rat}{w:Bool}
abbrev QD(n:Nat)(w:Bool)(rs:D)(g:Nat->Nat->Rat)(b:Nat->Rat)(x:D)(z7 z8 z9 z10:WG):aC:=[J .pen,J (.int (n:Int)),J (.bl w),J rs,J (pu n g),J (ql n b),J x,z7,z8,z9,z10]
def UK(n:Nat)(g:Nat->Nat->Rat)(b:Nat->Rat)(x:D):Prop:=x=.non\/∃xs,x=ql n xs/\(∀i,i<n->vn n (g i) xs=b i)/\DW 250000 xs
def UL(l:Sh n g)(E:w=I->Dm (List.range n) g)(L:DW 300 b)(G:UK n g b x):
  ∃H U O C W,V3.p (QD n w rs g b x z7 z8 z9 z10) s=.nx (QD n w rs g b H z7 U O C) W/\UK n g b H:=by
 have n6:=l.n6;obtain⟨ns,y,F,o⟩:=Hv (n:=n) (s:=s) ⋯;have a:∀{M:WR}{neg:Bool},(Ea neg).p (.lst M) .non=J (.bl neg):=λ{M neg}=>by cases neg<;>rfl
 have B:∀{neg:Bool},(Ea neg).p .non .non=J (.bl (!neg)):=λ{neg}=>by cases neg<;>rfl
 rcases l.struck o (s:=y)with⟨e,k,hk,z⟩|⟨f,e⟩
 .have E:w=T:=by
   cases w with
   |false=>rfl
   |true=>exact absurd z ((Dm.pv o (E rfl) n (l_ _)).2 k hk)
  subst E;refine⟨x,J (j_ ns),J .non,z10,y,?_,G⟩;rw[aB,aS];simp![aE,ah,au,F,Pg,zJ,yT,PU.aw];rw[aB,aS];simp![aE,ah,au,e,Pg,zJ,yT,PU.aw];rfl
 .obtain⟨j,P⟩:=uf l o f (s:=y);have S:=f.solved l L (s:=j);have cl:gH.p [ql n b]=J (ql n b):=xc (by simp;lia);refine⟨ql n (sol n ns g b),J (j_ ns),J (kG n ns g),J (ql n (sol n ns g b)),j,?_,.inr ⟨_,rfl,λi u=>f.sol u,f.bw_le l L (l_ _)⟩⟩;have R:(kH (xB (af (Ea I) (aa 6) (xC .non))) (bQ (xB (az cW (ae (aa 10) (ae (aa 6) a_))))):Xt []).p (QD n w rs g b x z7 (J (j_ ns)) (J (kG n ns g)) (J (ql n (sol n ns g b)))) j=.ok T j:=by
   rcases G with rfl|⟨xs,rfl,Q,h2⟩
   .simp![vI,bM,aD,bf,jt,B,Pf,Pl,Eg,wy,if_false]
   .have X:ql n (sol n ns g b)=ql n xs:=CD (f.one λi u=>by rw[f.sol u,Q i u]);have Z:=Mp (n:=n) (x:=xs) (s:=j) ⋯;rw[X];simp![vI,bM,aD,bf,jt,a,Pf,Pl,if_true,cN,aE,ah,au,Z,Eg]
  rw[aB,aS];simp![aE,ah,au,F,Pg,zJ,yT,PU.aw];rw[aB,aS];simp![aE,ah,au,e,Pg,zJ,yT,PU.aw];rw[aB,bq];simp![vI,bM,aD,bf,jt,a,Pf,Pl,wy,if_false,Pg,bo,PU.aw];rw[bq];simp![bM,aD,bf,jt,a,Pf,Pl,if_true,Pg];rw[aB,bq];simp![cN,bM,aE,ah,au,P,Pl,Eg,Pg,wy,if_false,bo,PU.aw];rw[aB,aS];simp![aE,ah,bC,au,cl,Pf,S,Pg,zJ,yT,PU.aw];rw[aB,bq];refine(congrArg (λz:PR Bool=>(z.go _ _).then _) R).trans ?_;rw[Pg,g_ (by simp),bo,PU.aw,aS];simp only[aj,ag,Pg,zJ,yT]
def HR:∃O,dX.p [.pen] s=.ok (.bl I) O:=by
 obtain⟨d,W,d0,d1,Z⟩:=eE (s:=s) (size:=8) (by decide) (by decide);obtain⟨m,em,m0⟩:∃m:Nat,o_ [D.int 4,.int 3,.int 5,.int 2,.int 6,.int 1,.int 0,.int 5] d=J (.int (m:Int))/\m<=6:=by
  obtain⟨k,rfl⟩:=eQ d0;have U:k<[4,3,5,2,6,1,0,5].length:=by simp;ext
  exact⟨_,L2.bZ (xs:=[4,3,5,2,6,1,0,5].map inD') (by rw[se,yZ U];rfl),(show ∀x∈[4,3,5,2,6,1,0,5],x<=6 by decide) _ (Sa U)⟩
 obtain⟨c,f,c0,c1,q2⟩:=eE (s:=W) (size:=2) (by decide) (by decide);generalize hw:decide (c=0)=w;obtain⟨n,u⟩:∃n:Nat,n=if w=I then m else min m 4:=⟨_,rfl⟩
 have n6:n<=6:=by rw[u];split<;>lia
 obtain⟨F,M,q3,Q⟩:=Mh (n:=n) (s:=f) n6;obtain⟨g,j,q4,B,dm⟩:∃g j,(sw (GW (aa 2)) (aP 3 (az cC (ae (aa 0) (ae (aa 3) a_)))) i_:Xd []).p [J .pen,J (.int (n:Int)),J (.bl w),J (.tup ((List.range n).map λi=>bP n (F i))),Y,Y,Y,Y,Y,Y,Y] M=.nx [J .pen,J (.int (n:Int)),J (.bl w),J (.tup ((List.range n).map λi=>bP n (g i))),Y,Y,Y,Y,Y,Y,Y] j/\Sh n g/\(w=I->Dm (List.range n) g):=by
  cases w with
  |true =>
   obtain⟨g,j,e,B,dm⟩:=w4 (n:=n) (g:=F) (s:=M) n6;refine⟨g,j,?_,B,λ_=>dm⟩;rw[bq];simp![IG];show(aP 3 (az cC (ae (aa 0) (ae (aa 3) a_))):Xd []).p _ _=_;rw[aS];simp![aE,ah,au,e,Pg,zJ,yT]
  |false =>
   exact⟨F,M,rfl,Q (by rw[u,g_ (by simp)];lia),λz=>by cases z⟩
 obtain⟨b,S,X,hb⟩:=Mo (n:=n) (env:=[J .pen,J (.int (n:Int)),J (.bl w),J (.tup ((List.range n).map λi=>bP n (g i))),J (pu n g),Y,Y,Y,Y,Y,Y]) (s:=j) ⋯ rfl rfl;obtain⟨env,R,e6,x,P,l,C,a,rfl,H⟩:=dR (g:=(h8 7:Xg []).p) (b:=V3.p)
  (λ_ env _=>∃x P l C a,env=QD n w (.tup ((List.range n).map λi=>bP n (g i))) g b x P l C a/\UK n g b x) (dw 0 3) 0 (QD n w (.tup ((List.range n).map λi=>bP n (g i))) g b .non Y Y Y Y) S ⟨_,_,_,_,_,rfl,.inl rfl⟩ (λk env O d L hd=>by
   obtain⟨x,P,l,C,a,hE,H⟩:=L;subst hE;obtain⟨x',y8,y9,ai,f,e,G⟩:=UL B dm hb H (rs:=.tup ((List.range n).map λi=>bP n (g i))) (z7:=J d) (z8:=l) (z9:=C) (z10:=a) (s:=O)
   exact⟨_,_,f,rfl,e,_,_,_,_,_,rfl,G⟩)
 have t2:∀{x y:D}{s:e_},(if [x,y].length<=100000 then PR.ok (D.tup [x,y]) s else .bad)=.ok (.tup [x,y]) s:=λ{x y s}=>c_ (by simp);refine⟨R,?_⟩;rw[zL (by rfl)];unfold iN;rw[show lw 11 [D.pen]=[J .pen,Y,Y,Y,Y,Y,Y,Y,Y,Y,Y]from rfl,aB,aS];have a8:(d9 (ae (xC (.int 4)) (ae (xC (.int 3)) (ae (xC (.int 5)) (ae (xC (.int 2)) (ae (xC (.int 6)) (ae (xC (.int 1)) (ae (xC (.int 0)) (ae (xC (.int 5)) a_)))))))):Xe []).p [J .pen,Y,Y,Y,Y,Y,Y,Y,Y,Y,Y] s=.ok (.lst [.int 4,.int 3,.int 5,.int 2,.int 6,.int 1,.int 0,.int 5]) s:=rfl;rw[aD,a8];dsimp![Pb,aE,ah,ag,bf,aR,au,Z,d7,em,Pf,Pg];rw[aB,aS];simp![aD,aE,ah,bf,aR,au,q2,gB,cV,wy,if_false,hw,Pf,Pg,zJ,yT,PU.aw];have e1:(sw (bQ (GW (aa 2))) (aP 1 (m_ oo (ae (aa 1) (ae (xC (.int 4)) a_)))) i_:Xd []).p [J .pen,J (.int (m:Int)),J (.bl w),Y,Y,Y,Y,Y,Y,Y,Y] f=.nx [J .pen,J (.int (n:Int)),J (.bl w),Y,Y,Y,Y,Y,Y,Y,Y] f:=by
  cases w with
  |true=>rw[u,c_ rfl];rfl
  |false =>
   have ac:n=min m 4:=u.trans (g_ (by simp))
   have:(if(4:Int)<(m:Int)then(4:Int)else(m:Int))=(n:Int):=by
    by_cases z:(4:Int)<(m:Int)
    .rw[c_ z];lia
    .rw[g_ z];lia
   rw[bq];simp![cN,IG];show(aP 1 (m_ oo (ae (aa 1) (ae (xC (.int 4)) a_))):Xd []).p _ _=_;rw[aS];simp![bC,ah,bf,aR,au,yo,this,Pf,Pg,zJ,yT]
 rw[aB,e1,PU.aw,aB,aS];simp![aE,ah,au,q3,Pg,zJ,yT,PU.aw];rw[aB,q4,PU.aw,aB,aS];simp![cj,ah,au,t2,Pg,zJ,yT,PU.aw];rw[aB,aS];refine(congrArg (λz:PR D=>((z.go _ _).then _).fin) X).trans ?_;rw[Pg];dsimp![PU.aw];rw[aB,aS];dsimp![bf,jt,Pg];rw[aB,dW,dS,ah,bf,aR,Pb,au,Pb,Pb,lM (by decide)];show((PS.then (PR.go (PR.of (J (dw 0 3)) S) _ _) _)).fin=_;rw[Pf,Pg];refine(congrArg (λz:PS=>(z.then _).fin) e6).trans ?_;rw[PU.aw];rcases H with rfl|⟨xs,rfl,h1,h2⟩
 .rfl
 .have il:(bL ["list"]).p (ql n xs)=J (.bl I):=by simp[dU]
  have cl:b7.p [ql n xs]=J (.int (n:Int)):=by simp
  have co:=HQ (g:=g) (x:=xs) (b:=b) (s:=R) ⋯ B.ov h2 h1;have E:(Ea T).p (ql n xs) .non=J (.bl T):=rfl;simp![bJ,Lf,oz,aD,lK,bC,aE,ah,bf,jt,E,Pf,Pl,wy,if_false,il,if_true,cl,gB,cV,decide_true,au,co,Pg,PU.bH]
end
def zo(h:x∈bI lo c):∃i:Int,x=.int i/\lo<=i/\i<lo+c:=by obtain⟨k,a,rfl⟩:=nr.mp h;rw[zl]at a;exact⟨_,rfl,⋯,⋯⟩
def xH{ns:WN}{k:Nat}(a:k<ns.length):o_ (ns.map PV.int) (k:Int)=J (.int ns[k]):=L2.bZ (by simp[a])
def wG:u_ (.int 10) (.int 18) h=.ok (.int (10^18)) h:=vy (by decide)
def Cz:u_ (.int 10) (.int 15) h=.ok (.int (10^15)) h:=vy (by decide)
def CO{h:MH}{ns:WN}{k:Nat}(hk:k<64):∃m c:Int,kZ [.frl (ns.map .int),.int k] h=.ok (.loc h.length) (h++[.lst [.int m,.int c,.int 0]]):=by
 have E:∀{i:Int}{h:MH},mh (.int 7919) (.int i) h=.ok (.int (7919*i)) h:=jn (by decide);have X:∀{i:Int}{h:MH},mh (.int 48271) (.int i) h=.ok (.int (48271*i)) h:=jn (by decide);have U:∀{i:Int}{h:MH},mh (.int 40009) (.int i) h=.ok (.int (40009*i)) h:=jn (by decide);have L:∀{a b c:PV}{h:MH},v_ [a,b,c] h=.ok (.loc h.length) (h++[.lst [a,b,c]]):=rc (by simp)
 have fin:∀cell:Int,∃m c:Int,(cD (E1 (mB (aH Fi (va DZ (aq (ao 2) hG)) (aH u_ (mC (.int 10)) (mC (.int 18))))) (dy (iU (aq (mC (.int 1)) (aq (va DZ (aq (ao 2) hG)) (aq (mC (.int 0)) hG))))) q7)
   (dy (iU (aq (mC (.int 0)) (aq (aH ln (aH ol (ao 2) (mC (.int 2147483587))) (aH mh (mC (.int 40009)) (ao 1))) (aq (mC (.int 0)) hG)))))) [J (.frl (ns.map .int)),J (.int k),J (.int cell)] h=.rt (.loc h.length) (h++[.lst [.int m,.int c,.int 0]]):=λcell=>by
  by_cases z:(10:Int)^18<=(if cell<0 then -cell else cell)
  .exact⟨1,(if cell<0 then -cell else cell),by simp[wG,L,z,-Int.reducePow]⟩
  .exact⟨0,cell.fmod 2147483587+40009*k,by simp[wG,L,z,U,ie,-Int.reducePow]⟩
 have u:∀cell:Int,∃m c:Int,((cD (E1 (mB (aH Fi (va DZ (aq (ao 2) hG)) (aH u_ (mC (.int 10)) (mC (.int 18))))) (dy (iU (aq (mC (.int 1)) (aq (va DZ (aq (ao 2) hG)) (aq (mC (.int 0)) hG))))) q7)
   (dy (iU (aq (mC (.int 0)) (aq (aH ln (aH ol (ao 2) (mC (.int 2147483587))) (aH mh (mC (.int 40009)) (ao 1))) (aq (mC (.int 0)) hG)))))) [J (.frl (ns.map .int)),J (.int k),J (.int cell)] h).fin=.ok (.loc h.length) (h++[.lst [.int m,.int c,.int 0]]):=λcell=>by
  obtain⟨m,c,q⟩:=fin cell;exact⟨m,c,by rw[q];rfl⟩
 have j:∀cell:Int,(cD (b9 2 (aH ln (aH mh (mC (.int 7919)) (ao 1)) (mC (.int 11))))
 (E1 (mB (aH Fg (ao 1) (va zQ (aq (va s_ (aq (ao 0) hG)) (aq (mC (.int 63)) hG))))) (b9 2 (aH bz (ao 0) (ao 1))) (E1 (mB (aH Fh (va s_ (aq (ao 0) hG)) (mC (.int 0)))) (b9 2 (aH ln (aH ol (aH bz (ao 0) (aH ol (ao 1) (va zQ (aq (va s_ (aq (ao 0) hG)) (aq (mC (.int 63)) hG))))) (aH u_ (mC (.int 10)) (mC (.int 15)))) (aH mh (mC (.int 48271)) (ao 1)))) q7))) [J (.frl (ns.map .int)),J (.int k),Y] h=.nx [J (.frl (ns.map .int)),J (.int k),J (.int cell)] h ->
   ∃m c:Int,cX 3 2 Cq [.frl (ns.map .int),.int k] h=.ok (.loc h.length) (h++[.lst [.int m,.int c,.int 0]]):=λcell q=>by
  obtain⟨m,c,P⟩:=u cell;refine⟨m,c,(gz (by rfl)).trans ?_⟩;rw[<-P];unfold Cq;simp only[dz]at q ⊢;have e0:bG 3 [PV.frl (ns.map .int),PV.int k]=[J (.frl (ns.map .int)),J (.int k),Y]:=rfl;rw[e0];generalize (b9 2 (aH ln (aH mh (mC (.int 7919)) (ao 1)) (mC (.int 11)))) [J (.frl (ns.map .int)),J (.int k),Y] h=W at q ⊢
  cases W with
  |nx Z H =>
   simp only[MM.aw,dz]at q ⊢;rw[q];rfl
  |_=>cases q
 have l:∃f:Nat,(if(63:Int)<(ns.length:Int)then(63:Int)else(ns.length:Int))=(f:Int)/\f<=ns.length/\(0<ns.length->0<f):=by
  by_cases z:(63:Int)<(ns.length:Int)
  .exact⟨63,by rw[c_ z];rfl,⋯,⋯⟩
  .exact⟨ns.length,by rw[g_ z],⋯,⋯⟩
 obtain⟨f,G,F,y⟩:=l;by_cases H:k<f
 .refine j (ns[k]'⋯) ?_;simp[E,G,H,xH (show k<ns.length by lia)]
 .by_cases B:0<ns.length
  .have C:(f:Int)≠0:=by have:=y B;lia
   have M:k % f<ns.length:=t_ (Nat.mod_lt _ (y B)) F;have R:(k:Int).fmod (f:Int)=((k % f:Nat):Int):=by rw[QG _ ⋯];rfl
   refine j ((ns[k % f]'M).fmod (10^15)+48271*k) ?_;have S:((10:Int)^15)≠0:=by decide
   have O:=xH M;rw[Int.natCast_emod]at O;simp[E,G,H,B,ie C,R,O,Cz,ie S,X,-Int.reducePow]
  .have Q:ns=[]:=List.length_eq_zero_iff.mp ⋯;refine j (7919*k+11) ?_;have z:¬((k:Int)<(f:Int)):=by lia
   simp[E,G,z,B]
def zk(pn:bx h p s):∃a,jV [.loc p] h=.ok (.bl I) a/\∀n:Nat,n<h.length->n≠p->a[n]?=h[n]?:=by
 obtain⟨i,q⟩:=HR (s:=s)
 have k:=dX.ok (q:=p) (h:=h) (O:=[p]) (vs:=[.loc p]) (ds:=[.pen]) (s:=s) (λo f=>by
  have:o=p:=by simpa using f
  subst this;exact aK pn) (by simp) pn ⟨_,_,rfl,rfl,rfl⟩
 rw[q,wK]at k;obtain⟨v,a,e,kb,_,r,_⟩:=k;exact⟨a,by rw[e];rw[show v=PV.bl I from r],kb.2⟩
def HS{h:MH}{n:Nat}{o a:MO}(e:h[n]?=J a):(h.set n o)[n]?=J o:=C_ (pf.mp e).1
def vd{ns:WN}{it:MIt}{n:Nat}(j:∀h,it.ok h):∀(xs:WL)(m:Nat)(z:W0)(h:MH),(∀x∈xs,∃k:Nat,x=.int (k:Int)/\k<64)->h[n]?=J (.lst (List.replicate m (.bl I)))->m+xs.length<=100->∃f,B_ it n (lR 0) ot (fR jV (aq (fR kZ (aq (ao 1) (aq (ao 0) hG))) hG)) xs [z,J (.frl (ns.map .int))] h=.ok () f/\f[n]?=J (.lst (List.replicate (m+xs.length) (.bl I)))
 |[],m,z,h,i,e,u=>⟨h,lg (j h),e⟩
 |x::xs,m,z,h,i,e,u=>by
  have F:m+(xs.length+1)<=100:=u;obtain⟨k,rfl,G⟩:=i x (by simp);obtain⟨a,b,B⟩:=CO (h:=h) (ns:=ns) (k:=k) G;obtain⟨l,E,kb⟩:=zk (h:=h++[.lst [.int a,.int b,.int 0]]) (p:=h.length) (s:=(a,b,0)) (by show(h++[MO.lst [.int a,.int b,.int 0]])[h.length]?=J (.lst [.int a,.int b,.int 0]);exact Ir);have L:n<h.length:=(pf.mp e).1;have e3:l[n]?=J (.lst (List.replicate m (.bl I))):=by rw[kb n (by simp;lia) ⋯];exact Ol e
  obtain⟨f,q,H⟩:=vd (ns:=ns) j xs (m+1) (J (.int (k:Int))) (l.set n (.lst (List.replicate m (.bl I)++[.bl I]))) (λy C=>i y (ml _ C)) (by rw[HS e3,List.replicate_succ']) ⋯;refine⟨f,?_,by rw[H,DR,show m+1+xs.length=m+(xs.length+1) by lia]⟩;rw[kT (Z:=[z,J (.frl (ns.map .int))]) (Z1:=[J (.int (k:Int)),J (.frl (ns.map .int))]) (h1:=h) (h2:=h) (v:=.bl I) (h3:=l) (ys:=List.replicate m (.bl I)) (j h) rfl rfl (by simp -implicitDefEqProofs [B,E]) e3 (by simp;lia)];exact q
def Fv(ns:WN)(G:ns.length<=63):∃E,EQ [.frl (ns.map .int)] []=.ok (.bl I) E:=by
 unfold EQ;rw[gz (by rfl)];unfold Fp;rw[show bG 1 [PV.frl (ns.map .int)]=[J (.frl (ns.map .int))]from rfl];obtain⟨c,H,C⟩:∃c:Nat,c<=63/\(aq (va Er (aq (mC (.int 1)) (aq (va zQ (aq (va s_ (aq (ao 0) hG)) (aq (mC (.int 8)) hG))) hG))) hG) [J (.frl (ns.map .int))] []=.ok [.int (c:Int)] []:=by
  have e:(aq (va Er (aq (mC (.int 1)) (aq (va zQ (aq (va s_ (aq (ao 0) hG)) (aq (mC (.int 8)) hG))) hG))) hG) [J (.frl (ns.map .int))] []=.ok [.int (if(if(8:Int)<(ns.length:Int)then 8 else(ns.length:Int))>1 then(if(8:Int)<(ns.length:Int)then 8 else(ns.length:Int))else 1)] []:=by simp -implicitDefEqProofs
  have a:0<=(if(if(8:Int)<(ns.length:Int)then 8 else(ns.length:Int))>1 then(if(8:Int)<(ns.length:Int)then 8 else(ns.length:Int))else 1)/\(if(if(8:Int)<(ns.length:Int)then 8 else(ns.length:Int))>1 then(if(8:Int)<(ns.length:Int)then 8 else(ns.length:Int))else 1)<=63:=by constructor<;>(repeat' split)<;>lia
  generalize (if(if(8:Int)<(ns.length:Int)then 8 else(ns.length:Int))>1 then(if(8:Int)<(ns.length:Int)then 8 else(ns.length:Int))else 1)=i at e a;obtain⟨c,rfl⟩:=eQ a.1;exact⟨c,⋯,e⟩
 have u:=Gx C ⋯
 obtain⟨f,z,j⟩:=vd (ns:=ns) (it:=⟨bI 0 c,[]⟩) (n:=0) (λ_=>fh.mpr trivial) (bI 0 c) 0 Y ([]++[.lst []]) (λx l=>by
  obtain⟨i,rfl,y,a⟩:=zo l;obtain⟨k,rfl⟩:=eQ y
  exact⟨k,rfl,⋯⟩) rfl (by rw[MM.dD];lia)
 have F:ce 1 [0] (d8 (aq (va Er (aq (mC (.int 1)) (aq (va zQ (aq (va s_ (aq (ao 0) hG)) (aq (mC (.int 8)) hG))) hG))) hG)) (lR 0) ot (fR jV (aq (fR kZ (aq (ao 1) (aq (ao 0) hG))) hG)) [J (.frl (ns.map .int))] []=.ok (.loc 0) f:=by rw[jL,u,Out.bind_ok];refine(congrArg (λo:Out Unit=>o.bind _) z).trans ?_;rfl
 have B:=BU j;refine⟨f,?_⟩;rw[sA,KN,eA,F,Out.bind_ok,kQ,Out.bind_ok,Out.bind_ok,B];rfl
end Law
namespace Law
open PySem.Spec PyProof.Rows L2 MM
set_option maxHeartbeats 4000000
def top(i:Nat):Stmt:=PySem.Challenge.pw_fewfills_k53_whole_any_order.main.body.getD i (.Pass ⟨0,0,0,0⟩)
abbrev qb:Stmt:=Wp (top 4) 0
abbrev V4:WM:=["self","place"]
abbrev UM:Str:="the pivot of the place "
abbrev UN:Str:=" is nought"
def HU{X:Cx}{C F y:Addr}(a:X.env.scope=am qb)(hN:X.N=V4)(z:LK X.K X.mg "FillError" F)(u:Ee X.K X.mg "NoPivot" C F y "place"):PSs X (aI qb) (tI C UM UN):=by
 have j:X.N[0]?=J ("self":Str):=by rw[hN];rfl
 have i:X.N[1]?=J ("place":Str):=by rw[hN];rfl
 have f:MK X.env.scope "self":=by rw[a];exact .inl rfl
 have l:MK X.env.scope "place":=by rw[a];exact .inl rfl
 have hg:Gl X "FillError":=by unfold Gl Env.kindOf;rw[a];rfl
 exact uH (yt (Dr hg z u (eM (n5 j f) (eM (LL (by decide +kernel) (n5 i l)) lm)) rfl rfl rfl rfl) rfl) (sR (Cw u (n5 j f) (n5 i l) rfl))
def QE{P:Program}{w:World}{K:hR}{mg:WF}{base:Heap}{C F a:Addr}{fd:FuncData}{k:Nat}(f:Fun K "__init__" "NoPivot.__init__" qb a fd)(l:LK K mg "FillError" F)(i:Ee K mg "NoPivot" C F a "place"):FnOk P w K mg base MP (k+1) a fd V4 (RK C UM UN) :=
 Hg f ⟨rfl,rfl,rfl,by decide +kernel,rfl,by decide +kernel,by decide +kernel⟩ λX e3 e4 j hN=>HU j hN (e3▸e4▸l) (e3▸e4▸i)
def C5{K:hR}{F:Addr}{n:String}(q:PySem.W.excIn K F jE n=I):PySem.W.tailIn K jE (.ref F::jE)=I:=by
 unfold PySem.W.excIn at q
 split at q
 .rename_i j l u a
  split at q
  .simp only[DX,beq_iff_eq,Bool.not_eq_true']at q;obtain⟨⟨_,i⟩,f⟩:=q;unfold PySem.W.tailIn;rw[Bool.or_eq_true_iff];refine .inr ?_;dsimp only;rw[a];dsimp only;rw[i,f];rfl
  .cases q
 .cases q
def UO(K:hR):Prop:=∀(P:Program) (w:World) (mg:E0) (base:Heap),K.In base->base.Ns mainGlobals mg->Uj P w K mg base "NoPivot" UM UN/\Uk K mg "NoPivot"
def Mq{K:hR}{C F f N:Addr}{E W:Str}{bs:WT}{L:WM}{sub:WT}{ab:Bool}{i:Option Bool}{B:WK}{M Q X S G:WV}{oc:Value}{Z y an:WK}{sl j:Array (WV)}{kV dc pm H ct:Value}{U:Array DictEntry}{ep:Nat}(a:PySem.W.nsIn K mainGlobals "NoPivot"=J (J (.ref C)))(aF:PySem.W.nsIn K mainGlobals "FillError"=J (J (.ref F)))(l:K.lookup C=J (excClassObj E W C N bs (.ref F::jE) I L sub ab i B M Q X S G "ValueError.__new__"))(lN:K.lookup N=J ⟨oc,y,.dict U ep,j⟩)(u:(U.all λe=>match e.key with|.str _ _=>I|_=>T)=I)(ni:PySem.W.nsIn K N "__init__"=J (J (.ref f)))(eF:PySem.W.excIn K F jE "ValueError.__new__"=I)(sa:PySem.W.findIn K (.ref C) "__setattr__"=J (J (.builtin "object.__setattr__")))(tk:PySem.W.takerIn K C "place"=J Y)(hg:PySem.W.specialIn K (.ref F) "__getattribute__"=J (J (.builtin "type.__getattribute__")))(hr:PySem.W.readsIn K F (.type "type")=I)(fc:PySem.W.findCls K (.ref F) (.type "type") "__init__"=J (.val (.builtin "ValueError.__init__")))(O:K.lookup f=J ⟨.type "function",Z,.func (PySem.W.fnOf "__init__" "NoPivot.__init__" (hU qb) (aI qb) (am qb) .none kV dc pm an H ct),sl⟩)(cI:PySem.W.codeIn K H "NoPivot.__init__"=I)(kp:PySem.W.keepIn K (.ref f)=I):UO K:=λP w mg base kin ns=>by
 have no:PySem.W.nsOkIn K N=I:=by unfold PySem.W.nsOkIn;rw[lN];exact u
 have tl:PySem.W.tailIn K jE (.ref F::jE)=I:=C5 eF;have z:Ee K mg "NoPivot" C F f "place":=⟨PySem.W.mg_of kin ns a,⟨E,W,N,bs,L,sub,ab,i,B,M,Q,X,S,G,l,no,ni⟩,tl,sa,tk⟩;have R:=B3 (x:="__init__") (qual:="NoPivot.__init__") (st:=qb) O cI kp;exact⟨⟨C,F,f,"place","self","place",_,_,z,QE (k:=0) R ⟨PySem.W.mg_of kin ns aF,hg,hr,fc⟩ z,R.binds λ_ _ _ _ _ _=>M4 λ_ _=>rfl,O,rfl⟩,C,F,f,"place",z⟩
local macro_rules | `(tactic| contradiction)=>do let q <-[`w_var,`OS,`TJ,`OT,`O4,`Lq,`TK,`Lr,`T5,`O9,`T0,`Px,`Lw,`Pq,`OU,`OV,`OW,`Lo,`G4,`OX,`Lp,`OY,`w_ifE,`OZ,`O0,`O3,`TL,`TM,`TN,`LA,`PC,`PD,`T1,`Ph,`Lx,`w_tchain,`Ly,`T6,`Lz,`w_and,`Py,`w_or,`Pz,`PB,`T9,`T7,`T8,`T_,`Ua,`Ub,`PH,`PP,`PF,`Uc,`gE,`cS,`PJ,`LD,`Ud,`PL,`Ue,`w_set,`w_setO,`LC,`w_sub,`T4,`C6,`CQ,`Dq,`LF,`w_pass,`PK,`Dz,`LP,`O5,`O6,`O7,`TW,`O_,`Pa,`TQ,`TR,`TU,`TX,`TY,`TV,`Pc,`TZ,`Pj,`j_InD,`j_InnD,`Pk,`Pr,`Ps,`Po,`Pp,`Ls,`G5,`Pu,`DD,`G_,`Ha,`Pw,`Lu,`G6,`Lv].foldrM (λn t=>`(tactic| first | apply $(Lean.mkIdent n) | $t:tactic)) (<-`(tactic| fail));`(tactic| (first | assumption | exact rfl | ((with_reducible apply LB);assumption;(intro env h;cases env;cases h;rfl)) | ((with_reducible apply LG);assumption;(intro env h;cases env;cases h;rfl)) | ((with_reducible apply G7);assumption;(intro env h;cases env;cases h;rfl)) | ((with_reducible apply G8);assumption;(intro env h;cases env;cases h;rfl)) | ((with_reducible apply PM);assumption;(intro env h;cases env;cases h;rfl)) | with_reducible $q:tactic | exact rfl | decide +kernel | refine λY c=>⟨?_,?_,?_⟩ | (intro _;rfl) | exact λ_ _=>rfl | exact Fd _ | omega | exact⟨⟨rfl,rfl⟩,rfl,rfl,rfl⟩ | with_unfolding_all rfl | intro Y c d) <;> contradiction)
abbrev i9:Stmt:=top 8
abbrev dP:Stmt:=top 9
abbrev iq:Stmt:=top 10
abbrev rH:Stmt:=top 11
abbrev o9:Stmt:=top 12
abbrev oW:Stmt:=top 13
abbrev qA:Stmt:=top 14
abbrev i5:Stmt:=top 16
abbrev jh:Stmt:=top 17
abbrev fN:Stmt:=top 18
abbrev iA:Stmt:=top 20
abbrev je:Stmt:=top 21
abbrev jS:Stmt:=top 22
abbrev fQ:Stmt:=top 23
abbrev mS:WM:=["sheet","order","known","rows","work","k","v","step","i","factor"]
abbrev mR:WM:=["enumerate","step_of","sorted","add_times","minus","NOUGHT"]
abbrev ui:WM:=["sheet","order","known"]
def ue(f:Sc X fQ)(g:Gd X mS mR k)(E:hH X)(z:Cal X "minus" ["a","b"] fZ.m k)(l:Cal X "add_times" ["row","factor","parts"] eL k)(j:Cal X "step_of" ["rows","v","later"] fY.m k)(C:Nn X "enumerate")(i:Nn X "sorted")(u:Nn X "dict")(a:nB X.K X.mg "NOUGHT" 0 1):DT X (aI fQ) q_ :=
 (ng.h (Ed (DP (VL g f 3 ["row"] [] ["dict"] [] (fH (Es (kV g 0) aL)) λB y g=>⟨(zy g 0),gf,(RE g 0 (GB g) (y.n u) GZ (aJ (kV g 0) aW))⟩))
 (Ed (IH g 4 (vr (Aa aW)))
 (Ed (DP (iG g (VJ g 0 C (aJ (kV g 1) aW)) (gA g (bn (zy g 5) (bn (zy g 6) ff))) (ng.h (Ed (IH g 7 (vr (Kn (Ll (Bw T) (kV g 6) (kV g 2)) (Bo (kV g 2) (kV g 6)) (GX g 1 j (aJ (kV g 3) (aJ (kV g 6) (aJ (E7 g 2 tN i j0 (aJ (Iy (kV g 1) (yb (aV cY (kV g 5) aL)) xq) aW)) aW)))))))
 (Ed (DP (iG g (fH (Es (kV g 7) aL)) (gA g (bn (zy g 8) (bn (zy g 9) ff))) (ng.h (DV (DP (o8 (Ll (Bw I) (kV g 8) (kV g 2)) (ng.h (DV (DP (lh (GX g 3 l (aJ (Es (kV g 3) (kV g 8)) (aJ (GX g 4 z (aJ (uK g (q:=5) rfl a) (aJ (kV g 9) aW))) (aJ (Es (kV g 7) aL) aW)))))))) lb))))))
 (DV (DP (lh (Iv tE t8 tP (kV g 4) (aJ (kV g 7) aW))))))))))
 (DV (FI (vr (kV g 4))))))))
abbrev lH:Stmt:=top 24
abbrev jf:Stmt:=top 25
abbrev qV:WM:=["n","work","rows","v","pivot","row","column","i","factor"]
abbrev qt:WM:=["range","ONE","add_times","tuple"]
abbrev zV:WM:=["n","work"]
def zT(f:Sc X jf)(g:Gd X qV qt k)(F:hH X)(z:Cal X "parts_at" ["row","places"] dG.m k)(C:Cal X "add_times" ["row","factor","parts"] eL k)(E:Nn X "list")(l:Nn X "range")(u:Nn X "tuple")(a:nB X.K X.mg "ONE" 1 1):DT X (aI jf) x2 :=
 (ng.h (Ed (DP (VL g f 2 ["v"] [] [] [] (RF g 0 l (aJ (kV g 0) aW)) λB y g=>⟨(zy g 0),gf,yz⟩))
 (Ed (DP (iG g (fH (kV g 1)) (gA g (bn (zy g 3) (bn (zy g 4) (bn (zy g 5) (bn (zy g 6) ff))))) (ng.h (DV (DP (iG g (fH (aV cY (l7.h (EH (be (EH (be (vr (kV g 3)) (be (vr (uK g (q:=1) rfl a)) cr))) cr))) (kV g 6))) (gA g (bn (zy g 7) (bn (zy g 8) ff))) (ng.h (DV (DP (lh (GX g 2 C (aJ (Es (kV g 2) (kV g 7)) (aJ (kV g 8) (aJ (aV cY (l7.h (EH (be (EH (be (vr (kV g 3)) (be (vr (kV g 4)) cr))) cr))) (kV g 5)) aW))))))))))))))
 (DV (FI (EH (be (vr (kV g 0)) (be (vr (RE g 3 lE u js (aJ (RG g f ["row"] ["n"] ["parts_at","list","range"] [0] (fH (kV g 2)) λB y g=>⟨(zy g 0),gf,(GX g 0 (y.c z) (aJ (kV g 0) (aJ (vJ g (i:=1) (j:=2) rfl (y.n E) rfl (y.n l) (aJ (kV g 1) aW)) aW)))⟩) aW))) cr))))))))
abbrev mG:Stmt:=top 26
abbrev oU:Stmt:=top 28
abbrev xo:WM:=["_law_script","_law_k","_law_cell"]
abbrev yi:WM:=["min","len","abs"]
abbrev HV:WM:=["_law_script","_law_k"]
def HW(j:Sc X oU)(g:Gd X xo yi k)(l:hH X)(i:Nn X "abs")(f:Nn X "len")(a:Nn X "min"):DT X (aI oU) Cq :=
 (ng.h (Ed (IH g 2 (vr (aV cY (aV iJ aL (kV g 1)) aL)))
 (Ed (DP (o8 (Ll Im (kV g 1) (E7 g 0 (qN g) a rm (aJ (E7 g 1 oj f nW (aJ (kV g 0) aW)) (aJ aL aW)))) (ng.h (DV (IH g 2 (vr (Es (kV g 0) (kV g 1)))))) (ng.h (DV (DP (o8 (Ll Io (E7 g 1 oj f nW (aJ (kV g 0) aW)) aL) (ng.h (DV (IH g 2 (vr (aV cY (aV eY (Es (kV g 0) (aV eY (kV g 1) (E7 g 0 (qN g) a rm (aJ (E7 g 1 oj f nW (aJ (kV g 0) aW)) (aJ aL aW))))) (aV uI aL aL)) (aV iJ aL (kV g 1))))))) lb))))))
 (Ed (DP (o8 (Ll N7 (E7 g 2 uS i vQ (aJ (kV g 2) aW)) (aV uI aL aL)) (ng.h (DV (FI (TF (be (vr aL) (be (vr (E7 g 2 uS i vQ (aJ (kV g 2) aW))) (be (vr aL) cr))))))) lb))
 (DV (FI (TF (be (vr aL) (be (vr (aV cY (aV eY (kV g 2) aL) (aV iJ aL (kV g 1)))) (be (vr aL) cr))))))))))
abbrev mO:Stmt:=top 29
abbrev vk:WM:=["_law_pen_here","_law_size","_law_number_here","_law_drawn"]
abbrev uQ:WM:=[]
abbrev Dj:WM:=["_law_pen_here","_law_size"]
def C3(a:Sc X mO)(g:Gd X vk uQ k)(f:hH X):DT X (aI mO) zh :=
 (ng.h (Ed (DP (qR (aV cY (Es (kV g 0) aL) aL) (qS (kV g 0) aL)))
 (Ed (DP (o8 (Ll (Ik g.room) (Es (kV g 0) aL) aL) (ng.h (Ed (IH g 3 (vr (aV eY (Es (kV g 0) aL) (kV g 1))))
 (Ed (DP (qR (aV (yF g.room) (Es (kV g 0) aL) (kV g 1)) (qS (kV g 0) aL)))
 (DV (FI (vr (kV g 3))))))) lb))
 (Ed (IH g 2 (vr (aV eY (aV iJ (aV cY (aV cY (Es (kV g 0) aL) (aV iJ aL (Es (kV g 0) aL))) aL) aL) aL)))
 (Ed (IH g 2 (vr (aV eY (aV iJ (kV g 2) (aV cY (aV cY (aV eY (kV g 2) aL) (Es (kV g 0) aL)) aL)) aL)))
 (DV (FI (vr (aV eY (aV (yF g.room) (aV eY (aV iJ (kV g 2) (aV cY (aV eY (kV g 2) aL) aL)) aL) aL) (kV g 1))))))))))
abbrev i7:Stmt:=top 30
abbrev uR:Stmt:=top 31
abbrev jg:Stmt:=top 32
abbrev j9:Stmt:=top 33
abbrev lD:Stmt:=top 34
abbrev lG:Stmt:=top 35
abbrev kj:Stmt:=top 36
abbrev lx:Stmt:=top 37
abbrev j5:Stmt:=top 38
abbrev jZ:Stmt:=top 39
abbrev iC:Stmt:=top 40
abbrev j8:Stmt:=top 41
abbrev fL:Stmt:=top 42
abbrev fM:Stmt:=top 43
abbrev iz:Stmt:=top 44
abbrev fb:Stmt:=top 45
abbrev kR:WM:=["_law_n","_law_work","_law_grid","_law_v","_law_pivot","_law_row","_law_column","_law_i","_law_factor","_law_j","_law_number_here"]
abbrev k6:WM:=["range","_law_plus","_law_times","tuple"]
abbrev r9:WM:=["_law_n","_law_work"]
def sG(a:Sc X fb)(g:Gd X kR k6 k)(C:hH X)(u:Cal X "_law_times" ["_law_a","_law_b"] eP.m k)(l:Cal X "_law_plus" ["_law_a","_law_b"] d6.m k)(B:Nn X "enumerate")(i:Nn X "tuple")(j:Nn X "range"):DT X (aI fb) qi :=
 (ng.h (Ed (DP (Wm g a 2 ["_law_i"] ["_law_n"] ["range"] [0] (RF g 0 j (aJ (kV g 0) aW)) λf y a g=>⟨(zy g 0),gf,(RG g a ["_law_j"] [] [] [] (RF g 0 (y.n j) (aJ (kV g 1) aW)) λf z g=>⟨(zy g 0),gf,(l7.h (EH (be (vr aL) (be (vr aL) cr))))⟩)⟩))
 (Ed (DP (iG g (fH (kV g 1)) (gA g (bn (zy g 3) (bn (zy g 4) (bn (zy g 5) (bn (zy g 6) ff))))) (ng.h (DV (DP (iG g (fH (aV cY (l7.h (EH (be (EH (be (vr (kV g 3)) (be (EH (be (vr aL) (be (vr aL) cr))) cr))) cr))) (kV g 6))) (gA g (bn (zy g 7) (bn (zy g 8) ff))) (ng.h (DV (DP (iG g (fH (aV cY (l7.h (EH (be (EH (be (vr (kV g 3)) (be (vr (kV g 4)) cr))) cr))) (kV g 5))) (gA g (bn (zy g 9) (bn (zy g 10) ff))) (ng.h (DV (DP (qR (GX g 1 l (aJ (Es (Es (kV g 2) (kV g 7)) (kV g 9)) (aJ (GX g 2 u (aJ (kV g 8) (aJ (kV g 10) aW))) aW))) (qS (Es (kV g 2) (kV g 7)) (kV g 9))))))))))))))))
 (DV (FI (EH (be (vr (kV g 0)) (be (vr (RE g 3 lE i js (aJ (Wl g a ["_law_own"] [] ["tuple","enumerate"] [] (fH (kV g 2)) λf y a g=>⟨(zy g 0),gf,(RE g 0 lE (y.n i) js (aJ (RG g a ["_law_j","_law_one"] [] [] [] (VJ g 1 (y.n B) (aJ (kV g 0) aW)) λf z g=>⟨(gA g (bn (zy g 0) (bn (zy g 1) ff))),(xI (Ll (Il g.room) (kV g 1) (l7.h (EH (be (vr aL) (be (vr aL) cr)))))),(l7.h (EH (be (vr (kV g 0)) (be (vr (kV g 1)) cr))))⟩) aW))⟩) aW))) cr))))))))
abbrev fO:Stmt:=top 46
abbrev iB:Stmt:=top 47
abbrev jc:Stmt:=top 48
abbrev jY:Stmt:=top 49
abbrev eN:Stmt:=top 50
abbrev j7:Stmt:=top 51
abbrev qH:Stmt:=top 52
abbrev Jl:WM:=["_law_script"]
abbrev Jm:WM:=["all","range","max","min","len"]
abbrev Fw:WM:=["_law_script"]
def QF(f:Sc X qH)(g:Gd X Jl Jm k)(E:hH X)(j:Cal X "_law_pen" ["_law_script","_law_k"] kZ k)(a:Cal X "_law_right" ["_law_pen_here"] dX.m k)(l:Nn X "range")(C:Nn X "len")(i:Nn X "min")(B:Nn X "max")(u:Nn X "all"):DT X (aI qH) Fp :=
 (ng.h (DV (FI (vr (E7 g 0 (AW g) u AE (aJ (RG g f ["_law_k"] ["_law_script"] ["_law_right","_law_pen"] [0] (RF g 1 l (aJ (E7 g 2 (Ak g) B Ar (aJ aL (aJ (E7 g 3 (qN g) i rm (aJ (E7 g 4 oj C nW (aJ (kV g 0) aW)) (aJ aL aW))) aW))) aW)) λz y g=>⟨(zy g 0),gf,(GX g 0 (y.c a) (aJ (GX g 1 (y.c j) (aJ (kV g 1) (aJ (kV g 0) aW))) aW))⟩) aW))))))
def Mr:ig "law" qH Fw:=λ_ _ _ _ _ _=>M3 λ_=>rfl
abbrev mM:WM:=["thing"]
def zf{K:hR}(c:Wc X P w K mg base mM mM 0 (am i9))(d:hH X)(i:Zn K "isinstance")(a:Zn K "bool")(f:Zn K "int"):ng X (aI i9) lv.m:=by unfold lv;apply gE<;>contradiction
abbrev fy:WM:=["a","b","rest"]
def pe{K:hR}(c:Wc X P w K mg base fy fy 0 (am dP))(d:hH X):ng X (aI dP) cH.m:=by unfold cH;apply cS<;>contradiction
abbrev ku:WM:=["top","bottom","shared"]
def wX{K:hR}(c:Wc X P w K mg base ku ku 1 (am iq))(d:hH X)(z0:Zn K "abs")(a:FnAt P w K mg base "greatest_shared" Ps1 cK.m 1)(f:FnAt P w K mg base "is_whole" Ps0 dY.m 1):ng X (aI iq) fC.m:=by unfold fC;apply cS<;>contradiction
abbrev vN:WM:=["a","b"]
def Ms{K:hR}(c:Wc X P w K mg base vN vN 2 (am rH))(d:hH X)(a:FnAt P w K mg base "number_of" Ps2 bO.m 2):ng X (aI rH) m4.m:=by unfold m4;apply gE<;>contradiction
abbrev sT:WM:=["a","b"]
def HX{K:hR}(c:Wc X P w K mg base sT sT 2 (am o9))(d:hH X)(a:FnAt P w K mg base "number_of" Ps2 bO.m 2):ng X (aI o9) li.m:=by unfold li;apply gE<;>contradiction
abbrev sD:WM:=["a","b"]
def HY{K:hR}(c:Wc X P w K mg base sD sD 2 (am oW))(d:hH X)(a:FnAt P w K mg base "number_of" Ps2 bO.m 2):ng X (aI oW) kY.m:=by unfold kY;apply gE<;>contradiction
abbrev ve:WM:=["a","b"]
def Mt{K:hR}(c:Wc X P w K mg base ve ve 2 (am qA))(d:hH X)(a:FnAt P w K mg base "number_of" Ps2 bO.m 2):ng X (aI qA) mW.m:=by unfold mW;apply gE<;>contradiction
abbrev lZ:WM:=["n","thing"]
def zU{K:hR}(c:Wc X P w K mg base lZ lZ 1 (am i5))(d:hH X)(a:FnAt P w K mg base "is_whole" Ps0 dY.m 1):ng X (aI i5) gG.m:=by unfold gG;apply gE<;>contradiction
abbrev lS:WM:=["web","thing"]
def za{K:hR}(c:Wc X P w K mg base lS lS 2 (am jh))(d:hH X)(a:Zn K "sorted")(l:Zn K "list")(f:Zn K "range")(z1:Zn K "all")(i:Zn K "isinstance")(j:FnAt P w K mg base "is_place" Ps7 eZ.m 2):ng X (aI jh) gO.m:=by unfold gO;apply cS<;>contradiction
abbrev iX:WM:=["web","thing"]
def ud{K:hR}(c:Wc X P w K mg base iX iX 3 (am fN))(d:hH X)(a:FnAt P w K mg base "is_order" Ps8 gN.m 3):ng X (aI fN) eD.m:=by unfold eD;apply gE<;>contradiction
abbrev kq:WM:=["row","factor","parts","j","number"]
def wP{K:hR}(c:Wc X P w K mg base kq kq 3 (am iA))(d:hH X)(a:nB K mg "NOUGHT" 0 1)(f:FnAt P w K mg base "times" Ps5 dB.m 3)(i:FnAt P w K mg base "plus" Ps3 gX.m 3):ng X (aI iA) cT.m:=by unfold cT;apply gE<;>contradiction
abbrev lV:WM:=["row","places"]
def zc{K:hR}(c:Wc X P w K mg base lV lV 0 (am je))(d:hH X)(f:Zn K "tuple")(a:nB K mg "NOUGHT" 0 1):ng X (aI je) gP.m:=by unfold gP;apply gE<;>contradiction
abbrev nA:WM:=["rows","v","later","pivot","column"]
def BQ{K:hR}(c:Wc X P w K mg base nA nA 3 (am jS))(d:hH X)(i:Zn K "tuple")(a:nB K mg "NOUGHT" 0 1)(l:Uj P w K mg base "NoPivot" "the pivot of the place " " is nought")(f:FnAt P w K mg base "parts_at" Ps11 dG.m 1)(j:FnAt P w K mg base "over" Ps6 gI.m 3):ng X (aI jS) gh.m:=by unfold gh;apply cS<;>contradiction
abbrev pD:WM:=["sheet","order"]
def Dx{K:hR}(c:Wc X P w K mg base pD pD 5 (am lH))(d:hH X)(a:FnAt P w K mg base "struck_with" Ps13 fP 5)(f:FnAt P w K mg base "check_order" Ps9 eJ.m 4):ng X (aI lH) jz.m:=by unfold jz;apply cS<;>contradiction
abbrev pH:WM:=["n","work","right","x","v","pivot","row","column","i","factor","j","number"]
def CU{K:hR}(c:Wc X P w K mg base pH pH 3 (am mG))(d:hH X)(a:Zn K "reversed")(f:Zn K "range")(i:FnAt P w K mg base "over" Ps6 gI.m 3)(l:FnAt P w K mg base "times" Ps5 dB.m 3)(j:FnAt P w K mg base "minus" Ps4 fZ.m 3):ng X (aI mG) jN.m:=by unfold jN;apply cS<;>contradiction
abbrev mH:WM:=["_law_top","_law_bottom","_law_one","_law_other"]
def yI{K:hR}(c:Wc X P w K mg base mH mH 0 (am i7))(d:hH X)(z0:Zn K "abs"):ng X (aI i7) gV.m:=by unfold gV;apply cS<;>contradiction
abbrev mr:WM:=["_law_pen_here","_law_way"]
def yV{K:hR}(c:Wc X P w K mg base mr mr 1 (am jg))(d:hH X)(a:FnAt P w K mg base "_law_draw" Ps18 dZ 1)(f:FnAt P w K mg base "_law_lowest" Ps19 bh.m 1):ng X (aI jg) gC.m:=by unfold gC;apply cS<;>contradiction
abbrev m6:WM:=["_law_pen_here","_law_n","_law_found","_law_k"]
def BO{K:hR}(c:Wc X P w K mg base m6 m6 1 (am j9))(d:hH X)(f:Zn K "range")(a:FnAt P w K mg base "_law_draw" Ps18 dZ 1):ng X (aI j9) iM.m:=by unfold iM;apply cS<;>contradiction
abbrev pF:WM:=["_law_pen_here","_law_n","_law_some","_law_rows_here","_law_i","_law_row"]
def Dv{K:hR}(c:Wc X P w K mg base pF pF 2 (am lD))(d:hH X)(i:Zn K "tuple")(f:Zn K "range")(l:Zn K "int")(a:FnAt P w K mg base "_law_draw" Ps18 dZ 1)(j:FnAt P w K mg base "_law_number" Ps21 cP.m 2):ng X (aI lD) jC.m:=by unfold jC;apply cS<;>contradiction
abbrev qg:WM:=["_law_a","_law_b"]
def Cj{K:hR}(c:Wc X P w K mg base qg qg 1 (am lG))(d:hH X)(a:FnAt P w K mg base "_law_lowest" Ps19 bh.m 1):ng X (aI lG) jA.m:=by unfold jA;apply gE<;>contradiction
abbrev nG:WM:=["_law_a","_law_b"]
def B4{K:hR}(c:Wc X P w K mg base nG nG 1 (am kj))(d:hH X)(a:FnAt P w K mg base "_law_lowest" Ps19 bh.m 1):ng X (aI kj) iO.m:=by unfold iO;apply gE<;>contradiction
abbrev pU:WM:=["_law_ties","_law_v"]
def DF{K:hR}(c:Wc X P w K mg base pU pU 0 (am lx))(d:hH X):ng X (aI lx) jI.m:=by unfold jI;apply gE<;>contradiction
abbrev oi:WM:=["_law_ties","_law_order_here","_law_at","_law_seen","_law_k"]
def Bz{K:hR}(c:Wc X P w K mg base oi oi 1 (am j5))(d:hH X)(f:Zn K "len")(a:FnAt P w K mg base "_law_near" Ps26 g7.m 1):ng X (aI j5) iI.m:=by unfold iI;apply cS<;>contradiction
abbrev mV:WM:=["_law_ties","_law_order_here","_law_found","_law_at","_law_v","_law_later_here"]
def Bg{K:hR}(c:Wc X P w K mg base mV mV 2 (am jZ))(d:hH X)(f:Zn K "enumerate")(a:FnAt P w K mg base "_law_later" Ps27 gu.m 2):ng X (aI jZ) iP.m:=by unfold iP;apply cS<;>contradiction
abbrev kx:WM:=["_law_sheet","_law_ties","_law_i","_law_row","_law_j","_law_number_here"]
def wL{K:hR}(c:Wc X P w K mg base kx kx 0 (am iC))(d:hH X)(a:Zn K "sorted")(i:Zn K "enumerate")(j:Zn K "max")(f:Zn K "min"):ng X (aI iC) fB.m:=by unfold fB;apply cS<;>contradiction
abbrev nN:WM:=["_law_thing"]
def Be{K:hR}(c:Wc X P w K mg base nN nN 0 (am j8))(d:hH X)(i:Zn K "isinstance")(a:Zn K "bool")(f:Zn K "int"):ng X (aI j8) iD.m:=by unfold iD;apply gE<;>contradiction
abbrev iS:WM:=["_law_thing"]
def um{K:hR}(c:Wc X P w K mg base iS iS 1 (am fL))(d:hH X)(j:Zn K "len")(l:Zn K "isinstance")(i:Zn K "tuple")(f:FnAt P w K mg base "_law_lowest" Ps19 bh.m 1)(a:FnAt P w K mg base "_law_whole" Ps30 cU.m 1):ng X (aI fL) eB.m:=by unfold eB;apply cS<;>contradiction
abbrev iQ:WM:=["_law_parts","_law_later_here","_law_ahead","_law_part"]
def uo{K:hR}(c:Wc X P w K mg base iQ iQ 2 (am fM))(d:hH X)(j:Zn K "len")(l:Zn K "isinstance")(i:Zn K "tuple")(a:FnAt P w K mg base "_law_is_number" Ps31 cF.m 2)(f:FnAt P w K mg base "_law_whole" Ps30 cU.m 1):ng X (aI fM) eK.m:=by unfold eK;apply cS<;>contradiction
abbrev kL:WM:=["_law_work","_law_order_here","_law_at","_law_v","_law_one"]
def wT{K:hR}(c:Wc X P w K mg base kL kL 3 (am iz))(d:hH X)(y:Zn K "enumerate")(l:Zn K "len")(u:Zn K "isinstance")(i:Zn K "tuple")(z:Zn K "list")(j:FnAt P w K mg base "_law_are_parts" Ps32 dA.m 3)(a:FnAt P w K mg base "_law_is_number" Ps31 cF.m 2)(f:FnAt P w K mg base "_law_whole" Ps30 cU.m 1):ng X (aI iz) fA.m:=by unfold fA;apply cS<;>contradiction
abbrev iR:WM:=["_law_pen_here","_law_rows_here","_law_found","_law_i","_law_row","_law_beside","_law_whole_here","_law_j","_law_number_here"]
def ug{K:hR}(c:Wc X P w K mg base iR iR 2 (am fO))(d:hH X)(l:Zn K "tuple")(u:Zn K "enumerate")(i:Zn K "sorted")(z0:Zn K "abs")(j:FnAt P w K mg base "_law_plus" Ps24 d6.m 2)(a:FnAt P w K mg base "_law_draw" Ps18 dZ 1)(f:FnAt P w K mg base "_law_lowest" Ps19 bh.m 1):ng X (aI fO) eI.m:=by unfold eI;apply cS<;>contradiction
abbrev kE:WM:=["_law_pen_here","_law_above_here","_law_found","_law_left","_law_barred","_law_ready"]
def w8{K:hR}(c:Wc X P w K mg base kE kE 1 (am iB))(d:hH X)(i:Zn K "len")(f:Zn K "range")(a:FnAt P w K mg base "_law_draw" Ps18 dZ 1):ng X (aI iB) fE.m:=by unfold fE;apply cS<;>contradiction
abbrev lF:WM:=["_law_sheet","_law_order_here","_law_found"]
def yU{K:hR}(c:Wc X P w K mg base lF lF 6 (am jc))(d:hH X)(i:Zn K "list")(f:Uk K mg "NoPivot")(a:FnAt P w K mg base "struck" Ps14 dI.m 6):ng X (aI jc) gR.m:=by unfold gR;apply cS<;>contradiction
abbrev nS:WM:=["_law_sheet","_law_x","_law_right_here","_law_row","_law_due","_law_here","_law_j","_law_number_here"]
def AS{K:hR}(c:Wc X P w K mg base nS nS 2 (am jY))(d:hH X)(f:Zn K "zip")(a:FnAt P w K mg base "_law_times" Ps25 eP.m 2)(i:FnAt P w K mg base "_law_plus" Ps24 d6.m 2):ng X (aI jY) nk.m:=by unfold nk;apply cS<;>contradiction
abbrev gT:WM:=["_law_pen_here","_law_sheet","_law_order_here","_law_work","_law_kept","_law_other"]
def rf{K:hR}(c:Wc X P w K mg base gT gT 9 (am eN))(d:hH X)(z:Zn K "sorted")(a:FnAt P w K mg base "put_back" Ps15 jb 5)(u:FnAt P w K mg base "_law_same" Ps20 cW.m 9)(f:FnAt P w K mg base "_law_struck" Ps37 bY.m 7)(y:FnAt P w K mg base "_law_ties_of" Ps29 fJ.m 1)(i:FnAt P w K mg base "_law_above" Ps28 iH.m 3)(l:FnAt P w K mg base "_law_keeping" Ps36 fG.m 2)(j:FnAt P w K mg base "_law_multiplied" Ps34 fj 3)(B:FnAt P w K mg base "_law_is_work" Ps33 fF.m 4):ng X (aI eN) dC.m:=by unfold dC;apply cS<;>contradiction
abbrev nV:WM:=["_law_pen_here","_law_n","_law_sure","_law_rows_here","_law_sheet","_law_right_here","_law_x","_law_turn","_law_order_here","_law_work","_law_told"]
def Ap{K:hR}(c:Wc X P w K mg base nV nV 10 (am j7))(d:hH X)(G:Zn K "len")(H:Zn K "isinstance")(L:Zn K "list")(z:Zn K "range")(E:Zn K "min")(u:FnAt P w K mg base "_law_comes" Ps38 j6.m 3)(i:FnAt P w K mg base "_law_same" Ps20 cW.m 9)(l:FnAt P w K mg base "solved" Ps16 g6.m 4)(y:FnAt P w K mg base "_law_order_right" Ps39 cz.m 10)(a:FnAt P w K mg base "_law_struck" Ps37 bY.m 7)(j:FnAt P w K mg base "_law_order" Ps22 f9.m 2)(F:FnAt P w K mg base "_law_number" Ps21 cP.m 2)(C:FnAt P w K mg base "_law_above_all" Ps35 cC.m 3)(B:FnAt P w K mg base "_law_rows" Ps23 jO.m 3)(f:FnAt P w K mg base "_law_draw" Ps18 dZ 1):ng X (aI j7) iN.m:=by unfold iN;apply cS<;>contradiction
def Mu{K:hR}(b:Ba P w K mg base)(D0:b_ K "is_whole" i9)(D1:b_ K "greatest_shared" dP)(D2:b_ K "number_of" iq)(D3:b_ K "plus" rH)(D4:b_ K "minus" o9)(D5:b_ K "times" oW)(D6:b_ K "over" qA)(D7:b_ K "is_place" i5)(D8:b_ K "is_order" jh)(D9:b_ K "check_order" fN)(cn:b_ K "add_times" iA)(b6:b_ K "parts_at" je)(di:b_ K "step_of" jS)(cd:b_ K "struck_with" fQ)(ca:b_ K "struck" lH)(dc:b_ K "put_back" jf)(dt:b_ K "solved" mG)(c3:b_ K "_law_pen" oU)(c7:b_ K "_law_draw" mO)(cx:b_ K "_law_lowest" i7)(Z:b_ K "_law_same" uR)(de:b_ K "_law_number" jg)(dk:b_ K "_law_order" j9)(da:b_ K "_law_rows" lD)(br:b_ K "_law_plus" lG)(ch:b_ K "_law_times" kj)(ar:b_ K "_law_near" lx)(cv:b_ K "_law_later" j5)(cc:b_ K "_law_above" jZ)(bv:b_ K "_law_ties_of" iC)(db:b_ K "_law_whole" j8)(cm:b_ K "_law_is_number" fL)(bm:b_ K "_law_are_parts" fM)(cp:b_ K "_law_is_work" iz)(c6:b_ K "_law_multiplied" fb)(cB:b_ K "_law_above_all" fO)(b4:b_ K "_law_keeping" iB)(dn:b_ K "_law_struck" jc)(aF:b_ K "_law_comes" jY)(ay:b_ K "_law_order_right" eN)(ap:b_ K "_law_right" j7)(df:b_ K "law" qH)(z0:Zn K "abs")(z1:Zn K "all")(z2:Zn K "bool")(z3:Zn K "dict")(R:Zn K "enumerate")(z5:Zn K "int")(H:Zn K "isinstance")(E:Zn K "len")(z8:Zn K "list")(z9:Zn K "max")(C:Zn K "min")(f:Zn K "range")(ci:Zn K "reversed")(y:Zn K "sorted")(i:Zn K "tuple")(al:Zn K "zip")(l:mI K "NOUGHT" 0 1)(Q:mI K "ONE" 1 1)(NP:UO K):FnAt P w K mg base "law" Fw EQ 12:=by
 have NP:=NP P w mg base b.kin b.ns;have a:=l.mg b.kin b.ns;have O:=Q.mg b.kin b.ns;have a0:=wh (F:=dY) mM b D0 λX c d=>zf c d H z2 z5;have a1:=wh (F:=cK) fy b D1 λX c d=>pe c d;have a2:=wh (F:=bO) ku b D2 λX c d=>wX c d z0 a1 a0;have a3:=wh (F:=gX) vN b D3 λX c d=>Ms c d  a2;have a4:=wh (F:=fZ) sT b D4 λX c d=>HX c d  a2;have a5:=wh (F:=dB) sD b D5 λX c d=>HY c d  a2;have a6:=wh (F:=gI) ve b D6 λX c d=>Mt c d  a2;have a7:=wh (F:=eZ) lZ b D7 λX c d=>zU c d  a0;have a8:=wh (F:=gN) lS b D8 λX c d=>za c d y z8 f z1 H a7;have a9:=wh (F:=eJ) iX b D9 λX c d=>ud c d  a8;have W:=Ug (B:=cT) (np:=3) kq b cn λX c d=>wP c d a a5 a3;have ac:=wh (F:=dG) lV b b6 λX c d=>zc c d i a;have c1:=wh (F:=fY) nA b di λX c d=>BQ c d i a NP.1 ac a6;have as:=M5 (k:=4) (N:=mS) (G:=mR) (ps:=ui) b cd λX e h g d=>ue h g d (a4.c e) (W.c e) (c1.c e) (e.n R) (e.n y) (e.n z3) (e.e3▸e.e4▸a);have cw:=wh (F:=dI) pD b ca λX c d=>Dx c d  as a9;have cy:=M5 (k:=4) (N:=qV) (G:=qt) (ps:=zV) b dc λX e h g d=>zT h g d (ac.c e) (W.c e) (e.n z8) (e.n f) (e.n i) (e.e3▸e.e4▸O);have b1:=wh (F:=g6) pH b dt λX c d=>CU c d ci f a6 a5 a4;have b3:=M5 (k:=0) (N:=xo) (G:=yi) (ps:=HV) b c3 λX e h g d=>HW h g d (e.n z0) (e.n E) (e.n C);have j:=M5 (k:=0) (N:=vk) (G:=uQ) (ps:=Dj) b c7 λX e h g d=>C3 h g d;have u:=wh (F:=bh) mH b cx λX c d=>yI c d z0;have z:∀n,FnAt P w K mg base "_law_same" _ (dL n).m (0+n+1):=λn=>by
  induction n with
  |zero=>exact Uf (np:=2) ["_law_found","_law_due"] b Z
  |succ n ih=>exact wh (F:=dL (n+1)) (B:=hJ (dL n)) ["_law_found","_law_due"] b Z λX c d=>by unfold hJ;apply cS<;>contradiction
 have z:FnAt P w K mg base "_law_same" _ cW.m 9:=z 8;have ak:=wh (F:=cP) mr b de λX c d=>yV c d  j u;have dj:=wh (F:=f9) m6 b dk λX c d=>BO c d f j;have c4:=wh (F:=jO) pF b da λX c d=>Dv c d i f z5 j ak;have M:=wh (F:=d6) qg b br λX c d=>Cj c d  u;have S:=wh (F:=eP) nG b ch λX c d=>B4 c d  u;have ck:=wh (F:=g7) pU b ar λX c d=>DF c d;have b0:=wh (F:=gu) oi b cv λX c d=>Bz c d E ck;have cQ:=wh (F:=iH) mV b cc λX c d=>Bg c d R b0;have ds:=wh (F:=fJ) kx b bv λX c d=>wL c d y R z9 C;have L:=wh (F:=cU) nN b db λX c d=>Be c d H z2 z5;have U:=wh (F:=cF) iS b cm λX c d=>um c d E H i u L;have c2:=wh (F:=dA) iQ b bm λX c d=>uo c d E H i U L;have c5:=wh (F:=fF) kL b cp λX c d=>wT c d R E H i z8 c2 U L;have dq:=M5 (k:=2) (N:=kR) (G:=k6) (ps:=r9) b c6 λX e h g d=>sG h g d (S.c e) (M.c e) (e.n R) (e.n i) (e.n f);have dr:=wh (F:=cC) iR b cB λX c d=>ug c d i R y z0 M j u;have cs:=wh (F:=fG) kE b b4 λX c d=>w8 c d E f j;have ai:=wh (F:=bY) lF b dn λX c d=>yU c d z8 NP.2 cw;have ax:=wh (F:=j6) nS b aF λX c d=>AS c d al S M;have b2:=wh (F:=cz) gT b ay λX c d=>rf c d y cy z ai ds cQ cs dq c5;have dd:=wh (F:=dX) nV b ap λX c d=>Ap c d E H z8 f C ax z b1 b2 ai dj ak dr c4 j;have b5:=M5 (k:=11) (N:=Jl) (G:=Jm) (ps:=Fw) b df λX e h g d=>QF h g d (b3.c e) (dd.c e) (e.n f) (e.n E) (e.n C) (e.n z9) (e.n z1);exact b5
end Law
namespace PySem.W.Fast
def tw11665417947225640077:=0
def tw12005420732023736549:=0
def tw13271620901314666564:=0
def tw770230369181314976:=0
def tw13644319158913659131:=0
def tw1646206595548069389:=0
def tw6804565643729983842:=0
def tw15934528080437375660:=0
def tw17798943845282795441:=0
def tw16473446555751203051:=0
def tw2860298077056803472:=0
def tw14073270571981527376:=0
def tw10718500375704681450:=0
def tw9281261758653754413:=0
def tw7023397728436274911:=0
def tw9241064311320229700:=0
def tw11281306418343344113:=0
def tw11059955906495622270:=0
def tw13161525573241454524:=0
def tw6978469319830735154:=0
def tw164263117330479588:=0
def tw10497709763645113961:=0
def tw6085694001331162537:=0
def tw9931637146826989726:=0
def tw47848152539451289:=0
def tw367225676865066115:=0
def tw18253145702430232676:=0
def tw10351042747376719583:=0
def tw4967643764489123874:=0
def tw3464144371663117528:=0
def tw17025006085568003649:=0
def tw8592750523368457806:=0
def tw4360742260321762821:=0
def tw14949770866192764461:=0
def tw15474667543576329659:=0
def tw14482093706580756258:=0
def tw383207836169092965:=0
def tw15596918401198184964:=0
def tw12837123810748636203:=0
def tw6499665253839638684:=0
def tw357202948017722596:=0
def tw16068695240641812986:=0
def tw7588325814885152336:=0
def tw12324376475217805255:=0
def tw9885799002613436280:=0
def tw8367168771454664583:=0
def tw6228689913804996017:=0
def tw6185775082584172109:=0
def tw12582983451496853955:=0
def tw8762319379599350727:=0
def tw13604065342159197390:=0
def tw4162050449438731298:=0
def tw8844390990481103802:=0
def tw465729265423631174:=0
def tw340027323312743157:=0
def tw12457089083024574933:=0
def tw16405476330096584223:=0
def tw13385574092599393925:=0
def tw7058437649193944714:=0
def tw6900902859045313571:=0
def tw2911942686499293744:=0
def tw17487064454856146029:=0
def tw14803806185554850282:=0
def tw13400653860135939556:=0
def tw9700959622858429118:=0
def tw13021601993666218941:=0
def tw9903333982985347903:=0
def tw12942165924757351486:=0
def tw15993465781212956326:=0
def tw6049959552407551642:=0
def tw2436619137451569513:=0
def tw3018938209012245050:=0
def tw15761683893498164511:=0
def tw17995179150572579540:=0
def tw9399429034682086707:=0
def tw1072161100452208971:=0
def tw9445415076478190345:=0
def tw13577683392850874065:=0
def tw13652219076457077191:=0
def tw12288749878297793648:=0
def tw2602270514464346514:=0
def tw5323907303147181563:=0
def tw991900833857403927:=0
def tw2753593640099020551:=0
def tw18367749105526269165:=0
def tw5486370184657769072:=0
def tw8589057985780126120:=0
def tw16520061702320782856:=0
def tw4360721450963161091:=0
def tw16447352028489328079:=0
def tw16075497225197511473:=0
def tw3004654408731429045:=0
def tw14714794656570722818:=0
def tw10787873598470610273:=0
def tw17605060224462648202:=0
def tw6345325569113192022:=0
def tw14696395692073943726:=0
def tw12430090015274439927:=0
def tw369570175367124238:=0
def tw10748715826023351518:=0
def tw9263724491225616422:=0
def tw1011675888441552124:=0
def tw12769564760689665185:=0
def tw16631064892975523492:=0
def tw15975565312609777086:=0
def tw4981903173330992986:=0
def tw6235611433290734115:=0
def tw5637720099387294461:=0
def tw10776189054882878581:=0
def tw2737316668542748985:=0
def tw1292349968474979848:=0
def tw10483647894716969056:=0
def tw7026264225203797342:=0
def tw6659202305217288609:=0
def tw8835532839016461140:=0
def tw956545244343908406:=0
def tw11420762000533262925:=0
def tw14998963651621564388:=0
def tw7812210949682415059:=0
def tw1847513014427539641:=0
def tw15549900163500805115:=0
def tw1545567907822496440:=0
def tw8372526004023252480:=0
def tw14486145304547625276:=0
def tw9501484161234206924:=0
def tw14870334961107937377:=0
def tw9075774027123951198:=0
def tw17714790888855960186:=0
end PySem.W.Fast
open PySem PySem.W PyProof.Rows
local macro_rules | `(tactic| and_intros) => `(tactic| (dsimp only [L2.n4]; first | k_is | (refine' MM.Fl ?a ?l ?c ?k; (case a => k_is); (case l => k_is); (case c => k_is); (case k => k_is))))
set_option maxRecDepth 100000 in
set_option maxHeartbeats 0 in
theorem PySem.Challenge.cw_fewfills_k53_whole_any_order_holds : PySem.Challenge.rw_fewfills_k53_whole_any_order.Holds := by
  w_on; o_law; k_head; (case hw=>w_witness2)
  k_fill
  refine MM.KL (l:=PySem.Challenge.rw_fewfills_k53_whole_any_order) (k:=12) (x:="_law_script") (F:=Law.EQ) rfl rfl ⟨rfl,by decide,by decide,rfl⟩ (by decide +kernel) rfl (fun w h Y=>PySem.W.kIn_of Y) ?F Law.Fv
  case F=>
    intro w mg fa h KX G hmg
    have Dlaw:MM.b_ (L2.n4 KX) "law" Law.qH:=by and_intros
    have D0:MM.b_ (L2.n4 KX) "is_whole" Law.i9:=by and_intros
    have D1:MM.b_ (L2.n4 KX) "greatest_shared" Law.dP:=by and_intros
    have D2:MM.b_ (L2.n4 KX) "number_of" Law.iq:=by and_intros
    have D3:MM.b_ (L2.n4 KX) "plus" Law.rH:=by and_intros
    have D4:MM.b_ (L2.n4 KX) "minus" Law.o9:=by and_intros
    have D5:MM.b_ (L2.n4 KX) "times" Law.oW:=by and_intros
    have D6:MM.b_ (L2.n4 KX) "over" Law.qA:=by and_intros
    have D7:MM.b_ (L2.n4 KX) "is_place" Law.i5:=by and_intros
    have D8:MM.b_ (L2.n4 KX) "is_order" Law.jh:=by and_intros
    have D9:MM.b_ (L2.n4 KX) "check_order" Law.fN:=by and_intros
    have D10:MM.b_ (L2.n4 KX) "add_times" Law.iA:=by and_intros
    have D11:MM.b_ (L2.n4 KX) "parts_at" Law.je:=by and_intros
    have D12:MM.b_ (L2.n4 KX) "step_of" Law.jS:=by and_intros
    have D13:MM.b_ (L2.n4 KX) "struck_with" Law.fQ:=by and_intros
    have D14:MM.b_ (L2.n4 KX) "struck" Law.lH:=by and_intros
    have D15:MM.b_ (L2.n4 KX) "put_back" Law.jf:=by and_intros
    have D16:MM.b_ (L2.n4 KX) "solved" Law.mG:=by and_intros
    have D17:MM.b_ (L2.n4 KX) "_law_pen" Law.oU:=by and_intros
    have D18:MM.b_ (L2.n4 KX) "_law_draw" Law.mO:=by and_intros
    have D19:MM.b_ (L2.n4 KX) "_law_lowest" Law.i7:=by and_intros
    have D20:MM.b_ (L2.n4 KX) "_law_same" Law.uR:=by and_intros
    have D21:MM.b_ (L2.n4 KX) "_law_number" Law.jg:=by and_intros
    have D22:MM.b_ (L2.n4 KX) "_law_order" Law.j9:=by and_intros
    have D23:MM.b_ (L2.n4 KX) "_law_rows" Law.lD:=by and_intros
    have D24:MM.b_ (L2.n4 KX) "_law_plus" Law.lG:=by and_intros
    have D25:MM.b_ (L2.n4 KX) "_law_times" Law.kj:=by and_intros
    have D26:MM.b_ (L2.n4 KX) "_law_near" Law.lx:=by and_intros
    have D27:MM.b_ (L2.n4 KX) "_law_later" Law.j5:=by and_intros
    have D28:MM.b_ (L2.n4 KX) "_law_above" Law.jZ:=by and_intros
    have D29:MM.b_ (L2.n4 KX) "_law_ties_of" Law.iC:=by and_intros
    have D30:MM.b_ (L2.n4 KX) "_law_whole" Law.j8:=by and_intros
    have D31:MM.b_ (L2.n4 KX) "_law_is_number" Law.fL:=by and_intros
    have D32:MM.b_ (L2.n4 KX) "_law_are_parts" Law.fM:=by and_intros
    have D33:MM.b_ (L2.n4 KX) "_law_is_work" Law.iz:=by and_intros
    have D34:MM.b_ (L2.n4 KX) "_law_multiplied" Law.fb:=by and_intros
    have D35:MM.b_ (L2.n4 KX) "_law_above_all" Law.fO:=by and_intros
    have D36:MM.b_ (L2.n4 KX) "_law_keeping" Law.iB:=by and_intros
    have D37:MM.b_ (L2.n4 KX) "_law_struck" Law.jc:=by and_intros
    have D38:MM.b_ (L2.n4 KX) "_law_comes" Law.jY:=by and_intros
    have D39:MM.b_ (L2.n4 KX) "_law_order_right" Law.eN:=by and_intros
    have D40:MM.b_ (L2.n4 KX) "_law_right" Law.j7:=by and_intros
    have Z41:PySem.W.nsIn (L2.n4 KX) mainGlobals "abs" = some none:=by and_intros
    have Z42:PySem.W.nsIn (L2.n4 KX) mainGlobals "all" = some none:=by and_intros
    have Z43:PySem.W.nsIn (L2.n4 KX) mainGlobals "bool" = some none:=by and_intros
    have Z44:PySem.W.nsIn (L2.n4 KX) mainGlobals "dict" = some none:=by and_intros
    have Z45:PySem.W.nsIn (L2.n4 KX) mainGlobals "enumerate" = some none:=by and_intros
    have Z46:PySem.W.nsIn (L2.n4 KX) mainGlobals "int" = some none:=by and_intros
    have Z47:PySem.W.nsIn (L2.n4 KX) mainGlobals "isinstance" = some none:=by and_intros
    have Z48:PySem.W.nsIn (L2.n4 KX) mainGlobals "len" = some none:=by and_intros
    have Z49:PySem.W.nsIn (L2.n4 KX) mainGlobals "list" = some none:=by and_intros
    have Z50:PySem.W.nsIn (L2.n4 KX) mainGlobals "max" = some none:=by and_intros
    have Z51:PySem.W.nsIn (L2.n4 KX) mainGlobals "min" = some none:=by and_intros
    have Z52:PySem.W.nsIn (L2.n4 KX) mainGlobals "range" = some none:=by and_intros
    have Z53:PySem.W.nsIn (L2.n4 KX) mainGlobals "reversed" = some none:=by and_intros
    have Z54:PySem.W.nsIn (L2.n4 KX) mainGlobals "sorted" = some none:=by and_intros
    have Z55:PySem.W.nsIn (L2.n4 KX) mainGlobals "tuple" = some none:=by and_intros
    have Z56:PySem.W.nsIn (L2.n4 KX) mainGlobals "zip" = some none:=by and_intros
    have YNOUGHT:MM.mI (L2.n4 KX) "NOUGHT" 0 1:=by
      dsimp only [L2.n4]
      refine' MM.xZ ?h ?l
      (case h=>k_is)
      (case l=>k_is)
    have YONE:MM.mI (L2.n4 KX) "ONE" 1 1:=by
      dsimp only [L2.n4]
      refine' MM.xZ ?h ?l
      (case h=>k_is)
      (case l=>k_is)
    have NP:Law.UO (L2.n4 KX):=by
      dsimp only [L2.n4]
      refine' Law.Mq ?a ?aF ?l ?lN ?hes ?ni ?eF ?sa ?tk ?hg ?hr ?fc ?lf ?cI ?kp
      (case a=>k_is)
      (case aF=>k_is)
      (case l=>k_is)
      (case lN=>k_is)
      (case hes=>first | with_unfolding_all rfl | simp)
      (case ni=>k_is)
      (case eF=>k_exc)
      (case sa=>k_is)
      (case tk=>k_is)
      (case hg=>k_is)
      (case hr=>k_is)
      (case fc=>k_is)
      (case lf=>k_is)
      (case cI=>k_is)
      (case kp=>k_is)
    exact MM.KJ Dlaw Law.Mr hmg KX G fun base kb nb=>Law.Mu ⟨kb,nb⟩ D0 D1 D2 D3 D4 D5 D6 D7 D8 D9 D10 D11 D12 D13 D14 D15 D16 D17 D18 D19 D20 D21 D22 D23 D24 D25 D26 D27 D28 D29 D30 D31 D32 D33 D34 D35 D36 D37 D38 D39 D40 Dlaw Z41 Z42 Z43 Z44 Z45 Z46 Z47 Z48 Z49 Z50 Z51 Z52 Z53 Z54 Z55 Z56 YNOUGHT YONE NP
