import PyProof.Rows.All
import Wide.All
import OpenK.AllK
import Wide.FinOn
import Lean
import PyProof.EqAt
import PyProof.EqKinds
import PyProof.TupleCall
import PyProof.ReprRoads
import PyProof.FitsInt
import PyProof.FitsBits
import PyProof.Rows.IntMath
import PyProof.ConsumeWalk
import PyProof.WalkInts
import PyProof.ListRange
import PySem.SetTable
import PyProof.SetKind
import PyProof.TupleKey
import PyProof.DictKinds
import PyProof.IsRules
import PyProof.Rows.SetFrom
import PyProof.CollectIter
import PyProof.ForAny
import PyProof.Rows.SortRuns
import PyProof.Rows.SortKey
import KE.KSortTup
import PyProof.ZipIter
import PyProof.Draws
import PyProof.EnumMake
import PyProof.TupleIter
import PyProof.P3Eq
import PyProof.StrCalls2
import PyProof.StrCalls3
import PyProof.FString
import PyProof.AttrMissHeap
import PyProof.DictUpdate
import PyProof.DictRoads
import KE.KDictOf
import PyProof.Walks
import PyProof.SetRoads
import PyProof.Rows.SeqMore
import KE.KDictList
import PyProof.DictItems
import KE.KPairComp
import PyProof.MeetsSeq
import PyProof.Rows.Chain
import PyProof.ListMulRoad
import PyProof.FactsAll.tuple_2
import PySem.Challenge.RW_fewfills_k30_works_told
set_option Elab.async false
set_option bootstrap.genMatcherCode false
set_option compiler.extract_closed false
set_option genSizeOf false
set_option linter.all false
set_option maxRecDepth 100000
noncomputable section
local macro_rules|`(command|def $i:declId $s:optDeclSig $v:declVal)=>`(command|noncomputable def $i:declId $s:optDeclSig $v:declVal)
local macro_rules|`(command|abbrev $i:declId $s:optDeclSig $v:declVal)=>`(command|noncomputable abbrev $i:declId $s:optDeclSig $v:declVal)
open PySem
abbrev _root_.SQ:=List Str
abbrev _root_.SS:=List Int
abbrev _root_.SU:=List (List Int)
abbrev _root_.SV:=List Nat
abbrev _root_.SX:=List Addr
abbrev _root_.SA:=List Value
abbrev _root_.SD:=List (Addr×Obj)
abbrev _root_.SF:=Option Value
abbrev _root_.SG:=Option Int
abbrev _root_.SH:=List Expr
abbrev _root_.Sh:=Value->Shared->Prop
abbrev _root_.Si:=Str->Option Value
abbrev _root_.Sk:=List Stmt
abbrev h8:=@PySem.W.Frag
abbrev nw:=@List.getElem?_eq_some_iff
abbrev hH:=@wpAny_bind
abbrev mx:=@Heap.get?_push_of_some
abbrev p_:=@List.getElem?_append_left
abbrev n_:=@List.mem_cons_of_mem
abbrev b_:=@if_pos
abbrev pa:=@List.getElem?_set_ne
abbrev jj:=@Nat.le_refl
abbrev se:=@List.mem_append_right
abbrev vp:=@List.getElem?_eq_getElem
abbrev qi:=@Bool.false_eq_true
abbrev f_:=@if_neg
abbrev qb:=@List.getElem?_map
abbrev vz:=@Option.map_eq_some_iff
abbrev n8:=@List.map_cons
abbrev q7:=@List.size_toArray
abbrev n5:=@Heap.lt_size
abbrev ln:=@wpAny_pure
abbrev wv:=@List.getElem?_set_self
abbrev pu:=@List.mem_cons
abbrev AR:=@List.getElem?_append_right
abbrev vE:=@Nat.lt_of_lt_of_le
abbrev wh:=@Heap.get?_push_size
abbrev tr:=@List.mem_append
abbrev ql:=@Nat.le_trans
abbrev x5:=@List.set_cons_zero
abbrev AT:=@List.mem_iff_getElem?
abbrev Ap:=@List.mem_of_getElem?
abbrev zK:=@List.set_cons_succ
abbrev AU:=@List.mem_append_left
abbrev tx:=@List.mem_map
abbrev zx:=@List.length_map
abbrev z_:=@List.nodup_cons
abbrev vK:=@Nat.ne_of_lt
abbrev vM:=@List.map_map
abbrev BC:=@List.getElem?_eq_none
abbrev BD:=@Array.getElem?_toList
abbrev AZ:=@Bool.and_eq_true
abbrev Bp:=@List.replicate_succ
abbrev A0:=@List.length_cons
abbrev Bq:=@List.mem_cons_self
abbrev Br:=@List.length_append
abbrev Bh:=@List.mem_filter
abbrev zL:=@Nat.zero_le
abbrev BE:=@List.lookup_cons
abbrev BK:=@Int.toNat_natCast
abbrev Ey:=@List.take_of_length_le
abbrev A6:=@Nat.lt_irrefl
abbrev B5:=@List.mem_singleton
abbrev A1:=@Nat.ne_of_gt
abbrev A2:=@Nat.zero_add
abbrev Fc:=@List.getElem?_replicate
abbrev BF:=@Heap.size_push
abbrev Cd:=@List.append_assoc
abbrev BL:=@List.mem_range
abbrev IN:=@List.getElem?_cons_zero
abbrev Fd:=@List.getElem?_zipIdx
abbrev Jo:=@Array.getElem?_eq_some_iff
abbrev Ez:=@List.flatten_cons
abbrev EA:=@Array.toList_push
abbrev Fe:=@Array.toList_append
abbrev Ff:=@List.map_congr_left
abbrev Fg:=@Bool.false_ne_true
abbrev Fh:=@List.mem_filterMap
abbrev EB:=@Array.toList_inj
abbrev IQ:=@List.mem_of_mem_drop
abbrev Jp:=@Option.bind_eq_some_iff
abbrev B6:=@Bool.not_true
abbrev Fi:=@List.ext_getElem?
abbrev Fj:=@List.getElem?_inj
abbrev IR:=@Array.length_toList
abbrev EC:=@Option.map_some
abbrev ED:=@Array.size_push
abbrev Jq:=@List.drop_eq_nil_of_le
abbrev Mn:=@Int.fmod_eq_emod_of_nonneg
abbrev Jr:=@List.length_replicate
abbrev Js:=@Bool.beq_eq_decide_eq
abbrev Mo:=@List.drop_eq_getElem_cons
abbrev Mp:=@List.getElem?_take_of_lt
abbrev IS:=@List.nodup_append
abbrev Jt:=@Heap.get?_update_ne
abbrev Ju:=@List.mem_map_of_mem
abbrev IT:=@List.not_mem_nil
abbrev IU:=@Option.getD_some
abbrev Jv:=@Int.emod_lt_of_pos
abbrev EF:=@Nat.le_of_lt
abbrev IV:=@List.append_nil
abbrev Mq:=@List.take_append_drop
abbrev Jw:=@Array.size_append
abbrev Jx:=@Bool.not_eq_true'
abbrev Jy:=@List.length_range
abbrev NK:=@Array.perm_iff_toList_perm
abbrev Mr:=@Array.toList_extract
abbrev NL:=@List.pairwise_iff_getElem
abbrev NM:=@List.extract_eq_take_drop
abbrev Jz:=@List.length_take
abbrev JA:=@Option.bind_some
abbrev JB:=@List.nodup_range
abbrev Ms:=@List.getElem_of_mem
abbrev Fk:=@List.map_nil
abbrev JC:=@Int.emod_nonneg
abbrev JD:=@Int.natCast_mul
abbrev NN:=@Array.getElem?_extract
abbrev Mt:=@List.reverse_cons
abbrev Mu:=@List.drop_sublist
abbrev Mw:=@List.getElem_drop
abbrev JE:=@Int.natAbs_mul
abbrev NO:=@List.perm_append_comm
abbrev My:=@List.length_drop
abbrev Mz:=@Nat.lt_succ_self
abbrev MB:=@List.cons_append
abbrev NP:=@Nat.pow_le_pow_right
abbrev NQ:=@List.filterMap_cons
abbrev MC:=@List.of_mem_zip
abbrev MD:=@List.nil_append
abbrev IW:=@Nat.le_succ
abbrev MF:=@List.find?_cons
abbrev MK:=@Nat.min_eq_left
abbrev ML:=@List.map_append
abbrev MN:=@Int.mul_ne_zero
abbrev QK:=@Array.getElem?_eq_none_iff
abbrev NR:=@Nat.eq_zero_or_pos
abbrev NS:=@List.pairwise_cons
abbrev NT:=@List.getElem?_drop
abbrev NU:=@Bool.not_eq_false'
abbrev NV:=@List.take_sublist
abbrev NW:=@Nat.lt_succ_of_lt
abbrev QL:=@Nat.gcd_pos_of_pos_right
abbrev MP:=@List.any_cons
abbrev QM:=@List.pairwise_mergeSort
abbrev QN:=@List.length_eq_zero_iff
abbrev QO:=@List.filter_cons_of_pos
abbrev QP:=@List.filter_cons_of_neg
abbrev QQ:=@List.pairwise_filterMap
abbrev QR:=@Int.eq_ofNat_of_zero_le
abbrev MQ:=@List.map_drop
abbrev QS:=@List.getElem?_cons_succ
abbrev NX:=@List.perm_middle
abbrev NY:=@List.zipIdx_cons
abbrev NZ:=@List.filter_cons
abbrev QT:=@Heap.get?_update_other
abbrev QU:=@List.range_succ_eq_map
abbrev QV:=@List.pairwise_lt_range
abbrev QW:=@Heap.get?_update_self
abbrev N0:=@List.length_set
abbrev MU:=@Nat.lt_trans
abbrev N1:=@List.forIn_cons
abbrev QX:=@List.getElem?_toArray
abbrev MV:=@Int.ofNat_lt
abbrev QY:=@List.length_filter_le
abbrev N2:=@List.length_nil
abbrev N3:=@List.forIn_nil
abbrev N4:=@List.take_succ
abbrev N5:=@List.map_take
abbrev N6:=@List.sum_cons
noncomputable section
local macro_rules | `(tactic| ext) => `(tactic| omega)
local instance (priority:=1) cdec (p:Prop):Decidable p:=Classical.propDecidable p
local macro_rules | `(⋯) => `(by lia)
open Option renaming some->J,none->Y
open Bool renaming true->I,false->T
namespace L2
open PySem.Spec PyProof.Rows
abbrev qd:=Sum Int Str
def qK:qd->Value->Bool
 |.inl k,v=>Value.isInt k v
 |.inr x,v=>Value.isStrOf x v
def N7(w:World):qd->Int
 |.inl k=>hashInt k
 |.inr x=>hashStr w x
def bJ:∀{k:qd}{v:Value},qK k v=I->(∃i t,k=Sum.inl i/\v=Value.int i t)\/(∃x t,k=Sum.inr x/\v=Value.str x t)
 |.inl i,v,h=>by
  obtain⟨t,e⟩:=Value.isInt_shape (k:=i) (v:=v) h;exact .inl ⟨i,t,rfl,e⟩
 |.inr x,v,h=>by
  obtain⟨t,e⟩:=Value.isStrOf_shape (x:=x) (v:=v) h;exact .inr ⟨x,t,rfl,e⟩
def yp(i:Int)(t:Tok):qK (.inl i) (.int i t)=I:=by simp[qK,Value.isInt]
def Fl(a b:Int):decide ((Sum.inl a:qd)=Sum.inl b)=(a==b):=by
 by_cases e:a=b
 .subst e;simp
 .have h:¬(Sum.inl a:qd)=Sum.inl b:=λq=>e (Sum.inl.inj q);rw[decide_eq_false h];exact(beq_eq_false_iff_ne.mpr e).symm
def Fm(a b:Str):decide ((Sum.inr a:qd)=Sum.inr b)=decide (a=b):=by
 by_cases e:a=b
 .subst e;simp
 .have h:¬(Sum.inr a:qd)=Sum.inr b:=λq=>e (Sum.inr.inj q);rw[decide_eq_false h,decide_eq_false e]
def Fo(a:Int)(b:Str):decide ((Sum.inl a:qd)=Sum.inr b)=T:=decide_eq_false (λq=>nomatch q)
def Fp(a:Str)(b:Int):decide ((Sum.inr a:qd)=Sum.inl b)=T:=decide_eq_false (λq=>nomatch q)
def d8(prog:Program)(w:World):PySem.KeyKind prog w qd where
 is:=qK
 hash:=N7 w
 inj:=λv a b l f=>by
  rcases bJ l with⟨i,t,rfl,rfl⟩|⟨x,t,rfl,rfl⟩
  .rcases bJ f with⟨j,u,rfl,e⟩|⟨y,u,rfl,e⟩
   .injection e with e1 _;rw[e1]
   .exact nomatch e
  .rcases bJ f with⟨j,u,rfl,e⟩|⟨y,u,rfl,e⟩
   .exact nomatch e
   .injection e with e1 _;rw[e1]
 byValue:=λk v h=>by
  rcases bJ h with⟨i,t,rfl,rfl⟩|⟨x,t,rfl,rfl⟩<;>rfl
 pyHash:=λhv h=>by
  rcases bJ hv with⟨i,t,rfl,rfl⟩|⟨x,t,rfl,rfl⟩
  .exact wpAny_pyHash_int h
  .exact wpAny_pyHash_str h
 eqBool:=λz hv h=>by
  rcases bJ z with⟨i,t,rfl,rfl⟩|⟨x,t,rfl,rfl⟩
  .rcases bJ hv with⟨j,u,rfl,rfl⟩|⟨y,u,rfl,rfl⟩
   .rw[Fl]at h;exact wpAny_eqBool_int h
   .rw[Fo]at h;exact SeqAt.EqAt.int_str i t y u _ _ _ _ h
  .rcases bJ hv with⟨j,u,rfl,rfl⟩|⟨y,u,rfl,rfl⟩
   .rw[Fp]at h;exact SeqAt.EqAt.str_int x t j u _ _ _ _ h
   .rw[Fm]at h;exact wpAny_eqBool_str h
 «strs»:=λk x t v h=>by
  rcases bJ h with⟨i,u,rfl,e⟩|⟨y,u,rfl,e⟩
  .exact nomatch e
  .injection e with e1 _
   subst e1;cases v<;>rfl
def dI(prog:Program)(w:World)(i:Int)(t:Tok):(d8 prog w).is (.inl i) (.int i t)=I:=yp i t
inductive V where
 |non | bl (b:Bool) | int (i:Int) | str (x:Str) | byt (b:Array UInt8) | flt (b:UInt64) | ref (a:Addr) | ty (n:String)
 deriving DecidableEq
def aL:V->Value->Prop
 |.non,u=>u=Value.none
 |.bl b,u=>u=Value.bool b
 |.int i,u=>∃t,u=Value.int i t
 |.str x,u=>∃t,u=Value.str x t
 |.byt b,u=>∃t,u=Value.bytes b t
 |.flt b,u=>∃t,u=Value.float b t
 |.ref a,u=>u=Value.ref a
 |.ty n,u=>u=Value.type n
abbrev aF:List V->SA->Prop:=Paired aL
def aF.length{xs:List V}{a:SA}(r:aF xs a):xs.length=a.length:=Paired.length r
def aF.get{xs:List V}{a:SA}{i:Nat}{x:V}(r:aF xs a)(e:xs[i]?=J x):∃u,a[i]?=J u/\aL x u:=by
 induction r generalizing i with
 |nil=>cases e
 |cons r t f =>
  cases i with
  |zero=>cases e;exact⟨_,rfl,r⟩
  |succ i=>have z:=@f i e;exact z
def aF.set{x:V}{u:Value}(r:aL x u){xs:List V}{f:SA}(i:Nat)(q:aF xs f):aF (xs.set i x) (f.set i u):=by
 induction q generalizing i with
 |nil=>exact .nil
 |cons a t j =>
  cases i with
  |zero=>exact .cons r t
  |succ i=>exact .cons a (j i)
def aF.append{xs ys:List V}{f a:SA}(r:aF xs f)(s:aF ys a):aF (xs++ys) (f++a):=by
 induction r with
 |nil=>exact s
 |cons r t i=>exact .cons r i
def aF.take{xs:List V}{f:SA}(n:Nat)(r:aF xs f):aF (xs.take n) (f.take n):=by
 induction r generalizing n with
 |nil=>cases n<;>exact .nil
 |cons a t i =>
  cases n with
  |zero=>exact .nil
  |succ n=>exact .cons a (i n)
def aF.drop{xs:List V}{f:SA}(n:Nat)(r:aF xs f):aF (xs.drop n) (f.drop n):=by
 induction r generalizing n with
 |nil=>cases n<;>exact .nil
 |cons a t i =>
  cases n with
  |zero=>exact .cons a t
  |succ n=>exact i n
def fZ:Option V->SF->Prop
 |some v,J u=>aL v u
 |none,Y=>True
 |_,_=>False
def KV{κ:Type}:List (κ×V)->List (κ×Value)->Prop:=Paired λ(p:κ×V)(q:κ×Value)=>p.1=q.1/\aL p.2 q.2
def kV:qd->V
 |.inl i=>.int i
 |.inr x=>.str x
inductive HO where
 |lst(xs:List V)
 |tup(xs:List V)
 |dK(kvs:List (qd×V)) | dT (kvs:List (List qd×V))
 |set(S:Int->Bool)(n:Nat)
 |ins(C dx:Addr)(fs:List (Str×V))
 |own(x:Addr)
 |xd(fs:List (Str×V))
 |met(f x:Addr)
 |rng(lo hi:Int)
 |frz(o:Obj)(u:HO)
 |tbl(ps:Array Value)
 |ext(φ:Heap->Prop)
abbrev Hp:=Addr->Option HO
def l7(H:Hp)(a:Addr)(o:HO):Hp:=λb=>if b=a then J o else H b
def bP{H:Hp}{a:Addr}{o:HO}:l7 H a o a=J o:=by unfold l7;rw[b_ rfl]
def aS{H:Hp}{a b:Addr}{o:HO}(h:b≠a):l7 H a o b=H b:=by unfold l7;rw[f_ h]
def bB{H:Hp}{a b:Addr}{o:HO}(h:H a=J o)(f:H b=Y):a≠b:=by intro e;subst e;rw[h]at f;cases f
def hG(h:Heap)(a:Addr)(f:Array Value):Prop:=∃o,h.get? a=J o/\o.cls=.type "tuple"/\(∃n,o.data=.seq f n)/\o.dict=Y
def hG.tup{h:Heap}{a:Addr}{f:Array Value}(t:hG h a f):IsTup h a f:=let⟨o,e,c,d,_⟩:=t;⟨o,e,c,d⟩
def hG.lt{h:Heap}{a:Addr}{f:Array Value}(t:hG h a f):a<h.objs.size:=t.tup.lt
def hG.new(h:Heap)(a:Array Value):hG (h.push { cls:=.type "tuple",data:=.seq a}) h.objs.size a:=⟨_,wh h rfl,rfl,⟨_,rfl⟩,rfl⟩
section
variable(P:Program)(w:World)
def ObjOk(H:Hp)(h:Heap)(a:Addr):HO->Prop
 |.lst xs=>xs.length<=sizeLine/\∃(i:SA) (n:Nat),aF xs i/\h.get? a=J { cls:=.type "list",data:=.seq i.toArray n}
 |.tup xs=>xs.length<=sizeLine/\∃i:SA,aF xs i/\hG h a i.toArray
 |.dK j=>j.length<=sizeLine/\(a==sysModules)=T/\∃E,KV j E/\h.DictOf (d8 P w) a E
 |.dT j=>j.length<=sizeLine/\(a==sysModules)=T/\∃xs:List (List qd×Addr×Value),
   Paired (λ(p:List qd×V)(q:List qd×Addr×Value)=>p.1=q.1/\H q.2.1=J (.tup (p.1.map kV))/\aL p.2 q.2.2) j xs /\
   ∃o B M,h.get? a=J o/\o.ExactDict/\o.data=.dict B M/\B.toList=xs.map (entryOfKey (tupleKind (d8 P w)))/\(xs.map (·.1)).Nodup
 |.set S n=>h.SetOf (intKind P w) a S n
 |.ins C y fs=>H y=J (.own a)/\fs.length<=1000/\y≠a/\h.get? a=J (PySem.W.instObj C y) /\
   ∃l,h.Ns1 y l/\(∀f,fZ (fs.lookup f) (l f))/\PySem.Within l (fs.map (·.1))
 |.own _=>∃o,h.get? a=J o
 |.xd fs=>∃l,h.Ns1 a l/\∀f,fZ (fs.lookup f) (l f)
 |.rng lo G=>∃t u v,h.get? a=J { cls:=.type "range",data:=.fields #[.int lo t,.int G u,.int 1 v]}
 |.frz o u=>h.get? a=J o/\ObjOk H h a u
 |.tbl L=>h.get? a=J { cls:=.none,data:=.fields L}
 |.met f x=>h.get? a=J (PySem.W.methodObj (.ref f) (.ref x))
 |.ext φ=>φ h/\(∃o,h.get? a=J o)/\∀z F:Heap,φ z->(∀o,z.get? a=J o->F.get? a=J o)->φ F
def HOk(H:Hp)(h:Heap):Prop:=∀a o,H a=J o->ObjOk P w H h a o
end
section
variable{P:Program}{w:World}{H H':Hp}{h h':Heap}{a:Addr}{o:HO}
def ObjOk.lt(x:ObjOk P w H h a o):a<h.objs.size:=by
 cases o with
 |lst xs=>obtain⟨_,_,_,_,e⟩:=x;exact n5 e
 |tup xs=>obtain⟨_,_,_,p⟩:=x;exact p.lt
 |dK i=>obtain⟨_,_,_,_,o,_,_,e,_⟩:=x;exact n5 e
 |dT i=>obtain⟨_,_,_,_,o,_,_,e,_⟩:=x;exact n5 e
 |set S n=>obtain⟨o,_,_,_,e,_⟩:=x;exact n5 e
 |ins C z fs=>obtain⟨_,_,_,e,_⟩:=x;exact n5 e
 |own y=>obtain⟨_,e⟩:=x;exact n5 e
 |xd fs=>obtain⟨_,⟨_,_,_,e,_⟩,_⟩:=x;exact n5 e
 |rng lo l=>obtain⟨_,_,_,e⟩:=x;exact n5 e
 |frz j u=>obtain⟨e,_⟩:=x;exact n5 e
 |tbl B=>exact n5 (show h.get? a=J _ from x)
 |met f y=>exact n5 (show h.get? a=J _ from x)
 |ext φ=>obtain⟨_,⟨_,e⟩,_⟩:=x;exact n5 e
def Paired.mapP{α β:Type}{F G:α->β->Prop}{i:List α}{j:List β}(r:Paired F i j)(f:∀a b,F a b->G a b):Paired G i j:=by
 induction r with
 |nil=>exact .nil
 |cons r t l=>exact .cons (f _ _ r) l
def ObjOk.stay(x:ObjOk P w H h a o)(k:∀b u,(b=a\/H b=J (.own a))->h.get? b=J u->h'.get? b=J u)(O:∀b,H b=J (.own a)->H' b=J (.own a))(Q:∀b xs,H b=J (.tup xs)->H' b=J (.tup xs)):ObjOk P w H' h' a o:=by
 induction o with
 |lst xs=>obtain⟨z,B,n,r,e⟩:=x;exact⟨z,B,n,r,k _ _ (.inl rfl) e⟩
 |tup xs=>obtain⟨z,B,r,i,e,c⟩:=x;exact⟨z,B,r,i,k _ _ (.inl rfl) e,c⟩
 |dK E=>obtain⟨z,y,R,r,i,j,l,e,c⟩:=x;exact⟨z,y,R,r,i,j,l,k _ _ (.inl rfl) e,c⟩
 |dT E =>
  obtain⟨z,y,xs,r,i,j,l,e,c⟩:=x;exact⟨z,y,xs,Paired.mapP r λp q z=>⟨z.1,Q _ _ z.2.1,z.2.2⟩,i,j,l,k _ _ (.inl rfl) e,c⟩
 |set S n=>obtain⟨i,j,l,t,e,c⟩:=x;exact⟨i,j,l,t,k _ _ (.inl rfl) e,c⟩
 |ins C W fs =>
  obtain⟨d,z,ne,e,G,⟨F,j,l,e2,c⟩,r⟩:=x;exact⟨O _ d,z,ne,k _ _ (.inl rfl) e,G,⟨F,j,l,k _ _ (.inr d) e2,c⟩,r⟩
 |own y=>obtain⟨i,e⟩:=x;exact⟨i,k _ _ (.inl rfl) e⟩
 |xd fs=>obtain⟨G,⟨F,j,l,e,c⟩,r⟩:=x;exact⟨G,⟨F,j,l,k _ _ (.inl rfl) e,c⟩,r⟩
 |rng lo U=>obtain⟨t,u,v,e⟩:=x;exact⟨t,u,v,k _ _ (.inl rfl) e⟩
 |frz i u M=>obtain⟨e,q⟩:=x;exact⟨k _ _ (.inl rfl) e,M q⟩
 |tbl L =>
  have e:h.get? a=J { cls:=.none,data:=.fields L}:=x;show h'.get? a=J { cls:=.none,data:=.fields L};exact k a _ (.inl rfl) e
 |met f y =>
  have e:h.get? a=J (PySem.W.methodObj (.ref f) (.ref y)):=x;show h'.get? a=J (PySem.W.methodObj (.ref f) (.ref y));exact k a _ (.inl rfl) e
 |ext φ=>obtain⟨p,⟨o,e⟩,st⟩:=x;exact⟨st _ _ p λo q=>k _ _ (.inl rfl) q,⟨o,k _ _ (.inl rfl) e⟩,st⟩
def HOk.lt(x:HOk P w H h)(e:H a=J o):a<h.objs.size:=(x a o e).lt
def HOk.fresh(x:HOk P w H h)(e:h.objs.size<=a):H a=Y:=by
 cases q:H a with
 |none=>rfl
 |some u=>exact absurd (vE (x.lt q) e) (A6 _)
def HOk.kept(x:HOk P w H h)(k:∀b u,h.get? b=J u->h'.get? b=J u):HOk P w H h':=λa o e =>
 (x a o e).stay (λb u _ q=>k b u q) (λ_ q=>q) λ_ _ q=>q
def HOk.laid(x:HOk P w H h)(k:∀b u,h.get? b=J u->h'.get? b=J u)(j:h.objs.size<=a)(new:ObjOk P w (l7 H a o) h' a o):HOk P w (l7 H a o) h':=λb u e=>by
 have f:=x.fresh j;by_cases i:b=a
 .subst i;rw[bP]at e;cases e;exact new
 .rw[aS i]at e;exact(x b u e).stay (λc v _ q=>k c v q) (λc q=>by rw[aS (bB q f)];exact q) λc xs q=>by rw[aS (bB q f)];exact q
end
def Rd(H:Hp)(a:Addr)(u:HO):Prop:=H a=J u\/∃o,H a=J (.frz o u)
def Rd.ok{P:Program}{w:World}{H:Hp}{h:Heap}{a:Addr}{u:HO}(r:Rd H a u)(x:HOk P w H h):ObjOk P w H h a u:=by
 rcases r with r|⟨o,r⟩
 .exact x a u r
 .obtain⟨_,q⟩:=x a _ r;exact q
def MX:Option HO->Prop
 |some (.lst _)=>True
 |some (.dK _)=>True
 |some (.dT _)=>True
 |some (.set _ _)=>True
 |some (.ins _ _ _)=>True
 |some (.ext _)=>True
 |_=>False
section
variable{P:Program}{w:World}{H:Hp}{h h':Heap}{x e:Addr}{o':HO}
def HOk.write(ok:HOk P w H h)(B:MX (H x))(E:e=x\/H e=J (.own x))(k:∀b u,b≠e->h.get? b=J u->h'.get? b=J u)(C:∃u,h'.get? e=J u)(new:ObjOk P w (l7 H x o') h' x o'):HOk P w (l7 H x o') h':=λb u q=>by
 have f:∀c y,H c=J (.own y)->c≠x:=λc y r z=>by subst z;rw[r]at B;exact B
 have i:∀c xs,H c=J (.tup xs)->c≠x:=λc xs r z=>by subst z;rw[r]at B;exact B
 by_cases l:b=x
 .subst l;rw[bP]at q;cases q;exact new
 .rw[aS l]at q;by_cases a:b=e
  .have F:H b=J (.own x):=by
    rcases E with z|z
    .exact absurd (a.trans z) l
    .rw[a];exact z
   rw[q]at F;cases F;obtain⟨v,hv⟩:=C;exact⟨v,by rw[a];exact hv⟩
  .refine (ok b u q).stay (λc v j r=>k c v ?_ r) (λc r=>by rw[aS (f c b r)];exact r) λc xs r=>by rw[aS (i c xs r)];exact r
   rcases j with rfl|j
   .exact a
   .rintro rfl;rcases E with z|z
    .exact f c b j z
    .rw[j]at z;cases z;exact l rfl
end
structure Un(fs ex:SX)(H H':Hp)(h h':Heap):Prop where
 keep:∀b o,h.get? b=J o->H b=Y->b∉fs->b∉ex->h'.get? b=J o
 slot:∀b o,h.get? b=J o->H b=Y->b∈fs->b∉ex->∃sl,h'.get? b=J { o with slots:=sl}
 free:∀b o,h.get? b=J o->H b=Y->b∉ex->H' b=Y
 there:∀b o,h.get? b=J o->b∉ex->∃o',h'.get? b=J o'
 tups:∀b xs,H b=J (.tup xs)->H' b=J (.tup xs)
 frzs:∀b o u,H b=J (.frz o u)->H' b=J (.frz o u)
 tbls:∀b ps,H b=J (.tbl ps)->∃more,H' b=J (.tbl (ps++more))
section
variable{fs fs' ex ex':SX}{H H1 H2:Hp}{h h1 h2 h':Heap}{a x e:Addr}{o:HO}
def Un.any(u:Un fs ex H H1 h h1){b:Addr}{f:Obj}(q:h.get? b=J f)(n:H b=Y)(i:b∉ex):∃l,h1.get? b=J { f with slots:=l}:=by
 by_cases j:b∈fs
 .exact u.slot b f q n j i
 .exact⟨f.slots,u.keep b f q n j i⟩
def Un.kept(k:∀b u,h.get? b=J u->h'.get? b=J u):Un fs ex H H h h' :=
 ⟨λb f q _ _ _=>k b f q,λb f q _ _ _=>⟨f.slots,k b f q⟩,λ_ _ _ n _=>n,λb f q _=>⟨f,k b f q⟩,λ_ _ q=>q,λ_ _ _ q=>q,λ_ i q=>⟨#[],by rw[q];simp⟩⟩
def Un.refl:Un fs ex H H h h:=Un.kept λ_ _ q=>q
def Un.laid(k:∀b u,h.get? b=J u->h'.get? b=J u)(i:h.objs.size<=a)(f:H a=Y):Un fs ex H (l7 H a o) h h' where
 keep:=λb u q _ _ _=>k b u q
 slot:=λb u q _ _ _=>⟨u.slots,k b u q⟩
 free:=λb u q n _=>by rw[aS (vK (vE (n5 q) i))];exact n
 there:=λb u q _=>⟨u,k b u q⟩
 tups:=λb xs q=>by rw[aS (bB q f)];exact q
 frzs:=λb u xs q=>by rw[aS (bB q f)];exact q
 tbls:=λb j q=>⟨#[],by rw[aS (bB q f),q];simp⟩
def Un.write(i:MX (H x))(E:e=x\/H e=J (.own x))(k:∀b u,b≠e->h.get? b=J u->h'.get? b=J u)(j:∃u,h'.get? e=J u):Un fs ex H (l7 H x o) h h':=by
 have y:∀b,H b=Y->b≠x:=λb n z=>by subst z;rw[n]at i;exact i
 have B:∀b,H b=Y->b≠e:=λb n z=>by
  subst z;rcases E with r|r
  .exact y b n r
  .rw[n]at r;cases r
 have l:∀b u,H b=J u->¬MX (J u)->b≠x:=λb u q C z=>by subst z;rw[q]at i;exact C i
 refine⟨λb u q n _ _=>k b u (B b n) q,λb u q n _ _=>⟨u.slots,k b u (B b n) q⟩,λb u q n _=>by rw[aS (y b n)];exact n,λb u q _=>?_,
  λb xs q=>by rw[aS (l b _ q λz=>z)];exact q,λb u xs q=>by rw[aS (l b _ q λz=>z)];exact q,λb F q=>⟨#[],by rw[aS (l b _ q λz=>z),q];simp⟩⟩
 by_cases f:b=e
 .subst f;exact j
 .exact⟨u,k b u f q⟩
end
def MY(h:Heap)(H:Hp):SX:=(List.range h.objs.size).filter λa=>(H a).isSome
def jG(h:Heap)(H:Hp):Heap:=PySem.W.hideAll h (MY h H)
def xK(h:Heap)(H:Hp):(jG h H).objs.size=h.objs.size:=PySem.W.hideAll_size _ _
def zv{h:Heap}{H:Hp}{b:Addr}{o:Obj}(e:h.get? b=J o)(n:H b=Y):(jG h H).get? b=J o :=
 PySem.W.hideAll_get _ e λa=>by
  have q:(H b).isSome=I:=(Bh.mp a).2;rw[n]at q;simp at q
def Ce{h:Heap}{H:Hp}{b:Addr}{o:Obj}(e:(jG h H).get? b=J o):h.get? b=J o/\H b=Y:=by
 have a:h.get? b=J o:=PySem.W.of_hideAll (MY h H) e;refine⟨a,?_⟩
 cases q:H b with
 |none=>rfl
 |some x =>
  have f:b∈MY h H:=Bh.mpr ⟨BL.mpr (n5 a),by simp[q]⟩;have z:(jG h H).get? b=Y:=PySem.W.hideAll_none (MY h H) f;rw[z]at e;cases e
structure Mod(K:h8)(mg:Si)(base:Heap):Prop where
 kin:K.In base
 glob:base.Ns mainGlobals mg
 blt:∃mb,base.Ns builtinsNs mb/\∀x:Str,x≠"__name__"->mb x=bootBuiltins x
 nolimit:base.NoLimit
 seer:base.NoSeer
structure Cx where
 prog:Program
 w:World
 K:h8
 mg:Str->SF
 base:Heap
 A:Around
 N:SQ
 s₀:Shared
 H₀:Hp
 env:Env
 outer:List Env
 stack:List Env
 ex:SX
 fn:Str->Bool
 calm:Bool
 pn:SD
 xe:Value->Shared->Prop
def x6(l:List Env):SX:=l.filterMap (·.frame)
abbrev Cx.fs(X:Cx):SX:=x6 X.outer
def MZ(a:Scope)(x:Str):Prop:=a.names.lookup x=J .local\/a.names.lookup x=J .cell\/a.names.lookup x=J .free
def Loc(a:Scope)(x:Str):Prop:=a.names.lookup x=J .local\/a.names.lookup x=J .cell
def Look(env:Env)(h:Heap)(m:Si)(x:Str)(u:Value):Prop :=
 (env.kindOf x=J .local/\m x=J u)\/((env.kindOf x=J .cell\/env.kindOf x=J .free)/\∃c,env.cells.lookup x=J c/\h.IsCell c (J u))
structure Cx.Ok(X:Cx):Prop where
 mod:Mod X.K X.mg X.base
 kind:X.env.scope.kind=.function
 glob:X.env.globals=mainGlobals
 blt:X.env.builtins=builtinsNs
 above:X.s₀.heap.objs.size<=X.env.locals
 inj:∀x y c,X.env.cells.lookup x=J c->X.env.cells.lookup y=J c->x=y
 has:∀x,(X.env.kindOf x=J .cell\/X.env.kindOf x=J .free)->∃c,X.env.cells.lookup x=J c
 cab:∀x c,X.fn x=I->X.env.cells.lookup x=J c->X.s₀.heap.objs.size<=c
 hd:X.calm=I->X.A.handled=Y
 frames:X.A.frames=J X.stack
 stk:X.stack=X.outer\/(X.stack=X.env::X.outer/\X.env.frame=J X.env.locals)
 exf:∀b∈X.ex,b≠X.env.locals/\∀x c,X.env.cells.lookup x=J c->c≠b
 bs:∀b o,X.base.get? b=J o->X.s₀.heap.get? b=J o/\X.H₀ b=Y
 bsz:X.base.objs.size<=X.s₀.heap.objs.size
 noex:∀b o,X.base.get? b=J o->b∉X.ex
 exfs:∀b∈X.ex,b∉X.fs
 funs:X.s₀.heap.FunFrames X.base X.outer
 frf:∀b∈X.fs,X.H₀ b=Y
 tree:X.prog.given.tree=Y
 top:∃e l,X.stack=e::l/\e.scope.isGenerator=T/\e.scope.isCoroutine=T/\e.builtins=builtinsNs/\e.globals=mainGlobals
structure Inv(X:Cx)(KC:SD)(Z:List (Option V))(H:Hp)(s:Shared):Prop where
 ok:X.Ok
 os:s.os=X.s₀.os
 bare:AllBare s.gens
 base:Un X.fs X.ex X.H₀ H X.s₀.heap s.heap
 loc:∃m,s.heap.Ns X.env.locals m/\∀(i:Nat)(x:Str)(v:V),X.N[i]?=J x->Z[i]?=J (J v)->MZ X.env.scope x->∃u,aL v u/\Look X.env s.heap m x u
 cell:∀x c,X.env.cells.lookup x=J c->∃v,s.heap.IsCell c v
 free:H X.env.locals=Y
 freeC:∀x c,X.env.cells.lookup x=J c->H c=Y
 pin:∀p∈X.pn++KC,s.heap.get? p.1=J p.2/\H p.1=Y/\p.1≠X.env.locals/\p.1∉X.fs/\∀v,p.2.data≠.cell v
 hok:HOk X.prog X.w H s.heap
 len:Z.length=X.N.length
section
variable{X:Cx}{KC:List (Addr × Obj)}{Z:List (Option V)}{H H':Hp}{s:Shared}{h':Heap}
def Cx.Ok.nofr(ok:X.Ok){b:Addr}{o:Obj}(e:X.base.get? b=J o):b∉X.fs:=λa=>by
 have:=(ok.funs.mem a).1
 rw[e]at this;cases this
def Inv.bs(a:Inv X KC Z H s):∀b o,X.base.get? b=J o->s.heap.get? b=J o/\H b=Y:=λb o e =>
 ⟨a.base.keep b o (a.ok.bs b o e).1 (a.ok.bs b o e).2 (a.ok.nofr e) (a.ok.noex b o e),a.base.free b o (a.ok.bs b o e).1 (a.ok.bs b o e).2 (a.ok.noex b o e)⟩
def Inv.bk(a:Inv X KC Z H s):∀b o,X.base.get? b=J o->s.heap.get? b=J o:=λb o e=>(a.bs b o e).1
def Inv.mod(a:Inv X KC Z H s):Mod X.K X.mg X.base:=a.ok.mod
def Inv.kIn(a:Inv X KC Z H s):X.K.In s.heap:=a.ok.mod.kin.keeps a.bk
def Inv.nolimit(a:Inv X KC Z H s):s.heap.NoLimit:=a.ok.mod.nolimit.keeps a.bk
def Inv.lt(a:Inv X KC Z H s):X.env.locals<s.heap.objs.size:=let⟨_,f,_⟩:=a.loc;f.lt
def Inv.sz(a:Inv X KC Z H s):X.s₀.heap.objs.size<=s.heap.objs.size:=ql a.ok.above (EF a.lt)
def Inv.nofs(f:Inv X KC Z H s){a:Addr}(h:s.heap.objs.size<=a):a∉X.fs:=λj=>by
 obtain⟨_,o,i,_⟩:=f.ok.funs.mem j;exact absurd (vE (n5 i) (ql f.sz h)) (A6 _)
def Inv.cne(a:Inv X KC Z H s):∀x c,X.env.cells.lookup x=J c->c≠X.env.locals:=λx c e z=>by
 obtain⟨v,o,j,hd⟩:=a.cell x c e;obtain⟨m,⟨y,l,u,i,f,_⟩,_⟩:=a.loc;rw[z,i]at j;cases j;rw[f]at hd;cases hd
def Inv.funs(a:Inv X KC Z H s):s.heap.FunFrames X.base X.outer:=by
 have all:∀(l:List Env),(∀b∈x6 l,b∈X.fs)->X.s₀.heap.FunFrames X.base l->s.heap.FunFrames X.base l:=by
  intro l
  induction l with
  |nil=>intro _ _;trivial
  |cons env r j =>
   intro i hl;obtain⟨y,⟨L,o,hf,C,u,hd⟩,B⟩:=hl;have hL:L∈X.fs:=i L (by unfold x6;rw[NQ,hf];exact Bq);obtain⟨E,e⟩:=a.base.slot L o u (a.ok.frf L hL) hL λz=>a.ok.exfs L z hL;exact⟨y,⟨L,_,hf,C,e,hd⟩,j (λb f=>i b (by unfold x6;rw[NQ,hf];exact n_ _ f)) B⟩
 exact all X.outer (λ_ f=>f) a.ok.funs
def Inv.stack(a:Inv X KC Z H s):s.heap.FunFrames X.base X.stack:=by
 rcases a.ok.stk with e|⟨e,hf⟩
 .rw[e];exact a.funs
 .rw[e];obtain⟨m,f,_⟩:=a.loc;refine .cons (by rw[a.ok.kind];decide) hf f ?_ a.funs;exact Heap.get?_none_of_le (ql a.ok.bsz a.ok.above)
def Inv.stkSub(f:Inv X KC Z H s):∀b∈x6 X.stack,b∈X.env.locals::X.fs:=λb a=>by
 rcases f.ok.stk with e|⟨e,hf⟩
 .rw[e]at a;exact n_ _ a
 .rw[e]at a;unfold x6 at a;rw[NQ,hf]at a;exact a
def Inv.stkFree(a:Inv X KC Z H s):∀b∈x6 X.stack,H b=Y:=λb f=>by
 rcases pu.mp (a.stkSub b f)with e|f
 .rw[e];exact a.free
 .obtain⟨_,o,i,_⟩:=a.ok.funs.mem f;exact a.base.free b o i (a.ok.frf b f) λz=>a.ok.exfs b z f
def Inv.step{g':Array GenState}{t':Nat}{d':Drawn}{ch:SX}(a:Inv X KC Z H s)(B:∀b∈ch,(b∈X.ex\/X.s₀.heap.objs.size<=b)/\b≠X.env.locals/\(∀x c,X.env.cells.lookup x=J c->c≠b)/\∀p∈X.pn++KC,p.1≠b)(keep:∀b o,b≠X.env.locals->b∉X.fs->b∉ch->s.heap.get? b=J o->H b=Y->h'.get? b=J o)(slot:∀b o,b≠X.env.locals->b∈X.fs->b∉ch->s.heap.get? b=J o->H b=Y->∃Q,h'.get? b=J { o with slots:=Q})(free:∀b o,b∉ch->s.heap.get? b=J o->H b=Y->H' b=Y)(there:∀b o,b∉ch->s.heap.get? b=J o->∃G,h'.get? b=J G)(tups:∀b xs,H b=J (.tup xs)->H' b=J (.tup xs))(frzs:∀b o u,H b=J (.frz o u)->H' b=J (.frz o u))(tbls:∀b O,H b=J (.tbl O)->∃L,H' b=J (.tbl (O++L)))(ns:∀m,s.heap.Ns X.env.locals m->h'.Ns X.env.locals m)(hok:HOk X.prog X.w H' h')(hg:AllBare g'):
  Inv X KC Z H' { s with heap:=h',gens:=g',drawn:=d',toks:=t'}:=by
 have M:∀b o,X.s₀.heap.get? b=J o->b≠X.env.locals:=λb o e=>vK (vE (n5 e) a.ok.above);have C:∀b o,X.s₀.heap.get? b=J o->b∉X.ex->b∉ch:=λb o e f E=>by
  rcases(B b E).1 with z|z
  .exact f z
  .exact absurd (vE (n5 e) z) (A6 _)
 have y:∀x c,X.env.cells.lookup x=J c->∀v,s.heap.IsCell c v->h'.IsCell c v:=λx c e v ⟨o,F,hd⟩=>by
  have j:c∉ch:=λz=>(B c z).2.2.1 x c e rfl;by_cases U:c∈X.fs
  .obtain⟨Q,q⟩:=slot c o (a.cne x c e) U j F (a.freeC x c e);exact⟨_,q,hd⟩
  .exact⟨o,keep c o (a.cne x c e) U j F (a.freeC x c e),hd⟩
 refine⟨a.ok,a.os,hg,⟨λb o e n E f=>?_,λb o e n E f=>?_,λb o e n f=>?_,λb o e f=>?_,λb xs e=>tups b xs (a.base.tups b xs e),λb o xs e=>frzs b o xs (a.base.frzs b o xs e),λb O e=>?_⟩,?_,λx c e=>?_,?_,λx c e=>?_,λp R=>?_,hok,a.len⟩
 .exact keep b o (M b o e) E (C b o e f) (a.base.keep b o e n E f) (a.base.free b o e n f)
 .obtain⟨Q,e1⟩:=a.base.slot b o e n E f;obtain⟨P,e2⟩:=slot b _ (M b o e) E (C b o e f) e1 (a.base.free b o e n f);exact⟨P,e2⟩
 .obtain⟨G,e1⟩:=a.base.there b o e f;exact free b G (C b o e f) e1 (a.base.free b o e n f)
 .obtain⟨G,e1⟩:=a.base.there b o e f;exact there b G (C b o e f) e1
 .obtain⟨m1,e1⟩:=a.base.tbls b O e;obtain⟨W,e2⟩:=tbls b _ e1;exact⟨m1++W,by rw[e2,Array.append_assoc]⟩
 .obtain⟨m,hn,hl⟩:=a.loc;refine⟨m,ns m hn,λi x v e1 e2 e3=>?_⟩;obtain⟨u,r,l⟩:=hl i x v e1 e2 e3;refine⟨u,r,?_⟩;rcases l with l|⟨k,c,e,z⟩
  .exact .inl l
  .exact .inr ⟨k,c,e,y x c e _ z⟩
 .obtain⟨v,z⟩:=a.cell x c e;exact⟨v,y x c e v z⟩
 .obtain⟨m,⟨o,_,_,F,_⟩,_⟩:=a.loc;exact free _ o (λz=>(B _ z).2.1 rfl) F a.free
 .obtain⟨v,o,F,hd⟩:=a.cell x c e;exact free c o (λz=>(B c z).2.2.1 x c e rfl) F (a.freeC x c e)
 .obtain⟨e,n,ne,S,d⟩:=a.pin p R;have j:p.1∉ch:=λz=>(B p.1 z).2.2.2 p R rfl;exact⟨keep p.1 p.2 ne S j e n,free p.1 p.2 j e n,ne,S,d⟩
def Inv.un{t':Nat}(a:Inv X KC Z H s)(u:Un X.fs [] H H' s.heap h')(hok:HOk X.prog X.w H' h'):Inv X KC Z H' { s with heap:=h',toks:=t'}:=by
 obtain⟨m,⟨o,G,M,y,r⟩,_⟩:=id a.loc;obtain⟨L,hL⟩:=u.any y a.free (by simp)
 exact a.step (g':=s.gens) (d':=s.drawn) (ch:=[]) (λ_ z=>nomatch z) (λb o _ l _ e n=>u.keep b o e n l (by simp)) (λb o _ l _ e n=>u.slot b o e n l (by simp)) (λb o _ e n=>u.free b o e n (by simp)) (λb o _ e=>u.there b o e (by simp)) u.tups u.frzs u.tbls (λF B=>by
  obtain⟨E,j,i,f,C⟩:=B;rw[y]at f;cases f
  exact⟨_,j,i,hL,C⟩) hok a.bare
def Inv.call{g':Array GenState}{t':Nat}{d':Drawn}{ch:SX}(a:Inv X KC Z H s)(u:Un (x6 X.stack) ch H H' s.heap h')(hok:HOk X.prog X.w H' h')(E:AllBare g')(i:∀b∈ch,(b∈X.ex\/X.s₀.heap.objs.size<=b)/\b≠X.env.locals/\(∀x c,X.env.cells.lookup x=J c->c≠b)/\∀p∈X.pn++KC,p.1≠b):
  Inv X KC Z H' { s with heap:=h',gens:=g',drawn:=d',toks:=t'}:=by
 obtain⟨m,⟨o,O,Q,B,r⟩,_⟩:=id a.loc;obtain⟨P,hL⟩:=u.any B a.free λz=>(i _ z).2.1 rfl
 exact a.step (ch:=ch) i (λb o hL F f e n=>u.keep b o e n (λz=>(pu.mp (a.stkSub b z)).elim hL F) f) (λb o _ _ f e n=>u.any e n f) (λb o f e n=>u.free b o e n f) (λb o f e=>u.there b o e f) u.tups u.frzs u.tbls (λM C=>by
  obtain⟨L,y,l,j,G⟩:=C;rw[B]at j;cases j
  exact⟨_,y,l,hL,G⟩) hok E
def Inv.turned{t':Nat}{it:Addr}(f:Inv X KC Z H s)(k:∀b o,b≠it->s.heap.get? b=J o->h'.get? b=J o)(C:H it=Y)(hL:it≠X.env.locals)(l:it∈X.ex\/X.s₀.heap.objs.size<=it)(F:∀x c,X.env.cells.lookup x=J c->c≠it)(L:∀p∈X.pn++KC,p.1≠it):Inv X KC Z H { s with heap:=h',toks:=t'}:=by
 have i:∀b u,H b=J u->b≠it:=λb u e z=>by rw[z,C]at e;cases e
 refine f.step (g':=s.gens) (d':=s.drawn) (ch:=[it]) (λb G=>?_) (λb o _ _ a e _=>k b o (λz=>a (by simp[z])) e) (λb o _ _ a e _=>⟨o.slots,k b o (λz=>a (by simp[z])) e⟩) (λ_ _ _ _ n=>n)
  (λb o a e=>⟨o,k b o (λz=>a (by simp[z])) e⟩) (λ_ _ e=>e) (λ_ _ _ e=>e) (λb M e=>⟨#[],by rw[e];simp⟩) (λm B=>?_) (λb u e=>?_) f.bare
 .have e:b=it:=by simpa using G
  subst e;exact⟨l,hL,F,L⟩
 .obtain⟨o,y,E,j,r⟩:=B;exact⟨o,y,E,k _ o (Ne.symm hL) j,r⟩
 .refine (f.hok b u e).stay (λc v a q=>k c v ?_ q) (λ_ q=>q) λ_ _ q=>q;rcases a with z|z
  .rw[z];exact i b u e
  .exact i c _ z
def Inv.tok(a:Inv X KC Z H s)(t:Nat):Inv X KC Z H { s with toks:=t}:=a.un (h':=s.heap) (t':=t) Un.refl a.hok
def Inv.kept{t':Nat}(a:Inv X KC Z H s)(k:∀b u,s.heap.get? b=J u->h'.get? b=J u):Inv X KC Z H { s with heap:=h',toks:=t'}:=a.un (Un.kept k) (a.hok.kept k)
def Inv.laid{a:Addr}{o:HO}{t':Nat}(f:Inv X KC Z H s)(k:∀b u,s.heap.get? b=J u->h'.get? b=J u)(i:s.heap.objs.size<=a)(new:ObjOk X.prog X.w (l7 H a o) h' a o):
  Inv X KC Z (l7 H a o) { s with heap:=h',toks:=t'}:=f.un (Un.laid k i (f.hok.fresh i)) (f.hok.laid k i new)
def Inv.write{x e:Addr}{o:HO}{l:Nat}(a:Inv X KC Z H s)(j:MX (H x))(i:e=x\/H e=J (.own x))(k:∀b u,b≠e->s.heap.get? b=J u->h'.get? b=J u)(f:∃u,h'.get? e=J u)(new:ObjOk X.prog X.w (l7 H x o) h' x o):Inv X KC Z (l7 H x o) { s with heap:=h',toks:=l}:=a.un (Un.write j i k f) (a.hok.write j i k f new)
def Inv.pins_of{f:SD}(a:Inv X KC Z H s)(h:∀p∈f,s.heap.get? p.1=J p.2/\H p.1=Y/\p.1≠X.env.locals/\p.1∉X.fs/\∀v,p.2.data≠.cell v):Inv X f Z H s :=
 ⟨a.ok,a.os,a.bare,a.base,a.loc,a.cell,a.free,a.freeC,λp i=>(tr.mp i).elim (λz=>a.pin p (AU _ z)) (h p),a.hok,a.len⟩
def rK{N:SQ}(hN:N.Nodup){i j:Nat}{x:Str}(a:N[i]?=J x)(b:N[j]?=J x):i=j:=by obtain⟨f,e1⟩:=nw.mp a;obtain⟨l,e2⟩:=nw.mp b;exact(List.getElem_inj hN).mp (e1.trans e2.symm)
def xy{M:Model}{A:Around}{E:Sh}{i:Nat}{x:Str}{v:V}{u:Value}{Q:Unit->Shared->Prop}(f:Inv X KC Z H s)(hN:X.N.Nodup)(U:X.N[i]?=J x)(F:Loc X.env.scope x)(r:aL v u)(h:∀s',Inv X KC (Z.set i (J v)) H s'->(∃a,Heap.SameBut a s.heap s'.heap/\(a=X.env.locals\/X.env.cells.lookup x=J a))->Q () s')(hf:X.fn x=I\/X.env.scope.names.lookup x=J .local:=by first | exact .inl rfl | exact .inr rfl | assumption):wpAny M A (storeName X.env x u) Q E s:=by
 obtain⟨m,hn,hl⟩:=id f.loc;have an:(X.env.scope.kind == .class||(X.env.scope.kind == .module&&X.env.locals != X.env.globals))=T:=by rw[f.ok.kind];rfl
 have O:i<Z.length:=by rw[f.len];exact(nw.mp U).1
 have cne:=f.cne;have B:∀{a:Addr}{h':Heap},(∃o,s.heap.get? a=J o/\H a=Y)->Heap.SameBut a s.heap h'->HOk X.prog X.w H h':=λ{a h'} ha l b ob e=>by
  obtain⟨_,_,G⟩:=ha;refine(f.hok b ob e).stay (λc w' C q=>(l.2 c ?_).trans q) (λ_ q=>q) λ_ _ q=>q;rintro rfl;rcases C with rfl|C
  .rw[G]at e;cases e
  .rw[G]at C;cases C
 rcases F with L|L
 .refine wpAny_storeName_local L hn (λh' ap l=>?_) an;obtain⟨oL,_,_,ar,_⟩:=id hn;refine h _ ⟨f.ok,f.os,f.bare,⟨λb o e n S F=>?_,λb o e n S F=>?_,f.base.free,λb o e F=>?_,f.base.tups,f.base.frzs,f.base.tbls⟩,⟨_,ap,λj y v' e1 e2 e3=>?_⟩,λy c e=>?_,f.free,f.freeC,λp hp=>?_,B ⟨oL,ar,f.free⟩ l,by simpa using f.len⟩ ⟨_,l,.inl rfl⟩
  .exact (l.2 b (vK (vE (n5 e) f.ok.above))).trans (f.base.keep b o e n S F)
  .obtain⟨sl,e1⟩:=f.base.slot b o e n S F;exact⟨sl,(l.2 b (vK (vE (n5 e) f.ok.above))).trans e1⟩
  .obtain⟨o',e1⟩:=f.base.there b o e F;exact⟨o',(l.2 b (vK (vE (n5 e) f.ok.above))).trans e1⟩
  .by_cases R:j=i
   .subst R;rw[U]at e1;cases e1;rw[wv O]at e2;cases e2;exact⟨u,r,.inl ⟨L,by simp⟩⟩
   .rw[pa (Ne.symm R)]at e2;obtain⟨u',r',q⟩:=hl j y v' e1 e2 e3;refine⟨u',r',?_⟩;rcases q with⟨k,e⟩|⟨k,c,e,z⟩
    .refine .inl ⟨k,?_⟩
     have:y≠x:=λe=>R (rK hN e1 (e▸U))
     simp[this,e]
    .exact .inr ⟨k,c,e,z.sameBut l (cne y c e)⟩
  .obtain⟨w',z⟩:=f.cell y c e;exact⟨w',z.sameBut l (cne y c e)⟩
  .obtain⟨e,n,ne,nf,d⟩:=f.pin p hp;exact⟨(l.2 p.1 ne).trans e,n,ne,nf,d⟩
 .have P:X.fn x=I:=by
   rcases hf with z|z
   .exact z
   .rw[z]at L;cases L
  obtain⟨c,C⟩:=f.ok.has x (.inl L);obtain⟨w',z⟩:=f.cell x c C;refine wpAny_storeName_cell f.ok.kind L C z (λh' ab l=>?_);obtain⟨oc,al,ai⟩:=id z;refine h { s with heap:=h'} ⟨f.ok,f.os,f.bare,⟨λb o e n S F=>?_,λb o e n S F=>?_,f.base.free,λb o e F=>?_,f.base.tups,f.base.frzs,f.base.tbls⟩,⟨m,hn.sameBut l (Ne.symm (cne x c C)),λj y v' e1 e2 e3=>?_⟩,λy c' e=>?_,f.free,f.freeC,λp hp=>?_,B ⟨oc,al,f.freeC x c C⟩ l,by simpa using f.len⟩ ⟨c,l,.inr C⟩
  .exact (l.2 b (vK (vE (n5 e) (f.ok.cab x c P C)))).trans (f.base.keep b o e n S F)
  .obtain⟨sl,e1⟩:=f.base.slot b o e n S F;exact⟨sl,(l.2 b (vK (vE (n5 e) (f.ok.cab x c P C)))).trans e1⟩
  .obtain⟨o',e1⟩:=f.base.there b o e F;exact⟨o',(l.2 b (vK (vE (n5 e) (f.ok.cab x c P C)))).trans e1⟩
  .by_cases R:j=i
   .subst R;rw[U]at e1;cases e1;rw[wv O]at e2;cases e2;exact⟨u,r,.inr ⟨.inl L,c,C,ab⟩⟩
   .rw[pa (Ne.symm R)]at e2;obtain⟨u',r',q⟩:=hl j y v' e1 e2 e3;refine⟨u',r',?_⟩;rcases q with q|⟨k,c',e,z'⟩
    .exact .inl q
    .refine .inr ⟨k,c',e,z'.sameBut l ?_⟩;rintro rfl;exact R (rK hN e1 (f.ok.inj _ _ _ e C▸U))
  .by_cases W:c'=c
   .subst W;exact⟨_,ab⟩
   .obtain⟨w2,z2⟩:=f.cell y c' e;exact⟨w2,z2.sameBut l W⟩
  .obtain⟨e,n,ne,nf,d⟩:=f.pin p hp;refine⟨(l.2 p.1 ?_).trans e,n,ne,nf,d⟩;intro q;rw[q,al]at e;have q':oc=p.2:=Option.some.inj e;exact d w' (by rw[<-q'];exact ai)
def jO{M:Model}{A:Around}{E:Sh}{i:Nat}{x:Str}{v:V}{u:Value}{Q:Unit->Shared->Prop}(f:Inv X KC Z H s)(hN:X.N.Nodup)(j:X.N[i]?=J x)(l:Loc X.env.scope x)(r:aL v u)(h:∀a,Inv X KC (Z.set i (J v)) H a->Q () a)(hf:X.fn x=I\/X.env.scope.names.lookup x=J .local:=by first | exact .inl rfl | exact .inr rfl | assumption):wpAny M A (storeName X.env x u) Q E s :=
 xy f hN j l r (λa y _=>h a y) hf
def Inv.call'{s':Shared}{ch:SX}(a:Inv X KC Z H s)(i:s'.os=s.os)(u:Un (x6 X.stack) ch H H' s.heap s'.heap)(hok:HOk X.prog X.w H' s'.heap)(y:AllBare s'.gens)(f:∀b∈ch,(b∈X.ex\/X.s₀.heap.objs.size<=b)/\b≠X.env.locals/\(∀x c,X.env.cells.lookup x=J c->c≠b)/\∀p∈X.pn++KC,p.1≠b):Inv X KC Z H' s':=by
 obtain⟨h',j,z,B,l⟩:=s';have e:l=s.os:=i;subst e;exact a.call (g':=j) (t':=B) (d':=z) u hok y f
end
abbrev XK:=Value->Option Addr->Hp->Prop
abbrev St:=List (Option V)
abbrev VK:=V->Hp->Prop
abbrev TE:=St->Hp->VK->Prop
abbrev TT:=St->Hp->(Bool->Hp->Prop)->Prop
abbrev TA:=St->Hp->(List V->Hp->Prop)->Prop
structure Ends where
 nx:St->Hp->Prop
 rt:VK
 bk:St->Hp->Prop:=λ_ _=>False
 ct:St->Hp->Prop:=λ_ _=>False
abbrev TS:=Ends->St->Hp->Prop
inductive EP(X:Cx)(KC:SD)(Z:St)(Q:VK)(u:Value)(s':Shared):Prop
 |mk(v:V)(H':Hp)(i:Inv X KC Z H' s')(r:aL v u)(q:Q v H'):EP X KC Z Q u s'
inductive TP(X:Cx)(KC:SD)(Z:St)(Q:Bool->Hp->Prop)(b:Bool)(s':Shared):Prop
 |mk(H':Hp)(i:Inv X KC Z H' s')(q:Q b H'):TP X KC Z Q b s'
inductive AP(X:Cx)(KC:SD)(Z:St)(Q:List V->Hp->Prop)(us:SA)(s':Shared):Prop
 |mk(vs:List V)(H':Hp)(i:Inv X KC Z H' s')(r:aF vs us)(q:Q vs H'):AP X KC Z Q us s'
inductive SN(X:Cx)(KC:SD)(Q:St->Hp->Prop)(s':Shared):Prop
 |mk(Z':St)(H':Hp)(i:Inv X KC Z' H' s')(q:Q Z' H'):SN X KC Q s'
inductive SR(X:Cx)(KC:SD)(Q:VK)(u:Value)(s':Shared):Prop
 |mk(v:V)(Z':St)(H':Hp)(i:Inv X KC Z' H' s')(r:aL v u)(q:Q v H'):SR X KC Q u s'
def SP(X:Cx)(a:SD)(D:Ends)(f:Flow)(i:Shared):Prop :=
 match f with
 |.next=>SN X a D.nx i
 |.brk=>SN X a D.bk i
 |.cont=>SN X a D.ct i
 |.ret u=>SR X a D.rt u i
def PE(X:Cx)(e:Expr)(t:TE):Prop :=
 ∀(a:SD)(s:Shared)(Z:St)(H:Hp)(Q:VK),Inv X a Z H s->t Z H Q->wpAny (model X.prog X.w) X.A (eval e X.env) (EP X a Z Q) X.xe s
def PT(X:Cx)(e:Expr)(t:TT):Prop :=
 ∀(a:SD)(s:Shared)(Z:St)(H:Hp)(Q:Bool->Hp->Prop),Inv X a Z H s->t Z H Q->wpAny (model X.prog X.w) X.A (isTrue e X.env (eval e X.env)) (TP X a Z Q) X.xe s
def PW(X:Cx)(e:Expr)(t:TT):Prop :=
 ∀(a:Sem Value)(f:SD)(s:Shared)(Z:St)(H:Hp)(Q:Bool->Hp->Prop),Inv X f Z H s->t Z H Q->wpAny (model X.prog X.w) X.A (isTrue e X.env a) (TP X f Z Q) X.xe s
def PW.pt{X:Cx}{e:Expr}{t:TT}(h:PW X e t):PT X e t:=h _
def PA(X:Cx)(i:SH)(t:TA):Prop :=
 ∀(a:Pos)(f:SD)(s:Shared)(Z:St)(H:Hp)(Q:List V->Hp->Prop),Inv X f Z H s->t Z H Q->wpAny (model X.prog X.w) X.A (spliced (backTo a (starEach i X.env))) (AP X f Z Q) X.xe s
def PS(X:Cx)(st:Stmt)(t:TS):Prop :=
 ∀(a:SD)(s:Shared)(Z:St)(H:Hp)(D:Ends),Inv X a Z H s->t D Z H->wpAny (model X.prog X.w) X.A (exec st X.env) (SP X a D) X.xe s
def PSs(X:Cx)(st:Sk)(t:TS):Prop :=
 ∀(a:SD)(s:Shared)(Z:St)(H:Hp)(D:Ends),Inv X a Z H s->t D Z H->wpAny (model X.prog X.w) X.A (execs st X.env) (SP X a D) X.xe s
def j3{α:Type}{t:Sem α}{Q f:α->Shared->Prop}{M:Model}{A:Around}{E:Sh}{s:Shared}(h:wpAny M A t Q E s)(i:∀a s,Q a s->f a s):wpAny M A t f E s:=wpAny_mono h i λ_ _ x=>x
section
variable{X:Cx}
def N8(i:Nat):TE:=λZ H Q=>∃v,Z[i]?=J (J v)/\Q v H
def tC(v:V):TE:=λ_ H Q=>Q v H
def Fq{i:Nat}{x:Str}{z:Pos}(hN:X.N[i]?=J x)(hv:MZ X.env.scope x)(hd:(x==("__debug__":Str))=T:=by decide)(y:(x==("__classdict__":Str))=T:=by decide):PE X (.Name x z) (N8 i):=by
 intro F s Z H Q f h;obtain⟨v,e,h⟩:=h;obtain⟨m,E,hl⟩:=f.loc;obtain⟨u,r,l⟩:=hl i x v hN e hv;have fin:EP X F Z Q u s:=⟨v,H,f,r,h⟩;rcases l with⟨j,C⟩|⟨j,c,B,a⟩
 .exact wpAny_Name (wpAny_loadName_local f.ok.kind j E C fin) hd
 .rcases j with j|j
  .exact wpAny_Name (wpAny_loadName_cell f.ok.kind j B a fin) hd
  .exact wpAny_Name (wpAny_loadName_free f.ok.kind j B a fin y) hd
def Fs{i j pos}:PE X (.Constant (.int i) j pos) (tC (.int i)):=λ_ _ _ H _ a h=>wpAny_Constant_int ⟨.int i,H,a.tok _,⟨_,rfl⟩,h⟩
def JF{b j pos}:PE X (.Constant (.bool b) j pos) (tC (.bl b)):=λ_ _ _ H _ a h=>Constant_bool ⟨.bl b,H,a,rfl,h⟩
def Ft{j pos}:PE X (.Constant .none j pos) (tC .non):=λ_ _ _ H _ a h=>Constant_none ⟨.non,H,a,rfl,h⟩
def Gl(X:Cx)(x:Str):Prop:=X.env.kindOf x=J .globalImplicit
def ve{E:Sh}{j:SD}{s:Shared}{Z:St}{H:Hp}{x:Str}{u:Value}{f:Pos}{Q:Sh}(a:Inv X j Z H s)(i:Gl X x)(l:X.mg x=J u)(h:Q u s)(hd:(x==("__debug__":Str))=T:=by decide):wpAny (model X.prog X.w) X.A (eval (.Name x f) X.env) Q E s :=
 Calls.Name_function_global a.ok.kind i (Calls.loadGlobal_global (by rw[a.ok.glob];exact a.mod.glob.keeps a.bk) l h) hd
def gK{E:Sh}{z:SD}{s:Shared}{Z:St}{H:Hp}{x:Str}{u:Value}{f:Pos}{Q:Sh}(a:Inv X z Z H s)(y:Gl X x)(l:X.mg x=Y)(hv:bootBuiltins x=J u)(h:Q u s)(j:x≠"__name__":=by decide)(hd:(x==("__debug__":Str))=T:=by decide):wpAny (model X.prog X.w) X.A (eval (.Name x f) X.env) Q E s:=by
 obtain⟨C,i,B⟩:=a.mod.blt;exact Calls.Name_function_global a.ok.kind y (Calls.loadGlobal_builtin (by rw[a.ok.glob];exact a.mod.glob.keeps a.bk) l (by rw[a.ok.blt];exact i.keeps a.bk) ((B x j).trans hv) h) hd
def Cf{x:Str}{v:V}{u:Value}{f:Pos}(i:Gl X x)(j:X.mg x=J u)(r:aL v u)(hd:(x==("__debug__":Str))=T:=by decide):PE X (.Name x f) (tC v) :=
 λ_ _ _ H _ a h=>ve a i j ⟨v,H,a,r,h⟩ hd
def oJ{x:Str}{v:V}{u:Value}{f:Pos}(i:Gl X x)(l:X.mg x=Y)(hv:bootBuiltins x=J u)(r:aL v u)(j:x≠"__name__":=by decide)(hd:(x==("__debug__":Str))=T:=by decide):PE X (.Name x f) (tC v) :=
 λ_ _ _ H _ a h=>gK a i l hv ⟨v,H,a,r,h⟩ j hd
variable{a b:Expr}{ta tb:TE}{pos:Pos}
def tB(t:TE):TT:=λZ H Q=>t Z H λx f=>∃c,x=.bl c/\Q c f
def Fv{e:Expr}{t:TE}(h:PE X e t)(j:∀f,isTrue e X.env f=(do let v <-f;standAt e.pos;holding [v] (truthy v)):=by intro _;rfl):PT X e (tB t):=by intro y s Z H Q i hw;refine isTrue_plain (j3 (h y s Z H _ i hw) λv C ⟨x,B,u,l,z⟩=>?_) (j _);obtain⟨d,rfl,q⟩:=z;cases l;exact wpAny_truthy_bool ⟨B,u,q⟩
variable{tA tB':TT}{rest:SH}
def N9(t u:TT):TT:=λZ H Q=>t Z H λc f=>if c=I then u Z f Q else Q T f
def RU(t u:TT):TT:=λZ H Q=>t Z H λc f=>if c=I then Q I f else u Z f Q
def N_(t:TT):TT:=λZ H Q=>t Z H λc f=>Q (!c) f
def Cg(i:PT X a tA):PW X (.BoolOp .And [a] pos) tA:=by
 intro u j s Z H Q f h;refine isTrue_and (j3 (i j s Z H Q f h) λc l e=>?_)
 cases c with
 |true=>exact isTrue_and_nil e
 |false=>exact e
def Fw(i:PT X a tA):PW X (.BoolOp .Or [a] pos) tA:=by
 intro u j s Z H Q f h;refine isTrue_or (j3 (i j s Z H Q f h) λc l e=>?_)
 cases c with
 |false=>exact isTrue_or_nil e
 |true=>exact e
def Fx(y:PT X a tA)(C:PW X (.BoolOp .And (b::rest) pos) tB'):PW X (.BoolOp .And (a::b::rest) pos) (N9 tA tB'):=by
 intro B j s Z H Q f h;refine isTrue_and (j3 (y j s Z H _ f h) λc z ⟨l,i,u⟩=>?_)
 cases c with
 |true=>exact C B j z Z l Q i u
 |false=>exact⟨l,i,u⟩
def JG(y:PT X a tA)(C:PW X (.BoolOp .Or (b::rest) pos) tB'):PW X (.BoolOp .Or (a::b::rest) pos) (RU tA tB'):=by
 intro B j s Z H Q f h;refine isTrue_or (j3 (y j s Z H _ f h) λc z ⟨l,i,u⟩=>?_)
 cases c with
 |true=>exact⟨l,i,u⟩
 |false=>exact C B j z Z l Q i u
def Fy(j:PT X a tA):PT X (.UnaryOp .Not a pos) (N_ tA):=by intro u s Z H Q f h;exact isTrue_not (j3 (j u s Z H (λc i=>Q (!c) i) f h) λ_ _ ⟨i,l,q⟩=>⟨i,l,q⟩)
def JH(ta tb:TE):TE:=λZ H Q=>ta Z H λx f=>∃c,x=.bl c/\if c=I then tb Z f Q else Q (.bl T) f
def JI(ta:TE):TE:=λZ H Q=>ta Z H λx f=>∃c,x=.bl c/\Q (.bl (!c)) f
def Fz{op}{t:TE}(h:PE X a t):PE X (.BoolOp op [a] pos) t:=λi s Z H Q f hw=>BoolOp_one (h i s Z H Q f hw)
def FA(z:PE X a ta)(C:PE X (.BoolOp .And (b::rest) pos) tb):PE X (.BoolOp .And (a::b::rest) pos) (JH ta tb):=by
 intro l s Z H Q i h;refine BoolOp_and (j3 (z l s Z H _ i h) λv B ⟨x,u,j,y,f⟩=>?_);obtain⟨c,rfl,f⟩:=f;cases y;refine wpAny_truthy_bool ?_
 cases c with
 |true=>exact C l B Z u Q j f
 |false=>exact⟨.bl T,u,j,rfl,f⟩
def FC(j:PE X a ta):PE X (.UnaryOp .Not a pos) (JI ta):=by intro u s Z H Q f h;refine UnaryOp_ (j3 (j u s Z H _ f h) λv B ⟨x,y,l,z,i⟩=>?_);obtain⟨c,rfl,i⟩:=i;cases z;exact not_of (wpAny_truthy_bool ⟨.bl (!c),y,l,rfl,i⟩)
def RV(t:TT)(ta tb:TE):TE:=λZ H Q=>t Z H λc f=>if c=I then ta Z f Q else tb Z f Q
def zN{c:Expr}(B:PT X c tA)(z:PE X a ta)(C:PE X b tb):PE X (.IfExp c a b pos) (RV tA ta tb):=by
 intro i s Z H Q f h;refine wpAny_IfExp (j3 (B i s Z H _ f h) λd l ⟨u,j,y⟩=>?_)
 cases d with
 |true=>exact z i l Z u Q j y
 |false=>exact C i l Z u Q j y
end
def SqL(K:h8)(H:Hp)(a:Addr)(xs:List V):Prop :=
 Rd H a (.lst xs) \/
  ∃(o:Obj) (f:Array Value) (n:Nat),K.lookup a=J o/\o.cls=.type "list"/\o.dict=Y/\o.data=.seq f n/\f.size<=sizeLine/\aF xs f.toList
def SqT(K:h8)(H:Hp)(a:Addr)(xs:List V):Prop :=
 Rd H a (.tup xs) \/
  ∃(o:Obj) (f:Array Value) (n:Nat),K.lookup a=J o/\o.cls=.type "tuple"/\(o.data=.seq f n/\o.dict=Y)/\f.size<=sizeLine/\aF xs f.toList
def Oa:Value->Option V
 |.none=>J .non
 |.bool b=>J (.bl b)
 |.int i _=>J (.int i)
 |.str x _=>J (.str x)
 |.bytes b _=>J (.byt b)
 |.float b _=>J (.flt b)
 |.ref a=>J (.ref a)
 |.type n=>J (.ty n)
 |_=>Y
def aL.abs{x:V}{u:Value}(r:aL x u):Oa u=J x:=by
 cases x with
 |non=>cases r;rfl
 |bl _=>cases r;rfl
 |int _=>obtain⟨t,rfl⟩:=r;rfl
 |str _=>obtain⟨t,rfl⟩:=r;rfl
 |byt _=>obtain⟨t,rfl⟩:=r;rfl
 |flt _=>obtain⟨t,rfl⟩:=r;rfl
 |ref _=>cases r;rfl
 |ty _=>cases r;rfl
def aL.inj{x y:V}{u:Value}(r:aL x u)(q:aL y u):x=y:=Option.some.inj (r.abs.symm.trans q.abs)
def aF.inj{xs ys:List V}{a:SA}(r:aF xs a)(q:aF ys a):xs=ys:=by
 induction r generalizing ys with
 |nil=>cases q;rfl
 |cons r t f=>cases q with|cons j i=>rw[r.inj j,f i]
section
variable{X:Cx}{KC:List (Addr × Obj)}{Z:St}{H:Hp}{s:Shared}{a:Addr}{xs ys:List V}
def SqL.of{K:h8}(h:H a=J (.lst xs)):SqL K H a xs:=.inl (.inl h)
def SqT.of{K:h8}(h:H a=J (.tup xs)):SqT K H a xs:=.inl (.inl h)
def Inv.list(i:Inv X KC Z H s)(h:SqL X.K H a xs):∃f:SA,aF xs f/\PlainL s.heap a f.toArray/\xs.length<=sizeLine:=by
 rcases h with h|⟨o,f,n,u,j,hd,l,y,r⟩
 .obtain⟨z,f,n,r,e⟩:=h.ok i.hok;exact⟨f,r,⟨_,n,e,rfl,rfl,rfl⟩,z⟩
 .refine⟨f.toList,r,⟨o,n,i.kIn a o u,j,hd,by simpa using l⟩,?_⟩;have e:=r.length;simp only[IR]at e;ext
def Inv.tupleN(i:Inv X KC Z H s)(h:SqT X.K H a xs):∃f:SA,aF xs f/\hG s.heap a f.toArray/\xs.length<=sizeLine:=by
 rcases h with h|⟨o,f,n,u,l,j,y,r⟩
 .obtain⟨z,f,r,p⟩:=h.ok i.hok;exact⟨f,r,p,z⟩
 .refine⟨f.toList,r,⟨o,i.kIn a o u,l,⟨n,by simpa using j.1⟩,j.2⟩,?_⟩;have e:=r.length;simp only[IR]at e;ext
def Inv.tuple(i:Inv X KC Z H s)(h:SqT X.K H a xs):∃f:SA,aF xs f/\IsTup s.heap a f.toArray/\xs.length<=sizeLine :=
 let⟨f,r,p,z⟩:=i.tupleN h
 ⟨f,r,p.tup,z⟩
def Inv.list_inj(f:Inv X KC Z H s)(h:SqL X.K H a xs)(y:SqL X.K H a ys):xs=ys:=by
 obtain⟨j,r,⟨o,n,e,_,_,d⟩,_⟩:=f.list h;obtain⟨i,z,⟨C,B,u,_,_,l⟩,_⟩:=f.list y;rw[e]at u;cases u;rw[d]at l;injection l with d1 _
 have:j=i:=by simpa using congrArg Array.toList d1
 subst this;exact r.inj z
def Inv.tuple_inj(f:Inv X KC Z H s)(h:SqT X.K H a xs)(y:SqT X.K H a ys):xs=ys:=by
 obtain⟨j,r,⟨o,e,_,n,d⟩,_⟩:=f.tuple h;obtain⟨i,z,⟨C,u,_,B,l⟩,_⟩:=f.tuple y;rw[e]at u;cases u;rw[d]at l;injection l with d1 _
 have:j=i:=by simpa using congrArg Array.toList d1
 subst this;exact r.inj z
end
section
variable{X:Cx}{KC:List (Addr × Obj)}{Z:St}{H:Hp}{s:Shared}{E:Sh}
end
section
variable{X:Cx}{st:Stmt}{rest:Sk}{t u:TS}{e:Expr}{te:TE}{pos:Pos}
def JJ:TS:=λD Z H=>D.nx Z H
def Ob(t u:TS):TS:=λD Z H=>t { D with nx:=u D} Z H
def Ch:PSs X [] JJ:=λ_ _ Z H _ a h=>wpAny_execs_nil ⟨Z,H,a,h⟩
def AG(j:PS X st t)(B:PSs X rest u):PSs X (st::rest) (Ob t u):=by
 intro i s Z H D a h;refine wpAny_execs_cons (j3 (j i s Z H { D with nx:=u D} a h) λf z q=>?_)
 cases f with
 |next =>
  obtain⟨l,y,C,q⟩:=q;exact B i z l y D C q
 |ret v=>exact q
 |brk=>exact q
 |cont=>exact q
def Ci(j:PS X st t):PSs X [st] t:=by
 intro i s Z H D a h;refine wpAny_execs_cons (j3 (j i s Z H D a h) λf l q=>?_)
 cases f with
 |next=>exact wpAny_execs_nil q
 |ret v=>exact q
 |brk=>exact q
 |cont=>exact q
def Inv.quiet{f:SD}{Z:St}{H:Hp}{s:Shared}(a:Inv X f Z H s):interactive X.env=T:=by simp[interactive,a.ok.kind]
def JK(te:TE):TS:=λD Z H=>te Z H λ_ a=>D.nx Z a
def Cj(z:PE X e te)(y:swapsWith e Y pos.line X.env=pure T:=by rfl):PS X (.Expr e pos) (JK te):=by intro i s Z H D a h;exact wpAny_Expr_any (j3 (z i s Z H _ a h) λv B ⟨x,l,f,C,j⟩=>⟨Z,l,f,j⟩) a.quiet y
def Oc(te:TE):TS:=λD Z H=>te Z H D.rt
def FD(z:PE X e te):PS X (.Return (J e) pos) (Oc te):=by intro i s Z H D a h;exact wpAny_Return_some (j3 (z i s Z H _ a h) λv B ⟨x,l,f,y,j⟩=>⟨x,Z,l,f,y,j⟩)
def Od(c:TT)(t u:TS):TS:=λD Z H=>c Z H λb a=>if b=I then t D Z a else u D Z a
def JL{c:Expr}{a b:Sk}{j:TT}(E:PT X c j)(C:PSs X a t)(F:PSs X b u):PS X (.If c a b pos) (Od j t u):=by
 intro f s Z H D i h;refine wpAny_If (j3 (E f s Z H _ i h) λd y ⟨B,l,z⟩=>?_)
 cases d with
 |true=>exact C f y Z B D l z
 |false=>exact F f y Z B D l z
end
abbrev TG:=V->St->Hp->(St->Hp->Prop)->Prop
abbrev FE:=List V->St->Hp->(St->Hp->Prop)->Prop
def PG(X:Cx)(a:Expr)(t:TG):Prop :=
 ∀(f:SD)(s:Shared)(Z:St)(H:Hp)(v:V)(u:Value)(Q:St->Hp->Prop),Inv X f Z H s->aL v u->t v Z H Q ->
  wpAny (model X.prog X.w) X.A (assign a X.env u) (λ_ i=>SN X f Q i) X.xe s
def PGs(X:Cx)(j:SH)(t:FE):Prop :=
 ∀(a:SD)(s:Shared)(Z:St)(H:Hp)(f:List V)(i:SA)(Q:St->Hp->Prop),Inv X a Z H s->aF f i->t f Z H Q ->
  wpAny (model X.prog X.w) X.A (assignInOrder ((assignEach j X.env).map (·.2)) i) (λ_ l=>SN X a Q l) X.xe s
abbrev FF:=V->V->V->Hp->(Hp->Prop)->Prop
inductive SE(X:Cx)(KC:SD)(Z:St)(Q:Hp->Prop)(s':Shared):Prop
 |mk(H':Hp)(i:Inv X KC Z H' s')(q:Q H'):SE X KC Z Q s'
def JM(X:Cx)(t:FF):Prop :=
 ∀(a:SD)(s:Shared)(Z:St)(H:Hp)(o i v:V)(j f u:Value)(Q:Hp->Prop),Inv X a Z H s->aL o j->aL i f->aL v u->t o i v H Q ->
  wpAny (model X.prog X.w) X.A (setItem j f u) (λ_ l=>SE X a Z Q l) X.xe s
section
variable{X:Cx}{pos:Pos}
def EG(i:Nat):TG:=λv Z H Q=>Q (Z.set i (J v)) H
def uO{i:Nat}{x:Str}(hN:X.N.Nodup)(f:X.N[i]?=J x)(j:Loc X.env.scope x)(hf:X.fn x=I\/X.env.scope.names.lookup x=J .local:=by first | exact .inl rfl | exact .inr rfl | assumption):PG X (.Name x pos) (EG i):=by intro y s Z H v u Q a r h;exact wpAny_assign_Name (jO a hN f j r (λz l=>⟨_,H,l,h⟩) hf)
def Oe:FE:=λa Z H Q=>a=[]/\Q Z H
def JN(t:TG)(u:FE):FE:=λi Z H Q=>∃v r,i=v::r/\t v Z H λa f=>u r a f Q
def Ck:PGs X [] Oe:=by intro f s Z H i j Q a r h;obtain⟨e,h⟩:=h;subst e;cases r;exact assignInOrder_nil ⟨Z,H,a,h⟩
def zi{e:Expr}{a:SH}{t:TG}{u:FE}(l:PG X e t)(G:PGs X a u)(y:(assignEach (e::a) X.env).map (·.2)=assign e X.env::(assignEach a X.env).map (·.2):=by rfl):PGs X (e::a) (JN t u):=by
 intro i s Z H M L Q f r h;obtain⟨v,O,e1,h⟩:=h;subst e1
 cases r with
 |cons r j =>
  rw[y];refine assignInOrder_cons (j3 (l i s Z H _ _ _ f r h) λ_ C ⟨z,F,B,E⟩=>?_);exact G i C z F _ _ Q B j E
def Of(K:h8)(n:Nat)(t:FE):TG:=λv Z H Q=>∃a xs,v=.ref a/\SqT K H a xs/\xs.length=n/\t xs Z H Q
def FG{i:SH}{k:Nat}{t:FE}{n:Nat}(M:X.calm=I)(h:PGs X i t)(G:(assignEach i X.env).length=n:=by rfl)(j:(assignEach i X.env).findIdx? (·.1)=Y:=by rfl):PG X (.Tuple i k pos) (Of X.K n t):=by
 intro y s Z H v u Q f r hw;obtain⟨a,xs,e1,E,hl,hw⟩:=hw;subst e1;cases r;obtain⟨C,l,B,O⟩:=f.tuple E;refine assign_Tuple_tuple (f.ok.hd M) B (by simp[G,<-hl,l.length]) j λz F=>?_;have L:Inv X y Z H { s with heap:=z}:=f.kept (t':=s.toks) λb o e=>F b o (vK (n5 e)) e;exact h y _ Z H xs _ Q L (by simpa using l) hw
def Og(to a:TE)(t:FF):TG:=λv Z H Q=>to Z H λo f=>a Z f λi l=>t o i v l λj=>Q Z j
def FH{o i:Expr}{to z:TE}{t:FF}(C:PE X o to)(B:PE X i z)(L:JM X t)(M:∀v,assign (.Subscript o i pos) X.env v=(do
   let a <-holding [v] (eval o X.env)
   let f <-holding [v,a] (eval i X.env)
   standAt pos
   holding [v,a,f] (setItem a f v)
   release [v,a,f] []):=by intro _;rfl):PG X (.Subscript o i pos) (Og to z t):=by
 intro j s Z H v u Q l r h;rw[M];refine hH (wpAny_holding (j3 (C j s Z H _ l h) λa R ⟨x,H1,P,G,S⟩=>?_));refine hH (wpAny_holding (j3 (B j R Z H1 _ P S) λf E ⟨y,H2,I2,r2,O⟩=>?_));refine hH (wpAny_standAt (hH (wpAny_holding (j3 (L j E Z H2 x y v a f u _ I2 G r2 r O) λ_ s3 ⟨U,W,F⟩=>?_))));exact wpAny_release ⟨Z,U,W,F⟩
def JO(f:TE)(g:TG):TS:=λD Z H=>f Z H λx a=>g x Z a D.nx
def FI{a e:Expr}{j:TE}{g:TG}(u:PE X e j)(B:PG X a g)(z:swapsWithSole [a] e pos.line X.env=pure T:=by rfl)(hw:swappedStores [a] e X.env=pure Y:=by rfl)(l:(assignEach [a] X.env).map (·.2)=[assign a X.env]:=by rfl):PS X (.Assign [a] e pos) (JO j g):=by
 intro i s Z H D f h;refine wpAny_Assign_stores (j3 (u i s Z H _ f h) λv E ⟨x,G,C,y,F⟩=>?_) z hw;rw[l];exact j3 (B i E Z G x v _ C y F) λ_ L q=>q
def FJ{i:Nat}{x:Str}{e:Expr}{j:TE}{a:Pos}(hN:X.N.Nodup)(l:X.N[i]?=J x)(B:Loc X.env.scope x)(u:PE X e j)(C:swapsWith e (J (.Name x a)) pos.line X.env=pure T:=by rfl)(hf:X.fn x=I\/X.env.scope.names.lookup x=J .local:=by first | exact .inl rfl | exact .inr rfl | assumption):
  PS X (.Assign [.Name x a] e pos) (JO j (EG i)):=by
 intro F s Z H D f h;refine wpAny_Assign_Name (j3 (u F s Z H _ f h) λv P ⟨y,L,E,z,G⟩=>?_) C;exact jO E hN l B z (λO M=>⟨_,L,M,G⟩) hf
def Oh(i j:Nat)(a:TA):TS:=λD Z H=>a Z H λl f=>∃v w,l=[v,w]/\D.nx ((Z.set i (J v)).set j (J w)) f
def FK{i j:Nat}{x y:Str}{a b:Expr}{G:TA}{E py pt:Pos}{kt k2 pt2}(hc:X.calm=I)(hN:X.N.Nodup)(S:X.N[i]?=J x)(hj:X.N[j]?=J y)(B:i≠j)(M:X.env.scope.names.lookup x=J .local)(O:X.env.scope.names.lookup y=J .local)(ha:PA X [a,b] G)(hw:swappedStores [.Tuple [.Name x E,.Name y py] kt pt] (.Tuple [a,b] k2 pt2) X.env=pure (J [x,y]))(hs:swapsWithSole [.Tuple [.Name x E,.Name y py] kt pt] (.Tuple [a,b] k2 pt2) pos.line X.env=pure T:=by rfl):
  PS X (.Assign [.Tuple [.Name x E,.Name y py] kt pt] (.Tuple [a,b] k2 pt2) pos) (Oh i j G):=by
 intro P s Z H D z h;rw[exec_Assign_arm];refine hH (wpAny_standAt ?_);rw[hs];refine hH (ln ?_);rw[f_ (by decide)];refine hH (Tuple_ (j3 (ha _ P s Z H _ z h) λU l ⟨vs,Q,I1,r1,C⟩=>?_));obtain⟨v,w,e1,C⟩:=C;subst e1;obtain⟨f,u,rfl,W,rw'⟩:∃f u,U=[f,u]/\aL v f/\aL w u:=by
  cases r1 with
  |cons p q =>
   cases q with
   |cons p' q' =>
    cases q';exact⟨_,_,rfl,p,p'⟩
 refine wpAny_newObj_type ?_ (by show 2<=sizeLine;decide);have I2:Inv X P Z Q { l with heap:=l.heap.push { cls:=.type "tuple",data:=.seq [f,u].toArray}}:=I1.kept (t':=l.toks) λb o e=>mx _ e;rw[hw];refine hH (ln ?_);show wpAny (model X.prog X.w) X.A (do rule "assign.swapped-stores";let items <-unpackItems (.ref l.heap.objs.size) 2 Y;assignInOrder [λv=>bindName X.env y v,λv=>bindName X.env x v] items.reverse;pure Flow.next) _ _ _;refine hH (wpAny_rule (hH (unpackItems_tuple (items:=#[f,u]) (z.ok.hd hc) (IsTup.new l.heap _) λR F=>?_)));have I3:=I2.kept (h':=R) (t':=l.toks) λb o e=>F b o (vK (n5 e)) e;show wpAny _ _ (assignInOrder [λv=>bindName X.env y v,λv=>bindName X.env x v] [u,f] >>= λ_=>pure Flow.next) _ _ _;refine hH (assignInOrder_cons (wpAny_bindName (jO I3 hN hj (.inl O) rw' (λs2 I4=>?_) (.inr O))));refine assignInOrder_cons (wpAny_bindName (jO I4 hN S (.inl M) W (λs3 L=>assignInOrder_nil (ln ?_)) (.inr M)));rw[List.set_comm _ _ (Ne.symm B)]at L;exact⟨_,Q,L,C⟩
def FL(c:TT)(l:TS):TS:=λD Z H=>∃W:Nat->St->Hp->Prop,(∃m,W m Z H)/\∀m Z H,W m Z H ->
 c Z H λb a=>if b=I then ∃N:St->Hp->Prop,(∀f i,N f i->∃j,j<m/\W j f i)/\l { D with nx:=N,ct:=N,bk:=D.nx} Z a else D.nx Z a
def zg{c:Expr}{a:Sk}{O:TT}{tb:TS}(M:PassesOwn (model X.prog X.w) X.A X.env X.xe)(hc:PT X c O)(hb:PSs X a tb):PS X (.While c a [] pos) (FL O tb):=by
 intro C s Z H D L h;obtain⟨W,⟨m0,w0⟩,turn⟩:=h;refine wpAny_While (codeAny_whileLoop (λn s'=>∃P Q,Inv X C P Q s'/\W n P Q) ?_ m0 ⟨Z,H,L,w0⟩);rintro n s1 ⟨u,S,I1,w1⟩;refine wpAny_passesOwn M (j3 (hc C s1 u S _ I1 (turn n u S w1)) λb s2 ⟨R,U,y⟩=>?_)
 cases b with
 |true =>
  obtain⟨N,hN,y⟩:=y;rw[b_ rfl];refine wpAny_passesOwn M (j3 (hb C s2 u R _ U y) λf s3 l=>?_)
  cases f with
  |next =>
   obtain⟨j,i,E,F⟩:=l;obtain⟨z,B,G⟩:=hN j i F;exact⟨z,B,j,i,E,G⟩
  |cont =>
   obtain⟨j,i,E,F⟩:=l;obtain⟨z,B,G⟩:=hN j i F;exact⟨z,B,j,i,E,G⟩
  |brk=>exact l
  |ret v=>exact l
 |false =>
  rw[f_ Fg];exact wpAny_execs_nil ⟨u,R,U,y⟩
end
structure It where
 go:Nat->Hp->Prop
 yld:Nat->Hp->V->Hp->Prop
 stop:Nat->Hp->Prop
def ie(X:Cx)(a:SD)(H:Hp)(b:Addr):Prop :=
 H b=Y/\b≠X.env.locals/\b∉X.fs/\(b∈X.ex\/X.s₀.heap.objs.size<=b)/\(∀x c,X.env.cells.lookup x=J c->c≠b)/\∀p∈X.pn++a,p.1≠b
def Inv.fpOk{X:Cx}{i:SD}{Z:St}{H H':Hp}{s:Shared}{b:Addr}(a:Inv X i Z H s)(f:s.heap.objs.size<=b)(j:H' b=Y):ie X i H' b:=by
 refine⟨j,A1 (vE a.lt f),a.nofs f,.inr (ql a.sz f),λx c e z=>?_,λp l z=>?_⟩
 .obtain⟨v,q⟩:=a.cell x c e;exact absurd (vE q.lt (by rw[z];exact f)) (A6 _)
 .exact absurd (vE (n5 (a.pin p l).1) (by rw[z];exact f)) (A6 _)
inductive QZ(X:Cx)(KC:SD)(Z:St)(u:Value)(Y:V->Hp->Prop)(n:Heap->Prop)(fp:SX)(s2:Shared):Prop
 |mk(x:V)(H':Hp)(i:Inv X KC Z H' s2)(r:aL x u)(y:Y x H')(t:n s2.heap)(f:∀b∈fp,H' b=none):QZ X KC Z u Y n fp s2
structure Bs(P:Program)(w:World)(K:h8)(tg:Expr)(J:It)(fp:SX)(it:Addr)(tn:Nat->Heap->Prop):Prop where
 mem:it∈fp
 obj:∀i h,tn i h->∀b∈fp,∃o,h.get? b=some o/\∀v,o.data≠.cell v
 keep:∀i h h',tn i h->(∀b∈fp,∀o,h.get? b=some o->h'.get? b=some o)->tn i h'
 item:∀(X:Cx),X.prog=P->X.w=w->X.K=K->X.calm=I->∀(i:Nat)(KC:SD)(s:Shared)(Z:St)(H:Hp)(E:Sh),Inv X KC Z H s->(∀b∈fp,ie X KC H b)->tn i s.heap->J.go i H ->
  wpAny (model P w) X.A (pyNext (.ref it)) (λr s1=>∃u,r=some u /\
   wpAny (model P w) X.A (letOwnedTupleGo tg (.ref it) u) (λ_ s2=>QZ X KC Z u (J.yld i H) (tn (i+1)) fp s2) E s1) E s
 done:∀(X:Cx),X.prog=P->X.w=w->X.K=K->X.calm=I->∀(i:Nat)(KC:SD)(s:Shared)(Z:St)(H:Hp)(E:Sh),Inv X KC Z H s->(∀b∈fp,ie X KC H b)->tn i s.heap->J.stop i H ->
  wpAny (model P w) X.A (pyNext (.ref it)) (λr s1=>r=Y/\Inv X KC Z H s1) E s
 self:∀(A:Around)(i:Nat)(s:Shared)(Q:Sh)(E:Sh),tn i s.heap->Q (.ref it) s->wpAny (model P w) A (pyIter (.ref it)) Q E s
abbrev TI:=St->Hp->(It->Hp->Prop)->Prop
inductive Oi(X:Cx)(KC:SD)(Z:St)(tg:Expr)(R:It->Hp->Prop)(itv:Value)(s2:Shared):Prop
 |mk(it:Addr)(fp:SX)(tn:Nat->Heap->Prop)(J:It)(H':Hp)(e:itv=.ref it)(i:Inv X KC Z H' s2)(t:Bs X.prog X.w X.K tg J fp it tn)(n:tn 0 s2.heap)(f:∀b∈fp,ie X KC H' b)(r:R J H'):Oi X KC Z tg R itv s2
def PI(X:Cx)(j a:Expr)(l:TI):Prop :=
 ∀(f:SD)(s:Shared)(Z:St)(H:Hp)(R:It->Hp->Prop),Inv X f Z H s->l Z H R ->
  wpAny (model X.prog X.w) X.A (eval a X.env) (λv i=>wpAny (model X.prog X.w) X.A (pyIter v) (Oi X f Z j R) X.xe i) X.xe s
def vo{M:Model}{A:Around}{E:Sh}{s:Shared}{f:Expr}{i:Addr}{u:Value}{o:Obj}{n:String}{j:Array Value}{Q:Unit->Shared->Prop}(y:s.heap.get? i=J o)(z:o.cls=.type n)(hd:o.data=.fields j)(l:["enumerate","zip","dict_itemiterator","dict_reverseitemiterator","odict_iterator","itertools.zip_longest","itertools.pairwise"].contains n=T)(a:Q () s):wpAny M A (letOwnedTupleGo f (.ref i) u) Q E s:=by
 unfold letOwnedTupleGo;cases f<;>first
  |exact ln a
  | (cases u<;>first
    |exact ln a
    | (refine hH (wpAny_load y ?_)
       rw[z,hd];show wpAny M A (if(["enumerate","zip","dict_itemiterator","dict_reverseitemiterator","odict_iterator","itertools.zip_longest","itertools.pairwise"].contains n&&j[0]? == J (rawInt _))=I then _ else _) Q E s;rw[f_ (by intro h;rw[l,Bool.false_and]at h;cases h)]
       exact ln a))
def Oj(K:h8)(a:Addr):It :=
 ⟨λi H=>∃xs x,SqL K H a xs/\xs[i]?=J x,λi H x f=>f=H/\∀xs,SqL K H a xs->xs[i]?=J x,λi H=>∃xs,SqL K H a xs/\xs.length<=i⟩
def Q0(K:h8)(a:Addr):It :=
 ⟨λi H=>∃xs x,SqT K H a xs/\xs[i]?=J x,λi H x f=>f=H/\∀xs,SqT K H a xs->xs[i]?=J x,λi H=>∃xs,SqT K H a xs/\xs.length<=i⟩
def M0(lo:Int)(n:Nat):It:=⟨λi _=>i<n,λi H x a=>a=H/\x=.int (lo+i),λi _=>n<=i⟩
def wX{P:Program}{w:World}{K:h8}{tg:Expr}(a j:Addr):Bs P w K tg (Oj K a) [j] j (λi h=>h.IsListIter j a i) where
 mem:=by simp
 obj:=λi h st b l=>by
  have e:b=j:=by simpa using l
  subst e;obtain⟨o,e,c,d⟩:=st;exact⟨o,e,λv z=>by rw[d]at z;cases z⟩
 keep:=λi h B st k=>st.at λo e=>k j (by simp) o e
 item:=by intro X W hw U hc i KC s Z H E f hf st R;subst W hw U;obtain⟨xs,x,C,M⟩:=R;obtain⟨F,L,p,hz⟩:=f.list C;obtain⟨u,hu,ru⟩:=L.get M;obtain⟨O,G,f2,S,f4,Q⟩:=hf j (by simp);refine wpAny_pyNext_list_item st p.isList (x:=u) (by simpa using hu) λB y sb=>?_;have I1:Inv X KC Z H { s with heap:=B}:=f.turned (t':=s.toks) (λb o l e=>(sb.2 b l).trans e) O G S f4 Q;obtain⟨o,e,c,d⟩:=id y;exact⟨u,rfl,vo (s:={ s with heap:=B}) e c d (by decide) ⟨x,H,I1,ru,⟨rfl,λys hy=>by rw[f.list_inj hy C];exact M⟩,y,λb l=>(hf b l).1⟩⟩
 done:=by intro X W hw U hc i KC s Z H E f hf st R;subst W hw U;obtain⟨xs,C,M⟩:=R;obtain⟨F,L,p,hz⟩:=f.list C;obtain⟨O,G,f2,S,f4,Q⟩:=hf j (by simp);have hl:=L.length;exact wpAny_pyNext_list_end (f.ok.hd hc) st p.isList (by simp;ext) λB eb=>⟨rfl,f.turned (t':=s.toks) (λb o l e=>eb b o l e) O G S f4 Q⟩
 self:=λ_ _ _ _ _ st h=>wpAny_pyIter_listiter st h
def vk{P:Program}{w:World}{K:h8}{tg:Expr}(a l:Addr):Bs P w K tg (Q0 K a) [l] l (λi h=>h.IsTupleIter l a i) where
 mem:=by simp
 obj:=λi h st b y=>by
  have e:b=l:=by simpa using y
  subst e;obtain⟨o,e,c,d⟩:=st;exact⟨o,e,λv z=>by rw[d]at z;cases z⟩
 keep:=λi h C st k=>st.at λo e=>k l (by simp) o e
 item:=by intro X W hw U hc i KC s Z H E f hf st R;subst W hw U;obtain⟨xs,x,F,M⟩:=R;obtain⟨j,L,p,hz⟩:=f.tuple F;obtain⟨u,hu,ru⟩:=L.get M;obtain⟨O,G,f2,S,f4,Q⟩:=hf l (by simp);refine wpAny_pyNext_tuple_item st (show s.heap.IsTuple a j.toArray from p) (x:=u) (by simpa using hu) λC B sb=>?_;have I1:Inv X KC Z H { s with heap:=C}:=f.turned (t':=s.toks) (λb o y e=>(sb.2 b y).trans e) O G S f4 Q;obtain⟨o,e,c,d⟩:=id B;exact⟨u,rfl,vo (s:={ s with heap:=C}) e c d (by decide) ⟨x,H,I1,ru,⟨rfl,λys hy=>by rw[f.tuple_inj hy F];exact M⟩,B,λb y=>(hf b y).1⟩⟩
 done:=by intro X W hw U hc i KC s Z H E f hf st R;subst W hw U;obtain⟨xs,F,M⟩:=R;obtain⟨j,L,p,hz⟩:=f.tuple F;obtain⟨O,G,f2,S,f4,Q⟩:=hf l (by simp);have hl:=L.length;exact wpAny_pyNext_tuple_end (f.ok.hd hc) st (show s.heap.IsTuple a j.toArray from p) (by simp;ext) λC eb=>⟨rfl,f.turned (t':=s.toks) (λb o y e=>eb b o y e) O G S f4 Q⟩
 self:=λ_ _ _ _ _ st h=>wpAny_pyIter_tupleiter st h
def wc{P:Program}{w:World}{K:h8}{U:Expr}(f:Addr)(lo:Int)(n:Nat):Bs P w K U (M0 lo n) [f] f (λi h=>IsRangeIter h f (lo+(i:Nat)*1) ((n:Int)-(i:Nat)) 1) where
 mem:=by simp
 obj:=λi h st b j=>by
  have e:b=f:=by simpa using j
  subst e
  exact⟨_,st,λv z=>by
   have z':Data.fields _=Data.cell v:=z
   cases z'⟩
 keep:=λi h u st k=>k f (by simp) _ st
 item:=by intro X O hw M G i S s Z H E a hf st F;subst O hw M;obtain⟨B,y,f2,L,Q,C⟩:=hf f (by simp);have W:=Walks.range (prog:=X.prog) (w:=X.w) (a.ok.hd G) f lo 1 n;refine W.item i s _ _ F st λv u R hv l kk=>?_;obtain⟨t,rfl⟩:=hv;have I1:Inv X S Z H { s with heap:=u,toks:=R}:=a.turned (λb o j e=>kk b o (by simpa using j) e) B y L Q C;refine⟨_,rfl,vo (s:={ s with heap:=u,toks:=R}) (n:="range_iterator") l rfl rfl (by decide) ⟨.int (lo+i),H,I1,⟨t,?_⟩,⟨rfl,rfl⟩,l,λb j=>(hf b j).1⟩⟩;rw[Int.mul_one]
 done:=by intro X O hw M G i S s Z H E a hf st F;subst O hw M;obtain⟨B,y,f2,L,Q,C⟩:=hf f (by simp);exact wpAny_pyNext_range_end (a.ok.hd G) st (by have:n<=i:=F;ext) λu eb=>⟨rfl,a.turned (t':=s.toks) (λb o j e=>eb b o j e) B y L Q C⟩
 self:=λ_ _ _ _ _ st h=>wpAny_pyIter_rangeiter st h
section
variable{X:Cx}{tg:Expr}
def JP(K:h8)(i:TE):TI:=λZ H R=>i Z H λx f=>∃a,x=.ref a/\(∃xs,SqL K f a xs)/\R (Oj K a) f
def Ol(K:h8)(i:TE):TI:=λZ H R=>i Z H λx f=>∃a,x=.ref a/\(∃xs,SqT K f a xs)/\R (Q0 K a) f
def Co{l:Expr}{u:TE}(hl:PE X l u):PI X tg l (JP X.K u):=by
 intro C s Z H R j h;refine j3 (hl C s Z H _ j h) λv i ⟨x,F,f,B,E⟩=>?_;obtain⟨a,e,⟨xs,z⟩,q⟩:=E;subst e;cases B;obtain⟨y,L,p,M⟩:=f.list z;refine wpAny_pyIter_list p.isList ?_;refine⟨i.heap.objs.size,[i.heap.objs.size],_,_,F,rfl,f.kept (t':=i.toks) λb o e=>mx _ e,wX a _,⟨_,wh _ rfl,rfl,rfl⟩,λb G=>?_,q⟩;have e:b=i.heap.objs.size:=by simpa using G
 subst e;exact f.fpOk (jj _) (f.hok.fresh (jj _))
def FM{l:Expr}{y:TE}(hl:PE X l y):PI X tg l (Ol X.K y):=by
 intro C s Z H R u h;refine j3 (hl C s Z H _ u h) λv f ⟨x,F,i,B,E⟩=>?_;obtain⟨a,e,⟨xs,z⟩,q⟩:=E;subst e;cases B;obtain⟨j,L,p,M⟩:=i.tuple z;refine wpAny_pyIter_tuple (show f.heap.IsTuple a j.toArray from p) ?_;refine⟨f.heap.objs.size,[f.heap.objs.size],_,_,F,rfl,i.kept (t':=f.toks) λb o e=>mx _ e,vk a _,⟨_,wh _ rfl,rfl,rfl⟩,λb G=>?_,q⟩;have e:b=f.heap.objs.size:=by simpa using G
 subst e;exact i.fpOk (jj _) (i.hok.fresh (jj _))
def zH{j:SD}{Z:St}{H:Hp}{s:Shared}{R:It->Hp->Prop}{E:Sh}{lo a:Int}{t u v:Tok}{f:Nat}(l:Inv X j Z H s)(y:-(2^62)<=lo)(B:lo<2^62)(F:-(2^62)<=a)(z:a<2^62)(q:R (M0 lo (a-lo).toNat) H):wpAny (model X.prog X.w) X.A (pyIter (.ref s.heap.objs.size)) (Oi X j Z tg R) E { s with heap:=s.heap.push { cls:=.type "range",data:=.fields #[.int lo t,.int a u,.int 1 v]},toks:=f}:=by
 refine wpAny_pyIter_range (IsRange.new ..) (small_one y B F z) ?_;have i:Inv X j Z H { s with heap:=s.heap.push { cls:=.type "range",data:=.fields #[.int lo t,.int a u,.int 1 v]},toks:=f}:=l.kept λb o e=>mx _ e
 refine⟨(s.heap.push { cls:=.type "range",data:=.fields #[.int lo t,.int a u,.int 1 v]}).objs.size,[(s.heap.push { cls:=.type "range",data:=.fields #[.int lo t,.int a u,.int 1 v]}).objs.size],_,_,H,rfl,
  i.kept (t':=f) λb o e=>mx _ e,wc _ lo (a-lo).toNat,?_,λb C=>?_,q⟩
 .have e1:lo+((0:Nat):Int)*1=lo:=by simp
  have e2:(((a-lo).toNat:Nat):Int)-((0:Nat):Int)=Builtin.Range.rangeSize lo a 1:=by rw[rangeSize_one];split<;>ext
  show IsRangeIter _ _ (lo+((0:Nat):Int)*1) ((((a-lo).toNat:Nat):Int)-((0:Nat):Int)) 1;rw[e1,e2];exact wh _ rfl
 .have e:b=(s.heap.push { cls:=.type "range",data:=.fields #[.int lo t,.int a u,.int 1 v]}).objs.size:=by simpa using C
  subst e;exact i.fpOk (jj _) (i.hok.fresh (jj _))
def JQ(a:TA):TI:=λZ H R=>a Z H λi f=>∃j:Int,i=[.int j] /\ -(2^62)<=j/\j<2^62/\R (M0 0 j.toNat) f
def wR{a:Expr}{u:TA}{p f:Pos}(F:Gl X "range")(B:X.mg "range"=Y)(E:PA X [a] u)(C:starEach [a] X.env=[(T,eval a X.env)]:=by rfl):PI X tg (.Call (.Name "range" p) [a] [] f) (JQ u):=by
 intro M s Z H R i h;refine Call_ (gK i F B boot_range (PyProof.Rows.callWith_type1 (j3 (E f M s Z H _ i h) λO Q ⟨P,S,L,z,l⟩=>?_) C rfl));obtain⟨j,e,l,G,q⟩:=l;subst e
 cases z with
 |cons r y =>
  cases y;obtain⟨t,rfl⟩:=r;exact call_range_1 (zH L (by ext) (by ext) l G (by simpa using q))
def Om(B:TI)(g:TG)(z:TS):TS:=λD Z H=>B Z H λa y=>∃W:Nat->Nat->St->Hp->Prop,(∃m,W 0 m Z y)/\∀i m Z H,W i m Z H ->
 (a.stop i H/\D.nx Z H)\/(a.go i H/\∃N:St->Hp->Prop,(∀l f,N l f->∃j,j<m/\W (i+1) j l f)/\∀x f,a.yld i H x f->g x Z f λu C=>z { D with nx:=N,ct:=N,bk:=D.nx} u C)
def k9(a:SX)(h:Heap):SD:=a.filterMap λb=>(h.get? b).map λo=>(b,o)
def gh{a:SX}{h:Heap}{b:Addr}{o:Obj}(f:b∈a)(e:h.get? b=J o):(b,o)∈k9 a h:=Fh.mpr ⟨b,f,by rw[e];rfl⟩
def xP{a:SX}{h:Heap}{p:Addr×Obj}(f:p∈k9 a h):p.1∈a/\h.get? p.1=J p.2:=by
 obtain⟨b,i,e⟩:=Fh.mp f
 cases q:h.get? b with
 |none=>rw[q]at e;cases e
 |some o =>
  rw[q]at e;have j:(b,o)=p:=Option.some.inj e;subst j;exact⟨i,q⟩
def Inv.pinned{i:SD}{Z:St}{H:Hp}{s:Shared}{f:SX}(a:Inv X i Z H s)(hf:∀b∈f,ie X i H b)(y:∀b∈f,∃o,s.heap.get? b=J o/\∀v,o.data≠.cell v):Inv X (i++k9 f s.heap) Z H s :=
 a.pins_of λp u=>(tr.mp u).elim (λz=>a.pin p (se _ z)) λz=>by
  obtain⟨l,e⟩:=xP z;obtain⟨C,B,E,_⟩:=hf p.1 l;obtain⟨o,j,d⟩:=y p.1 l;rw[e]at j;cases j;exact⟨e,C,B,E,d⟩
def Inv.unpinned{KC pl:SD}{Z:St}{H:Hp}{s:Shared}(a:Inv X (KC++pl) Z H s):Inv X KC Z H s:=a.pins_of λp f=>a.pin p (se _ (AU _ f))
def FN{z:Expr}{F:Sk}{wi:TI}{g:TG}{tb:TS}{ap:Pos}(S:PassesOwn (model X.prog X.w) X.A X.env X.xe)(hc:X.calm=I)(hi:PI X tg z wi)(hg:PG X tg g)(C:PSs X F tb)(hs:∀x,foldedSetIterable z X.env x=pure x:=by intro _;rfl):PS X (.For tg z F [] ap) (Om wi g tb):=by
 intro M s Z H D al h;refine wpAny_For (j3 (hi M s Z H _ al h) λv s1 h1=>j3 h1 λar s2 h2=>?_) hs;obtain⟨it,fp,tn,as,H2,e,I2,a,ab,f2,W,⟨m0,w0⟩,turn⟩:=h2;subst e;have l:∀{E:Hp},(∀b∈fp,E b=Y)->∀b∈fp,ie X M E b:=λhn b C=>⟨hn b C,(f2 b C).2⟩;refine codeAny_forLoop_any (λn s'=>∃i O E,Inv X M O E s'/\tn i s'.heap/\(∀b∈fp,E b=Y)/\W i n O E) ?_ m0 ⟨0,Z,H2,I2,ab,λb C=>(f2 b C).1,w0⟩;rintro n s3 ⟨i,P,H3,I3,U,Q,w3⟩;rcases turn i n P H3 w3 with⟨stop,qn⟩|⟨go,N,hN,step⟩
 .refine wpAny_passesOwn S (j3 (a.done X rfl rfl rfl hc i M s3 P H3 X.xe I3 (l Q) U stop) λr s4 ⟨hr,I4⟩=>?_);subst hr;exact wpAny_execs_nil ⟨P,H3,I4,qn⟩
 .refine wpAny_passesOwn S (j3 (a.item X rfl rfl rfl hc i M s3 P H3 X.xe I3 (l Q) U go) λr s4 ⟨u,hr,h4⟩=>?_);subst hr;refine wpAny_passesOwn S (j3 h4 λ_ s5 ⟨x,H5,I5,r5,y5,L,an⟩=>?_);have ai:=I5.pinned (l an) (a.obj _ _ L);refine wpAny_passesOwn S (j3 (hg _ s5 P H5 x u _ ai r5 (step x H5 y5)) λ_ s6 ⟨Z6,H6,I6,q6⟩=>?_);refine wpAny_passesOwn S (j3 (C _ s6 Z6 H6 _ I6 q6) λf s7 G=>?_);have again:∀{y:St}{B:Hp},Inv X (M++k9 fp s5.heap) y B s7->N y B->∃m,m<n/\∃i O E,Inv X M O E s7/\tn i s7.heap/\(∀b∈fp,E b=Y)/\W i m O E:=λ{y B} j R=>by
   obtain⟨m',hm,w7⟩:=hN y B R;refine⟨m',hm,i+1,y,B,j.unpinned,a.keep _ _ _ L λb C o e=>(j.pin (b,o) (se _ (se _ (gh C e)))).1,λb C=>?_,w7⟩;obtain⟨o,e,d⟩:=a.obj _ _ L b C;exact(j.pin (b,o) (se _ (se _ (gh C e)))).2.1
  cases f with
  |next=>obtain⟨y,B,j,R⟩:=G;exact again j R
  |cont=>obtain⟨y,B,j,R⟩:=G;exact again j R
  |brk=>obtain⟨y,B,j,G⟩:=G;exact⟨y,B,j.unpinned,G⟩
  |ret v=>obtain⟨x7,y,B,j,r7,G⟩:=G;exact⟨x7,y,B,j.unpinned,r7,G⟩
end
abbrev R2:=V->V->Hp->VK->Prop
def OpR(X:Cx)(f:Value->Value->Sem Value)(r:R2):Prop :=
 ∀(a:SD)(s:Shared)(Z:St)(H:Hp)(x y:V)(v u:Value)(Q:VK),Inv X a Z H s->aL x v->aL y u->r x y H Q ->
  wpAny (model X.prog X.w) X.A (f v u) (EP X a Z Q) X.xe s
def M1(X:Cx)(f:Value->Sem Value)(r:V->Hp->VK->Prop):Prop :=
 ∀(a:SD)(s:Shared)(Z:St)(H:Hp)(x:V)(v:Value)(Q:VK),Inv X a Z H s->aL x v->r x H Q ->
  wpAny (model X.prog X.w) X.A (f v) (EP X a Z Q) X.xe s
def cw(X:Cx)(f:Value)(r:List V->Hp->VK->Prop):Prop :=
 ∀(a:SD)(s:Shared)(Z:St)(H:Hp)(xs:List V)(i:SA)(Q:VK),Inv X a Z H s->aF xs i->r xs H Q ->
  wpAny (model X.prog X.w) X.A (call f i) (EP X a Z Q) X.xe s
def Oo(X:Cx)(r:V->Hp->(Bool->Hp->Prop)->Prop):Prop :=
 ∀(a:SD)(s:Shared)(Z:St)(H:Hp)(x:V)(v:Value)(Q:Bool->Hp->Prop),Inv X a Z H s->aL x v->r x H Q ->
  wpAny (model X.prog X.w) X.A (truthy v) (TP X a Z Q) X.xe s
def JR(r:R2)(a i:TE):TE:=λZ H Q=>a Z H λx f=>i Z f λy j=>r x y j Q
def RW(r:V->Hp->VK->Prop)(a:TE):TE:=λZ H Q=>a Z H λx f=>r x f Q
def rI(C:Int->Int->Prop)(g:Int->Int->V):R2:=λx y H Q=>∃i j,x=.int i/\y=.int j/\C i j/\Q (g i j) H
def Cp(g:Int->Int->V):R2:=λx y H Q=>∃i j,x=.int i/\y=.int j/\Q (g i j) H
def rU(g:Int->V):V->Hp->VK->Prop:=λx H Q=>∃i,x=.int i/\Q (g i) H
section
variable{X:Cx}{a b c:Expr}{ta tb tc:TE}{pos:Pos}
def FO(G:PE X a ta)(W:PE X b tb){B:SD}{s:Shared}{Z:St}{H:Hp}{R:V->V->Hp->Prop}(C:Inv X B Z H s)(h:ta Z H λx E=>tb Z E λy i=>R x y i){Q:Sh}{f:Value->Value->Sem Value}(hf:∀v u z x y i,Inv X B Z i z->aL x v->aL y u->R x y i->wpAny (model X.prog X.w) X.A (f v u) Q X.xe z):
  wpAny (model X.prog X.w) X.A (eval a X.env) (λv j=>wpAny (model X.prog X.w) X.A (eval b X.env) (λu l=>wpAny (model X.prog X.w) X.A (f v u) Q X.xe l) X.xe j) X.xe s:=by
 refine j3 (G B s Z H _ C h) λv O ⟨x,E,M,F,P⟩=>?_;refine j3 (W B O Z E _ M P) λu z ⟨y,i,U,S,L⟩=>?_;exact hf v u z x y i U F S L
def JS{i:Operator}{r:R2}(j:OpR X (binaryOp i) r)(z:PE X a ta)(L:PE X b tb):PE X (.BinOp a i b pos) (JR r ta tb):=by intro B s Z H Q f h;exact wpAny_BinOp (FO z L f h λv u l x y E G F C q=>j B l Z E x y v u Q G F C q)
def JT{i:UnaryOp}{r:V->Hp->VK->Prop}(E:M1 X (unaryOp i) r)(l:PE X a ta):PE X (.UnaryOp i a pos) (RW r ta):=by intro j s Z H Q f h;exact UnaryOp_ (j3 (l j s Z H _ f h) λv y ⟨x,z,u,C,B⟩=>E j y Z z x v Q u C B)
def RX{f:Value->Value->Sem Value}{C:Int->Int->Prop}{g:Int->Int->Int}(rule:∀(i j:Int)(t u:Tok)(s:Shared)(Q:Sh)(E:Sh),C i j->Q (.int (g i j) s.toks) { s with toks:=s.toks+1}->wpAny (model X.prog X.w) X.A (f (.int i t) (.int j u)) Q E s):
  OpR X f (rI C λi j=>.int (g i j)):=by
 intro L s Z H x y v u Q l F B h;obtain⟨i,j,rfl,rfl,z,q⟩:=h;obtain⟨t,rfl⟩:=F;obtain⟨G,rfl⟩:=B;exact rule i j t G s _ _ z ⟨.int (g i j),H,l.tok _,⟨_,rfl⟩,q⟩
def JU{f:Value->Value->Sem Value}{g:Int->Int->Int}(rule:∀(i j:Int)(t u:Tok)(s:Shared)(Q:Sh)(E:Sh),Q (.int (g i j) s.toks) { s with toks:=s.toks+1}->wpAny (model X.prog X.w) X.A (f (.int i t) (.int j u)) Q E s):
  OpR X f (Cp λi j=>.int (g i j)):=by
 intro F s Z H x y v u Q l B z h;obtain⟨i,j,rfl,rfl,q⟩:=h;obtain⟨t,rfl⟩:=B;obtain⟨C,rfl⟩:=z;exact rule i j t C s _ _ ⟨.int (g i j),H,l.tok _,⟨_,rfl⟩,q⟩
def Cq{f:Value->Value->Sem Value}{g:Int->Int->Bool}(rule:∀(i j:Int)(t u:Tok)(s:Shared)(Q:Sh)(E:Sh),Q (.bool (g i j)) s->wpAny (model X.prog X.w) X.A (f (.int i t) (.int j u)) Q E s):
  OpR X f (Cp λi j=>.bl (g i j)):=by
 intro F s Z H x y v u Q l B z h;obtain⟨i,j,rfl,rfl,q⟩:=h;obtain⟨t,rfl⟩:=B;obtain⟨C,rfl⟩:=z;exact rule i j t C s _ _ ⟨.bl (g i j),H,l,rfl,q⟩
def gQ(i j:Int):Prop:=0<=j/\j<=1000000/\i.natAbs<2^64
def FP:OpR X (binaryOp .Add) (Cp λi j=>.int (i+j)):=JU λ_ _ _ _ _ _ _ q=>add_int q
def FQ:OpR X (binaryOp .Sub) (Cp λi j=>.int (i-j)):=JU λ_ _ _ _ _ _ _ q=>sub_int q
def FR:OpR X (binaryOp .Pow) (rI gQ λi j=>.int (i^j.toNat)):=RX λ_ _ _ _ _ _ _ f q=>pow_int_small f.1 f.2.1 f.2.2 q
def RY{f:Value->Sem Value}{g:Int->Int}(rule:∀(i:Int)(t:Tok)(s:Shared)(Q:Sh)(E:Sh),Q (.int (g i) s.toks) { s with toks:=s.toks+1}->wpAny (model X.prog X.w) X.A (f (.int i t)) Q E s):
  M1 X f (rU λi=>.int (g i)):=by
 intro u s Z H x v Q j l h;obtain⟨i,rfl,q⟩:=h;obtain⟨t,rfl⟩:=l;exact rule i t s _ _ ⟨.int (g i),H,j.tok _,⟨_,rfl⟩,q⟩
def FS:M1 X (unaryOp .USub) (rU λi=>.int (-i)):=RY λ_ _ _ _ _ q=>neg_int q
def FT{i:SD}{Z:St}{H:Hp}{s:Shared}{Q:VK}{k j:Bool}(f:Inv X i Z H s)(q:Q (.bl k) H)(e:k=j):EP X i Z Q (.bool j) s:=by subst e;exact⟨.bl k,H,f,rfl,q⟩
def JV:OpR X (compareOp .Lt) (Cp λi j=>.bl (decide (i<j))):=Cq λ_ _ _ _ _ _ _ q=>lt_int q
def JW:OpR X (compareOp .LtE) (Cp λi j=>.bl (decide (i<=j))):=Cq λ_ _ _ _ _ _ _ q=>le_int q
def JX:OpR X (compareOp .Gt) (Cp λi j=>.bl (decide (j<i))):=Cq λ_ _ _ _ _ _ _ q=>gt_int q
def JY:OpR X (compareOp .GtE) (Cp λi j=>.bl (decide (j<=i))):=Cq λ_ _ _ _ _ _ _ q=>ge_int q
def FU:OpR X (compareOp .Is) (λx y H Q=>y=.non/\Q (.bl (decide (x=.non))) H):=by
 intro l s Z H x y v u Q f i j h;obtain⟨rfl,q⟩:=h;cases j;refine is_none_gen (FT f q ?_);cases x<;>first
  |(cases i;rfl)
  |(obtain⟨t,rfl⟩:=i;rfl)
def A7(b:Expr){f:CmpOp}(h:f≠.In:=by decide)(i:f≠.NotIn:=by decide):behindInMarks f b=T:=by
 have e1:(f==CmpOp.In)=T:=by cases f<;>first | rfl | exact absurd rfl h
 have e2:(f==CmpOp.NotIn)=T:=by cases f<;>first | rfl | exact absurd rfl i
 cases b<;>simp[behindInMarks,e1,e2]
def Cr{f:CmpOp}{r:R2}(j:OpR X (compareOp f) r)(B:PE X a ta)(M:PE X b tb)(z:behindInMarks f b=T):PE X (.Compare a [f] [b] pos) (JR r ta tb):=by intro C s Z H Q i h;exact wpAny_Compare1 (FO B M i h λv u l x y F L G E q=>j C l Z F x y v u Q L G E q) z
def JZ(t:TE):TT:=λZ H Q=>t Z H λx f=>∃k,x=.bl k/\Q k f
def Cs{f:CmpOp}{r:R2}(l:OpR X (compareOp f) r)(G:PE X a ta)(hb:PE X b tb)(F:behindInMarks f b=T):PT X (.Compare a [f] [b] pos) (JZ (JR r ta tb)):=by
 intro i s Z H Q j h
 refine wpAny_isTrue_Compare1 (j3 (G i s Z H _ j h) λv P ⟨x,H1,M,E,R⟩=>j3 (hb i P Z H1 _ M R) λu B ⟨y,H2,I2,W,L⟩ =>
  j3 (l i B Z H2 x y v u _ I2 E W L) λc s3 ⟨z,S,U,O,k,e,C⟩=>?_) F
 subst e;cases O;exact wpAny_truthy_bool ⟨S,U,C⟩
def ym(r i:R2)(ta tb tc:TE):TE:=λZ H Q=>ta Z H λx l=>tb Z l λy B=>r x y B λz f=>∃k,z=.bl k /\
 (if k=I then tc Z f λj u=>i y j u Q else Q (.bl T) f)
def yX{j f:CmpOp}{r L:R2}(O:OpR X (compareOp j) r)(l:OpR X (compareOp f) L)(ha:PE X a ta)(hb:PE X b tb)(hc:PE X c tc)(W:lastMarks [j,f] [b,c]=T:=by with_unfolding_all rfl):PE X (.Compare a [j,f] [b,c] pos) (ym r L ta tb tc):=by
 intro i s Z H Q B h
 refine Compare_chain (j3 (ha i s Z H _ B h) λv s1 ⟨x,H1,I1,S,q1⟩=>chain_link (j3 (hb i s1 Z H1 _ I1 q1) λu P ⟨y,H2,I2,G,q2⟩ =>
  j3 (O i P Z H2 x y v u _ I2 S G q2) λd s3 ⟨z,E,F,r3,k,e,C⟩=>?_)) W
 subst e;cases r3;refine wpAny_truthy_bool ?_
 cases k with
 |false=>exact ite_ff ⟨.bl T,E,F,rfl,C⟩
 |true=>exact ite_tt (chain_last (j3 (hc i s3 Z E _ F C) λM s4 ⟨z',H4,R,U,q4⟩=>l i s4 Z H4 y z' u M Q R G U q4))
def J0(K:h8)(x:V)(H:Hp)(k:Bool):Prop :=
 match x with
 |.non=>k=T
 |.bl b=>k=b
 |.int i=>k=(i != 0)
 |.str y=>y.length<=sizeLine/\k=((y.length:Int) != 0)
 |.byt y=>y.size<=sizeLine/\k=((y.size:Int) != 0)
 |.ref p=>(∃xs,SqL K H p xs/\k=!xs.isEmpty)\/(∃xs,SqT K H p xs/\k=!xs.isEmpty)\/∃f,H p=J (.dK f)/\k=!f.isEmpty
 |_=>False
def wG{κ:Type}{f:List (κ×V)}{i:List (κ×Value)}(r:KV f i):(!i.isEmpty)=!f.isEmpty:=by cases r<;>rfl
def nE{xs:List V}{f:SA}(r:aF xs f):(!f.toArray.isEmpty)=!xs.isEmpty:=by cases r<;>simp
def iV:(sizeLine:Nat)<2^63:=by rw[sizeLine_eq];decide
def ss:Oo X (λx H Q=>∃k,J0 X.K x H k/\Q k H):=by
 intro P s Z H x v Q f z h;obtain⟨k,e,q⟩:=h;have hl:=iV;have O:sizeLine=16777216:=sizeLine_eq
 cases x with
 |non =>
  cases z;have j:k=T:=e;subst j;exact truthy_none ⟨H,f,q⟩
 |bl b =>
  cases z;have j:k=b:=e;subst j;exact wpAny_truthy_bool ⟨H,f,q⟩
 |int i =>
  obtain⟨t,rfl⟩:=z;have j:k=(i != 0):=e;subst j;exact PySem.P.truthy_int ⟨H,f,q⟩
 |str y =>
  obtain⟨t,rfl⟩:=z;obtain⟨M,j⟩:y.length<=sizeLine/\k=((y.length:Int) != 0):=e;subst j;exact PySem.P.truthy_str (by ext) ⟨H,f.tok _,q⟩
 |byt y =>
  obtain⟨t,rfl⟩:=z;obtain⟨M,j⟩:y.size<=sizeLine/\k=((y.size:Int) != 0):=e;subst j;exact PySem.W.truthy_bytes (by ext) ⟨H,f.tok _,q⟩
 |ref p =>
  cases z;have j:(∃xs,SqL X.K H p xs/\k=!xs.isEmpty)\/(∃xs,SqT X.K H p xs/\k=!xs.isEmpty)\/∃l,H p=J (.dK l)/\k=!l.isEmpty:=e;rcases j with⟨xs,B,j⟩|⟨xs,B,j⟩|⟨l,B,j⟩
  .subst j;obtain⟨F,r,E,G⟩:=f.list B;have u:=r.length;exact wpAny_truthy_list E.isList (by simp only[q7];ext) ⟨H,f.tok _,by rw[nE r];exact q⟩
  .subst j;obtain⟨F,r,E,G⟩:=f.tuple B;have u:=r.length;exact truthy_tuple E (by simp only[q7];ext) ⟨H,f.tok _,by rw[nE r];exact q⟩
  .subst j;obtain⟨G,L,C,r,m⟩:l.length<=sizeLine/\(p==sysModules)=T/\∃C,KV l C/\s.heap.DictOf (d8 X.prog X.w) p C:=f.hok p _ B;have u:l.length=C.length:=Paired.length r;exact wpAny_truthy_dict L m (by ext) ⟨H,f.tok _,by rw[wG r];exact q⟩
 |_=>exact(show False from e).elim
def zd(z:PE X a ta)(u:∀f,isTrue a X.env f=(do let v <-f;standAt a.pos;holding [v] (truthy v))):
  PT X a (λZ H Q=>ta Z H λx j=>∃k,J0 X.K x j k/\Q k j):=by
 intro l s Z H Q i h;exact isTrue_plain (j3 (z l s Z H _ i h) λv C ⟨x,F,B,y,E⟩=>ss l C Z F x v Q B y E) (u _)
def vD:OpR X (binaryOp .Add) (λx y H Q=>∃i j,x=.str i/\y=.str j/\i.length+j.length<=sizeLine/\Q (.str (i++j)) H):=by intro F s Z H x y v u Q f B z h;obtain⟨i,j,rfl,rfl,l,q⟩:=h;obtain⟨t,rfl⟩:=B;obtain⟨C,rfl⟩:=z;exact add_str (λC E=>⟨.str (i++j),H,f.tok _,⟨_,rfl⟩,q⟩) l
def f8{x:V}{f:SA}(r:aF [x] f):∃u,f=[u]/\aL x u:=by
 cases r with
 |cons j i=>cases i;exact⟨_,rfl,j⟩
def vals2{x y:V}{i:SA}(r:aF [x,y] i):∃u f,i=[u,f]/\aL x u/\aL y f:=by
 cases r with
 |cons z l =>
  cases l with
  |cons j B=>cases B;exact⟨_,_,rfl,z,j⟩
def Am:cw X (.builtin "abs") (λxs H Q=>∃i,xs=[.int i]/\Q (.int (if i<0 then -i else i)) H):=by intro j s Z H xs y Q f r h;obtain⟨i,rfl,q⟩:=h;obtain⟨u,rfl,t,rfl⟩:=f8 r;exact call_abs_int λu l=>⟨.int (if i<0 then -i else i),H,f.tok _,⟨_,rfl⟩,q⟩
def wO(y:X.calm=I):cw X (.builtin "max") (λxs H Q=>∃i j,xs=[.int i,.int j]/\Q (.int (if j>i then j else i)) H):=by
 intro F s Z H xs C Q f r h;obtain⟨i,j,rfl,q⟩:=h;obtain⟨u,B,rfl,⟨t,rfl⟩,⟨G,rfl⟩⟩:=vals2 r;refine max_two_ints (f.ok.hd y) λz E k=>⟨_,H,f.kept k,?_,q⟩;by_cases l:j>i
 .rw[b_ l,b_ l];exact⟨_,rfl⟩
 .rw[f_ l,f_ l];exact⟨_,rfl⟩
def yk(y:X.calm=I):cw X (.builtin "min") (λxs H Q=>∃i j,xs=[.int i,.int j]/\Q (.int (if j<i then j else i)) H):=by
 intro F s Z H xs C Q f r h;obtain⟨i,j,rfl,q⟩:=h;obtain⟨u,B,rfl,⟨t,rfl⟩,⟨G,rfl⟩⟩:=vals2 r;refine min_two_ints (f.ok.hd y) λz E k=>⟨_,H,f.kept k,?_,q⟩;by_cases l:j<i
 .rw[b_ l,b_ l];exact⟨_,rfl⟩
 .rw[f_ l,f_ l];exact⟨_,rfl⟩
def qj:cw X (.type "int") (λxs H Q=>(∃i,xs=[.int i]/\Q (.int i) H)\/∃k,xs=[.bl k]/\Q (.int (if k then 1 else 0)) H):=by
 intro l s Z H xs y Q f r h;rcases h with⟨i,rfl,q⟩|⟨k,rfl,q⟩
 .obtain⟨u,rfl,t,rfl⟩:=f8 r;exact call_int_int ⟨.int i,H,f,⟨_,rfl⟩,q⟩
 .obtain⟨u,rfl,j⟩:=f8 r;cases j;exact call_int_bool ⟨.int (if k then 1 else 0),H,f.tok _,⟨_,rfl⟩,q⟩
def Op(K:h8)(x:V)(H:Hp)(n:Nat):Prop :=
 match x with
 |.str y=>y.length<=sizeLine/\n=y.length
 |.byt y=>y.size<=sizeLine/\n=y.size
 |.ref p=>(∃xs,SqL K H p xs/\n=xs.length)\/∃xs,SqT K H p xs/\n=xs.length
 |_=>False
def jP:cw X (.builtin "len") (λxs H Q=>∃x n,xs=[x]/\Op X.K x H n/\Q (.int n) H):=by
 intro O s Z H xs L Q f r h;obtain⟨x,n,rfl,e,q⟩:=h;obtain⟨u,rfl,E⟩:=f8 r;have hl:=iV;have M:sizeLine=16777216:=sizeLine_eq
 cases x with
 |str y =>
  obtain⟨t,rfl⟩:=E;obtain⟨G,j⟩:y.length<=sizeLine/\n=y.length:=e;subst j;exact len_str (by ext) ⟨.int _,H,f.tok _,⟨_,rfl⟩,q⟩
 |byt y =>
  obtain⟨t,rfl⟩:=E;obtain⟨G,j⟩:y.size<=sizeLine/\n=y.size:=e;subst j;exact PySem.W.len_bytes (by ext) ⟨.int _,H,f.tok _,⟨_,rfl⟩,q⟩
 |ref p =>
  cases E;have j:(∃xs,SqL X.K H p xs/\n=xs.length)\/∃xs,SqT X.K H p xs/\n=xs.length:=e;rcases j with⟨xs,C,j⟩|⟨xs,C,j⟩
  .subst j;obtain⟨z,B,l,F⟩:=f.list C;have i:=B.length;exact Calls.call_len_list l.isList (by simp only[q7];ext) ⟨.int xs.length,H,f.tok _,⟨_,by simp only[q7];rw[i]⟩,q⟩
  .subst j;obtain⟨z,B,l,F⟩:=f.tuple C;have i:=B.length;exact len_tuple l (by simp only[q7];ext) ⟨.int xs.length,H,f.tok _,⟨_,by simp only[q7];rw[i]⟩,q⟩
 |_=>exact(show False from e).elim
end
section
variable{prog:Program}{w:World}{A:Around}{E:Sh}{s:Shared}{K:h8}{x dx C f:Addr}{mA:Si}{name:Str}{v:Value}
end
def fZ.some_of{v:V}{o:SF}(r:fZ (J v) o):∃u,o=J u/\aL v u:=by
 cases o with
 |none=>exact(show False from r).elim
 |some u=>exact⟨u,rfl,r⟩
def fZ.none_of{o:SF}(r:fZ Y o):o=Y:=by
 cases o with
 |none=>rfl
 |some u=>exact(show False from r).elim
section
variable{P:Program}{w:World}{H H':Hp}{h h':Heap}{a C dx:Addr}{fs fs':List (Str × V)}
end
section
variable{X:Cx}{KC:List (Addr × Obj)}{Z:St}{H:Hp}{s:Shared}{a C dx:Addr}{fs:List (Str × V)}{f:Str}{v:V}{A:Around}{E:Sh}
end
section
variable{X:Cx}{o e value:Expr}{f:Str}{pos pos' tpos:Pos}{ta tv:TE}
end
section
variable{X:Cx}{KC:List (Addr × Obj)}{Z:St}{H:Hp}{s:Shared}{A:Around}{E:Sh}{Q:Sh}{c:Value}{b:Bool}
end
structure Room(k:Nat)(A:Around):Prop where
 hd:A.handled=Y
 dp:A.depth+3*k+105<recursionLimit
 un:A.units+16*k+200<cLine
 gd:A.guards=J []
def Room.mono{j k:Nat}{A:Around}(r:Room k A)(h:j<=k):Room j A:=⟨r.hd,by have:=r.dp;ext,by have:=r.un;ext,r.gd⟩
def Room.deeper{k:Nat}{A:Around}(r:Room (k+1) A)(env:Env):Room k (A.deeper env) :=
 ⟨r.hd,by have:=r.dp;show A.depth+1+3*k+105<_;ext,by have:=r.un;show A.units+3+16*k+200<_;ext,r.gd⟩
def Room.depth{k:Nat}{A:Around}(r:Room k A):A.depth<recursionLimit:=by have:=r.dp;ext
def Room.units{k:Nat}{A:Around}(r:Room k A):A.units+64<cLine:=by have:=r.un;ext
def Oq:TA:=λ_ H Q=>Q [] H
def J1(a:TE)(f:TA):TA:=λZ H Q=>a Z H λx i=>f Z i λxs j=>Q (x::xs) j
section
variable{X:Cx}{e:Expr}{es:SH}{te:TE}{t:TA}{pos:Pos}
def ku:PA X [] Oq:=λ_ _ _ _ H Q a h=>Calls.spliced_nil ⟨[],H,a,.nil,h⟩
def eA(y:PE X e te)(i:PA X es t)(l:starEach (e::es) X.env=(T,eval e X.env)::starEach es X.env:=by rfl):PA X (e::es) (J1 te t):=by intro pos f s Z H Q a h;rw[l];show wpAny _ _ (spliced ((T,eval e X.env)::backTo pos (starEach es X.env))) _ _ s;refine Calls.spliced_cons (j3 (y f s Z H _ a h) λu C ⟨x,L,B,j,E⟩=>?_);exact j3 (i pos f C Z L _ B E) λP O ⟨xs,G,M,F,z⟩=>⟨x::xs,G,M,.cons j F,z⟩
def Ot(t:TA):TE:=λZ H Q=>t Z H λxs a=>xs.length<=sizeLine/\∀p,a p=Y->Q (.ref p) (l7 a p (.tup xs))
def Ou(t:TA):TE:=λZ H Q=>t Z H λxs a=>xs.length<=sizeLine/\∀p,a p=Y->Q (.ref p) (l7 a p (.lst xs))
def yC{x1}(h:PA X es t):PE X (.Tuple es x1 pos) (Ot t):=by intro B s Z H Q f l;refine wpAny_Tuple_spliced (j3 (h pos B s Z H _ f l) λy a ⟨xs,j,i,r,z,q⟩=>⟨by rw[<-r.length];exact z,?_⟩);have hf:j a.heap.objs.size=Y:=i.hok.fresh (jj _);refine⟨.ref a.heap.objs.size,l7 j a.heap.objs.size (.tup xs),i.laid (t':=a.toks) (λb u e=>mx _ e) (jj _) ?_,rfl,q _ hf⟩;exact⟨z,y,r,⟨_,wh _ rfl,rfl,⟨_,rfl⟩,rfl⟩⟩
def FV(h:PA X es t):PE X (.List es pos) (Ou t):=by intro B s Z H Q f l;refine wpAny_List_spliced (j3 (h pos B s Z H _ f l) λy a ⟨xs,j,i,r,z,q⟩=>⟨by rw[<-r.length];exact z,?_⟩);have hf:j a.heap.objs.size=Y:=i.hok.fresh (jj _);refine⟨.ref a.heap.objs.size,l7 j a.heap.objs.size (.lst xs),i.laid (t':=a.toks) (λb u e=>mx _ e) (jj _) ?_,rfl,q _ hf⟩;exact⟨z,y,0,r,wh _ rfl⟩
end
abbrev Sp:=List V->Hp->VK->XK->Prop
abbrev BG:=List Env->Hp->Shared->XK->Value->Shared->Prop
structure Ct(P:Program)(w:World)(K:h8)(mg:Si)(base:Heap)(A:Around)(outer:List Env)(s:Shared)(H:Hp):Prop where
 frames:A.frames=J outer
 mod:Mod K mg base
 bs:∀b o,base.get? b=J o->s.heap.get? b=J o/\H b=Y
 bsz:base.objs.size<=s.heap.objs.size
 funs:s.heap.FunFrames base outer
 frf:∀b∈x6 outer,H b=Y
 hok:HOk P w H s.heap
 bare:AllBare s.gens
 tree:P.given.tree=Y
inductive CE(outer:List Env)(P:Program)(w:World)(H:Hp)(s:Shared)(Q:VK)(u:Value)(s':Shared):Prop
 |mk(v:V)(H':Hp)(o:s'.os=s.os)(b:AllBare s'.gens)(n:Un (x6 outer) [] H H' s.heap s'.heap)(k:HOk P w H' s'.heap)(r:aL v u)(q:Q v H'):CE outer P w H s Q u s'
def CR(f:BG)(outer:List Env)(P:Program)(w:World)(H:Hp)(s:Shared)(Q:VK)(E:XK)(r:Result)(a:Shared):Prop :=
 match r with
 |.ok (.ret u)=>CE outer P w H s Q u a
 |.ok _=>False
 |.error e=>f outer H s E e a
structure FnOk(P:Program)(w:World)(K:h8)(mg:Si)(base:Heap)(CX:BG)(k:Nat)(f:Addr)(fd:FuncData)(ps:SQ)(sp:Sp):Prop where
 len:∀vs H Q E,sp vs H Q E->vs.length=ps.length
 run:∀(A:Around)(outer:List Env)(s:Shared)(H:Hp)(args:Args)(us:SA)(vs:List V)(Q:VK)(E:XK),Room k A->Ct P w K mg base A outer s H->BindsTo s fd args (ps.zip us)->aF vs us->sp vs H Q E ->
  codeAny (model P w) A (.call (.ref f) args) (CR CX outer P w H s Q E) s
def FnOk.mono{P:Program}{w:World}{K:h8}{mg:Si}{base:Heap}{u:BG}{j k:Nat}{f:Addr}{fd:FuncData}{l:SQ}{i:Sp}(F:FnOk P w K mg base u j f fd l i)(h:j<=k):
  FnOk P w K mg base u k f fd l i:=⟨F.len,λA outer s H a y B Q E z=>F.run A outer s H a y B Q E (z.mono h)⟩
def FnOk.imp{P:Program}{w:World}{K:h8}{mg:Si}{base:Heap}{y:BG}{k:Nat}{f:Addr}{fd:FuncData}{u:SQ}{l j:Sp}(F:FnOk P w K mg base y k f fd u l)(h:∀a H Q E,j a H Q E->l a H Q E):FnOk P w K mg base y k f fd u j :=
 ⟨λa H Q E q=>F.len a H Q E (h _ _ _ _ q),λA outer s H i z a Q E C B L hv G=>F.run A outer s H i z a Q E C B L hv (h _ _ _ _ G)⟩
section
variable{X:Cx}{KC:List (Addr × Obj)}{Z:St}{H:Hp}{s s':Shared}
def Inv.env0(a:Inv X KC Z H s):Ct X.prog X.w X.K X.mg X.base X.A X.stack s H :=
 ⟨a.ok.frames,a.ok.mod,a.bs,ql a.ok.bsz a.sz,a.stack,a.stkFree,a.hok,a.bare,a.ok.tree⟩
def Inv.after{Q:VK}{u:Value}(a:Inv X KC Z H s)(h:CE X.stack X.prog X.w H s Q u s'):EP X KC Z Q u s':=by obtain⟨v,i,os,bare,un,hok,r,q⟩:=h;obtain⟨j,g,d,t,f⟩:=s';obtain rfl:f=s.os:=os;exact⟨v,i,a.call (h':=j) (g':=g) (d':=d) (t':=t) (ch:=[]) un hok bare (λb z=>absurd z (by simp)),r,q⟩
end
def nt(K:h8)(fd:FuncData)(f:SQ)(i:SA):Prop :=
 ∀(s:Shared)(a:SA),K.In s.heap->(a++i).length=f.length->BindsTo s fd ⟨a,[]⟩ (f.zip (a++i))
def nt.all{K:h8}{fd:FuncData}{f:SQ}(h:∀a:SA,a.length=f.length->bindArgs fd ⟨a,[]⟩=pure (f.zip a)):nt K fd f []:=λs a _ hl=>by
 rw[IV]at hl ⊢;exact .of_eq (h a hl)
section
variable{X:Cx}{CX:BG}{k:Nat}{f C:Addr}{fd:FuncData}{ps:SQ}{sp:Sp}{dvs:List V}{ds:SA}{E:XK}{x m:Str}{p pos apos:Pos}{e o:Expr}{es:SH}{ta:TE}{t:TA}
end
section
variable{X:Cx}{CX:BG}{k:Nat}{f C:Addr}{fd:FuncData}{ps ks:SQ}{sp:Sp}{E:XK}{x m:Str}{p pos apos kpos:Pos}{e o:Expr}{es:SH}{kws:List Keyword}{te ta:TE}{t tk:TA}{nm:Option Str}{g:SA->SA->SA}{gV:List V->List V->List V}
end
structure p0(N P:SQ)(sc:Scope):Prop where
 kind:sc.kind=.function
 co:sc.isCoroutine=T
 gen:sc.isGenerator=T
 nd:N.Nodup
 pre:N.take P.length=P
 par:∀x∈P,sc.names.lookup x=J .local\/sc.names.lookup x=J .cell
 nofree:∀y∈sc.names,y.2≠.free
def qt{kindOf:Str->Option NameKind}{x:Str}:∀{binds:List (Str×Value)}{m:Si},(∀v,(x,v)∉binds)->bindL kindOf binds m x=m x
 |[],_,_=>rfl
 |(n,v)::r,m,h=>by
  unfold bindL;rw[qt λw hw=>h w (n_ _ hw)];split
  .have:x≠n:=by rintro rfl;exact h v Bq
   simp[this]
  .rfl
def pX{kindOf:Str->Option NameKind}{x:Str}:∀{binds:List (Str×Value)}{m:Si},(∀v,(x,v)∉binds)->bindC kindOf binds m x=m x
 |[],_,_=>rfl
 |(n,v)::r,m,h=>by
  unfold bindC;rw[pX λw hw=>h w (n_ _ hw)];split
  .rfl
  .have:x≠n:=by rintro rfl;exact h v Bq
   simp[this]
def pY{kindOf:Str->Option NameKind}{x:Str}{v:Value}:∀{P:SQ}{a:SA}{i:Nat}{m:Si},P.Nodup->P[i]?=J x->a[i]?=J v->kindOf x=J .local ->
  bindL kindOf (P.zip a) m x=J v
 |[],_,_,_,_,h,_,_=>by simp at h
 |_::_,[],_,_,_,_,h,_=>by simp at h
 |p::P,w::a,0,m,nd,f,j,l=>by
  simp at f j;subst f;subst j;show bindL kindOf ((p,w)::P.zip a) m p=_;unfold bindL;rw[qt λv hv=>(z_.mp nd).1 (MC hv).1,b_ l];simp
 |p::P,w::a,i+1,m,nd,f,j,l=>by
  show bindL kindOf ((p,w)::P.zip a) m x=_;unfold bindL;exact pY (i:=i) (z_.mp nd).2 (by simpa using f) (by simpa using j) l
def qu{kindOf:Str->Option NameKind}{x:Str}{v:Value}:∀{P:SQ}{a:SA}{i:Nat}{m:Si},P.Nodup->P[i]?=J x->a[i]?=J v->kindOf x≠J .local ->
  bindC kindOf (P.zip a) m x=J v
 |[],_,_,_,_,h,_,_=>by simp at h
 |_::_,[],_,_,_,_,h,_=>by simp at h
 |p::P,w::a,0,m,nd,f,j,l=>by
  simp at f j;subst f;subst j;show bindC kindOf ((p,w)::P.zip a) m p=_;unfold bindC;rw[pX λv hv=>(z_.mp nd).1 (MC hv).1,f_ l];simp
 |p::P,w::a,i+1,m,nd,f,j,l=>by
  show bindC kindOf ((p,w)::P.zip a) m x=_;unfold bindC;exact qu (i:=i) (z_.mp nd).2 (by simpa using f) (by simpa using j) l
def start(N:SQ)(a:List V):St:=a.map J++List.replicate (N.length-a.length) Y
def sT(u:BG)(P:Program)(w:World)(K:h8)(mg:Si)(base:Heap)(N:SQ)(i:Str)(a:Scope)(f:Addr)(l:Value)(A:Around)(outer:List Env)(s:Shared)(H:Hp)(E:XK):Cx where
 prog:=P
 w:=w
 K:=K
 mg:=mg
 base:=base
 A:=A.deeper (envOfC i a s.heap.objs.size f l)
 N:=N
 s₀:=s
 H₀:=H
 env:=envOfC i a s.heap.objs.size f l
 outer:=outer
 stack:=envOfC i a s.heap.objs.size f l::outer
 ex:=[]
 calm:=I
 fn:=λ_=>I
 pn:=[]
 xe:=λe y=>wpAny (model P w) (A.deeper (envOfC i a s.heap.objs.size f l)) (leaving (envOfC i a s.heap.objs.size f l) e) (λ_ j=>u outer H s E e j) (λz j=>u outer H s E z j) y
def sM{a:Scope}{n:Nat}{x:Str}(h:a.names.lookup x=J .cell):∃c,(cellsFrom n a.names []).lookup x=J c:=by have q:=PySem.W.cellsFrom_some a.names n [] (.inl h);exact Option.isSome_iff_exists.mp q
def yx{CX:BG}{P:Program}{w:World}{K:h8}{mg:Si}{base:Heap}{N L:SQ}{l:Str}{j:Scope}{f:Addr}{U:Value}{A:Around}{outer:List Env}{s Z:Shared}{H:Hp}{E:XK}{W:SA}{C:List V}(S:p0 N L j)(hd:A.handled=Y)(e0:Ct P w K mg base A outer s H)(hl:C.length=L.length)(r:aF C W)(x:InCallC s s.heap.objs.size (bindL (envOfC l j s.heap.objs.size f U).kindOf (L.zip W) λ_=>Y) (cellsFrom (s.heap.objs.size+1) j.names []) (bindC (envOfC l j s.heap.objs.size f U).kindOf (L.zip W) λ_=>Y) Z):
  Inv (sT CX P w K mg base N l j f U A outer s H E) [] (start N C) H Z:=by
 have ab:L.length<=N.length:=by have:=congrArg List.length S.pre;rw[Jz]at this;ext
 obtain⟨R,tk,rfl,X⟩:=x.done;have G:∀b:Addr,b∉(sT CX P w K mg base N l j f U A outer s H E).ex:=λb z=>absurd (show b∈([]:SX)from z) (by simp)
 refine⟨⟨e0.mod,S.kind,rfl,rfl,jj _,λy z c R B=>?_,λy F=>?_,λy c _ h=>?_,λ_=>hd,Around.frames_deeper e0.frames,.inr ⟨rfl,rfl⟩,λb z=>absurd z (G b),e0.bs,e0.bsz,λb _ _=>G b,λb z=>absurd z (G b),e0.funs,e0.frf,e0.tree,⟨_,_,rfl,S.gen,S.co,rfl,rfl⟩⟩,
  rfl,e0.bare,Un.kept X,⟨_,x.toInCall.ns,λi y v R B h3=>?_⟩,λy c h=>⟨_,x.cell y c h⟩,e0.hok.fresh (jj _),λy c h=>?_,λp M=>absurd (show p∈([]:SD)from M) (by simp),e0.hok.kept X,?_⟩
 .exact name_of_addr x.apart (PySem.mem_of_lookup R) (PySem.mem_of_lookup B)
 .have F:j.names.lookup y=J .cell\/j.names.lookup y=J .free:=F;rcases F with F|F
  .exact sM F
  .exact absurd rfl (S.nofree _ (PySem.mem_of_lookup F))
 .exact EF (x.above y c (PySem.mem_of_lookup h))
 .have Q:i<C.length:=by
   unfold start at B;by_cases Q:i<C.length
   .exact Q
   .rw[AR (by simpa using Q)]at B;rw[Fc]at B
    split at B<;>cases B
  have ha:C[i]?=J v:=by
   unfold start at B;rw[p_ (by simpa using Q),qb]at B
   cases e:C[i]? with
   |none=>rw[e]at B;cases B
   |some a=>rw[e]at B;cases B;rfl
  obtain⟨u,hu,rv⟩:=r.get ha;have M:L[i]?=J y:=by rw[<-S.pre,Mp (by ext)];exact R
  have O:L.Nodup:=by rw[<-S.pre];exact S.nd.sublist (NV _ _)
  refine⟨u,rv,?_⟩;rcases S.par y (Ap M)with k|k
  .exact .inl ⟨k,pY O M hu k⟩
  .obtain⟨c,e⟩:=sM (n:=s.heap.objs.size+1) k;refine .inr ⟨.inl k,c,e,?_⟩;have q:=x.cell y c e;rw[qu O M hu (by show j.names.lookup y≠_;rw[k];decide)]at q;exact q
 .exact e0.hok.fresh (EF (x.above y c (PySem.mem_of_lookup h)))
 .unfold start;show _=N.length;rw[Br,zx,Jr];ext
def J2{X:BG}{P:Program}{w:World}{K:h8}{mg:Si}{base:Heap}{k:Nat}{f:Addr}{F i:Str}{z:Arguments}{B:Sk}{a:Scope}{dV kV U pm l ct oc:Value}{an od:Option Addr}{ap:Array (SF)}{N Z:SQ}{sp:Sp}(lk:K.lookup f=J ⟨oc,od,.func (PySem.W.fnOf F i z B a dV kV U pm an l ct),ap⟩)(al:PySem.W.codeIn K l i=I)(S:p0 N Z a)(len:∀C H Q E,sp C H Q E->C.length=Z.length)(L:∀(A:Around)(outer:List Env)(s:Shared)(H:Hp)(C:List V)(Q:VK)(E:XK),Room k (A.deeper (envOfC i a s.heap.objs.size f l))->sp C H Q E ->
   ∃t,PSs (sT X P w K mg base N i a f l A outer s H E) B t/\t { nx:=λ_ G=>Q .non G,rt:=Q} (start N C) H):
  FnOk P w K mg base X (k+1) f (PySem.W.fnOf F i z B a dV kV U pm an l ct) Z sp:=by
 refine⟨len,λA outer s H ar us C Q E hr e0 hb r R=>?_⟩;have hl:=len _ _ _ _ R;have KX:K.In s.heap:=e0.mod.kin.keeps λb o e=>(e0.bs b o e).1;have ab:s.heap.NoLimit:=e0.mod.nolimit.keeps λb o e=>(e0.bs b o e).1;have M:∀y∈Z.zip us,a.names.lookup y.1=J .local\/(a.names.lookup y.1=J .cell/\((cellsFrom (s.heap.objs.size+1) a.names []).lookup y.1).isSome=I):=λ⟨n,v⟩ hy=>by
  rcases S.par n (MC hy).1 with q|q
  .exact .inl q
  .exact .inr ⟨q,PySem.W.cellsFrom_some _ _ _ (.inl q)⟩
 refine codeAny_call_function hr.depth (KX _ _ lk) rfl S.co S.gen rfl (PySem.W.codeRec_of KX al) (hb _ _ _ _ ?_);refine wpAny_newFunctionEnv_cells S.kind M λenv he s1 x=>?_;subst he;refine⟨ab.keeps x.toInCall.keep,codeAny_func ?_⟩;obtain⟨t,ht,hq⟩:=L A outer s H C Q E (hr.deeper _) R;have ai:Inv (sT X P w K mg base N i a f l A outer s H E) [] (start N C) H s1:=yx S hr.hd e0 hl r x;refine wpAny_mono (ht [] s1 (start N C) H _ ai hq) (λfl s' O=>?_) λe s' O=>O;have fin:∀{W:St}{G:Hp}{v:V}{u:Value},Inv (sT X P w K mg base N i a f l A outer s H E) [] W G s'->aL v u->Q v G->CE outer P w H s Q u s' :=
  λ{W G v u} j rv q=>⟨v,G,j.os,j.bare,j.base,j.hok,rv,q⟩
 cases fl with
 |ret u =>
  obtain⟨v,W,G,j,rv,q⟩:=O;exact fin j rv q
 |next =>
  obtain⟨W,G,j,q⟩:=O;exact fin (v:=V.non) (u:=Value.none) j rfl q
 |brk =>
  obtain⟨_,_,_,q⟩:=O;exact False.elim q
 |cont =>
  obtain⟨_,_,_,q⟩:=O;exact False.elim q
section
variable{X:Cx}{x:Str}{p pos:Pos}{e:Expr}{es:SH}{t:TA}{id T:String}{r:List V->Hp->VK->Prop}
def Ov(r:List V->Hp->VK->Prop)(t:TA):TE:=λZ H Q=>t Z H λf a=>r f a Q
def mD(O:cw X (.builtin id) r)(F:Gl X x)(z:X.mg x=Y)(hv:bootBuiltins x=J (.builtin id))(E:PA X (e::es) t)(C:x≠"__name__":=by decide)(f:(x==("__debug__":Str))=false:=by decide)(u:starEach (e::es) X.env=(false,eval e X.env)::starEach es X.env:=by rfl)(i:(backTo pos (starEach es X.env)).any (·.1)=false:=by rfl):PE X (.Call (.Name x p) (e::es) [] pos) (Ov r t):=by
 intro j s Z H Q a h;refine wpAny_Call_Name_kw (gK a F z hv ?_ C f);exact PyProof.Rows.callWith_builtin1 (j3 (E pos j s Z H _ a h) λl L ⟨B,P,G,y,M⟩=>O j L Z P B l Q G y M) u i
def pE(O:cw X (.type T) r)(F:Gl X x)(z:X.mg x=Y)(hv:bootBuiltins x=J (.type T))(E:PA X (e::es) t)(C:x≠"__name__":=by decide)(f:(x==("__debug__":Str))=false:=by decide)(u:starEach (e::es) X.env=(false,eval e X.env)::starEach es X.env:=by rfl)(i:(backTo pos (starEach es X.env)).any (·.1)=false:=by rfl):PE X (.Call (.Name x p) (e::es) [] pos) (Ov r t):=by
 intro j s Z H Q a h;refine wpAny_Call_Name_kw (gK a F z hv ?_ C f);exact PyProof.Rows.callWith_type1 (j3 (E pos j s Z H _ a h) λl L ⟨B,P,G,y,M⟩=>O j L Z P B l Q G y M) u i
end
end L2
namespace HT
open PyProof.Rows
section
open PySem.SeqAt
open PySem.AutoSeq1 (wpAny_loadPart')
open PySem.MeetsSeq PySem.MeetsSeq2 PySem.MeetsSeq3
end
section
variable{prog:Program}{w:World}{A:Around}{E:Sh}{s:Shared}
def Cu{t b:Addr}{i a:SA}{Q:Sh}(M:IsTup s.heap t i.toArray)(R:IsTup s.heap b a.toArray)(hv:i≠[])(O:a=[]->Q (.ref t) s)(P:a≠[]->Q (.ref s.heap.objs.size) { s with heap:=s.heap.push { cls:=.type "tuple",data:=.seq (i++a).toArray}})(B:i.length+a.length<=sizeLine):wpAny (model prog w) A (binaryOp .Add (.ref t) (.ref b)) Q E s:=by
 obtain⟨⟨cls,dd,H,G⟩,z,F,n,hd⟩:=id M;obtain⟨⟨C,j,data2,u⟩,f,y,L,l⟩:=id R;simp only at F hd y l;subst F hd y l;have e:i.toArray++a.toArray=(i++a).toArray:=by simp
 by_cases hw:a=[]
 .exact concat_meets ⟨_,z,rfl⟩ ⟨_,f,rfl⟩ noFill_tuple_add seq_tuple_add PySem.F.slot_tuple_add PySem.F.entry_tuple_add (PySem.F.args_tuple_add_2 _ _)
   (tuple_addW1 t b i.toArray a.toArray n L dd j G u (by simpa using hv) (by simp[hw])) ⟨z,f,O hw⟩
 .refine concat_meets ⟨_,z,rfl⟩ ⟨_,f,rfl⟩ noFill_tuple_add seq_tuple_add PySem.F.slot_tuple_add PySem.F.entry_tuple_add (PySem.F.args_tuple_add_2 _ _)
   (tuple_addW2 t b i.toArray a.toArray n L dd j G u (by simpa using hv) (by simpa using hw) (by rw[q7,q7];exact B)) ⟨z,f,?_⟩
  rw[e];exact P hw
def li(n d:Nat):SG->Nat
 |none=>d
 |some v=>if v<0 then(v+(n:Int)).toNat else min v.toNat n
def nc(n d:Nat):li n d Y=d:=rfl
def oI(n d k:Nat):li n d (J (k:Int))=min k n:=by show(if(k:Int)<0 then((k:Int)+(n:Int)).toNat else min (k:Int).toNat n)=min k n;rw[f_ (by ext),BK]
def FW(n d:Nat)(hd:d<=n)(o:SG):li n d o<=n:=by
 cases o with
 |none=>exact hd
 |some v =>
  show(if v<0 then(v+(n:Int)).toNat else min v.toNat n)<=n;by_cases hv:v<0
  .rw[b_ hv];ext
  .rw[f_ hv];exact Nat.min_le_right _ _
def uh(v:Int)(n d:Nat):(if v<0 then max (v+(n:Int)) 0 else min v (n:Int))=((li n d (J v):Nat):Int):=by
 show(if v<0 then max (v+(n:Int)) 0 else min v (n:Int))=(((if v<0 then(v+(n:Int)).toNat else min v.toNat n):Nat):Int);by_cases hv:v<0
 .simp only[b_ hv];ext
 .simp only[f_ hv];ext
def wp(lo a:SG)(n:Nat):Builtin.Slice.sliceAdjust lo a 1 (n:Int)=(((li n 0 lo:Nat):Int),((li n n a:Nat):Int)):=by
 have f:¬((1:Int)<0):=by ext
 unfold Builtin.Slice.sliceAdjust;simp only[f,if_false];refine Prod.ext ?_ ?_
 .cases lo with
  |none=>rfl
  |some v=>exact uh v n 0
 .cases a with
  |none=>rfl
  |some v=>exact uh v n n
def v8(i j:Nat):Builtin.Slice.slicePlaces (i:Int) (j:Int) 1=j-i:=by
 unfold Builtin.Slice.slicePlaces;have a:(1:Int)>0:=by ext
 simp only[a,if_true,Int.ediv_one]
 split<;>ext
def nG{v:Value}{o:SG}{Q:SG->Shared->Prop}(p:IsPart v o)(h:Q o s):wpAny (model prog w) A (Builtin.Slice.slicePartIndex v) Q E s:=by
 cases p with
 |none=>exact slicePart_none h
 |int i t=>exact slicePart_int h
def m9{l:Addr}{vl j:Value}{lo f:SG}{n:Nat}{Q:Int×Int×Nat->Shared->Prop}(z:s.heap.IsSliceOf l vl j .none)(y:IsPart vl lo)(u:IsPart j f)(h:Q (((li n 0 lo:Nat):Int),1,li n n f-li n 0 lo) s):wpAny (model prog w) A (Builtin.Slice.sliceApplied (.ref l) (pure (n:Int))) Q E s:=by
 obtain⟨os,a,B,i⟩:=id z;unfold Builtin.Slice.sliceApplied Builtin.Slice.sliceFields;refine hH (hH (wpAny_field a i (x:=vl) rfl (hH (wpAny_field a i (x:=j) rfl (hH (wpAny_field a i (x:=.none) rfl (ln ?_)))))));refine hH (slicePart_none ?_);show wpAny _ _ (if((1:Int)==0)=I then _ else _) _ _ s;rw[f_ (by decide)];refine hH (nG y (hH (nG u (hH (ln ?_)))));show wpAny _ _ (match Builtin.Slice.sliceAdjust lo f 1 (n:Int)with | (lo,f)=>pure (lo,(1:Int),Builtin.Slice.slicePlaces lo f 1)) _ _ s;rw[wp lo f n];show wpAny _ _ (pure (((li n 0 lo:Nat):Int),(1:Int),Builtin.Slice.slicePlaces ((li n 0 lo:Nat):Int) ((li n n f:Nat):Int) 1)) _ _ s;rw[v8];exact ln h
def Ag(xs:Array Value)(i k:Nat):((List.range k).filterMap λ(m:Nat)=>xs[((i:Int)+(m:Int)*1).toNat]?).toArray=((xs.toList.drop i).take k).toArray:=by
 have e:(λ(m:Nat)=>xs[((i:Int)+(m:Int)*1).toNat]?)=λm=>xs[i+m]?:=by
  funext m
  have:((i:Int)+(m:Int)*1).toNat=i+m:=by ext
  rw[this]
 rw[e]
 have:=pick_run xs i k
 rw[List.filterMap_map]at this;have e2:((λx=>xs[x]?)∘λx=>i+x)=λm=>xs[i+m]?:=rfl;rw[e2]at this;rw[this]
def lW{t j:Addr}{items:Array Value}{vl B:Value}{lo f:SG}{Q:Sh}(i:IsTup s.heap t items)(C:s.heap.IsSliceOf j vl B .none)(F:IsPart vl lo)(H:IsPart B f)(hw:¬(li items.size 0 lo=0/\li items.size items.size f=items.size))(h:Q (.ref s.heap.objs.size) { s with heap:=s.heap.push { cls:=.type "tuple",data:=.seq ((items.toList.drop (li items.size 0 lo)).take (li items.size items.size f-li items.size 0 lo)).toArray}})(L:items.size<=sizeLine):wpAny (model prog w) A (getItem (.ref t) (.ref j)) Q E s:=by
 have a:sizeOk (.seq ((items.toList.drop (li items.size 0 lo)).take (li items.size items.size f-li items.size 0 lo)).toArray):=by show((items.toList.drop (li items.size 0 lo)).take (li items.size items.size f-li items.size 0 lo)).toArray.size<=sizeLine;rw[q7,Jz,My,IR];ext
 have M:li items.size items.size f<=items.size:=FW _ _ (jj _) f;obtain⟨os,u,z,G⟩:=id C;have l:s.TypeIs (.ref j) "slice":=⟨os,u,z⟩;unfold getItem
 try with_reducible refine wpAny_holding ?_
 first | refine hH (ln ?_) | skip
 refine hH (wpAny_sequenceKey i.typeIs (by decide) ?_)
 refine hH (wpAny_callSpecial?_slot (name:=Str.ofString "__getitem__") i.typeIs PyProof.Rows.slot_tuple_getitem
  (wpAny_call_entry PyProof.Rows.slot_tuple_getitem i.typeIs entry_tuple_getitem ?_ (args_tuple_getitem _ _)))
 show wpAny _ _ (Builtin.Tuple.tupleItemsOf (.ref t) >>= _) _ _ s;refine hH (tupleItemsOf_ i ?_);refine hH (wpAny_typeOf l ?_);rw[b_ (by decide)];refine hH (m9 C F H ?_);have y:¬((((li items.size 0 lo:Nat):Int)==0&&(1:Int)==1&&(li items.size items.size f-li items.size 0 lo)==items.size)=I):=by intro q;rw[AZ,AZ]at q;have P:((li items.size 0 lo:Nat):Int)=0:=eq_of_beq q.1.1;have O:li items.size items.size f-li items.size 0 lo=items.size:=eq_of_beq q.2;exact hw ⟨by ext,by ext⟩
 show wpAny _ _ (if(((li items.size 0 lo:Nat):Int)==0&&(1:Int)==1&&(li items.size items.size f-li items.size 0 lo)==items.size)=I then _ else _) _ _ s;rw[f_ y,Ag]
 first
  |exact hH (m:=Builtin.Tuple.tupleExact _) (wpAny_newObj_type (ln ⟨_,rfl,ln h⟩) a)
  |exact hH (m:=Builtin.Tuple.tupleExact _) (wpAny_newObj_type (hH (ln (ln ⟨_,rfl,ln h⟩))) a)
  |exact hH (hH (m:=Builtin.Tuple.tupleExact _) (wpAny_newObj_type (ln (ln ⟨_,rfl,ln h⟩)) a))
  |exact hH (hH (m:=Builtin.Tuple.tupleExact _) (wpAny_newObj_type (ln ⟨_,rfl,ln h⟩) a))
end
end HT
namespace L2
open PySem.Spec PyProof.Rows
abbrev TO:=St->Hp->(SG->Hp->Prop)->Prop
def PO(X:Cx)(e:Option Expr)(t:TO):Prop :=
 ∀(a:SD)(s:Shared)(Z:St)(H:Hp)(Q:SG->Hp->Prop),Inv X a Z H s->t Z H Q ->
  wpAny (model X.prog X.w) X.A (evalPart e X.env) (λu i=>∃o f,Inv X a Z f i/\IsPart u o/\Q o f) X.xe s
def Cv:TO:=λ_ H Q=>Q Y H
def J3(t:TE):TO:=λZ H Q=>t Z H λx a=>∃i,x=.int i/\Q (J i) a
section
variable{X:Cx}{e:Expr}{te:TE}{lo hi:Option Expr}{tl th:TO}{pos p2:Pos}
def Cw:PO X Y Cv:=by intro f s Z H Q a h;rw[evalPart_none];exact ln ⟨Y,H,a,.none,h⟩
def Cy(h:PE X e te):PO X (J e) (J3 te):=by intro l s Z H Q a hw;rw[evalPart_some];refine j3 (h l s Z H _ a hw) λu B ⟨x,z,j,f,y⟩=>?_;obtain⟨i,rfl,q⟩:=y;obtain⟨t,rfl⟩:=f;exact⟨J i,z,j,.int i t,q⟩
def M2(X:Cx)(r:V->SG->SG->Hp->VK->Prop):Prop :=
 ∀(i:SD)(s:Shared)(Z:St)(H:Hp)(x:V)(v vl f:Value)(lo hi:SG)(j:Addr)(Q:VK),Inv X i Z H s->aL x v->s.heap.IsSliceOf j vl f .none->IsPart vl lo->IsPart f hi->r x lo hi H Q ->
  ∃a id,typeLookup (.type a) "__getitem__"=pure (J (.builtin id))/\s.TypeIs v a/\wpAny (model X.prog X.w) X.A (getItem v (.ref j)) (EP X i Z Q) X.xe s
def RZ(r:V->SG->SG->Hp->VK->Prop)(te:TE)(tl th:TO):TE:=λZ H Q=>te Z H λx a=>tl Z a λl i=>th Z i λu f=>r x l u f Q
def Ai{r:V->SG->SG->Hp->VK->Prop}(O:M2 X r)(L:PE X e te)(hl:PO X lo tl)(hu:PO X hi th):PE X (.Subscript e (.Slice lo hi Y p2) pos) (RZ r te tl th):=by intro f s Z H Q j h;refine Subscript_ (j3 (L f s Z H _ j h) λv s1 ⟨x,H1,W,R,q1⟩=>?_);refine wpAny_Slice (j3 (hl f s1 Z H1 _ W q1) λvl F ⟨l,H2,I2,z,U⟩=>j3 (hu f F Z H2 _ I2 U) λi a ⟨u,y,I3,M,G⟩=>?_);rw[evalPart_none];refine ln ?_;have P:Inv X f Z y { a with heap:=a.heap.push { cls:=.type "slice",data:=.fields #[vl,i,.none]}}:=I3.kept (t':=a.toks) λb ob q=>mx _ q;obtain⟨C,id,B,E,S⟩:=O f { a with heap:=a.heap.push { cls:=.type "slice",data:=.fields #[vl,i,.none]}} Z y x v vl i l u a.heap.objs.size Q P R (Heap.IsSliceOf.new ..) z M G;show wpAny (model X.prog X.w) X.A (subscriptTail e (.Slice lo hi Y p2) v (.ref a.heap.objs.size)) (EP X f Z Q) X.xe { a with heap:=a.heap.push { cls:=.type "slice",data:=.fields #[vl,i,.none]}};exact tail_any (ops:=[.ref a.heap.objs.size,v]) E B S (by with_unfolding_all rfl)
def ju(xs:List V)(lo hi:SG):List V:=(xs.drop (HT.li xs.length 0 lo)).take (HT.li xs.length xs.length hi-HT.li xs.length 0 lo)
def mj(xs:List V)(lo hi:SG):(ju xs lo hi).length<=xs.length:=by unfold ju;rw[Jz,My];ext
def Ow(K:h8):V->SG->SG->Hp->VK->Prop:=λx lo hi H Q=>∃a xs,x=.ref a/\SqT K H a xs /\
 ¬(HT.li xs.length 0 lo=0/\HT.li xs.length xs.length hi=xs.length)/\∀p,H p=Y->Q (.ref p) (l7 H p (.tup (ju xs lo hi)))
def FX:M2 X (Ow X.K):=by
 intro L s Z H x v vl G lo hi M Q i E C y z h;obtain⟨a,xs,rfl,B,hw,q⟩:=h;cases E;obtain⟨j,r,l,u⟩:=i.tuple B;have f:j.toArray.size=xs.length:=by rw[q7];exact r.length.symm
 refine⟨"tuple",_,PyProof.Rows.slot_tuple_getitem.lookup,l.typeIs,?_⟩;refine HT.lW l C y z (by rw[f];exact hw) ?_ (by rw[f];exact u);rw[f];refine⟨.ref s.heap.objs.size,_,i.laid (t':=s.toks) (o:=.tup (ju xs lo hi)) (λb F q=>mx _ q) (jj _) ?_,rfl,q _ (i.hok.fresh (jj _))⟩;exact⟨ql (mj xs lo hi) u,_,(r.drop (HT.li xs.length 0 lo)).take (HT.li xs.length xs.length hi-HT.li xs.length 0 lo),hG.new _ _⟩
def J4(K:h8):R2:=λx y H Q=>∃a b xs ys,x=.ref a/\y=.ref b/\SqT K H a xs/\SqT K H b ys/\xs≠[]/\xs.length+ys.length<=sizeLine /\
 (ys=[]->Q (.ref a) H)/\(ys≠[]->∀p,H p=Y->Q (.ref p) (l7 H p (.tup (xs++ys))))
def aF.nil_iff{xs:List V}{a:SA}(r:aF xs a):a=[]↔xs=[]:=by
 cases r with
 |nil=>simp
 |cons _ _=>simp
def Cz:OpR X (binaryOp .Add) (J4 X.K):=by intro U s Z H x y v u Q f P O h;obtain⟨a,b,xs,ys,rfl,rfl,G,R,F,B,M,L⟩:=h;cases P;cases O;obtain⟨C,j,E,_⟩:=f.tuple G;obtain⟨l,i,p2,_⟩:=f.tuple R;refine HT.Cu E p2 (λz=>F (j.nil_iff.mp z)) (λz=>⟨.ref a,H,f,rfl,M (i.nil_iff.mp z)⟩) (λz=>?_) (by rw[<-j.length,<-i.length];exact B);refine⟨.ref s.heap.objs.size,_,f.laid (t':=s.toks) (o:=.tup (xs++ys)) (λb S q=>mx _ q) (jj _) ?_,rfl,L (λw=>z (i.nil_iff.mpr w)) _ (f.hok.fresh (jj _))⟩;exact⟨by rw[Br];exact B,_,j.append i,hG.new _ _⟩
end
def vq(n:Nat)(i:Int):Option Nat:=if 0<=i then(if i<n then J i.toNat else Y)else if -(n:Int)<=i then J (i+n).toNat else Y
def n3{α:Type}(xs:List α)(i:Int):Option α:=(vq xs.length i).bind λj=>xs[j]?
def lA{n:Nat}{i:Int}{j:Nat}(h:vq n i=J j):seqIndex? i n=J j/\j<n /\ -(n:Int)<=i/\i<n:=by
 unfold vq at h;by_cases f:0<=i
 .rw[b_ f]at h;by_cases a:i<n
  .rw[b_ a]at h;have e:i.toNat=j:=Option.some.inj h;exact⟨by rw[seqIndex_of f a,e],by ext,by ext,a⟩
  .rw[f_ a]at h;cases h
 .rw[f_ f]at h;by_cases a:-(n:Int)<=i
  .rw[b_ a]at h;have e:(i+n).toNat=j:=Option.some.inj h;exact⟨by rw[seqIndex_neg (by ext) a,e],by ext,a,by ext⟩
  .rw[f_ a]at h;cases h
def pg{α:Type}{xs:List α}{i:Int}{v:α}(h:n3 xs i=J v):∃j,seqIndex? i xs.length=J j/\xs[j]?=J v/\j<xs.length /\ -(xs.length:Int)<=i/\i<xs.length:=by
 unfold n3 at h
 cases e:vq xs.length i with
 |none=>rw[e]at h;cases h
 |some j =>
  rw[e]at h;obtain⟨f,l,u,a⟩:=lA e;exact⟨j,f,h,l,u,a⟩
def cS{α:Type}{xs:List α}{j:Nat}{v:α}(h:xs[j]?=J v):n3 xs (j:Int)=J v:=by
 have a:j<xs.length:=(nw.mp h).1;have e:vq xs.length (j:Int)=J j:=by unfold vq;rw[b_ (by ext),b_ (by ext)];simp
 unfold n3;rw[e];exact h
def jo(b:Expr):Prop:=∀o i,subscripted b T o i=operate [o,i] (getItem o i)
def IxR(X:Cx)(r:R2):Prop :=
 ∀(f a:Expr)(i:SD)(s:Shared)(Z:St)(H:Hp)(x y:V)(v u:Value)(Q:VK),Inv X i Z H s->aL x v->aL y u->r x y H Q ->
  subscripted a T v u=operate [v,u] (getItem v u)->wpAny (model X.prog X.w) X.A (subscriptTail f a v u) (EP X i Z Q) X.xe s
def CA(X:Cx)(id:String)(r:V->List V->Hp->VK->Prop):Prop :=
 ∀(a:SD)(s:Shared)(Z:St)(H:Hp)(x:V)(xs:List V)(v:Value)(f:SA)(Q:VK),Inv X a Z H s->aL x v->aF xs f->r x xs H Q ->
  wpAny (model X.prog X.w) X.A (call (.builtin id) (v::f)) (EP X a Z Q) X.xe s
section
variable{X:Cx}{a b:Expr}{ta tb:TE}{pos:Pos}
def IxR.or{r E:R2}(h:IxR X r)(F:IxR X E):IxR X (λx y H Q=>r x y H Q\/E x y H Q):=by
 intro i f z s Z H x y v u Q j C B q l;rcases q with q|q
 .exact h i f z s Z H x y v u Q j C B q l
 .exact F i f z s Z H x y v u Q j C B q l
def J5{r:R2}(j:IxR X r)(z:PE X a ta)(L:PE X b tb)(l:jo b):PE X (.Subscript a b pos) (JR r ta tb):=by intro B s Z H Q f h;exact Subscript_ (FO z L f h λv u i x y E G F C q=>j a b B i Z E x y v u Q G F C q (l _ _))
def J6(K:h8):R2:=λx y H Q=>∃p xs i v,x=.ref p/\y=.int i/\SqL K H p xs/\n3 xs i=J v/\Q v H
def J7(K:h8):R2:=λx y H Q=>∃p xs i v,x=.ref p/\y=.int i/\SqT K H p xs/\n3 xs i=J v/\Q v H
def J8:R2:=λx y H Q=>∃z i c,x=.str z/\y=.int i/\z.length<=sizeLine/\n3 z.cps.toList i=J c/\Q (.str ⟨#[c]⟩) H
def CC:IxR X (J6 X.K):=by
 intro G E O s Z H x y v u Q f rx ry h M;obtain⟨p,xs,i,z,rfl,rfl,S,U,q⟩:=h;cases rx;obtain⟨t,rfl⟩:=ry;obtain⟨C,r,B,hz⟩:=f.list S;obtain⟨j,l,h2,h3,W,h5⟩:=pg U;obtain⟨w,L,rw'⟩:=r.get h2;have hl:=r.length;have hn:=iV;have fin:EP X O Z Q w s:=⟨z,H,f,rw',q⟩;by_cases P:0<=i
 .have F:i.toNat=j:=by
   rw[seqIndex_of P h5]at l;exact Option.some.inj l
  exact item_listR B.isList P (by ext) (by rw[F];simpa using L) fin M
 .have F:(i+(C.toArray.size:Int)).toNat=j:=by
   rw[seqIndex_neg (by ext) W]at l;rw[q7,<-hl];exact Option.some.inj l
  exact subscriptTail_builtinR (x:=w) B.isList.typeIs slot_list_getitem.lookup
   (wpAny_getItem_list_neg (Q:=λr R=>r=w/\EP X O Z Q r R) B.isList (by ext) (by rw[q7]<;>ext) (by ext) (by rw[F];simpa using L) ⟨rfl,fin⟩) M
def FY:IxR X (J7 X.K):=by
 intro B l E s Z H x y v u Q f U S h R;obtain⟨p,xs,i,z,rfl,rfl,M,O,q⟩:=h;cases U;obtain⟨t,rfl⟩:=S;obtain⟨F,r,C,hz⟩:=f.tuple M;obtain⟨j,L,W,h3,h4,h5⟩:=pg O;obtain⟨w,P,rw'⟩:=r.get W;have hl:=r.length;have hn:=iV;have fin:EP X E Z Q w s:=⟨z,H,f,rw',q⟩;exact subscriptTail_builtinR (x:=w) C.typeIs slot_tuple_getitem.lookup
  (getItem_tuple (j:=j) (Q:=λr G=>r=w/\EP X E Z Q r G) C (by ext) (by ext) (by rw[q7,<-hl];exact L) (by simpa using P) ⟨rfl,fin⟩) R
def FZ:IxR X J8:=by
 intro B f U s Z H x y v u Q l O M h G;obtain⟨z,i,c,rfl,rfl,S,E,q⟩:=h;obtain⟨t,rfl⟩:=O;obtain⟨W,rfl⟩:=M;obtain⟨j,C,P,h3,F,L⟩:=pg E;have hl:z.cps.toList.length=z.length:=by simp[Str.length]
 rw[hl]at C F L;have R:=iV
 exact tail_any (typeIs_str s z t) slot_str_getitem.lookup (getItem_str (c:=c) (by
  have e1:decide (i < -(2^63:Int))=T:=decide_eq_false (by ext);have e2:decide (i>=2^63)=T:=decide_eq_false (by ext)
  rw[e1,e2,Bool.or_false]) (by rw[C];simpa using P) ⟨.str ⟨#[c]⟩,H,l.tok _,⟨_,rfl⟩,q⟩) G
def R0(K:h8):R2:=λx y H Q=>J6 K x y H Q\/J7 K x y H Q\/J8 x y H Q
def F0:IxR X (R0 X.K):=CC.or (FY.or FZ)
def wB(f:SA)(n j:Nat)(u:Value):Obj.mapSeq (·.setIfInBounds j u) { cls:=.type "list",data:=.seq f.toArray n}={ cls:=.type "list",data:=.seq (f.set j u).toArray n}:=by simp[Obj.mapSeq]
def Inv.lst{j:SD}{Z:St}{H:Hp}{s:Shared}{p:Addr}{xs:List V}(i:Inv X j Z H s)(h:H p=J (.lst xs)):
  ∃(f:SA) (n:Nat),aF xs f/\s.heap.get? p=J { cls:=.type "list",data:=.seq f.toArray n}/\xs.length<=sizeLine:=by
 obtain⟨z,f,n,r,e⟩:=i.hok p _ h;exact⟨f,n,r,e,z⟩
def Inv.lstUpd{z:SD}{Z:St}{H:Hp}{s:Shared}{p:Addr}{xs ys:List V}{j i:SA}{n l:Nat}{f:Obj->Obj}(y:Inv X z Z H s)(h:H p=J (.lst xs))(B:s.heap.get? p=J { cls:=.type "list",data:=.seq j.toArray n})(hf:f { cls:=.type "list",data:=.seq j.toArray n}={ cls:=.type "list",data:=.seq i.toArray l})(r:aF ys i)(C:ys.length<=sizeLine)(t:Nat):
  Inv X z Z (l7 H p (.lst ys)) { s with heap:=s.heap.update p f,toks:=t}:=by
 have e:(s.heap.update p f).get? p=J { cls:=.type "list",data:=.seq i.toArray l}:=by rw[QW f B (by rw[hf]<;>rfl),hf]
 refine y.write (x:=p) (e:=p) (by rw[h];trivial) (.inl rfl) (λb u E q=>(QT _ _ (Ne.symm E)).trans q) ⟨_,e⟩ ?_;exact⟨C,i,l,r,e⟩
def J9:V->V->V->Hp->(Hp->Prop)->Prop:=λo i v H Q=>∃p xs k j,o=.ref p/\i=.int k/\H p=J (.lst xs)/\vq xs.length k=J j/\Q (l7 H p (.lst (xs.set j v)))
def zf:JM X J9:=by
 intro S s Z H o i v ov W u Q l U M O h;obtain⟨p,xs,k,j,rfl,rfl,C,P,q⟩:=h;cases U;obtain⟨t,rfl⟩:=M;obtain⟨f,n,r,z,R⟩:=l.lst C;obtain⟨y,h2,L,F⟩:=lA P;have hl:=r.length;have hn:=iV;have E:Inv X S Z (l7 H p (.lst (xs.set j v))) { s with heap:=s.heap.update p (Obj.mapSeq (·.setIfInBounds j u))} :=
  l.lstUpd C z (wB f n j u) (r.set O j) (by rw[N0];exact R) s.toks
 by_cases G:0<=k
 .have B:k.toNat=j:=by
   rw[seqIndex_of G F]at y;exact Option.some.inj y
  exact PySem.W.ki_setAt z G (by ext) (by rw[q7,<-hl];exact F) (by rw[B];exact⟨_,E,q⟩)
 .have B:(k+(f.toArray.size:Int)).toNat=j:=by
   rw[seqIndex_neg (by ext) L]at y;rw[q7,<-hl];exact Option.some.inj y
  exact PySem.W.ki_setBack z (by ext) (by rw[q7,<-hl];exact L) (by ext) (by rw[B];exact⟨_,E,q⟩)
def qW(lo f:SG)(n:Nat):(sliceBounds lo f Y n).1=((HT.li n 0 lo:Nat):Int)/\(sliceBounds lo f Y n).2.1=((HT.li n n f:Nat):Int)/\(sliceBounds lo f Y n).2.2=1:=by
 refine⟨?_,?_,rfl⟩
 .cases lo with
  |none=>simp[sliceBounds,HT.li]
  |some i =>
   simp only[sliceBounds,HT.li,Option.getD_none,show(1:Int)>0 by decide,if_true];by_cases h:i<0
   .simp only[h,if_true]<;>ext
   .simp only[h,if_false]<;>ext
 .cases f with
  |none=>simp[sliceBounds,HT.li]
  |some i =>
   simp only[sliceBounds,HT.li,Option.getD_none,show(1:Int)>0 by decide,if_true];by_cases h:i<0
   .simp only[h,if_true]<;>ext
   .simp only[h,if_false]<;>ext
def qH(f:SA)(lo i:SG):slicePick f.toArray lo i Y=((f.drop (HT.li f.length 0 lo)).take (HT.li f.length f.length i-HT.li f.length 0 lo)).toArray:=by obtain⟨j,l,u⟩:=qW lo i f.toArray.size;unfold slicePick;rw[j,l,u];simp only[sliceRange_one,pick_run,q7]<;>rfl
def Ox(K:h8):V->SG->SG->Hp->VK->Prop:=λx lo f H Q=>∃a xs,x=.ref a/\SqL K H a xs/\∀p,H p=Y->Q (.ref p) (l7 H p (.lst (ju xs lo f)))
def uC:M2 X (Ox X.K):=by intro M s Z H x v vl L lo j O Q f F E u z h;obtain⟨a,xs,rfl,B,q⟩:=h;cases F;obtain⟨y,r,l,C⟩:=f.list B;have i:=r.length;refine⟨"list",_,slot_list_getitem.lookup,l.isList.typeIs,?_⟩;refine wpAny_getItem_list_slice l.isList E u z .none (by simp) ?_ (by rw[q7]<;>ext);rw[qH,<-i];refine⟨.ref s.heap.objs.size,_,f.laid (t':=s.toks) (o:=.lst (ju xs lo j)) (λb G q=>mx _ q) (jj _) ?_,rfl,q _ (f.hok.fresh (jj _))⟩;exact⟨ql (mj xs lo j) C,_,0,(r.drop (HT.li xs.length 0 lo)).take (HT.li xs.length xs.length j-HT.li xs.length 0 lo),wh _ rfl⟩
def r9:cw X (.type "list") (λxs H Q=>∃p ys,xs=[.ref p]/\(SqL X.K H p ys\/SqT X.K H p ys)/\∀l,H l=Y->Q (.ref l) (l7 H l (.lst ys))):=by
 intro O s Z H xs R Q j r h;obtain⟨p,ys,rfl,B,q⟩:=h;obtain⟨u,rfl,P⟩:=f8 r;cases P;have fin:∀(f:SA),aF ys f->ys.length<=sizeLine->∀(i:Heap)(y:Nat),(∀b M,s.heap.get? b=J M->i.get? b=J M) ->
   i.get? s.heap.objs.size=J { cls:=.type "list",dict:=Y,data:=.seq f.toArray y,slots:=#[]}->EP X O Z Q (.ref s.heap.objs.size) { s with heap:=i}:=λf z E i y kp e =>
  ⟨.ref s.heap.objs.size,_,j.laid (t':=s.toks) kp (jj _) (show ObjOk X.prog X.w _ i _ (.lst ys) from⟨E,f,y,z,e⟩),rfl,q _ (j.hok.fresh (jj _))⟩
 rcases B with B|B
 .obtain⟨f,z,F,E⟩:=j.list B;have C:=z.length;obtain⟨o,G,L,n,hd⟩:=F.isList;exact call_list_seq p (.inl rfl) G L hd (λi y kp e=>fin f z E i y kp e) (by simp only[q7]<;>ext)
 .obtain⟨f,z,F,E⟩:=j.tuple B;have C:=z.length;obtain⟨o,G,L,n,hd⟩:=F;exact call_list_seq p (.inr rfl) G L hd (λi y kp e=>fin f z E i y kp e) (by simp only[q7]<;>ext)
def j5:cw X (.type "tuple") (λxs H Q=>∃p ys,xs=[.ref p]/\((SqL X.K H p ys/\∀l,H l=Y->Q (.ref l) (l7 H l (.tup ys)))\/(SqT X.K H p ys/\Q (.ref p) H))):=by
 intro G s Z H xs O Q f r h;obtain⟨p,ys,rfl,h⟩:=h;obtain⟨u,rfl,L⟩:=f8 r;cases L;rcases h with⟨z,q⟩|⟨z,q⟩
 .obtain⟨i,B,y,E⟩:=f.list z;have C:=B.length;refine call_tuple_list y.isList (λj kp=>?_) (by simp only[q7]<;>ext);have F:Inv X G Z H { s with heap:=j}:=f.kept (t':=s.toks) kp;have M:Inv X G Z (l7 H j.objs.size (.tup ys)) { s with heap:=j.push { cls:=.type "tuple",data:=.seq i.toArray}} :=
   F.laid (t':=s.toks) (λb o e=>mx _ e) (jj _) (show ObjOk X.prog X.w _ _ _ (.tup ys) from⟨E,i,B,hG.new _ _⟩)
  exact⟨.ref j.objs.size,_,M,rfl,q _ (F.hok.fresh (jj _))⟩
 .obtain⟨i,B,y,E⟩:=f.tuple z;exact call_tuple_same y ⟨.ref p,H,f,rfl,q⟩
def M3(K:h8)(f:String)(x:V)(H:Hp):Prop:=match x with
 |.str _=>f="str"
 |.int _=>f="int"
 |.ref p=>(f="list"/\∃xs,SqL K H p xs)\/(f="tuple"/\∃o,K.lookup p=J o/\o.cls=.type "tuple"/\o.dict=Y) \/
   (f="dict"/\((∃i,H p=J (.dK i))\/∃i,H p=J (.dT i)))\/(f="set"/\∃S n,H p=J (.set S n))
 |_=>False
def wP{F:SD}{Z:St}{H:Hp}{s:Shared}{l:String}{x:V}{v:Value}(f:Inv X F Z H s)(r:aL x v)(ty:M3 X.K l x H):
  s.TypeIs v l/\∀a,v=.ref a->∃y,s.heap.get? a=J y/\y.dict=Y:=by
 cases x with
 |str z =>
  obtain⟨t,rfl⟩:=r;cases(show l="str" from ty);exact⟨typeIs_str s z t,λ_ e=>nomatch e⟩
 |int i =>
  obtain⟨t,rfl⟩:=r;cases(show l="int" from ty);exact⟨typeIs_int s i t,λ_ e=>nomatch e⟩
 |ref p =>
  cases r;rcases ty with⟨rfl,xs,E⟩|⟨rfl,o,j,G,hd⟩|⟨rfl,j⟩|⟨rfl,S,n,j⟩
  .obtain⟨C,_,B,_⟩:=f.list E;refine⟨B.isList.typeIs,λa e=>?_⟩;cases e;obtain⟨o,n,e,c,hd,_⟩:=B;exact⟨o,e,hd⟩
  .refine⟨⟨o,f.kIn p o j,G⟩,λa e=>?_⟩;cases e;exact⟨o,f.kIn _ o j,hd⟩
  .have z:∃o,s.heap.get? p=J o/\o.ExactDict:=by
    rcases j with⟨u,j⟩|⟨u,j⟩
    .obtain⟨_,_,_,_,o,_,_,e,ex,_⟩:=f.hok p _ j;exact⟨o,e,ex⟩
    .obtain⟨_,_,_,_,o,_,_,e,ex,_⟩:=f.hok p _ j;exact⟨o,e,ex⟩
   obtain⟨o,e,ex⟩:=z;refine⟨⟨o,e,ex.1⟩,λa e2=>?_⟩;cases e2;exact⟨o,e,ex.2.1⟩
  .obtain⟨o,_,_,_,e,ex,_⟩:=f.hok p _ j;refine⟨⟨o,e,ex.1⟩,λa e2=>?_⟩;cases e2;exact⟨o,e,ex.2.1⟩
 |_=>exact False.elim ty
def Oy(K:h8)(f:String)(r:V->List V->Hp->VK->Prop)(to:TE):TE:=λZ H Q=>to Z H λx i=>M3 K f x i/\r x [] i Q
def R1(K:h8)(f:String)(r:V->List V->Hp->VK->Prop)(to:TE)(t:TA):TE:=λZ H Q=>to Z H λx i=>M3 K f x i/\t Z i λxs j=>r x xs j Q
variable{o e:Expr}{es:SH}{to:TE}{t:TA}{name:Str}{apos cpos:Pos}{T id:String}{r:V->List V->Hp->VK->Prop}
def F1(O:PlainAttrs T)(slot:Slot T name id)(j:typeOf (.builtin id)=pure (.type "method_descriptor"))(E:CA X id r)(B:PE X o to)(f:attributeBase o name X.env (eval o X.env)=eval o X.env:=by rfl)(i:(apos.endLine==cpos.line)=I:=by rfl):PE X (.Call (.Attribute o name apos) [] [] cpos) (Oy X.K T r to):=by
 intro z s Z H Q l h;refine wpAny_Call_method0_late f i (j3 (B z s Z H _ l h) λv F ⟨x,L,y,u,ty,G⟩=>?_);obtain⟨C,M⟩:=wP y u ty;exact⟨T,id,O,slot,j,C,M,Calls.callWith_builtin rfl (PySem.evalArgs_none (E z F Z L x [] v [] Q y u .nil G))⟩
def J_(O:PlainAttrs T)(slot:Slot T name id)(y:typeOf (.builtin id)=pure (.type "method_descriptor"))(R:CA X id r)(F:PE X o to)(U:PA X (e::es) t)(i:attributeBase o name X.env (eval o X.env)=eval o X.env:=by rfl)(l:((backTo cpos (starEach (e::es) X.env)).all (λx=>!x.1)&&(backToKw cpos (keywordEach [] X.env)).all (λx=>x.1.isSome)
   && decide ((e::es).length+([]:List Keyword).length+(if([]:List Keyword).isEmpty then 0 else 1)<30))=I:=by rfl)(j:(apos.endLine==cpos.line)=I:=by rfl)(S:starEach (e::es) X.env=(false,eval e X.env)::starEach es X.env:=by rfl)(f:(backTo cpos (starEach es X.env)).any (·.1)=false:=by rfl):
  PE X (.Call (.Attribute o name apos) (e::es) [] cpos) (R1 X.K T r to t):=by
 intro u s Z H Q z h;refine wpAny_Call_method_late i l j rfl (j3 (F u s Z H _ z h) λv s1 ⟨x,H1,E,C,ty,q1⟩=>?_);obtain⟨L,h2⟩:=wP E C ty;refine⟨T,id,O,slot,y,L,h2,?_⟩;have B:=U cpos u s1 Z H1 _ E q1;rw[S]at B ⊢;refine Calls.callWith_builtin (by show(false||(backTo cpos (starEach es X.env)).any (·.1))=false;rw[f]<;>rfl) (Calls.evalArgs_plain ?_);exact j3 B λM G ⟨P,H2,I2,r2,W⟩=>R u G Z H2 x P v M Q I2 C r2 W
end
def Oz(X:Cx)(id:String)(r:V->List V->Hp->VK->Prop):Prop :=
 ∀(a:SD)(s:Shared)(Z:St)(H:Hp)(x:V)(xs:List V)(v:Value)(f:SA)(Q:VK),Inv X a Z H s->aL x v->aF xs f->r x xs H Q ->
  wpAny (model X.prog X.w) X.A (call (.builtin id) (v::f)) (EP X a Z Q) X.xe s
def aF.zero{a:SA}(h:aF [] a):a=[]:=by cases h;rfl
def aF.one{x:V}{a:SA}(h:aF [x] a):∃u,a=[u]/\aL x u:=by cases h with|cons r t=>exact⟨_,by rw[aF.zero t],r⟩
def aF.reverse{xs:List V}{a:SA}(h:aF xs a):aF xs.reverse a.reverse:=by
 induction h with
 |nil=>exact .nil
 |cons r t f=>rw[Mt,Mt];exact aF.append f (.cons r .nil)
def aF.rep{xs:List V}{a:SA}(h:aF xs a):∀k:Nat,aF (List.replicate k xs).flatten (List.replicate k a).flatten
 |0=>.nil
 |k+1=>by
  rw[Bp,Bp,Ez,Ez];exact aF.append h (aF.rep h k)
def qq(f:SA):∀(k:Nat)(a:SA),
  List.foldl (λi j=>i++j) a.toArray (List.replicate k f.toArray)=(a++(List.replicate k f).flatten).toArray
 |0,a=>by simp
 |k+1,a=>by
  have e:a.toArray++f.toArray=(a++f).toArray:=by simp
  have e2:(a++f)++(List.replicate k f).flatten=a++(List.replicate (k+1) f).flatten:=by rw[Bp,Ez,Cd]
  rw[<-e2,<-qq f k (a++f),<-e,Bp,List.foldl_cons]
section
variable{X:Cx}{KC:List (Addr × Obj)}{Z:St}{H:Hp}{s:Shared}{l b:Addr}{xs ys zs:List V}
def Inv.lset{a its':SA}{n:Nat}{f:Array Value->Array Value}{z:Nat}(i:Inv X KC Z H s)(y:H l=J (.lst xs))(e:s.heap.get? l=J { cls:=.type "list",data:=.seq a.toArray n})(hf:f a.toArray=its'.toArray)(hv:aF ys its')(B:ys.length<=sizeLine):
  Inv X KC Z (l7 H l (.lst ys)) { s with heap:=s.heap.update l (Obj.mapSeq f),toks:=z}:=by
 have q:=PySem.IsL.update e f;rw[hf]at q;refine i.write (x:=l) (e:=l) (by rw[y];exact trivial) (.inl rfl) (λE u C j=>(QT s.heap (Obj.mapSeq f) (Ne.symm C)).trans j) ⟨_,q⟩ ?_;exact⟨B,its',_,hv,q⟩
def Inv.lnew{its:SA}{t':Nat}(a:Inv X KC Z H s)(hv:aF ys its)(f:ys.length<=sizeLine):
  Inv X KC Z (l7 H s.heap.objs.size (.lst ys)) { s with heap:=s.heap.push { cls:=.type "list",data:=.seq its.toArray},toks:=t'} :=
 a.laid (λ_ _ q=>mx _ q) (jj _) ⟨f,its,0,hv,wh _ rfl⟩
def Inv.fresh(a:Inv X KC Z H s):H s.heap.objs.size=Y:=a.hok.fresh (jj _)
def Inv.lstM(f:Inv X KC Z H s)(i:H l=J (.lst xs)):xs.length<=sizeLine/\∃(a:SA) (n:Nat),aF xs a/\xs.length=a.length/\s.heap.get? l=J { cls:=.type "list",data:=.seq a.toArray n}:=by obtain⟨z,a,n,r,e⟩:=f.hok l _ i;exact⟨z,a,n,r,r.length,e⟩
def mV{n:Nat}(h:n<=sizeLine):Builtin.List.listTooLong n=T:=by unfold Builtin.List.listTooLong;exact decide_eq_false (by ext)
end
section
variable{X:Cx}
def CD:V->List V->Hp->VK->Prop:=λx a H Q=>∃l xs y,x=.ref l/\a=[y]/\H l=J (.lst xs)/\xs.length<sizeLine/\Q .non (l7 H l (.lst (xs++[y])))
def qf:Oz X "list.append" CD:=by intro M s Z H x G v E Q f C B h;obtain⟨l,xs,y,rfl,rfl,i,L,q⟩:=h;cases C;obtain⟨u,rfl,j⟩:=B.one;obtain⟨z,a,n,r,hl,e⟩:=f.lstM i;refine call_meets F.slot_list_append ⟨_,e,rfl⟩ F.entry_list_append (F.args_list_append_2 _ _) (PySem.list_append l a.toArray n u (by rw[q7];ext)) ⟨e,?_⟩;refine⟨.non,_,f.lset (its':=a++[u]) i e (by simp) (r.append (.cons j .nil)) ?_,rfl,q⟩;rw[Br,List.length_singleton];ext
def CF:V->List V->Hp->VK->Prop:=λx f H Q=>∃l b xs a,x=.ref l/\f=[.ref b]/\H l=J (.lst xs)/\H b=J (.lst a)/\xs.length+a.length<=sizeLine/\Q .non (l7 H l (.lst (xs++a)))
def xc:Oz X "list.extend" CF:=by
 intro W s Z H x S v R Q j P G h;obtain⟨l,b,xs,zs,rfl,rfl,B,E,U,q⟩:=h;cases P;obtain⟨u,rfl,C⟩:=G.one;cases C;obtain⟨z,f,n,r,hl,e⟩:=j.lstM B;obtain⟨z2,a,O,M,L,e2⟩:=j.lstM E;have y:f.toArray.size+a.toArray.size<=sizeLine:=by rw[q7,q7];ext
 have i:¬(!f.toArray.isEmpty&&Builtin.List.listTooLong (f.toArray.size+a.toArray.size))=I:=by rw[mV y,Bool.and_false];exact Fg
 refine call_meets F.slot_list_extend ⟨_,e,rfl⟩ F.entry_list_extend (F.args_list_extend_2 _ _)
  (AutoSeq1.list_extend_list_list_0 l f.toArray n b a.toArray O i (by rw[q7];ext) (by ext)) ⟨e,e2,?_⟩
 refine⟨.non,_,j.lset (its':=f++a) B e (by simp) (r.append M) ?_,rfl,q⟩;rw[Br];ext
def BM:V->List V->Hp->VK->Prop:=λx a H Q=>∃l xs,x=.ref l/\a=[]/\H l=J (.lst xs)/\Q .non (l7 H l (.lst xs.reverse))
def wA:Oz X "list.reverse" BM:=by intro E s Z H x C v B Q f y u h;obtain⟨l,xs,rfl,rfl,j,q⟩:=h;cases y;have i:=u.zero;subst i;obtain⟨z,a,n,r,hl,e⟩:=f.lstM j;refine call_meets F.slot_list_reverse ⟨_,e,rfl⟩ F.entry_list_reverse (F.args_list_reverse_1 _) (AutoSeq1.list_reverse_list_0 l a.toArray n (by rw[q7];ext)) ⟨e,?_⟩;refine⟨.non,_,f.lset (its':=a.reverse) j e (by simp) r.reverse ?_,rfl,q⟩;rw[List.length_reverse];ext
def OA:R2:=λx y H Q=>∃l b xs a,x=.ref l/\y=.ref b/\H l=J (.lst xs)/\H b=J (.lst a)/\xs.length+a.length<=sizeLine/\∀p,H p=Y->Q (.ref p) (l7 H p (.lst (xs++a)))
def F2:OpR X (binaryOp .Add) OA:=by
 intro O s Z H x y v u Q a L G h;obtain⟨l,b,xs,P,rfl,rfl,E,j,M,q⟩:=h;cases L;cases G;obtain⟨z,i,n,r,hl,e⟩:=a.lstM E;obtain⟨R,f,S,F,C,e2⟩:=a.lstM j;refine PySem.P.add_list e e2 ?_ (by rw[q7,q7];ext);have B:i.toArray++f.toArray=(i++f).toArray:=by simp
 rw[B];exact⟨.ref _,_,a.lnew (t':=s.toks) (r.append F) (by rw[Br];ext),rfl,q _ a.fresh⟩
def OB:R2:=λx y H Q=>∃l k xs,x=.ref l/\y=.int k/\H l=J (.lst xs) /\ -(2^63)<=k/\k<2^63/\xs.length*k.toNat<=sizeLine /\
 ∀p,H p=Y->Q (.ref p) (l7 H p (.lst (List.replicate k.toNat xs).flatten))
def uM{α:Type}(xs:List α)(k:Nat):(List.replicate k xs).flatten.length=k*xs.length:=by
 induction k with
 |zero=>simp
 |succ k a=>rw[Bp,Ez,Br,a,Nat.succ_mul,Nat.add_comm]
def F3:OpR X (binaryOp .Mult) OB:=by
 intro KC s Z H x y v u Q j rx ry h;obtain⟨l,k,xs,rfl,rfl,W,R,h2,O,q⟩:=h;cases rx;obtain⟨t,rfl⟩:=ry;obtain⟨z,f,n,r,hl,e⟩:=j.lstM W;have C:f.toArray.size*k.toNat<=sizeLine:=by rw[q7,<-hl];exact O
 have E:¬f.toArray.size*k.toNat>(2^63-1)/8:=by
  have:(sizeLine:Nat)<=(2^63-1)/8:=by decide
  ext
 have G:¬(!Builtin.List.listFitsIndex k)=I:=by rw[fitsIndex_both R h2];exact Fg
 have i:¬Builtin.List.listTooLong (f.toArray.size*k.toNat)=I:=by rw[mV C];exact Fg
 have B:List.foldl (λL M=>L++M) #[] (List.replicate (if f.toArray.isEmpty=I then 0 else k.toNat) f.toArray)=(List.replicate k.toNat f).flatten.toArray:=by
  have S:∀m:Nat,List.foldl (λL M=>L++M) #[] (List.replicate m f.toArray)=(List.replicate m f).flatten.toArray:=λm=>by
   have:=qq f m []
   rw[MD]at this;exact this
  rw[S]
  cases f with
  |nil=>simp
  |cons a r'=>rw[f_ (by simp)]
 refine wpAny_binaryOp_repeat_ref (T:="list") (U:="int") (by decide) ⟨_,e,rfl⟩ (λP=>typeIs_int P k t) noFill_list_mul F.fills_int_mul F.slot_int_rmul repeat_list F.slot_int_index.lookup
  (call_meets F.slot_int_rmul (typeIs_int s k t) F.entry_int_rmul (F.args_int_rmul_2 _ _) (int___rmul___int_list k t l f.toArray n)
   ⟨e,rfl,⟨_,e,rfl⟩,call_meets F.slot_list_mul ⟨_,e,rfl⟩ F.entry_list_mul (F.args_list_mul_2 _ _) (AutoListH.list___mul___list_int_3 l f.toArray n k t G E i) ⟨e,?_⟩⟩)
 rw[B];exact⟨.ref _,_,j.lnew (t':=s.toks) (r.rep k.toNat) (by rw[uM,Nat.mul_comm];exact O),rfl,q _ j.fresh⟩
end
section
variable{prog:Program}{w:World}{A:Around}{E:Sh}{s:Shared}
end
section
variable{X:Cx}
end
end L2
namespace Att
open PySem.W PySem.Calls PyProof.Rows
def nH{P:Params}{h:Heap}:∀(ns:SS)(f:SA),WellAll P h f (ns.map WData.int)->IntsAre f ns:=by
 intro ns
 induction ns with
 |nil =>
  intro f w;rw[Fk]at w;cases w;exact .nil
 |cons n ns i =>
  intro f w;rw[n8]at w
  cases w with
  |cons a b =>
   cases a;exact .cons _ _ (i _ b)
def yE{l:OpenLaw}{n:Nat}(M:l.most=J n){P:Params}{h:Heap}{f:List WData}{j:SA}(i:l.row.toRowW.claim.pre f=I)(E:WellAll P h j f):
  ∃a F ns,j=[Value.ref a]/\f=[WData.list (ns.map WData.int)]/\h.get? a=J { cls:=.type "list",data:=.seq F.toArray}/\IntsAre F ns/\ns.length<=n:=by
 have C:WShape.hasAll [] f [.list .int]=I:=(pre_splitW i).1;have G:l.pre.holds [] { args:=f}=I:=(pre_splitW i).2;obtain⟨d,r,rfl,L,S⟩:=hasAllW_cons C;obtain rfl:=hasAllW_nil S;obtain⟨xs,rfl,U⟩:=hasW_list L;obtain⟨ns,rfl⟩:=items_int U;have u:ns.length<=n:=by
  unfold OpenLaw.pre at G;have z:(WTm.not (.lt (.lit (.int (n:Int))) (.len (.arg 0)))).holds [] { args:=[.list (ns.map .int)]}=I:=by have z:=(holds_andW G).1;rw[M]at z;exact z
  have B:=condW_of z (w_not (w_lt w_lit (w_len_list (w_arg rfl))));rw[zx]at B;refine Nat.le_of_not_lt λq=>?_;have Q:(n:Int)<((ns.length:Nat):Int):=by ext
  first
   |(rw[decide_eq_true Q]at B;exact absurd B (by decide))
   |(simp at B;ext)
 cases E with
 |cons R O =>
  cases O
  cases R with
  |list H y=>exact⟨_,_,ns,rfl,rfl,H,nH ns _ y,u⟩
def yj(l:OpenLaw)(a:List WData):l.row.toRowW.claim.post a (.bool I) a=I :=
 postW_of (r:=l.row.toRowW) (X:=(I==I))
  (show WShape.has [] (.bool I) .bool=I by first | rfl | decide | simp[WShape.has,WShape.arms,WShape.armsAll])
  (show(WTm.eq .res (.lit (.bool I))).value [] { args:=a,res:=J (.bool I),after:=a}=J (.bool (I==I))from w_eq_bool (w_res rfl) w_lit) rfl
def tZ{l:OpenLaw}{n:Nat}{q:Program}{loose:SQ}{XP:(Str->SF)->Heap->Prop}{W:World->Heap->Prop}{d:DefRec}(hn:l.most=J n)(R:d.params.defaults=[])(call:∀(w:World)(s₀ i:Shared)(mg Q:Si)(E:Addr)(o:Obj)(pm H j:Value)(a:Addr)(y:SA)(ns:SS),
   Ground q loose [] XP w s₀ mg Q i.heap->W w i.heap ->
   i.heap.get? E=J o->o.data=.func (docDef d.name d.params d.body d.scope pm H j)->i.heap.CodeRec H d.name->mg d.name=J (.ref E) ->
   i.heap.get? a=J { cls:=.type "list",data:=.seq y.toArray}->IntsAre y ns->ns.length<=n->i.gens=#[] ->
   codeAny (model l.prog w) callerA (.call (.ref E) ⟨[.ref a],[]⟩) (λr F=>r=.ok (.ret (.bool I))/\OldK i.heap F.heap/\F.os=i.os/\AllBare F.gens) i):
  WalkO q loose XP W l.row.toRowW d [] (λf y=>PySem.call f y):=by
 intro w s₀ i mg Q G M E o pm H j dV kV ho hd P U L hg S Z as B X ai O ab;obtain rfl:dV=.none:=Dflts.none U R;obtain rfl:kV=.none:=Dflts.noKw U;obtain⟨a,y,ns,rfl,rfl,z,u,C⟩:=yE hn B O;refine enter_call (codeAny_mono (call w s₀ i mg Q E o pm H j a y ns G M ho (fd_plain hd) P L z u C hg) λr F hq=>?_);obtain⟨rfl,h2,h3,h4⟩:=hq;exact⟨.inl ⟨.bool I,.bool I,[],rfl,λ_=>rfl,.bool I,yj l _,λ_=>⟨List.Pairwise.nil,λ_ hm=>(nomatch hm)⟩⟩,h2,h3,h4⟩
section
variable{prog:Program}{w:World}{A:Around}{E:Sh}{s:Shared}{K:Frag}
end
end Att
namespace L2
open PySem.Spec PyProof.Rows
def pI:∀{a:SA}{ns:SS},IntsAre a ns->aF (ns.map V.int) a
 |_,_,.nil=>.nil
 |_,_,.cons n t h=>.cons ⟨t,rfl⟩ (pI h)
def F4(H:Hp):Prop:=∀b,H b=Y\/∃o xs,H b=J (.frz o (.lst xs))
def zU{P:Program}{w:World}{K:h8}{mg mb:Si}{CX:BG}{k:Nat}{fa a:Addr}{fd:FuncData}{x:Str}{sp:Sp}{f:Shared}{M:SA}{ns:SS}(KX:K.In f.heap)(ab:f.heap.Ns mainGlobals mg)(l:f.heap.Ns builtinsNs mb)(as:∀x:Str,x≠"__name__"->mb x=bootBuiltins x)(ai:f.heap.NoLimit)(E:f.heap.NoSeer)(ar:P.given.tree=Y)(hg:f.gens=#[])(U:f.heap.get? a=J { cls:=.type "list",data:=.seq M.toArray})(hi:IntsAre M ns)(hl:ns.length<=sizeLine)(hr:Room k callerA)(F:∀base:Heap,K.In base->base.Ns mainGlobals mg->FnOk P w K mg base CX k fa fd [x] sp)(O:∀(s:Shared) (u:Value),BindsTo s fd ⟨[u],[]⟩ [(x,u)])(ax:∀H:Hp,F4 H->SqL K H a (ns.map V.int)->sp [.ref a] H (λv _=>v=.bl I) λ_ _ _=>False)(ap:∀H e y,CX [] H f (λ_ _ _=>False) e y->False):
  codeAny (model P w) callerA (.call (.ref fa) ⟨[.ref a],[]⟩) (λr y=>r=.ok (.ret (.bool I))/\OldK f.heap y.heap/\y.os=f.os/\AllBare y.gens) f:=by
 have rv:=pI hi;have W:=hi.length;have L:∀H:Hp,F4 H->SqL K H a (ns.map V.int)->HOk P w H f.heap->(∀b,H b≠Y->b=a)->(H a≠Y->K.lookup a=Y) ->
   codeAny (model P w) callerA (.call (.ref fa) ⟨[.ref a],[]⟩) (λr y=>r=.ok (.ret (.bool I))/\OldK f.heap y.heap/\y.os=f.os/\AllBare y.gens) f:=by
  intro H hO hS hok hA hK;have i:∀{b:Addr}{o:Obj},f.heap.get? b=J o->H b=Y->(jG f.heap H).get? b=J o:=λe n=>zv e n;have an:∀{b:Addr}{o:Obj}{Q:Array DictEntry}{R:Nat},f.heap.get? b=J o->o.data=.dict Q R->H b=Y:=λ{b o Q R} e d=>by
   cases q:H b with
   |none=>rfl
   |some u =>
    have X:b=a:=hA b (by rw[q];simp);subst X;rw[U]at e;cases e;have d':Data.seq M.toArray _=Data.dict Q R:=d;cases d'
  have j:∀{b:Addr}{m:Si},f.heap.Ns b m->(jG f.heap H).Ns b m:=λ{b m} ⟨o,Q,R,e,d,r⟩=>⟨o,Q,R,i e (an e d),d,r⟩
  have Z:K.In (jG f.heap H):=λb o e=>i (KX b o e) (by
   cases q:H b with
   |none=>rfl
   |some u =>
    have X:b=a:=hA b (by rw[q];simp);subst X
    rw[hK (by rw[q];simp)]at e;cases e)
  have hM:Mod K mg (jG f.heap H):=⟨Z,j ab,⟨mb,j l,as⟩,let ⟨B,C,G⟩:=ai;⟨B,j C,G⟩,let ⟨B,C,G⟩:=E.statics;⟨B,j C,G⟩,let ⟨B,C,G⟩:=E.mods;⟨B,j C,G⟩,let ⟨B,C,G⟩:=E.imp;⟨B,j C,G⟩,let ⟨B,bm,ob,C,G,h3,h4,h5⟩:=E.main;⟨B,bm,ob,j C,G,i h3 (by
   cases q:H bm with
   |none=>rfl
   |some u =>
    have X:bm=a:=hA bm (by rw[q];simp);subst X;rw[U]at h3;cases h3
    exact absurd (show Value.type "list"=Value.type "module" from h4) (by decide)),h4,h5⟩⟩
  have e0:Ct P w K mg (jG f.heap H) callerA [] f H:=⟨rfl,hM,λb o e=>Ce e,Nat.le_of_eq (xK _ _),trivial,λb l=>absurd (show b∈([]:SX)from l) (by simp),hok,.of_eq hg,ar⟩;refine codeAny_mono ((F _ Z (j ab)).run callerA [] f H ⟨[.ref a],[]⟩ [.ref a] [.ref a] _ _ hr e0 (O f (.ref a)) (.cons rfl .nil) (ax H hO hS)) λr y h=>?_
  cases r with
  |error e=>exact(ap H e y h).elim
  |ok fl =>
   cases fl with
   |next=>exact False.elim h
   |brk=>exact False.elim h
   |cont=>exact False.elim h
   |ret u =>
    obtain⟨v,H',os,bare,un,al,r',q⟩:=h;have q':v=.bl I:=q;subst q';obtain rfl:u=Value.bool I:=r';refine⟨rfl,OldK.of_keep λb o e=>?_,os,bare⟩
    cases q:H b with
    |none=>exact un.keep b o e q (by intro z;exact absurd (show b∈([]:SX)from z) (by simp)) (by simp)
    |some u =>
     rcases hO b with z|⟨ob,xs,z⟩
     .rw[q]at z;cases z
     .have z2:=un.frzs b ob _ z;obtain⟨e1,_⟩:=hok b _ z;obtain⟨e2,_⟩:=al b _ z2;rw[e]at e1;cases e1;exact e2
 cases hk:K.lookup a with
 |some o =>
  have e:=KX a o hk;rw[U]at e;cases e;refine L (λ_=>Y) (λ_=>.inl rfl) (.inr ⟨_,M.toArray,_,hk,rfl,rfl,rfl,by rw[q7,W];exact hl,by simpa using rv⟩) (λb u z=>by have S:(Y:Option HO)=J u:=z;cases S) (λb z=>absurd rfl z) λz=>absurd rfl z
 |none =>
  refine L (λb=>if b=a then J (.frz { cls:=.type "list",data:=.seq M.toArray} (.lst (ns.map V.int)))else Y) (λb=>?_) (.inl (.inr ⟨{ cls:=.type "list",data:=.seq M.toArray},b_ rfl⟩)) (λb u z=>?_) (λb z=>?_) λ_=>hk
  .by_cases l:b=a
   .exact .inr ⟨_,_,b_ l⟩
   .exact .inl (f_ l)
  .by_cases l:b=a
   .have S:=(b_ l).symm.trans z;cases S;subst l;exact⟨U,by rw[zx];exact hl,M,_,rv,U⟩
   .have S:=(f_ l).symm.trans z;cases S
  .by_cases l:b=a
   .exact l
   .exact absurd (f_ l) z
abbrev oh{K:h8}{h:Heap}(_:K.In h):h8:=K
def CG{l:PySem.W.OpenLaw}{n k:Nat}{q:Program}{loose:SQ}{XP:(Str->SF)->Heap->Prop}{S:World->Heap->Prop}{d:DefRec}{K:Params->h8}{CX:World->BG}{sp:World->Sp}{x:Str}(hn:l.most=J n)(Q:n<=sizeLine)(R:d.params.defaults=[])(Z:Room k callerA)(X:PyProof.Rows.importsNone q=I)(E:l.prog.given.tree=Y)(hY:∀(w:World)(h:Heap),S w h->(K w.params).In h)(F:∀(w:World)(mg:Si)(B:Addr)(h:Heap),(K w.params).In h->h.Ns mainGlobals mg->mg d.name=J (.ref B) ->
   ∃fd:FuncData,(∀(s:Shared)(u:Value),BindsTo s fd ⟨[u],[]⟩ [(x,u)]) /\
    ∀base:Heap,(K w.params).In base->base.Ns mainGlobals mg->FnOk l.prog w (K w.params) mg base (CX w) k B fd [x] (sp w))(O:∀(w:World)(H:Hp)(a:Addr)(ns:SS),ns.length<=n->F4 H->SqL (K w.params) H a (ns.map V.int)->sp w [.ref a] H (λv _=>v=.bl I) λ_ _ _=>False)(P:∀(w:World)(H:Hp)(s:Shared)(e:Value)(L:Shared),CX w [] H s (λ_ _ _=>False) e L->False):
  PySem.W.WalkO q loose XP S l.row.toRowW d [] (λf U=>PySem.call f U):=by
 refine Att.tZ hn R λw s₀ z mg mb B o pm cd ai a U ns G M ho hd ab C y j i hg=>?_;have W:=hY w _ M;obtain⟨fd,hb,hF⟩:=F w mg B _ W G.T.g C;exact zU W G.T.g G.T.b G.T.builtins G.T.nolimit (G.T.seer X) E hg y j (ql i Q) Z hF hb (λH hO hS=>O w H a ns i hO hS) λH e L=>P w H z e L
def gI(s:Stmt):Arguments:=match s with
 |.FunctionDef _ a _ _ _ _ _ _ _ _=>a
 |_=>{ posonlyargs:=[],args:=[],vararg:=Y,kwonlyargs:=[],kw_defaults:=[],kwarg:=Y,defaults:=[]}
def aE(s:Stmt):Sk:=match s with
 |.FunctionDef _ _ b _ _ _ _ _ _ _=>b
 |_=>[]
def ah(s:Stmt):Scope:=match s with
 |.FunctionDef _ _ _ _ _ _ a _ _ _=>a
 |_=>{ kind:=.function,names:=[],isGenerator:=T,isCoroutine:=T}
structure Fun(K:h8)(x qual:Str)(st:Stmt)(f:Addr)(fd:FuncData):Prop where
 ex:∃(oc:Value)(od:Option Addr)(kV doc pm:Value)(an:Option Addr)(cdv ct:Value)(osl:Array (SF)),
  fd=PySem.W.fnOf x qual (gI st) (aE st) (ah st) .none kV doc pm an cdv ct/\K.lookup f=J ⟨oc,od,.func fd,osl⟩/\PySem.W.codeIn K cdv qual=I
 kp:PySem.W.keepIn K (.ref f)=I
section
variable{P:Program}{w:World}{K:h8}{mg:Si}{base:Heap}
def Fun.binds{x a:Str}{st:Stmt}{f:Addr}{fd:FuncData}{y:SQ}(F:Fun K x a st f fd)(h:∀(kV i pm:Value)(l:Option Addr)(j ct:Value)(u:SA),u.length=y.length->bindArgs (PySem.W.fnOf x a (gI st) (aE st) (ah st) .none kV i pm l j ct) ⟨u,[]⟩=pure (y.zip u)):nt K fd y []:=by
 obtain⟨C,G,kV,i,pm,l,j,ct,B,rfl,E,z⟩:=F.ex;exact .all (h kV i pm l j ct)
def F5{x a:Str}{st:Stmt}{f:Addr}{z:Value}{B y:Option Addr}{u:Array (SF)}{kV j pm i ct:Value}(l:K.lookup f=J ⟨z,B,.func (PySem.W.fnOf x a (gI st) (aE st) (ah st) .none kV j pm y i ct),u⟩)(c:PySem.W.codeIn K i a=I)(k:PySem.W.keepIn K (.ref f)=I):Fun K x a st f (PySem.W.fnOf x a (gI st) (aE st) (ah st) .none kV j pm y i ct):=⟨⟨z,B,kV,j,pm,y,i,ct,u,rfl,l,c⟩,k⟩
end
section
variable{X:Cx}
end
end L2
namespace MM
open PySem.Spec PyProof.Rows L2
inductive PV where
 |non | bl (b:Bool) | int (i:Int) | str (x:Str) | tup (xs:List PV) | frl (xs:List PV) | loc (n:Nat)
abbrev _root_.SM:=List PV
abbrev _root_.Sl:=Option PV
structure A8 where
 cls:Str
 fs:List (Str×PV):=[]
inductive MO where
 |lst(xs:SM)
 |dic(fz:Bool)(ks:SS)(xs:SM)
 |exc(x:A8)
def MO.fzd:MO->Bool
 |.dic fz _ _=>fz
 |_=>T
abbrev MH:=List MO
abbrev m_:=List (Sl)
inductive Out(α:Type) where
 |ok(a:α)(h:MH)
 |exc(x:A8)(h:MH)
 |bad
abbrev _root_.SK:=Out PV
def Out.bind{α β:Type}(o:Out α)(f:α->MH->Out β):Out β:=match o with
 |.ok a h=>f a h
 |.exc x h=>.exc x h
 |.bad=>.bad
@[simp]theorem Out.bind_ok(a:α)(h:MH)(f:α->MH->Out β):(Out.ok a h).bind f=f a h:=rfl
@[simp]theorem Out.bind_exc(x:A8)(h:MH)(f:α->MH->Out β):(Out.exc x h).bind f=.exc x h:=rfl
@[simp]theorem Out.bind_bad(f:α->MH->Out β):(Out.bad:Out α).bind f=.bad:=rfl
inductive SOut where
 |nx(Z:m_)(h:MH)
 |rt(v:PV)(h:MH)
 |bk(Z:m_)(h:MH)
 |ct(Z:m_)(h:MH)
 |exc(x:A8)(Z:m_)(h:MH)
 |rse(x:A8)(Z:m_)(h:MH)
 |bad
def Out.ne{α:Type}(o:Out α):Out α:=match o with
 |.exc _ _=>.bad
 |o=>o
@[simp]theorem Out.ne_ok(a:α)(h:MH):(Out.ok a h).ne=.ok a h:=rfl
@[simp]theorem Out.ne_bad:(Out.bad:Out α).ne=.bad:=rfl
@[simp]theorem Out.ne_ne(o:Out α):o.ne.ne=o.ne:=by cases o<;>rfl
def SqF(K:h8)(H:Hp)(a:Addr)(ys:List V):Prop :=
 (∃o,H a=J (.frz o (.lst ys))) \/
  ∃(o:Obj) (f:Array Value) (n:Nat),K.lookup a=J o/\o.cls=.type "list"/\o.dict=Y/\o.data=.seq f n/\f.size<=sizeLine/\aF ys f.toList
def SqF.sq{K:h8}{H:Hp}{a:Addr}{ys:List V}(h:SqF K H a ys):SqL K H a ys:=by
 rcases h with h|h
 .exact .inl (.inr h)
 .exact .inr h
mutual
inductive RP(K:h8)(U:SX)(H:Hp):PV->V->Prop where
 |non:RP K U H .non .non
 |bl(b:Bool):RP K U H (.bl b) (.bl b)
 |int(i:Int):RP K U H (.int i) (.int i)
 |str(x:Str):RP K U H (.str x) (.str x)
 |tup{xs:SM}{a:Addr}{ys:List V}(s:SqT K H a ys)(r:RPs K U H xs ys):RP K U H (.tup xs) (.ref a)
 |frl{xs:SM}{a:Addr}{ys:List V}(s:SqF K H a ys)(r:RPs K U H xs ys):RP K U H (.frl xs) (.ref a)
 |loc{n:Nat}{a:Addr}(e:U[n]?=J a):RP K U H (.loc n) (.ref a)
inductive RPs(K:h8)(U:SX)(H:Hp):SM->List V->Prop where
 |nil:RPs K U H [] []
 |cons{x:PV}{y:V}{xs:SM}{ys:List V}(r:RP K U H x y)(t:RPs K U H xs ys):RPs K U H (x::xs) (y::ys)
end
structure Le(U:SX)(H:Hp)(U':SX)(H':Hp):Prop where
 pre:∃m,U'=U++m
 tup:∀a xs,H a=J (.tup xs)->H' a=J (.tup xs)
 frz:∀a o u,H a=J (.frz o u)->H' a=J (.frz o u)
def Le.refl(U:SX)(H:Hp):Le U H U H:=⟨⟨[],by simp⟩,λ_ _ h=>h,λ_ _ _ h=>h⟩
def Le.trans(a:Le U H U1 H1)(b:Le U1 H1 U2 H2):Le U H U2 H2:=by obtain⟨m,e⟩:=a.pre;obtain⟨f,i⟩:=b.pre;exact⟨⟨m++f,by rw[i,e,Cd]⟩,λc xs h=>b.tup c xs (a.tup c xs h),λc o u h=>b.frz c o u (a.frz c o u h)⟩
def Le.get{U f:SX}{H i:Hp}(l:Le U H f i){n:Nat}{a:Addr}(e:U[n]?=J a):f[n]?=J a:=by obtain⟨m,j⟩:=l.pre;rw[j,p_ (nw.mp e).1];exact e
def Le.sqt{K:h8}{U i:SX}{H f:Hp}(l:Le U H i f){a:Addr}{xs:List V}(h:SqT K H a xs):SqT K f a xs:=by
 rcases h with(h|⟨o,h⟩)|h
 .exact .inl (.inl (l.tup _ _ h))
 .exact .inl (.inr ⟨o,l.frz _ _ _ h⟩)
 .exact .inr h
def Le.sqf{K:h8}{U i:SX}{H f:Hp}(l:Le U H i f){a:Addr}{xs:List V}(h:SqF K H a xs):SqF K f a xs:=by
 rcases h with⟨o,h⟩|h
 .exact .inl ⟨o,l.frz _ _ _ h⟩
 .exact .inr h
section
variable{K:h8}{U U':SX}{H H':Hp}
def RP.le(l:Le U H U' H'){x:PV}{y:V}(r:RP K U H x y):RP K U' H' x y :=
 RP.rec (motive_1:=λx y _=>RP K U' H' x y) (motive_2:=λx y _=>RPs K U' H' x y) .non .bl .int .str (λs _ i=>.tup (l.sqt s) i) (λs _ i=>.frl (l.sqf s) i) (λe=>.loc (l.get e)) .nil (λ_ _ a b=>.cons a b) r
def RPs.le(l:Le U H U' H')(r:RPs K U H xs ys):RPs K U' H' xs ys:=by
 induction xs generalizing ys with
 |nil=>cases r;exact .nil
 |cons x xs f=>cases r with|cons a t=>exact .cons (a.le l) (f t)
def RPs.length(r:RPs K U H xs ys):xs.length=ys.length:=by
 induction xs generalizing ys with
 |nil=>cases r;rfl
 |cons x xs f=>cases r with|cons a t=>exact congrArg (·+1) (f t)
def RPs.get{xs:SM}{ys:List V}{i:Nat}{x:PV}(r:RPs K U H xs ys)(e:xs[i]?=J x):∃y,ys[i]?=J y/\RP K U H x y:=by
 induction xs generalizing ys i with
 |nil=>cases e
 |cons x xs f =>
  cases r with
  |cons a t =>
   cases i with
   |zero=>cases e;exact⟨_,rfl,a⟩
   |succ i=>have z:=@f _ i t e;exact z
def RPs.set(r:RP K U H x u)(i:Nat)(q:RPs K U H xs us):RPs K U H (xs.set i x) (us.set i u):=by
 induction xs generalizing us i with
 |nil=>cases q;exact .nil
 |cons x xs f =>
  cases q with
  |cons a t =>
   cases i with
   |zero=>exact .cons r t
   |succ i=>exact .cons a (f i t)
def RPs.append(r:RPs K U H xs us)(s:RPs K U H ys ws):RPs K U H (xs++ys) (us++ws):=by
 induction xs generalizing us with
 |nil=>cases r;exact s
 |cons x xs f=>cases r with|cons a t=>exact .cons a (f t)
def RPs.take(n:Nat)(r:RPs K U H xs us):RPs K U H (xs.take n) (us.take n):=by
 induction n generalizing xs us with
 |zero=>exact .nil
 |succ n f =>
  cases xs with
  |nil=>cases r;exact .nil
  |cons x xs=>cases r with|cons a t=>exact .cons a (f t)
def RPs.drop(n:Nat)(r:RPs K U H xs us):RPs K U H (xs.drop n) (us.drop n):=by
 induction n generalizing xs us with
 |zero=>exact r
 |succ n f =>
  cases xs with
  |nil=>cases r;exact .nil
  |cons x xs=>cases r with|cons a t=>exact f t
def RPs.ints:∀(ns:SS),RPs K U H (ns.map PV.int) (ns.map V.int)
 |[]=>.nil
 |n::r=>.cons (.int n) (RPs.ints r)
end
def Ka(a C:Addr)(h:Heap):Prop:=∃o f,h.get? a=J o/\o.cls=.ref C/\o.data=.fields f
abbrev BN:=Str->SF
def kz(a:SS)(ys:List V):List (qd×V):=(a.map Sum.inl).zip ys
def dO(fz:Bool)(a:Option HO)(u:HO):Prop:=match fz with
 |false=>a=J u
 |true=>∃o,a=J (.frz o u)
def RO(K:h8)(mg:BN)(U:SX)(H:Hp)(a:Addr):MO->Option HO->Prop
 |.lst xs,f=>∃ys,f=J (.lst ys)/\RPs K U H xs ys
 |.dic fz i xs,f=>∃ys:List V,ys.length=i.length/\RPs K U H xs ys/\dO fz f (.dK (kz i ys))
 |.exc x,f=>x.fs=[]/\∃C,mg x.cls=J (.ref C)/\f=J (.ext (Ka a C))
def lG{fz:Bool}{P:Program}{w:World}{H:Hp}{h:Heap}{a:Addr}{f:List (qd×V)}(ok:HOk P w H h)(e:dO fz (H a) (.dK f)):f.length<=sizeLine/\(a==sysModules)=T/\∃i,KV f i/\h.DictOf (d8 P w) a i:=by
 cases fz with
 |false=>exact(show ObjOk P w H h a (.dK f)from ok a _ e)
 |true =>
  obtain⟨o,e⟩:=e;exact(show ObjOk P w H h a (.frz o (.dK f))from ok a _ e).2
structure RH(K:h8)(mg:BN)(U:SX)(H:Hp)(h:MH):Prop where
 len:U.length=h.length
 nd:U.Nodup
 at':∀(n:Nat)(a:Addr)(o:MO),U[n]?=J a->h[n]?=J o->RO K mg U H a o (H a)
def RO.le{K:h8}{mg:BN}{U j:SX}{H i:Hp}{a:Addr}(l:Le U H j i){o:MO}{f:Option HO}(r:RO K mg U H a o f):RO K mg j i a o f:=by
 cases o with
 |lst xs=>obtain⟨ys,e,r⟩:=r;exact⟨ys,e,r.le l⟩
 |dic fz u xs=>obtain⟨ys,e,r,q⟩:=r;exact⟨ys,e,r.le l,q⟩
 |exc x=>exact r
def RO.some{K:h8}{mg:BN}{U:SX}{H:Hp}{a:Addr}{o:MO}{f:Option HO}(r:RO K mg U H a o f):f≠Y:=by
 cases o with
 |lst xs=>obtain⟨ys,e,_⟩:=r;rw[e];simp
 |dic fz i xs =>
  obtain⟨ys,_,_,q⟩:=r
  cases fz with
  |false=>rw[show f=_ from q];simp
  |true=>obtain⟨o,q⟩:=q;rw[q];simp
 |exc x=>obtain⟨_,C,_,e⟩:=r;rw[e];simp
def RO.plain{K:h8}{mg:BN}{U:SX}{H:Hp}{a:Addr}{o:MO}{f:Option HO}(r:RO K mg U H a o f)(hf:o.fzd=T):(∀xs,f≠Option.some (.tup xs))/\∀p u,f≠Option.some (.frz p u):=by
 cases o with
 |lst xs=>obtain⟨ys,e,_⟩:=r;rw[e];exact⟨(λ_ z=>nomatch z),(λ_ _ z=>nomatch z)⟩
 |dic fz i xs =>
  obtain⟨ys,_,_,q⟩:=r
  cases fz with
  |false=>rw[show f=_ from q];exact⟨(λ_ z=>nomatch z),(λ_ _ z=>nomatch z)⟩
  |true=>cases hf
 |exc x=>obtain⟨_,C,_,e⟩:=r;rw[e];exact⟨(λ_ z=>nomatch z),(λ_ _ z=>nomatch z)⟩
section
variable{K:h8}{mg:BN}{U:SX}{H:Hp}{h:MH}
def RH.obj(r:RH K mg U H h){n:Nat}{a:Addr}(e:U[n]?=J a):∃o,h[n]?=J o/\RO K mg U H a o (H a):=by
 have f:n<h.length:=by rw[<-r.len];exact(nw.mp e).1
 exact⟨h[n],by simp[f],r.at' n a _ e (by simp[f])⟩
def RH.new(r:RH K mg U H h){p:Addr}(B:H p=Y){o:MO}{ho:HO}(F:RO K mg U H p o (J ho)):RH K mg (U++[p]) (l7 H p ho) (h++[o])/\Le U H (U++[p]) (l7 H p ho):=by
 have f:∀n a,U[n]?=J a->a≠p:=λn a e z=>by
  obtain⟨E,_,q⟩:=r.obj e;rw[z,B]at q;exact q.some rfl
 have l:Le U H (U++[p]) (l7 H p ho):=⟨⟨[p],rfl⟩,λa xs e=>by rw[aS (bB e B)];exact e,λa M u e=>by rw[aS (bB e B)];exact e⟩;refine⟨⟨by simp[r.len],?_,λn a E e1 e2=>?_⟩,l⟩
 .rw[IS];refine⟨r.nd,by simp,λa G b L=>?_⟩;obtain⟨n,e⟩:=AT.mp G;have y:b=p:=by simpa using L
  rw[y];exact f n a e
 .by_cases i:n<U.length
  .rw[p_ i]at e1;rw[p_ (by rw[<-r.len];exact i)]at e2;rw[aS (f n a e1)];exact(r.at' n a E e1 e2).le l
  .rw[AR ⋯]at e1;rw[AR (by rw[<-r.len];lia)]at e2;have j:n-U.length=0:=by
    rcases NR (n-U.length)with z|z
    .exact z
    .rw[BC (by simp;lia)]at e1;cases e1
   rw[j]at e1;have C:n-h.length=0:=by have:=r.len;lia
   rw[C]at e2;simp at e1 e2;subst e1;subst e2;rw[bP];exact F.le l
def RH.put(r:RH K mg U H h){n:Nat}{a:Addr}(e:U[n]?=J a){o:MO}{ho:HO}(F:RO K mg U H a o (J ho))(hd:∃o0,h[n]?=J o0/\o0.fzd=T:=by exact⟨_,by assumption,rfl⟩):RH K mg U (l7 H a ho) (h.set n o)/\Le U H U (l7 H a ho):=by
 obtain⟨o0,j,q⟩:=r.obj e;obtain⟨S,i,hf⟩:=hd;rw[i]at j;cases j;obtain⟨L,G⟩:=q.plain hf
 have l:Le U H U (l7 H a ho):=⟨⟨[],by simp⟩,λb xs z=>by
   have:b≠a:=by rintro rfl;exact L _ z
   rw[aS this];exact z,λb P u z=>by
   have:b≠a:=by rintro rfl;exact G _ _ z
   rw[aS this];exact z⟩
 refine⟨⟨by simp[r.len],r.nd,λm b C e1 e2=>?_⟩,l⟩;by_cases f:m=n
 .subst f;rw[e]at e1;cases e1;rw[bP]
  have:m<h.length:=by rw[<-r.len];exact(nw.mp e).1
  rw[wv this]at e2;cases e2;exact F.le l
 .rw[pa (λz=>f z.symm)]at e2;have O:b≠a:=by
   rintro rfl;have B:=nw.mp e;have M:=nw.mp e1;obtain⟨R,E⟩:=B;obtain⟨Q,y⟩:=M;exact f ((List.getElem_inj r.nd).mp (y.trans E.symm))
  rw[aS O];exact(r.at' m b C e1 e2).le l
def RH.tup(r:RH K mg U H h){p:Addr}(i:H p=Y)(ys:List V):RH K mg U (l7 H p (.tup ys)) h/\Le U H U (l7 H p (.tup ys)):=by
 have f:∀n a,U[n]?=J a->a≠p:=λn a e z=>by
  obtain⟨y,_,q⟩:=r.obj e;rw[z,i]at q;exact q.some rfl
 have l:Le U H U (l7 H p (.tup ys)):=⟨⟨[],by simp⟩,λa xs e=>by rw[aS (bB e i)];exact e,λa j u e=>by rw[aS (bB e i)];exact e⟩;exact⟨⟨r.len,r.nd,λn a o e1 e2=>by rw[aS (f n a e1)];exact(r.at' n a o e1 e2).le l⟩,l⟩
end
def RS(K:h8)(U:SX)(H:Hp)(a:m_)(Z:L2.St):Prop :=
 Z.length=a.length/\∀(i:Nat)(v:PV),a[i]?=J (J v)->∃f,Z[i]?=J (J f)/\RP K U H v f
def RS.le{K:h8}{U a:SX}{H f:Hp}{σp:m_}{Z:L2.St}(l:Le U H a f)(r:RS K U H σp Z):RS K a f σp Z :=
 ⟨r.1,λi v e=>by obtain⟨j,u,q⟩:=r.2 i v e;exact⟨j,u,q.le l⟩⟩
def RS.set{K:h8}{U:SX}{H:Hp}{a:m_}{Z:L2.St}(r:RS K U H a Z)(i:Nat){v:PV}{l:V}(q:RP K U H v l):RS K U H (a.set i (J v)) (Z.set i (J l)):=by
 refine⟨by simp[r.1],λj u e=>?_⟩;by_cases f:j=i
 .subst f;by_cases hl:j<a.length
  .rw[wv hl]at e;cases e;exact⟨l,wv (by rw[r.1];exact hl),q⟩
  .rw[BC (by simp;lia)]at e;cases e
 .rw[pa (λz=>f z.symm)]at e;obtain⟨C,y,B⟩:=r.2 j u e;exact⟨C,by rw[pa (λz=>f z.symm)];exact y,B⟩
def R3(B:Heap)(fs:SX)(h:Heap):Prop:=∀b o,h.get? b=J o->b∉fs->∃a,B.get? b=J a
def OC(l:List Env)(H:Hp)(a:Heap)(C f:Addr)(h:Heap):Prop :=
 ∃B t,Heap.FlyingW B l f (.ref C) (.ref t) h/\(∀b o,H b=J o->∃i,B.get? b=J i)/\R3 B (x6 l) a/\H f=Y
structure EH(X:Cx)(h:Heap):Prop where
 old:∀b o,X.s₀.heap.get? b=J o->b∉X.ex->∃o',h.get? b=J o'
 cell:∀x c,X.env.cells.lookup x=J c->∃o,h.get? c=J o
 pin:∀p∈X.pn,∃o,h.get? p.1=J o
def Inv.bears{X:Cx}{i:SD}{Z:L2.St}{H:Hp}{s:Shared}(a:Inv X i Z H s):EH X s.heap :=
 ⟨λb o e n=>a.base.there b o e n,λx c e=>let⟨_,o,f,_⟩:=a.cell x c e;⟨o,f⟩,λp j=>⟨_,(a.pin p (AU _ j)).1⟩⟩
def XP(X:Cx)(l:m_)(U:SX)(H:Hp)(x:A8)(h:MH):Prop:=∀(u C:Addr)(j:SX)(f:Hp)(y:L2.St)(i:Shared)(a:Heap),x.fs=[]->X.mg x.cls=J (.ref C)->Le U H j f->RH X.K X.mg j f h->RS X.K j f l y ->
 Inv X [] y f i->EH X a->OC X.stack f a C u i.heap->X.xe (.ref u) i
def XM(X:Cx)(l:m_)(U:SX)(H:Hp)(x:A8)(h:MH):Prop:=∀(u C:Addr)(j:SX)(f:Hp)(z:L2.St)(i:Shared)(y:Heap)(a:SA),x.fs=[]->X.mg x.cls=J (.ref C)->Le U H j f->RH X.K X.mg j f h->RS X.K j f l z ->
 Inv X [] z f { i with heap:=y}->Heap.MadeExcOf y i.heap u (.ref C) a->X.xe (.ref u) i
def XP.le(l:Le U H U' H')(q:XP X σp U H x h):XP X σp U' H' x h :=
 λf C u z j y a e1 e2 i=>q f C u z j y a e1 e2 (l.trans i)
def XM.le(l:Le U H U' H')(q:XM X σp U H x h):XM X σp U' H' x h :=
 λi C y B u z f a e1 e2 j=>q i C y B u z f a e1 e2 (l.trans j)
abbrev Rl(α β:Type):=SX->Hp->α->β->Prop
def Ful{α β:Type}(X:Cx)(R:Rl α β)(i:m_)(U:SX)(H:Hp)(o:Out α)(Q:β->Hp->Prop):Prop:=match o with
 |.ok v f=>∀j a l,Le U H j a->RH X.K X.mg j a f->R j a v l->Q l a
 |.exc x f=>XP X i U H x f
 |.bad=>False
def iN{α β:Type}(X:Cx)(R:Rl α β)(U:SX)(H:Hp)(o:Out α)(Q:β->Hp->Prop):Prop:=match o with
 |.ok v j=>∀f a i,Le U H f a->RH X.K X.mg f a j->R f a v i->Q i a
 |_=>False
def Ful.zero(f:Ful X R σp U H o.ne Q):iN X R U H o Q:=by
 cases o with
 |ok v h=>exact f
 |exc x h=>exact f
 |bad=>exact f
def Ful.le(l:Le U H U1 H1)(f:Ful X R σp U H o Q):Ful X R σp U1 H1 o Q:=by
 cases o with
 |ok v h=>exact λu j i a=>f u j i (l.trans a)
 |exc x h=>exact XP.le (X:=X) (σp:=σp) (x:=x) (h:=h) l f
 |bad=>exact f
def Ful.bind{α β γ δ:Type}{X:Cx}{R:Rl α β}{S:Rl γ δ}{a:m_}{U:SX}{H:Hp}{o:Out α}{f:α->MH->Out γ}{Q:δ->Hp->Prop}{z:β->Hp->Prop}(q:Ful X S a U H (o.bind f) Q)(k:∀u i v j y,o=.ok v y->Le U H u i->RH X.K X.mg u i y->R u i v j->Ful X S a u i (f v y) Q->z j i):Ful X R a U H o z:=by
 cases o with
 |ok v h=>exact λC B j l r w=>k C B v j h rfl l r w (Ful.le l q)
 |exc x h=>exact q
 |bad=>exact q
abbrev RV'(X:Cx):Rl PV V:=λU H=>RP X.K U H
abbrev RVs'(X:Cx):Rl (SM) (List V):=λU H=>RPs X.K U H
abbrev Kb{α:Type}:Rl α α:=λ_ _ x y=>x=y
abbrev Mx(α:Type):=m_->MH->Out α
inductive tM{α β:Type}(X:Cx)(R:Rl α β)(m:Mx α)(Z:L2.St)(H:Hp)(Q:β->Hp->Prop):Prop
 |mk(U:SX)(σp:m_)(h:MH)(rs:RS X.K U H σp Z)(rh:RH X.K X.mg U H h)(q:Ful X R σp U H (m σp h) Q):tM X R m Z H Q
def ME(X:Cx)(e:Expr)(m:Mx PV):Prop:=PE X e (tM X (RV' X) m)
def MT(X:Cx)(e:Expr)(m:Mx Bool):Prop:=PT X e (tM X Kb m)
def MW(X:Cx)(e:Expr)(m:Mx Bool):Prop:=PW X e (tM X Kb m)
def MA(X:Cx)(a:SH)(m:Mx (SM)):Prop:=PA X a (tM X (RVs' X) m)
def PE.imp(h:PE X e t)(i:∀Z H Q,t' Z H Q->t Z H Q):PE X e t':=λf s Z H Q a q=>h f s Z H Q a (i Z H Q q)
def PT.imp(h:PT X e t)(i:∀Z H Q,t' Z H Q->t Z H Q):PT X e t':=λf s Z H Q a q=>h f s Z H Q a (i Z H Q q)
def PW.imp(h:PW X e t)(i:∀Z H Q,t' Z H Q->t Z H Q):PW X e t':=λa j s Z H Q f q=>h a j s Z H Q f (i Z H Q q)
def PA.imp(h:PA X e t)(i:∀Z H Q,t' Z H Q->t Z H Q):PA X e t':=λa j s Z H Q f q=>h a j s Z H Q f (i Z H Q q)
def PS.imp(h:PS X e t)(i:∀D Z H,t' D Z H->t D Z H):PS X e t':=λf s Z H D a q=>h f s Z H D a (i D Z H q)
def PSs.imp(h:PSs X e t)(i:∀D Z H,t' D Z H->t D Z H):PSs X e t':=λf s Z H D a q=>h f s Z H D a (i D Z H q)
def bf(X:Cx)(U:SX)(H:Hp)(o:SOut)(D:Ends):Prop:=match o with
 |.nx f j=>∀i a l,Le U H i a->RH X.K X.mg i a j->RS X.K i a f l->D.nx l a
 |.bk f j=>∀i a l,Le U H i a->RH X.K X.mg i a j->RS X.K i a f l->D.bk l a
 |.ct f j=>∀i a l,Le U H i a->RH X.K X.mg i a j->RS X.K i a f l->D.ct l a
 |.rt v j=>∀i a u,Le U H i a->RH X.K X.mg i a j->RP X.K i a v u->D.rt u a
 |.exc x f j=>XP X f U H x j
 |.rse x f j=>XM X f U H x j
 |.bad=>False
def bf.le(l:Le U H U1 H1)(f:bf X U H o D):bf X U1 H1 o D:=by
 cases o with
 |nx a h=>exact λy u j i=>f y u j (l.trans i)
 |bk a h=>exact λy u j i=>f y u j (l.trans i)
 |ct a h=>exact λy u j i=>f y u j (l.trans i)
 |rt v h=>exact λy u j i=>f y u j (l.trans i)
 |exc x a h=>exact XP.le (X:=X) (σp:=a) (x:=x) (h:=h) l f
 |rse x a h=>exact XM.le (X:=X) (σp:=a) (x:=x) (h:=h) l f
 |bad=>exact f
abbrev mh:=m_->MH->SOut
inductive M4(X:Cx)(m:mh)(D:Ends)(Z:L2.St)(H:Hp):Prop
 |mk(U:SX)(σp:m_)(h:MH)(rs:RS X.K U H σp Z)(rh:RH X.K X.mg U H h)(q:bf X U H (m σp h) D):M4 X m D Z H
def MS(X:Cx)(st:Stmt)(m:mh):Prop:=PS X st (M4 X m)
def Aw(X:Cx)(st:Sk)(m:mh):Prop:=PSs X st (M4 X m)
section
variable{X:Cx}{N W G:SQ}{k:Nat}
structure Good(X:Cx)(N W G:SQ)(k:Nat):Prop where
 hN:X.N=N
 nd:N.Nodup
 loc:∀x∈N,Loc X.env.scope x
 fn:∀x∈W,X.fn x=I\/X.env.scope.names.lookup x=J .local
 gl:∀x∈G,Gl X x
 dbg:∀x∈N++G,(x==("__debug__":Str))=T/\(x==("__classdict__":Str))=T/\x≠"__name__"
 calm:X.calm=I
 room:Room k X.A
 po:PassesOwn (model X.prog X.w) X.A X.env X.xe
def Good.x(g:Good X N W G k){i:Nat}{x:Str}(a:N[i]?=J x):X.N[i]?=J x:=by rw[g.hN];exact a
def aN{l:SQ}{i:Nat}{x:Str}(a:l[i]?=J x):x∈l:=Ap a
def rJ(X:Cx)(g:PV->PV->MH->SK):R2:=λf a H Q=>∃U h x y,RH X.K X.mg U H h/\RP X.K U H x f/\RP X.K U H y a/\iN X (RV' X) U H (g x y h) Q
abbrev wj(X:Cx)(f:Value->Value->Sem Value)(g:PV->PV->MH->SK):Prop:=OpR X f (rJ X g)
def uJ(X:Cx)(g:PV->MH->SK):V->Hp->VK->Prop:=λa H Q=>∃U h x,RH X.K X.mg U H h/\RP X.K U H x a/\iN X (RV' X) U H (g x h) Q
abbrev Q1(X:Cx)(f:Value->Sem Value)(g:PV->MH->SK):Prop:=M1 X f (uJ X g)
def cJ(X:Cx)(g:SM->MH->SK):List V->Hp->VK->Prop:=λa H Q=>∃U h xs,RH X.K X.mg U H h/\RPs X.K U H xs a/\iN X (RV' X) U H (g xs h) Q
abbrev cr(X:Cx)(f:Value)(g:SM->MH->SK):Prop:=cw X f (cJ X g)
def ag(i:Nat):Mx PV:=λZ h=>match Z[i]? with
 |some (J v)=>.ok v h
 |_=>.bad
def mC(v:PV):Mx PV:=λ_ h=>.ok v h
def xk(g:Good X N W G k)(i:Nat){x:Str}{l:Pos}(a:N[i]?=J x):ME X (.Name x l) (ag i):=by
 have d:=g.dbg x (AU _ (aN a));have hv:MZ X.env.scope x:=by
  rcases g.loc x (aN a)with q|q
  .exact .inl q
  .exact .inr (.inl q)
 refine PE.imp (Fq (g.x a) hv d.1 d.2.1) λZ H Q ⟨U,j,h,z,B,f⟩=>?_;unfold ag at f
 cases e:j[i]? with
 |none=>rw[e]at f;exact f.elim
 |some o =>
  rw[e]at f
  cases o with
  |none=>exact f.elim
  |some v =>
   obtain⟨u,y,r⟩:=z.2 i v e;exact⟨u,y,f U H u (Le.refl _ _) B r⟩
def aC:ME X (.Constant (.int i) j pos) (mC (.int i)):=PE.imp Fs λ_ H _ ⟨U,_,_,_,a,f⟩=>f U H _ (Le.refl _ _) a (.int i)
def EI:ME X (.Constant (.bool i) j pos) (mC (.bl i)):=PE.imp JF λ_ H _ ⟨U,_,_,_,a,f⟩=>f U H _ (Le.refl _ _) a (.bl i)
def yA:ME X (.Constant .none j pos) (mC .non):=PE.imp Ft λ_ H _ ⟨U,_,_,_,a,f⟩=>f U H _ (Le.refl _ _) a .non
def au(f:PV->PV->MH->SK)(l a:Mx PV):Mx PV:=λZ h=>(l Z h).bind λx i=>(a Z i).bind λy j=>(f x y j).ne
def Kc(f:PV->MH->SK)(i:Mx PV):Mx PV:=λZ h=>(i Z h).bind λx a=>(f x a).ne
def rS{f:PV->PV->MH->SK}{z l:Mx PV}{Z:L2.St}{H:Hp}{Q:VK}(q:tM X (RV' X) (au f z l) Z H Q):JR (rJ X f) (tM X (RV' X) z) (tM X (RV' X) l) Z H Q:=by obtain⟨U,a,h,u,P,q⟩:=q;refine⟨U,a,h,u,P,Ful.bind q λU1 H1 x x' C _ E i R M=>?_⟩;refine⟨U1,a,C,u.le E,i,Ful.bind M λF H2 y y' S _ B j O L=>?_⟩;exact⟨F,S,x,y,j,R.le B,O,L.zero⟩
def aK(j:wj X (binaryOp op) f)(i:ME X a ma)(l:ME X b mb):ME X (.BinOp a op b pos) (au f ma mb) :=
 PE.imp (JS j i l) λ_ _ _ q=>rS q
def Kd(B:Q1 X (unaryOp op) f)(l:ME X a ma):ME X (.UnaryOp op a pos) (Kc f ma) :=
 PE.imp (JT B l) λ_ _ _ ⟨U,j,h,y,u,q⟩=>⟨U,j,h,y,u,Ful.bind q λF H x M E _ L i C z=>⟨F,E,x,i,C,z.zero⟩⟩
def yB(l:wj X (compareOp op) f)(i:ME X a ma)(u:ME X b mb)(j:behindInMarks op b=T):ME X (.Compare a [op] [b] pos) (au f ma mb) :=
 PE.imp (Cr l i u j) λ_ _ _ q=>rS q
def mB(m:Mx PV):Mx Bool:=λZ h=>(m Z h).bind λv a=>match v with
 |.bl b=>.ok b a
 |_=>.bad
def Ke(q:tM X Kb (mB m) Z H Q):tM X (RV' X) m Z H λx i=>∃c,x=.bl c/\Q c i:=by
 obtain⟨U,a,h,l,u,q⟩:=q;refine⟨U,a,h,l,u,Ful.bind q λz i x E B _ C f y j=>?_⟩
 cases y with
 |bl b=>exact⟨b,rfl,j z i b (Le.refl _ _) f rfl⟩
 |_=>exact j.elim
def xv(z:wj X (compareOp op) f)(j:ME X a ma)(B:ME X b mb)(u:behindInMarks op b=T):MT X (.Compare a [op] [b] pos) (mB (au f ma mb)) :=
 PT.imp (Cs z j B u) λZ H Q q=>by
  obtain⟨U,i,h,y,l,q⟩:=Ke q;exact rS ⟨U,i,h,y,l,q⟩
def rf(h:ME X e m)(f:∀a,isTrue e X.env a=(do let v <-a;standAt e.pos;holding [v] (truthy v)):=by intro _;rfl):MT X e (mB m) :=
 PT.imp (Fv h f) λ_ _ _ q=>Ke q
def qV(m:Mx Bool):Mx Bool:=λZ h=>(m Z h).bind λb a=>.ok (!b) a
def rF(h:MT X e m):MT X (.UnaryOp .Not e pos) (qV m) :=
 PT.imp (Fy h) λ_ _ _ ⟨U,f,h,j,i,q⟩=>⟨U,f,h,j,i,Ful.bind q λz u x E B _ C a y l=>by
  cases y;exact l z u _ (Le.refl _ _) a rfl⟩
def F6(a b:Mx Bool):Mx Bool:=λZ h=>(a Z h).bind λx f=>if x=I then b Z f else .ok T f
def Kg(a b:Mx Bool):Mx Bool:=λZ h=>(a Z h).bind λx f=>if x=I then .ok I f else b Z f
section
variable{a b:Expr}{rest:SH}{ma mb:Mx Bool}{pos:Pos}
def CH(f:MT X a ma):MW X (.BoolOp .And [a] pos) ma:=Cg f
def wS(f:MT X a ma):MW X (.BoolOp .Or [a] pos) ma:=Fw f
def F7(B:MT X a ma)(L:MW X (.BoolOp .And (b::rest) pos) mb):MW X (.BoolOp .And (a::b::rest) pos) (F6 ma mb) :=
 PW.imp (Fx B L) λZ H Q ⟨U,f,h,j,C,q⟩=>⟨U,f,h,j,C,Ful.bind q λu E x M y _ z i F l=>by
  cases F
  cases x with
  |true=>exact⟨u,f,y,j.le z,i,l⟩
  |false=>exact l u E _ (Le.refl _ _) i rfl⟩
def vT(B:MT X a ma)(L:MW X (.BoolOp .Or (b::rest) pos) mb):MW X (.BoolOp .Or (a::b::rest) pos) (Kg ma mb) :=
 PW.imp (JG B L) λZ H Q ⟨U,f,h,j,C,q⟩=>⟨U,f,h,j,C,Ful.bind q λu E x M y _ z i F l=>by
  cases F
  cases x with
  |true=>exact l u E _ (Le.refl _ _) i rfl
  |false=>exact⟨u,f,y,j.le z,i,l⟩⟩
def MW.mt(h:MW X e m):MT X e m:=PW.pt h
end
def vB(a b:Mx PV):Mx PV:=λZ h=>(a Z h).bind λx f=>match x with
 |.bl c=>if c=I then b Z f else .ok (.bl T) f
 |_=>.bad
def wm(a:Mx PV):Mx PV:=λZ h=>(a Z h).bind λx f=>match x with
 |.bl c=>.ok (.bl (!c)) f
 |_=>.bad
section
variable{a b:Expr}{rest:SH}{ma mb:Mx PV}{pos:Pos}
def F8(f:ME X a ma):ME X (.BoolOp op [a] pos) ma:=Fz f
def F9(B:ME X a ma)(L:ME X (.BoolOp .And (b::rest) pos) mb):ME X (.BoolOp .And (a::b::rest) pos) (vB ma mb) :=
 PE.imp (FA B L) λZ H Q ⟨U,f,h,l,C,q⟩=>⟨U,f,h,l,C,Ful.bind q λu E x M y _ z i F j=>by
  cases F with
  |bl c =>
   refine⟨c,rfl,?_⟩
   cases c with
   |true=>exact⟨u,f,y,l.le z,i,j⟩
   |false=>exact j u E _ (Le.refl _ _) i (.bl T)
  |_=>exact j.elim⟩
def F_(l:ME X a ma):ME X (.UnaryOp .Not a pos) (wm ma) :=
 PE.imp (FC l) λZ H Q ⟨U,f,h,u,y,q⟩=>⟨U,f,h,u,y,Ful.bind q λC z x L E _ F i B j=>by
  cases B with
  |bl c=>exact⟨c,rfl,j C z _ (Le.refl _ _) i (.bl _)⟩
  |_=>exact j.elim⟩
def Ga(c:Mx Bool)(a b:Mx PV):Mx PV:=λZ h=>(c Z h).bind λx f=>if x=I then a Z f else b Z f
def Gb(C:MT X c mc)(B:ME X a ma)(L:ME X b mb):ME X (.IfExp c a b pos) (Ga mc ma mb) :=
 PE.imp (zN C B L) λZ H Q ⟨U,f,h,j,E,q⟩=>⟨U,f,h,j,E,Ful.bind q λz O x M l _ u i F y=>by
  cases F
  cases x with
  |true=>exact⟨z,f,l,j.le u,i,y⟩
  |false=>exact⟨z,f,l,j.le u,i,y⟩⟩
end
def g_:Mx (SM):=λ_ h=>.ok [] h
def af(a:Mx PV)(r:Mx (SM)):Mx (SM):=λZ h=>(a Z h).bind λx f=>(r Z f).bind λxs i=>.ok (x::xs) i
def aH:MA X [] g_:=PA.imp ku λZ H Q ⟨U,f,h,i,a,q⟩=>q U H _ (Le.refl _ _) a .nil
def ak(F:ME X e m)(B:MA X es ms)(E:starEach (e::es) X.env=(T,eval e X.env)::starEach es X.env:=by rfl):MA X (e::es) (af m ms) :=
 PA.imp (eA F B E) λZ H Q ⟨U,a,h,j,R,q⟩=>⟨U,a,h,j,R,Ful.bind q λU1 H1 x x' u _ z f S M =>
  ⟨U1,a,u,j.le z,f,Ful.bind M λC P y y' h2 _ l i O L=>L C P _ (Le.refl _ _) i (.cons (S.le l) O)⟩⟩
def q_(xs:SM)(h:MH):SK:=if xs.length<=sizeLine then .ok (.loc h.length) (h++[.lst xs])else .bad
def ll(xs:SM)(h:MH):SK:=if xs.length<=sizeLine then .ok (.tup xs) h else .bad
def lM{U:SX}{H:Hp}{h:MH}{xs:SM}{ys:List V}{Q:VK}(a:RH X.K X.mg U H h)(i:RPs X.K U H xs ys)(f:iN X (RV' X) U H (q_ xs h) Q):ys.length<=sizeLine/\∀p,H p=Y->Q (.ref p) (l7 H p (.lst ys)):=by
 unfold q_ at f
 split at f
 .rename_i hl
  refine⟨by rw[<-i.length];exact hl,λp j=>?_⟩;obtain⟨l,u⟩:=a.new j (o:=.lst xs) ⟨ys,rfl,i⟩;refine f _ _ _ u l (.loc ?_);rw[<-a.len];simp
 .exact f.elim
def uV{U:SX}{H:Hp}{h:MH}{xs:SM}{ys:List V}{Q:VK}(j:RH X.K X.mg U H h)(a:RPs X.K U H xs ys)(f:iN X (RV' X) U H (ll xs h) Q):ys.length<=sizeLine/\∀p,H p=Y->Q (.ref p) (l7 H p (.tup ys)):=by
 unfold ll at f
 split at f
 .rename_i hl
  refine⟨by rw[<-a.length];exact hl,λp l=>?_⟩;obtain⟨u,i⟩:=j.tup l ys;exact f _ _ _ i u (.tup (.inl (.inl bP)) (a.le i))
 .exact f.elim
def Gc{a:m_}{U:SX}{H:Hp}{h:MH}{xs:SM}{Q:VK}(f:Ful X (RV' X) a U H (q_ xs h) Q):iN X (RV' X) U H (q_ xs h) Q:=by
 unfold q_ at f ⊢
 split at f
 .rw[b_ (by assumption)];exact f
 .exact f.elim
def Ge{a:m_}{U:SX}{H:Hp}{h:MH}{xs:SM}{Q:VK}(f:Ful X (RV' X) a U H (ll xs h) Q):iN X (RV' X) U H (ll xs h) Q:=by
 unfold ll at f ⊢
 split at f
 .rw[b_ (by assumption)];exact f
 .exact f.elim
def f7(m:Mx (SM)):Mx PV:=λZ h=>(m Z h).bind q_
def cT(m:Mx (SM)):Mx PV:=λZ h=>(m Z h).bind ll
def wZ(h:MA X es ms):ME X (.List es pos) (f7 ms) :=
 PE.imp (FV h) λZ H Q ⟨U,a,h,i,l,q⟩=>⟨U,a,h,i,l,Ful.bind q λE C x B y _ z f u j=>lM f u (Gc j)⟩
def Gf(h:MA X es ms):ME X (.Tuple es j pos) (cT ms) :=
 PE.imp (yC h) λZ H Q ⟨U,a,h,i,u,q⟩=>⟨U,a,h,i,u,Ful.bind q λF E x C z _ B f y l=>uV f y (Ge l)⟩
def SOut.then(o:SOut)(k:mh):SOut:=match o with
 |.nx Z h=>k Z h
 |o=>o
def aR(a b:mh):mh:=λZ h=>(a Z h).then b
def n7:mh:=λZ h=>.nx Z h
def gH:Aw X [] n7:=PSs.imp Ch λD Z H ⟨U,i,h,f,a,q⟩=>q U H Z (Le.refl _ _) a f
def CJ{st:Stmt}{m:mh}(h:MS X st m):Aw X [st] m:=Ci h
def bf.then{U:SX}{H:Hp}{o:SOut}{k:mh}{D:Ends}(q:bf X U H (o.then k) D):bf X U H o { D with nx:=λZ H=>M4 X k D Z H}:=by
 cases o with
 |nx a h=>exact λf i j l r s=>⟨f,a,h,s,r,bf.le l q⟩
 |_=>exact q
def yY{st:Stmt}{a:Sk}{m u:mh}(l:MS X st m)(y:Aw X a u):Aw X (st::a) (aR m u) :=
 PSs.imp (AG l y) λD Z H ⟨U,f,h,j,i,q⟩=>⟨U,f,h,j,i,bf.then q⟩
def bQ(m:Mx PV):mh:=λZ h=>match m Z h with
 |.ok v a=>.rt v a
 |.exc x a=>.exc x Z a
 |.bad=>.bad
def Gg(l:ME X e m):MS X (.Return (J e) pos) (bQ m) :=
 PS.imp (FD l) λD Z H ⟨U,a,h,j,i,q⟩=>⟨U,a,h,j,i,by
  unfold bQ at q
  cases e:m a h with
  |ok v f=>rw[e]at q;exact q
  |exc x f=>rw[e]at q;exact q
  |bad=>rw[e]at q;exact q⟩
def vQ{α:Type}(m:Mx α)(k:α->mh):mh:=λZ h=>match m Z h with
 |.ok v a=>k v Z a
 |.exc x a=>.exc x Z a
 |.bad=>.bad
def bf.ex{α β:Type}{R:Rl α β}{m:Mx α}{k:α->mh}{U:SX}{H:Hp}{a:m_}{h:MH}{D:Ends}{Q:β->Hp->Prop}(q:bf X U H (vQ m k a h) D)(w:∀i f v j y,Le U H i f->RH X.K X.mg i f y->R i f v j->bf X i f (k v a y) D->Q j f):Ful X R a U H (m a h) Q:=by
 unfold vQ at q
 cases e:m a h with
 |ok v u=>rw[e]at q;exact λi f j l r z=>w i f v j u l r z (bf.le l q)
 |exc x u=>rw[e]at q;exact q
 |bad=>rw[e]at q;exact q
def eS(m:Mx PV):mh:=vQ m λ_=>n7
def gG{e:Expr}{m:Mx PV}{a:Pos}(j:ME X e m)(u:swapsWith e Y a.line X.env=pure T:=by rfl):MS X (.Expr e a) (eS m) :=
 PS.imp (Cj j u) λD Z H ⟨U,f,h,i,y,q⟩=>⟨U,f,h,i,y,bf.ex q λC B v F E l r z w=>w C B Z (Le.refl _ _) r (i.le l)⟩
def A9(c:Mx Bool)(a b:mh):mh:=vQ c λx=>if x=I then a else b
def jv{c:Expr}{a b:Sk}{B:Mx Bool}{C y:mh}{j:Pos}(L:MT X c B)(F:Aw X a C)(O:Aw X b y):MS X (.If c a b j) (A9 B C y) :=
 PS.imp (JL L F O) λD Z H ⟨U,f,h,i,M,q⟩=>⟨U,f,h,i,M,bf.ex q λE Q v P u l r z w=>by
  cases z
  cases v with
  |true=>exact⟨E,f,u,i.le l,r,w⟩
  |false=>exact⟨E,f,u,i.le l,r,w⟩⟩
def ba(i:Nat)(m:Mx PV):mh:=vQ m λv Z h=>.nx (Z.set i (J v)) h
def rA(g:Good X N W G k)(i:Nat){x:Str}{e:Expr}{m:Mx PV}{f a:Pos}(u:N[i]?=J x)(hw:W[i]?=J x)(B:ME X e m)(C:swapsWith e (J (.Name x a)) f.line X.env=pure T:=by rfl):
  MS X (.Assign [.Name x a] e f) (ba i m):=by
 refine PS.imp (FJ (by rw[g.hN];exact g.nd) (g.x u) (g.loc x (aN u)) B C (g.fn x (aN hw))) λD Z H ⟨U,j,h,y,E,q⟩=>?_;exact⟨U,j,h,y,E,bf.ex q λL F v O M l r z w=>w L F _ (Le.refl _ _) r ((y.le l).set i z)⟩
end
section
variable{X:Cx}{N W G:SQ}{k:Nat}
abbrev Mg:=PV->mh
def mP(X:Cx)(U:SX)(H:Hp)(o:SOut)(Q:L2.St->Hp->Prop):Prop:=match o with
 |.nx a i=>∀j f l,Le U H j f->RH X.K X.mg j f i->RS X.K j f a l->Q l f
 |.exc x a i=>XP X a U H x i
 |_=>False
def mP.le(l:Le U H U1 H1)(f:mP X U H o Q):mP X U1 H1 o Q:=by
 cases o with
 |nx a h=>exact λy u j i=>f y u j (l.trans i)
 |exc x a h=>exact XP.le (X:=X) (σp:=a) (x:=x) (h:=h) l f
 |_=>exact f
inductive tG(X:Cx)(g:Mg)(v':V)(Z:L2.St)(H:Hp)(Q:L2.St->Hp->Prop):Prop
 |mk(U:SX)(σp:m_)(h:MH)(v:PV)(rs:RS X.K U H σp Z)(rh:RH X.K X.mg U H h)(rv:RP X.K U H v v')(q:mP X U H (g v σp h) Q):tG X g v' Z H Q
def MG(X:Cx)(a:Expr)(g:Mg):Prop:=PG X a (tG X g)
def PG.imp(h:PG X e t)(i:∀v Z H Q,t' v Z H Q->t v Z H Q):PG X e t':=λf s Z H v u Q a r q=>h f s Z H v u Q a r (i v Z H Q q)
def mf(i:Nat):Mg:=λv Z h=>.nx (Z.set i (J v)) h
def t5(g:Good X N W G k)(i:Nat)(a:N[i]?=J x)(hw:W[i]?=J x):MG X (.Name x pos) (mf i) :=
 PG.imp (uO (by rw[g.hN];exact g.nd) (g.x a) (g.loc x (aN a)) (g.fn x (aN hw))) λy Z H Q ⟨U,u,h,v,l,f,j,q⟩=>q U H _ (Le.refl _ _) f (l.set i j)
abbrev CK:=SM->mh
inductive Q2(X:Cx)(g:CK)(v':List V)(Z:L2.St)(H:Hp)(Q:L2.St->Hp->Prop):Prop
 |mk(U:SX)(σp:m_)(h:MH)(v:SM)(rs:RS X.K U H σp Z)(rh:RH X.K X.mg U H h)(rv:RPs X.K U H v v')(q:mP X U H (g v σp h) Q):Q2 X g v' Z H Q
def Kh(X:Cx)(a:SH)(g:CK):Prop:=PGs X a (Q2 X g)
def PGs.imp(h:PGs X e t)(i:∀v Z H Q,t' v Z H Q->t v Z H Q):PGs X e t':=λf s Z H v u Q a r q=>h f s Z H v u Q a r (i v Z H Q q)
def x_:CK:=λa Z h=>match a with
 |[]=>.nx Z h
 |_=>.bad
def pq(a:Mg)(r:CK):CK:=λf Z h=>match f with
 |v::i=>(a v Z h).then (r i)
 |[]=>.bad
def fi:Kh X [] x_:=PGs.imp Ck λl Z H Q ⟨U,j,h,v,i,a,f,q⟩=>by
 cases f with
 |nil=>exact⟨rfl,q U H Z (Le.refl _ _) a i⟩
 |cons _ _=>exact q.elim
def bz(i:MG X e a)(P:Kh X es r)(C:(assignEach (e::es) X.env).map (·.2)=assign e X.env::(assignEach es X.env).map (·.2):=by rfl):Kh X (e::es) (pq a r) :=
 PGs.imp (zi i P C) λv' Z H Q ⟨U,f,h,v,F,M,z,q⟩=>by
  cases z with
  |nil=>exact q.elim
  |@cons x y xs ys O u =>
   refine⟨_,_,rfl,U,f,h,x,F,M,O,?_⟩;dsimp only[pq]at q
   cases e:a x f h with
   |nx j i=>rw[e]at q;exact λL H' S l B E=>⟨L,j,i,xs,E,B,u.le l,mP.le l q⟩
   |exc R j i=>rw[e]at q;exact q
   |_=>rw[e]at q;exact q
def yW(r:CK)(n:Nat):Mg:=λv Z h=>match v with
 |.tup xs=>if xs.length=n then r xs Z h else .bad
 |_=>.bad
def gL(g:Good X N W G k){a:SH}{j:Nat}{r:CK}{n:Nat}{l:Pos}(h:Kh X a r)(z:(assignEach a X.env).length=n:=by rfl)(f:(assignEach a X.env).findIdx? (·.1)=Y:=by rfl):
  MG X (.Tuple a j l) (yW r n) :=
 PG.imp (FG g.calm h z f) λE Z H Q ⟨U,i,h,v,B,C,y,q⟩=>by
  cases y with
  |tup s u =>
   dsimp only[yW]at q
   split at q
   .rename_i hl
    exact⟨_,_,rfl,s,by rw[<-u.length];exact hl,U,i,h,_,B,C,u,q⟩
   .exact q.elim
  |_=>exact q.elim
def oX(m:Mx PV)(g:Mg):mh:=vQ m λv Z h=>match g v Z h with
 |.nx a f=>.nx a f
 |.exc x a f=>.exc x a f
 |_=>.bad
def sV{f e:Expr}{m:Mx PV}{g:Mg}{i:Pos}(y:ME X e m)(C:MG X f g)(B:swapsWithSole [f] e i.line X.env=pure T:=by rfl)(hw:swappedStores [f] e X.env=pure Y:=by rfl)(j:(assignEach [f] X.env).map (·.2)=[assign f X.env]:=by rfl):MS X (.Assign [f] e i) (oX m g) :=
 PS.imp (FI y C B hw j) λD Z H ⟨U,a,h,u,E,q⟩=>⟨U,a,h,u,E,bf.ex q λM P v O j l r z w=>⟨M,a,j,v,u.le l,r,z,by
  cases e:g v a j with
  |nx F L=>rw[e]at w;exact w
  |exc x F L=>rw[e]at w;exact w
  |_=>rw[e]at w;exact w⟩⟩
def Gh(i j:Nat)(m:Mx (SM)):mh:=vQ m λa Z h=>match a with
 |[v,w]=>.nx ((Z.set i (J v)).set j (J w)) h
 |_=>.bad
def Gi(g:Good X N W G k)(i j:Nat)(C:N[i]?=J x)(E:N[j]?=J y)(f:i≠j)(M:MA X [a,b] m)(F:X.env.scope.names.lookup x=J .local)(O:X.env.scope.names.lookup y=J .local)(hw:swappedStores [.Tuple [.Name x px,.Name y py] kt pt] (.Tuple [a,b] k2 pt2) X.env=pure (J [x,y]))(L:swapsWithSole [.Tuple [.Name x px,.Name y py] kt pt] (.Tuple [a,b] k2 pt2) pos.line X.env=pure T:=by rfl):
  MS X (.Assign [.Tuple [.Name x px,.Name y py] kt pt] (.Tuple [a,b] k2 pt2) pos) (Gh i j m) :=
 PS.imp (FK g.calm (by rw[g.hN];exact g.nd) (g.x C) (g.x E) f F O M hw L) λD Z H ⟨U,u,h,B,P,q⟩=>⟨U,u,h,B,P,bf.ex q λS R v v' h1 l r z w=>by
  cases z with
  |nil=>exact w.elim
  |cons z1 z =>
   cases z with
   |nil=>exact w.elim
   |cons Q z =>
    cases z with
    |nil=>exact⟨_,_,rfl,w S R _ (Le.refl _ _) r (((B.le l).set i z1).set j Q)⟩
    |cons _ _=>exact w.elim⟩
def rV(o i v:PV)(h:MH):Option MH:=match o,i with
 |.loc n,.int j=>(match h[n]? with
  |some (.lst xs)=>(vq xs.length j).map λp=>h.set n (.lst (xs.set p v))
  |_=>Y)
 |_,_=>Y
def Gj(mo a:Mx PV):Mg:=λv=>vQ mo λo=>vQ a λi Z h=>match rV o i v h with
 |some f=>.nx Z f
 |none=>.bad
def sA(ho:ME X o mo)(hi:ME X i mi)(ha:∀v,assign (.Subscript o i pos) X.env v=(do
   let u <-holding [v] (eval o X.env)
   let B <-holding [v,u] (eval i X.env)
   standAt pos
   holding [v,u,B] (setItem u B v)
   release [v,u,B] []):=by intro _;rfl):MG X (.Subscript o i pos) (Gj mo mi) :=
 PG.imp (FH ho hi zf ha) λv' Z H Q ⟨U,f,h,v,E,rh,rv,q⟩=>by
  refine⟨U,f,h,E,rh,?_⟩;unfold Gj vQ at q
  cases e:mo f h with
  |exc x C=>rw[e]at q;exact q
  |bad=>rw[e]at q;exact q
  |ok u C =>
   rw[e]at q;intro U1 H1 o' l L ro;refine⟨U1,f,C,E.le l,L,?_⟩;dsimp only at q
   cases e2:mi f C with
   |exc x h2=>rw[e2]at q;exact XP.le (X:=X) (σp:=f) (x:=x) (h:=h2) l q
   |bad=>rw[e2]at q;exact q
   |ok B h2 =>
    rw[e2]at q;intro U2 H2 i' z y ri;dsimp only at q;have M:=ro.le z;have F:=(rv.le l).le z;unfold rV at q
    cases M with
    |@loc n a R =>
     cases ri with
     |int j =>
      dsimp only at q;obtain⟨ob,eo,O⟩:=y.obj R;rw[eo]at q
      cases ob with
      |dic fz ks xs=>exact q.elim
      |exc x=>exact q.elim
      |lst xs =>
       obtain⟨ys,ey,ry⟩:=O;dsimp only at q
       cases P:vq xs.length j with
       |none=>rw[P]at q;exact q.elim
       |some p =>
        rw[P]at q;refine⟨a,ys,j,p,rfl,rfl,ey,by rw[<-ry.length];exact P,?_⟩;obtain⟨r3,S⟩:=y.put R (o:=.lst (xs.set p v)) (ho:=.lst (ys.set p v')) ⟨_,rfl,RPs.set F p ry⟩;exact q U2 _ Z (l.trans (z.trans S)) r3 (E.le (l.trans (z.trans S)))
     |_=>exact q.elim
    |_=>exact q.elim
structure MIt where
 xs:SM
 gd:List (Nat×SM):=[]
def MIt.ok(a:MIt)(h:MH):Prop:=∀p∈a.gd,h[p.1]?=J (.lst p.2)
def pA(X:Cx):Rl MIt It:=λy z f a=>∀U H h (i:Nat),Le y z U H->RH X.K X.mg U H h->f.ok h ->
 (i<f.xs.length->a.go i H/\∀u j,a.yld i H u j->∃l x,Le U H l j/\RH X.K X.mg l j h/\f.xs[i]?=J x/\RP X.K l j x u)/\(f.xs.length<=i->a.stop i H)
def MI(X:Cx)(f a:Expr)(m:Mx MIt):Prop:=PI X f a (tM X (pA X) m)
def PI.imp(h:PI X tg e t)(i:∀Z H Q,t' Z H Q->t Z H Q):PI X tg e t':=λf s Z H Q a q=>h f s Z H Q a (i Z H Q q)
def vt(i:MIt)(g:Mg)(b:mh):SM->mh
 |[]=>λZ h=>if i.ok h then .nx Z h else .bad
 |x::r=>λZ h=>if i.ok h then (match g x Z h with
   |.nx l j=>(match b l j with
    |.nx f a=>vt i g b r f a
    |.ct f a=>vt i g b r f a
    |.bk f a=>.nx f a
    |.rt v a=>.rt v a
    |.exc e f a=>.exc e f a
    |.rse e f a=>.rse e f a
    |.bad=>.bad)
   |.exc e l j=>.exc e l j
   |_=>.bad)else .bad
def iP(f:Mx MIt)(g:Mg)(b:mh):mh:=vQ f λa=>vt a g b a.xs
def jd(gd:Good X N W G k)(hi:MI X tg iter mi)(hg:MG X tg g)(hb:Aw X body mb)(hs:∀x,foldedSetIterable iter X.env x=pure x:=by intro _;rfl):MS X (.For tg iter body [] pos) (iP mi g mb):=by
 refine PS.imp (FN gd.po gd.calm hi hg hb hs) λD Z H ⟨U,l,h,rs,rh,q⟩=>⟨U,l,h,rs,rh,bf.ex q λS H1 f an h1 l1 ai jr w=>?_⟩;refine⟨λi m Z H=>m=f.xs.length-i/\i<=f.xs.length/\∃U l h,Le S H1 U H/\RS X.K U H l Z/\RH X.K X.mg U H h/\bf X U H (vt f g mb (f.xs.drop i) l h) D,⟨_,rfl,zL _,S,l,h1,Le.refl _ _,rs.le l1,ai,w⟩,?_⟩;rintro i m Z2 H2 ⟨rfl,hi,U2,C,h2,l2,Q,F,u⟩;by_cases B:i<f.xs.length
 .have ed:f.xs.drop i=f.xs[i]::f.xs.drop (i+1):=Mo B;rw[ed]at u;unfold vt at u
  split at u
  .rename_i hok
   obtain⟨j1,j2⟩:=jr U2 H2 h2 i l2 F hok;obtain⟨go,yl⟩:=j1 B;refine .inr ⟨go,λZ3 O=>∃R E h3,Le S H1 R O/\RS X.K R O E Z3/\RH X.K X.mg R O h3/\bf X R O (vt f g mb (f.xs.drop (i+1)) E h3) D,λZ3 O z=>⟨_,by ext,rfl,B,z⟩,λx' H' y=>?_⟩;obtain⟨U',x,l',ab,ex,rx⟩:=yl x' H' y;have al:x=f.xs[i]:=by rw[vp B]at ex;exact(Option.some.inj ex).symm
   subst al;refine⟨U',C,h2,_,Q.le l',ab,rx,?_⟩;have j:=bf.le l' u
   cases eg:g f.xs[i] C h2 with
   |nx Z4 h4 =>
    rw[eg]at j;intro U5 H5 Z5 l5 r5 s5;refine⟨U5,Z4,h4,s5,r5,?_⟩;have a:=bf.le l5 j;have l6:Le S H1 U5 H5:=l2.trans (l'.trans l5);dsimp only at a
    cases em:mb Z4 h4 with
    |nx M L=>rw[em]at a;exact λU7 H7 Z7 P r7 s7=>⟨U7,M,L,l6.trans P,s7,r7,bf.le P a⟩
    |ct M L=>rw[em]at a;exact λU7 H7 Z7 P r7 s7=>⟨U7,M,L,l6.trans P,s7,r7,bf.le P a⟩
    |bk M L=>rw[em]at a;exact a
    |rt v L=>rw[em]at a;exact a
    |exc e M L=>rw[em]at a;exact a
    |rse e M L=>rw[em]at a;exact a
    |bad=>rw[em]at a;exact a
   |exc e Z4 h4=>rw[eg]at j;exact j
   |_=>rw[eg]at j;exact j.elim
  .exact u.elim
 .have e:i=f.xs.length:=by ext
  rw[e,List.drop_length]at u;unfold vt at u
  split at u
  .rename_i hok
   obtain⟨j1,j2⟩:=jr U2 H2 h2 i l2 F hok;exact .inl ⟨j2 (by ext),u U2 H2 Z2 (Le.refl _ _) F Q⟩
  .exact u.elim
def EJ(v:PV)(h:MH):Out MIt:=match v with
 |.loc n=>(match h[n]? with
  |some (.lst xs)=>.ok ⟨xs,[(n,xs)]⟩ h
  |_=>.bad)
 |.frl xs=>.ok ⟨xs,[]⟩ h
 |_=>.bad
def Ki(m:Mx PV):Mx MIt:=λZ h=>(m Z h).bind EJ
def uz(M:∀j f h,Le U H j f->RH X.K X.mg j f h->(⟨xs,gd⟩:MIt).ok h->∃ys,SqL X.K f a ys/\RPs X.K j f xs ys):pA X U H ⟨xs,gd⟩ (Oj X.K a):=by
 intro j f h i l L ok;obtain⟨ys,B,F⟩:=M j f h l L ok;refine⟨λu=>?_,λu=>⟨ys,B,by rw[<-F.length];exact u⟩⟩;have C:xs[i]?=J (xs[i]'u):=vp u;obtain⟨y,E,O⟩:=F.get C;refine⟨⟨ys,y,B,E⟩,λP Q ⟨e,z⟩=>?_⟩;subst e
 have:ys[i]?=J P:=z ys B
 rw[E]at this;cases this;exact⟨j,_,Le.refl _ _,L,C,O⟩
def CL(hl:ME X l m):MI X tg l (Ki m) :=
 PI.imp (Co hl) λZ H Q ⟨U,y,h,S,rh,q⟩=>⟨U,y,h,S,rh,Ful.bind q λF E x x' h1 _ l1 i rx f=>by
  cases rx with
  |@loc n a e =>
   obtain⟨M,O,B⟩:=i.obj e;dsimp only[EJ]at f;rw[O]at f
   cases M with
   |dic fz ks xs=>exact f.elim
   |exc x=>exact f.elim
   |lst xs =>
    obtain⟨ys,R,ry⟩:=B;refine⟨a,rfl,⟨ys,SqL.of R⟩,f F E _ (Le.refl _ _) i (uz λU' P L l j ok=>?_)⟩;obtain⟨u,z,C⟩:=j.at' n a _ (l.get e) (ok (n,xs) (by simp));exact⟨u,SqL.of z,C⟩
  |frl s r =>
   exact⟨_,rfl,⟨_,s.sq⟩,f F E _ (Le.refl _ _) i (uz λU' P L l j ok=>⟨_,(l.sqf s).sq,r.le l⟩)⟩
  |_=>exact f.elim⟩
def Kj(m:Mx PV):Mx MIt:=λZ h=>(m Z h).bind λv a=>match v with
 |.tup xs=>.ok ⟨xs,[]⟩ a
 |_=>.bad
def Gk(hl:ME X l m):MI X tg l (Kj m) :=
 PI.imp (FM hl) λZ H Q ⟨U,B,h,O,S,q⟩=>⟨U,B,h,O,S,Ful.bind q λU1 H1 x M h1 _ l1 C rx L=>by
  cases rx with
  |@tup xs a ys s r =>
   refine⟨_,rfl,⟨_,s⟩,L U1 H1 _ (Le.refl _ _) C ?_⟩;intro P H' h' i l u ok;have j:=l.sqt s;have r':=r.le l;refine⟨λf=>?_,λf=>⟨ys,j,by rw[<-r.length];exact f⟩⟩;have E:xs[i]?=J (xs[i]'f):=vp f;obtain⟨y,F,R⟩:=r'.get E;refine⟨⟨ys,y,j,F⟩,λM H2 ⟨e,z⟩=>?_⟩;subst e
   have:ys[i]?=J M:=z ys j
   rw[F]at this;cases this;exact⟨P,_,Le.refl _ _,u,E,R⟩
  |_=>exact L.elim⟩
def bo(lo:Int)(n:Nat):SM:=(List.range n).map λ(i:Nat)=>PV.int (lo+(i:Int))
def dy(lo:Int)(n:Nat):(bo lo n).length=n:=by simp[bo]
def CM(lo:Int)(n:Nat):pA X U H ⟨bo lo n,[]⟩ (M0 lo n):=by intro j y h i l f ok;have hl:(bo lo n).length=n:=dy lo n;refine⟨λa=>⟨by rw[hl]at a;exact a,λu z ⟨e1,e2⟩=>?_⟩,λa=>by rw[hl]at a;exact a⟩;subst e1;subst e2;rw[hl]at a;exact⟨j,.int (lo+i),Le.refl _ _,f,by simp[bo,a],.int _⟩
def dz(m:Mx (SM)):Mx MIt:=λZ h=>(m Z h).bind λf a=>match f with
 |[.int j]=>if -(2^62)<=j/\j<2^62 then .ok ⟨bo 0 j.toNat,[]⟩ a else .bad
 |_=>.bad
def pQ(F:Gl X "range")(B:X.mg "range"=Y)(E:MA X [a] m)(C:starEach [a] X.env=[(T,eval a X.env)]:=by rfl):MI X tg (.Call (.Name "range" p) [a] [] pos) (dz m):=by
 refine PI.imp (wR F B E C) λZ H Q ⟨U,i,h,L,M,q⟩=>⟨U,i,h,L,M,Ful.bind q λR O x x' h1 _ l1 l P f=>?_⟩
 cases P with
 |nil=>exact f.elim
 |cons y z =>
  cases z with
  |nil =>
   cases y with
   |int j =>
    dsimp only at f
    split at f
    .rename_i u
     exact⟨j,rfl,u.1,u.2,f R O _ (Le.refl _ _) l (CM 0 j.toNat)⟩
    .exact f.elim
   |_=>exact f.elim
  |cons r2 S=>cases y<;>exact f.elim
def bF(c:Mx Bool)(b:mh):Nat->mh
 |0=>λ_ _=>.bad
 |n+1=>vQ c λx=>if x=I then (λZ h=>match b Z h with
   |.nx f a=>bF c b n f a
   |.ct f a=>bF c b n f a
   |.bk f a=>.nx f a
   |.rt v a=>.rt v a
   |.exc e f a=>.exc e f a
   |.rse e f a=>.rse e f a
   |.bad=>.bad)else n7
def Gm(c:Mx Bool)(b:mh):mh:=λZ h=>if z:∃n,bF c b n Z h≠.bad then bF c b (Classical.choose z) Z h else .bad
def kT:∀{n:Nat}{Z:m_}{h:MH},bF c b n Z h≠.bad->bF c b (n+1) Z h=bF c b n Z h
 |0,_,_,q=>absurd rfl q
 |n+1,Z,h,q=>by
  rw[bF]at q
  conv=>lhs;rw[bF]
  conv=>rhs;rw[bF]
  unfold vQ at q ⊢
  cases e:c Z h with
  |exc x a=>rfl
  |bad=>rfl
  |ok x a =>
   rw[e]at q;dsimp only at q ⊢
   cases x with
   |false=>rfl
   |true =>
    simp only[if_true]at q ⊢
    cases em:b Z a with
    |nx f i=>rw[em]at q;exact kT q
    |ct f i=>rw[em]at q;exact kT q
    |_=>rfl
def t9(q:bF c b n Z h≠.bad)(l:n<=m):bF c b m Z h=bF c b n Z h:=by
 induction l with
 |refl=>rfl
 |step l a=>rw[kT (by rw[a];exact q),a]
def i9(q:bF c b n Z h≠.bad):Gm c b Z h=bF c b n Z h:=by
 have z:∃n,bF c b n Z h≠.bad:=⟨n,q⟩;unfold Gm;rw[dif_pos z];have a:=Classical.choose_spec z;rcases Nat.le_total n (Classical.choose z)with l|l
 .exact t9 q l
 .exact (t9 a l).symm
def An(gd:Good X N W G k)(hc:MT X c mc)(R:Aw X body mb):MS X (.While c body [] pos) (Gm mc mb):=by
 refine PS.imp (zg gd.po hc R) λD Z H ⟨U,a,h,rs,rh,q⟩=>?_;refine⟨λm Z H=>∃U a h,RS X.K U H a Z/\RH X.K X.mg U H h/\bf X U H (bF mc mb m a h) D,?_,?_⟩
 .unfold Gm at q
  split at q
  .exact⟨_,U,a,h,rs,rh,q⟩
  .exact q.elim
 .rintro m Z1 H1 ⟨U1,f,S,i,E,B⟩
  cases m with
  |zero=>exact B.elim
  |succ m =>
   rw[bF]at B;refine⟨U1,f,S,i,E,bf.ex B λM H2 v v' P L O z w=>?_⟩;cases z
   cases v with
   |false=>rw[f_ Fg]at w ⊢;exact w M H2 Z1 (Le.refl _ _) O (i.le L)
   |true =>
    rw[b_ rfl]at w ⊢;refine⟨λZ H=>∃U a h,RS X.K U H a Z/\RH X.K X.mg U H h/\bf X U H (bF mc mb m a h) D,λZ' H' z=>⟨m,Mz _,z⟩,M,f,P,i.le L,O,?_⟩
    cases em:mb f P with
    |nx l j=>rw[em]at w;exact λC H7 Q y u F=>⟨C,l,j,F,u,bf.le y w⟩
    |ct l j=>rw[em]at w;exact λC H7 Q y u F=>⟨C,l,j,F,u,bf.le y w⟩
    |bk l j=>rw[em]at w;exact w
    |rt v j=>rw[em]at w;exact w
    |exc e l j=>rw[em]at w;exact w
    |rse e l j=>rw[em]at w;exact w
    |bad=>rw[em]at w;exact w
def bV(f:PV->Option PyData):SM->Option (List PyData)
 |[]=>J []
 |x::r=>match f x,bV f r with
  |some d,J a=>J (d::a)
  |_,_=>Y
def rd:Nat->MH->PV->Option PyData
 |0,_,v=>(match v with
  |.non=>J .none
  |.bl b=>J (.bool b)
  |.int i=>J (.int i)
  |.str x=>J (.str x)
  |_=>Y)
 |n+1,h,v=>(match v with
  |.non=>J .none
  |.bl b=>J (.bool b)
  |.int i=>J (.int i)
  |.str x=>J (.str x)
  |.tup xs=>(bV (rd n h) xs).map PyData.tuple
  |.frl xs=>(bV (rd n h) xs).map PyData.list
  |.loc m=>(match h[m]? with
   |some (.lst xs)=>(bV (rd n h) xs).map PyData.list
   |_=>Y))
def fK{l:Heap}{f:PV->Option PyData}{K:h8}{U:SX}{H:Hp}(hf:∀v y u d,RP K U H v y->aL y u->f v=J d->∃j,Reads l u d j):
  ∀{xs:SM}{ys:List V}{a:SA}{i:List PyData},RPs K U H xs ys->aF ys a->bV f xs=J i->∃j,ReadsAll l a i j:=by
 intro xs
 induction xs with
 |nil =>
  intro ys a i r v e;cases r;cases v;cases e;exact⟨_,.nil⟩
 |cons x xs z =>
  intro ys a i r v e;cases r with|cons r t=>cases v with|cons v w =>
  simp only[bV]at e
  split at e
  .rename_i d B e1 e2
   cases e;obtain⟨F,E⟩:=hf _ _ _ _ r v e1;obtain⟨L,C⟩:=z t w e2;exact⟨_,.cons E C⟩
  .cases e
def eV{R:SD}{Z:L2.St}{H:Hp}{s:Shared}{U:SX}{h:MH}(f:Inv X R Z H s)(rh:RH X.K X.mg U H h):
  ∀(n:Nat)(v:PV)(B:V)(u:Value)(d:PyData),RP X.K U H v B->aL B u->rd n h v=J d->∃z,Reads s.heap u d z:=by
 intro n
 induction n with
 |zero =>
  intro v B u d rp r e
  cases rp with
  |non=>cases e;cases r;exact⟨_,.none⟩
  |bl b=>cases e;cases r;exact⟨_,.bool b⟩
  |int i=>cases e;obtain⟨t,rfl⟩:=r;exact⟨_,.int i t⟩
  |str i=>cases e;obtain⟨t,rfl⟩:=r;exact⟨_,.str i t⟩
  |_=>cases e
 |succ n C =>
  intro v B u d rp r e
  cases rp with
  |non=>cases e;cases r;exact⟨_,.none⟩
  |bl b=>cases e;cases r;exact⟨_,.bool b⟩
  |int i=>cases e;obtain⟨t,rfl⟩:=r;exact⟨_,.int i t⟩
  |str i=>cases e;obtain⟨t,rfl⟩:=r;exact⟨_,.str i t⟩
  |@tup xs a ys s E =>
   cases r;simp only[rd]at e
   cases q:bV (rd n h) xs with
   |none=>rw[q]at e;cases e
   |some L =>
    rw[q]at e;cases e;obtain⟨l,y,⟨o,e1,e2,m,e3⟩,_⟩:=f.tuple s;obtain⟨z,j⟩:=fK (C) E y q;exact⟨_,.tuple e1 e2 e3 (by simpa using j)⟩
  |@frl xs a ys s E =>
   cases r;simp only[rd]at e
   cases q:bV (rd n h) xs with
   |none=>rw[q]at e;cases e
   |some L =>
    rw[q]at e;cases e;obtain⟨l,y,⟨o,m,e1,e2,_,e3⟩,_⟩:=f.list s.sq;obtain⟨z,j⟩:=fK (C) E y q;exact⟨_,.list e1 e2 e3 (by simpa using j)⟩
  |loc M =>
   cases r;simp only[rd]at e;obtain⟨O,P,F⟩:=rh.obj M;rw[P]at e
   cases O with
   |dic fz ks xs=>cases e
   |exc x=>cases e
   |lst xs =>
    obtain⟨ys,Q,S⟩:=F;dsimp only at e
    cases q:bV (rd n h) xs with
    |none=>rw[q]at e;cases e
    |some L =>
     rw[q]at e;cases e;obtain⟨l,y,⟨o,m',e1,e2,_,e3⟩,_⟩:=f.list (SqL.of (K:=X.K) Q);obtain⟨z,j⟩:=fK (C) S y q;exact⟨_,.list e1 e2 e3 (by simpa using j)⟩
def zM(x y:PV)(h:MH):SK:=match rd 60 h x,rd 60 h y with
 |some a,J b=>if SeqAt.shaped a=I/\SeqAt.shaped b=I then .ok (.bl (PyData.eqv a b)) h else .bad
 |_,_=>.bad
def Ay(x y:PV)(h:MH):SK:=match rd 60 h x,rd 60 h y with
 |some a,J b=>if SeqAt.shaped a=I/\SeqAt.shaped b=I then .ok (.bl (!PyData.eqv a b)) h else .bad
 |_,_=>.bad
def wz(E:Room k X.A):wj X (compareOp .Eq) zM:=by
 intro S s Z H M O u v Q f l j ⟨U,h,x,y,i,R,L,q⟩;unfold zM at q
 split at q
 .rename_i a b C F
  split at q
  .rename_i z
   obtain⟨_,B⟩:=eV f i 60 x M u a R l C;obtain⟨_,P⟩:=eV f i 60 y O v b L j F;exact eq_dataH B P z.1 z.2 E.units ⟨.bl _,H,f,rfl,q U H _ (Le.refl _ _) i (.bl _)⟩
  .exact q.elim
 .exact q.elim
def wu(E:Room k X.A):wj X (compareOp .NotEq) Ay:=by
 intro S s Z H M O u v Q f l j ⟨U,h,x,y,i,R,L,q⟩;unfold Ay at q
 split at q
 .rename_i a b C F
  split at q
  .rename_i z
   obtain⟨_,B⟩:=eV f i 60 x M u a R l C;obtain⟨_,P⟩:=eV f i 60 y O v b L j F;exact ne_dataH B P z.1 z.2 E.units ⟨.bl _,H,f,rfl,q U H _ (Le.refl _ _) i (.bl _)⟩
  .exact q.elim
 .exact q.elim
def ni(f:Int->Int->PV):PV->PV->MH->SK:=λx y h=>match x,y with
 |.int i,.int j=>.ok (f i j) h
 |_,_=>.bad
def oC(C:OpR X F (Cp f))(a:∀U H i j,RP X.K U H (g i j) (f i j)):wj X F (ni g):=by
 intro E s Z H P R u v Q l B z ⟨U,h,x,y,M,O,L,q⟩;unfold ni at q
 split at q
 .cases O;cases L;exact C E s Z H _ _ u v Q l B z ⟨_,_,rfl,rfl,q U H _ (Le.refl _ _) M (a U H _ _)⟩
 .exact q.elim
def BO:=ni λi j=>.bl (decide (i<j))
def Gn:=ni λi j=>.bl (decide (i<=j))
def BP:=ni λi j=>.bl (decide (j<i))
def Bt:=ni λi j=>.bl (decide (j<=i))
def EK:wj X (compareOp .Lt) BO:=oC JV λ_ _ _ _=>.bl _
def Kk:wj X (compareOp .LtE) Gn:=oC JW λ_ _ _ _=>.bl _
def EL:wj X (compareOp .Gt) BP:=oC JX λ_ _ _ _=>.bl _
def EM:wj X (compareOp .GtE) Bt:=oC JY λ_ _ _ _=>.bl _
def Kl(neg:Bool):PV->PV->MH->SK:=λx y h=>match y with
 |.non=>(match x with
  |.non=>.ok (.bl (!neg)) h
  |_=>.ok (.bl neg) h)
 |.bl b=>(match x with
  |.bl c=>.ok (.bl (if neg then !(c==b)else c==b)) h
  |.non=>.ok (.bl neg) h
  |.int _=>.ok (.bl neg) h
  |.str _=>.ok (.bl neg) h
  |.tup _=>.ok (.bl neg) h
  |_=>.bad)
 |_=>.bad
def jn(x y:PV)(h:MH):SK:=match x,y with
 |.int i,.int j=>if IntMulOk i j then .ok (.int (i*j)) h else .bad
 |.loc n,.int j=>(match h[n]? with
  |some (.lst xs)=>if -(2^63)<=j/\j<2^63 then q_ (List.flatten (List.replicate j.toNat xs)) h else .bad
  |_=>.bad)
 |_,_=>.bad
def A_(x y:PV)(h:MH):SK:=match x,y with
 |.int i,.int j=>if j≠0 then .ok (.int (i.fdiv j)) h else .bad
 |_,_=>.bad
def mm(x y:PV)(h:MH):SK:=match x,y with
 |.int i,.int j=>if j≠0 then .ok (.int (i.fmod j)) h else .bad
 |_,_=>.bad
def rg(x y:PV)(h:MH):SK:=match x,y with
 |.int i,.int j=>if gQ i j then .ok (.int (i^j.toNat)) h else .bad
 |_,_=>.bad
def i_(x y:PV)(h:MH):SK:=match x,y with
 |.int i,.int j=>.ok (.int (i+j)) h
 |.str a,.str b=>if a.length+b.length<=sizeLine then .ok (.str (a++b)) h else .bad
 |.loc n,.loc m=>(match h[n]?,h[m]? with
  |some (.lst xs),J (.lst ys)=>q_ (xs++ys) h
  |_,_=>.bad)
 |.tup xs,.tup ys=>if xs≠[]then ll (xs++ys) h else .bad
 |_,_=>.bad
def BQ:=ni λi j=>.int (i-j)
def BR(x:PV)(h:MH):SK:=match x with
 |.int i=>.ok (.int (-i)) h
 |_=>.bad
def Go:wj X (binaryOp .Sub) BQ:=oC FQ λ_ _ _ _=>.int _
def Gp:Q1 X (unaryOp .USub) BR:=by
 intro l s Z H z u Q a f ⟨U,h,x,j,y,q⟩
 cases y with
 |int i=>exact FS l s Z H _ u Q a f ⟨i,rfl,q U H _ (Le.refl _ _) j (.int _)⟩
 |_=>exact q.elim
def R4{u:SD}{Z:L2.St}{H:Hp}{s:Shared}(j:Room k X.A)(a:Inv X u Z H s):PylongRoom (model X.prog X.w) X.A s:=by obtain⟨e,l,y,z,B,f,i⟩:=a.ok.top;exact PylongRoom.of a.nolimit (by have:=j.dp;show X.A.depth+100<_;ext) (SeerAt.of (a.ok.mod.seer.keeps a.bk) a.ok.tree (a.ok.frames.trans (congrArg J y)) z B f i)
def vI(B:Room k X.A):wj X (binaryOp .FloorDiv) A_:=by
 intro L s Z H M O u v Q a l f ⟨U,h,x,y,E,F,C,q⟩;unfold A_ at q
 split at q
 .rename_i i j
  cases F;cases C;obtain⟨t,rfl⟩:=l;obtain⟨P,rfl⟩:=f;by_cases z:j≠0
  .rw[b_ z]at q;exact floordiv_int z ⟨.int _,H,a.tok _,⟨_,rfl⟩,q U H _ (Le.refl _ _) E (.int _)⟩ (.inr (R4 B a))
  .rw[f_ z]at q;exact q.elim
 .exact q.elim
def cW:wj X (binaryOp .Mod) mm:=by
 intro F s Z H L M u v Q a l f ⟨U,h,x,y,C,E,B,q⟩;unfold mm at q
 split at q
 .rename_i i j
  cases E;cases B
  split at q
  .rename_i z
   obtain⟨t,rfl⟩:=l;obtain⟨O,rfl⟩:=f;exact mod_int' z ⟨.int _,H,a.tok _,⟨_,rfl⟩,q U H _ (Le.refl _ _) C (.int _)⟩
  .exact q.elim
 .exact q.elim
def yJ:wj X (binaryOp .Pow) rg:=by
 intro z s Z H L M u v Q a l f ⟨U,h,x,y,E,F,C,q⟩;unfold rg at q
 split at q
 .rename_i i j
  cases F;cases C
  split at q
  .rename_i B
   exact FR z s Z H _ _ u v Q a l f ⟨i,j,rfl,rfl,B,q U H _ (Le.refl _ _) E (.int _)⟩
  .exact q.elim
 .exact q.elim
def bT:wj X (binaryOp .Add) i_:=by
 intro L s Z H x' y' u v Q f B l ⟨U,h,x,y,C,rx,F,q⟩
 cases rx with
 |int i =>
  cases F with
  |int j=>exact FP L s Z H _ _ u v Q f B l ⟨i,j,rfl,rfl,q U H _ (Le.refl _ _) C (.int _)⟩
  |_=>exact q.elim
 |str a =>
  cases F with
  |str b =>
   dsimp only[i_]at q
   split at q
   .rename_i hl
    exact vD L s Z H _ _ u v Q f B l ⟨a,b,rfl,rfl,hl,q U H _ (Le.refl _ _) C (.str _)⟩
   .exact q.elim
  |_=>exact q.elim
 |@loc n a e =>
  cases F with
  |@loc m b e2 =>
   dsimp only[i_]at q;obtain⟨o1,h1,E⟩:=C.obj e;obtain⟨o2,h2,M⟩:=C.obj e2;rw[h1,h2]at q
   cases o1 with
   |dic fz ks xs=>exact q.elim
   |exc x=>exact q.elim
   |lst xs =>
    cases o2 with
    |dic fz ks xs=>exact q.elim
    |exc x=>exact q.elim
    |lst ys =>
     obtain⟨S,ex,R⟩:=E;obtain⟨O,ey,ab⟩:=M;obtain⟨z1,z2⟩:=lM C (R.append ab) q;exact F2 L s Z H _ _ u v Q f B l ⟨a,b,S,O,rfl,rfl,ex,ey,by rw[<-Br];exact z1,z2⟩
  |_=>exact q.elim
 |tup s1 E =>
  cases F with
  |tup s2 M =>
   dsimp only[i_]at q
   split at q
   .rename_i P
    obtain⟨z1,z2⟩:=uV C (E.append M) q;refine Cz L s Z H _ _ u v Q f B l ⟨_,_,_,_,rfl,rfl,s1,s2,?_,by rw[<-Br];exact z1,λz=>?_,λ_=>z2⟩
    .rintro rfl;cases E;exact P rfl
    .subst z;cases M;unfold ll at q
     split at q
     .exact q U H _ (Le.refl _ _) C (by rw[IV];exact .tup s1 E)
     .exact q.elim
   .exact q.elim
  |_=>exact q.elim
 |_=>cases F<;>exact q.elim
def RPs.rep{K:h8}{U:SX}{H:Hp}{xs:SM}{ys:List V}(r:RPs K U H xs ys):∀n:Nat,RPs K U H (List.replicate n xs).flatten (List.replicate n ys).flatten
 |0=>.nil
 |n+1=>by rw[Bp,Bp,Ez,Ez];exact r.append (RPs.rep r n)
def eI:wj X (binaryOp .Mult) jn:=by
 intro R s Z H x' y' u v Q f z l ⟨U,h,x,y,F,rx,E,q⟩
 cases rx with
 |int i =>
  cases E with
  |int j =>
   dsimp only[jn]at q
   split at q
   .rename_i S
    obtain⟨t,rfl⟩:=z;obtain⟨t',rfl⟩:=l;exact PyProof.Rows.mul_int ⟨.int _,H,f.tok _,⟨_,rfl⟩,q U H _ (Le.refl _ _) F (.int _)⟩ S
   .exact q.elim
  |_=>exact q.elim
 |@loc n a e =>
  cases E with
  |int j =>
   dsimp only[jn]at q;obtain⟨P,M,O⟩:=F.obj e;rw[M]at q
   cases P with
   |dic fz ks xs=>exact q.elim
   |exc x=>exact q.elim
   |lst xs =>
    dsimp only at q
    split at q
    .rename_i L
     obtain⟨C,ex,B⟩:=O;obtain⟨z1,z2⟩:=lM F (B.rep j.toNat) q;refine F3 R s Z H _ _ u v Q f z l ⟨a,j,C,rfl,rfl,ex,L.1,L.2,?_,z2⟩;rw[uM]at z1;rw[Nat.mul_comm];exact z1
    .exact q.elim
  |_=>exact q.elim
 |_=>cases E<;>exact q.elim
def oz{f:SD}{Z:L2.St}{H:Hp}{s:Shared}{Q:VK}{x':V}{u:Value}{b c:Bool}(a:Inv X f Z H s)(r:aL x' u)(i:plainIs u (.bool b)=I)(j:(u == .bool b)=c)(q:Q (.bl c) H):
  wpAny (model X.prog X.w) X.A (compareOp .Is u (.bool b)) (EP X f Z Q) X.xe s:=by
 show wpAny _ _ (do return Value.bool (<-isSame u (.bool b))) _ _ _;exact hH (wpAny_isSame_plain i (ln (by rw[j];exact⟨.bl c,H,a,rfl,q⟩)))
def Km:wj X (compareOp .Is) (Kl T):=by
 intro B s Z H L M u v Q a f l ⟨U,h,x,y,j,z,C,q⟩
 cases C with
 |non =>
  refine FU B s Z H _ _ u v Q a f l ⟨rfl,?_⟩;cases z<;>exact q U H _ (Le.refl _ _) j (by first | exact .bl I | exact .bl T)
 |bl b =>
  cases l
  cases z with
  |non=>cases f;exact oz (x':=.non) (c:=T) a rfl (by cases b<;>rfl) (by cases b<;>rfl) (q U H _ (Le.refl _ _) j (.bl T))
  |bl c=>cases f;exact oz (x':=.bl c) (c:=c==b) a rfl (by cases b<;>cases c<;>rfl) (by cases b<;>cases c<;>rfl) (q U H _ (Le.refl _ _) j (.bl _))
  |int i=>obtain⟨t,rfl⟩:=f;exact oz (x':=.int i) (c:=T) a ⟨_,rfl⟩ (by cases b<;>rfl) (by cases b<;>rfl) (q U H _ (Le.refl _ _) j (.bl T))
  |str i=>obtain⟨t,rfl⟩:=f;exact oz (x':=.str i) (c:=T) a ⟨_,rfl⟩ (by cases b<;>rfl) (by cases b<;>rfl) (q U H _ (Le.refl _ _) j (.bl T))
  |tup F E=>cases f;exact oz (x':=.ref _) (c:=T) a rfl (by cases b<;>rfl) (by cases b<;>rfl) (q U H _ (Le.refl _ _) j (.bl T))
  |_=>exact q.elim
 |_=>exact q.elim
def bc(x y:PV)(h:MH):SK:=match y with
 |.int i=>(match x with
  |.loc n=>(match h[n]? with
   |some (.lst xs)=>(match n3 xs i with
    |some v=>.ok v h
    |none=>.bad)
   |_=>.bad)
  |.tup xs=>(match n3 xs i with
   |some v=>.ok v h
   |none=>.bad)
  |.frl xs=>(match n3 xs i with
   |some v=>.ok v h
   |none=>.bad)
  |.str z=>(match n3 z.cps.toList i with
   |some c=>if z.length<=sizeLine then .ok (.str ⟨#[c]⟩) h else .bad
   |none=>.bad)
  |_=>.bad)
 |_=>.bad
def oW{K:h8}{U:SX}{H:Hp}{xs:SM}{ys:List V}{i:Int}{v:PV}(r:RPs K U H xs ys)(e:n3 xs i=J v):∃a,n3 ys i=J a/\RP K U H v a:=by
 unfold n3 at e ⊢;rw[<-r.length]
 cases q:vq xs.length i with
 |none=>rw[q]at e;cases e
 |some j =>
  rw[q]at e;exact r.get e
def EN{a b:Expr}{ma mb:Mx PV}{R:Pos}(ha:ME X a ma)(hb:ME X b mb)(hs:jo b):ME X (.Subscript a b R) (au bc ma mb):=by
 refine PE.imp (J5 F0 ha hb hs) λZ H Q q=>?_;obtain⟨U,E,h,rs,rh,q⟩:=q;refine⟨U,E,h,rs,rh,Ful.bind q λU1 H1 x x' h1 _ l1 S rx q1=>⟨U1,E,h1,rs.le l1,S,Ful.bind q1 λL M y y' h2 _ l2 l ry f=>?_⟩⟩;have O:=rx.le l2
 cases ry with
 |int i =>
  cases O with
  |@loc n a e =>
   obtain⟨ob,eo,ab⟩:=l.obj e;dsimp only[bc]at f;rw[eo]at f
   cases ob with
   |dic fz ks xs=>exact f.elim
   |exc x=>exact f.elim
   |lst xs =>
    obtain⟨ys,ey,u⟩:=ab;dsimp only at f
    cases j:n3 xs i with
    |none=>rw[j]at f;exact f.elim
    |some v =>
     rw[j]at f;obtain⟨F,C,B⟩:=oW u j;exact .inl ⟨a,ys,i,F,rfl,rfl,SqL.of ey,C,f L M _ (Le.refl _ _) l B⟩
  |@tup xs a ys P u =>
   dsimp only[bc]at f
   cases j:n3 xs i with
   |none=>rw[j]at f;exact f.elim
   |some v =>
    rw[j]at f;obtain⟨F,C,B⟩:=oW u j;exact .inr (.inl ⟨_,_,i,F,rfl,rfl,P,C,f L M _ (Le.refl _ _) l B⟩)
  |@frl xs a ys P u =>
   dsimp only[bc]at f
   cases j:n3 xs i with
   |none=>rw[j]at f;exact f.elim
   |some v =>
    rw[j]at f;obtain⟨F,C,B⟩:=oW u j;exact .inl ⟨_,_,i,F,rfl,rfl,P.sq,C,f L M _ (Le.refl _ _) l B⟩
  |str z =>
   dsimp only[bc]at f
   cases j:n3 z.cps.toList i with
   |none=>rw[j]at f;exact f.elim
   |some c =>
    rw[j]at f;dsimp only at f
    split at f
    .rename_i hz
     exact .inr (.inr ⟨z,i,c,rfl,rfl,hz,j,f L M _ (Le.refl _ _) l (.str _)⟩)
    .exact f.elim
  |_=>exact f.elim
 |_=>exact f.elim
def p6(f:SM->MH->SK)(m:Mx (SM)):Mx PV:=λZ h=>(m Z h).bind λxs a=>(f xs a).ne
section
variable{x:Str}{id T:String}{e:Expr}{es:SH}{f:SM->MH->SK}{m:Mx (SM)}{p pos:Pos}
def EO{Z:L2.St}{H:Hp}{Q:VK}(q:tM X (RV' X) (p6 f m) Z H Q):Ov (cJ X f) (tM X (RVs' X) m) Z H Q:=by obtain⟨U,a,h,l,y,q⟩:=q;exact⟨U,a,h,l,y,Ful.bind q λB F x E j _ C i z u=>⟨B,j,x,i,z,u.zero⟩⟩
def tE(g:Good X N W G k)(j:Nat)(i:G[j]?=J x)(y:cr X (.builtin id) f)(u:X.mg x=Y)(hv:bootBuiltins x=J (.builtin id))(l:MA X (e::es) m)(z:starEach (e::es) X.env=(false,eval e X.env)::starEach es X.env:=by rfl)(a:(backTo pos (starEach es X.env)).any (·.1)=false:=by rfl):ME X (.Call (.Name x p) (e::es) [] pos) (p6 f m) :=
 have d:=g.dbg x (se _ (aN i))
 PE.imp (mD y (g.gl x (aN i)) u hv l d.2.2 d.1 z a) λ_ _ _ q=>EO q
def pK(g:Good X N W G k)(j:Nat)(i:G[j]?=J x)(y:cr X (.type T) f)(u:X.mg x=Y)(hv:bootBuiltins x=J (.type T))(l:MA X (e::es) m)(z:starEach (e::es) X.env=(false,eval e X.env)::starEach es X.env:=by rfl)(a:(backTo pos (starEach es X.env)).any (·.1)=false:=by rfl):ME X (.Call (.Name x p) (e::es) [] pos) (p6 f m) :=
 have d:=g.dbg x (se _ (aN i))
 PE.imp (pE y (g.gl x (aN i)) u hv l d.2.2 d.1 z a) λ_ _ _ q=>EO q
end
def AC(xs:SM)(h:MH):SK:=match xs with
 |[.int i]=>.ok (.int (if i<0 then -i else i)) h
 |_=>.bad
def wq(xs:SM)(h:MH):SK:=match xs with
 |[.int i,.int j]=>.ok (.int (if j<i then j else i)) h
 |_=>.bad
def AW(xs:SM)(h:MH):SK:=match xs with
 |[.int i,.int j]=>.ok (.int (if j>i then j else i)) h
 |_=>.bad
def BS(xs:SM)(h:MH):SK:=match xs with
 |[.int i]=>.ok (.int i) h
 |[.bl b]=>.ok (.int (if b then 1 else 0)) h
 |_=>.bad
def qo(xs:SM)(h:MH):SK:=match xs with
 |[.loc n]=>(match h[n]? with
  |some (.lst ys)=>.ok (.int ys.length) h
  |_=>.bad)
 |[.tup ys]=>.ok (.int ys.length) h
 |[.frl ys]=>.ok (.int ys.length) h
 |[.str z]=>if z.length<=sizeLine then .ok (.int z.length) h else .bad
 |_=>.bad
def sC:cr X (.builtin "abs") AC:=by
 intro u s Z H xs j Q a r ⟨U,h,z,y,rp,q⟩
 cases rp with
 |nil=>exact q.elim
 |cons f l =>
  cases l with
  |cons _ _=>cases f<;>exact q.elim
  |nil =>
   cases f with
   |int i=>exact Am u s Z H _ j Q a r ⟨i,rfl,q U H _ (Le.refl _ _) y (.int _)⟩
   |_=>exact q.elim
def sv{f:SM->MH->SK}{F:Int->Int->Int}{r:List V->Hp->VK->Prop}{u:Value}(hf:∀i j h,f [.int i,.int j] h=.ok (.int (F i j)) h)(R:∀xs h,(∀i j,xs≠[.int i,.int j])->f xs h=.bad)(M:cw X u (λxs H Q=>∃i j,xs=[.int i,.int j]/\Q (.int (F i j)) H)):cr X u f:=by
 intro L s Z H xs B Q a r ⟨U,h,l,P,rp,q⟩;by_cases z:∃i j,l=[.int i,.int j]
 .obtain⟨i,j,rfl⟩:=z
  cases rp with
  |cons E C=>cases C with
   |cons O y =>
    cases y;cases E;cases O;rw[hf]at q;exact M L s Z H _ B Q a r ⟨i,j,rfl,q U H _ (Le.refl _ _) P (.int _)⟩
 .rw[R l h λi j e=>z ⟨i,j,e⟩]at q;exact q.elim
def nV(g:Good X N W G k):cr X (.builtin "min") wq:=sv (r:=λ_ _ _=>True) (F:=λi j=>if j<i then j else i) (λ_ _ _=>rfl) (λxs h z=>by unfold wq;split<;>first | rfl | exact absurd rfl (z _ _)) (yk g.calm)
def xX(g:Good X N W G k):cr X (.builtin "max") AW:=sv (r:=λ_ _ _=>True) (F:=λi j=>if j>i then j else i) (λ_ _ _=>rfl) (λxs h z=>by unfold AW;split<;>first | rfl | exact absurd rfl (z _ _)) (wO g.calm)
def yQ:cr X (.type "int") BS:=by
 intro l s Z H xs f Q a r ⟨U,h,z,u,rp,q⟩
 cases rp with
 |nil=>exact q.elim
 |cons j y =>
  cases y with
  |cons _ _=>cases j<;>exact q.elim
  |nil =>
   cases j with
   |int i=>exact qj l s Z H _ f Q a r (.inl ⟨i,rfl,q U H _ (Le.refl _ _) u (.int _)⟩)
   |bl b=>exact qj l s Z H _ f Q a r (.inr ⟨b,rfl,q U H _ (Le.refl _ _) u (.int _)⟩)
   |_=>exact q.elim
def kY:cr X (.builtin "len") qo:=by
 intro u s Z H xs l Q f r ⟨U,h,R,j,rp,q⟩
 cases rp with
 |nil=>exact q.elim
 |cons C L =>
  cases L with
  |cons _ _=>cases C<;>exact q.elim
  |nil =>
   cases C with
   |@loc n a e =>
    obtain⟨E,F,B⟩:=j.obj e;dsimp only[qo]at q;rw[F]at q
    cases E with
    |dic fz P xs=>exact q.elim
    |exc x=>exact q.elim
    |lst xs =>
     obtain⟨ys,O,i⟩:=B;exact jP u s Z H _ l Q f r ⟨_,_,rfl,.inl ⟨ys,SqL.of O,rfl⟩,by rw[<-i.length];exact q U H _ (Le.refl _ _) j (.int _)⟩
   |tup y i=>exact jP u s Z H _ l Q f r ⟨_,_,rfl,.inr ⟨_,y,rfl⟩,by rw[<-i.length];exact q U H _ (Le.refl _ _) j (.int _)⟩
   |frl y i=>exact jP u s Z H _ l Q f r ⟨_,_,rfl,.inl ⟨_,y.sq,rfl⟩,by rw[<-i.length];exact q U H _ (Le.refl _ _) j (.int _)⟩
   |str z =>
    dsimp only[qo]at q
    split at q
    .rename_i M
     exact jP u s Z H _ l Q f r ⟨_,_,rfl,⟨M,rfl⟩,q U H _ (Le.refl _ _) j (.int _)⟩
    .exact q.elim
   |_=>exact q.elim
def CN(h:MH):PV->Option String
 |.non=>J "NoneType"
 |.bl _=>J "bool"
 |.int _=>J "int"
 |.str _=>J "str"
 |.tup _=>J "tuple"
 |.frl _=>J "list"
 |.loc n=>match h[n]? with
  |some (.lst _)=>J "list"
  |some (.dic _ _ _)=>J "dict"
  |_=>Y
def cA(t:String)(a:String):Bool:=t==a||(t == "bool" && a == "int")
def lg(a:List String)(x:PV)(h:MH):SK:=match CN h x with
 |some t=>.ok (.bl (a.any (cA t))) h
 |none=>.bad
def CO(a:String):Prop:=∀K:h8,∀t∈["NoneType","bool","int","str","tuple","list","dict"],PySem.W.kitOne K (.type t) (.type a)=J (cA t a)
def nS(j:∀K,PySem.W.kitOne K (.type "NoneType") (.type b)=J (cA "NoneType" b))(l:∀K,PySem.W.kitOne K (.type "bool") (.type b)=J (cA "bool" b))(z:∀K,PySem.W.kitOne K (.type "int") (.type b)=J (cA "int" b))(f:∀K,PySem.W.kitOne K (.type "str") (.type b)=J (cA "str" b))(i:∀K,PySem.W.kitOne K (.type "tuple") (.type b)=J (cA "tuple" b))(u:∀K,PySem.W.kitOne K (.type "list") (.type b)=J (cA "list" b))(y:∀K,PySem.W.kitOne K (.type "dict") (.type b)=J (cA "dict" b)):CO b:=by
 intro K t a;simp only[pu,IT,or_false]at a;rcases a with rfl|rfl|rfl|rfl|rfl|rfl|rfl
 .exact j K
 .exact l K
 .exact z K
 .exact f K
 .exact i K
 .exact u K
 .exact y K
def CP:CO "int":=nS (λ_=>rfl) (λ_=>rfl) (λ_=>rfl) (λ_=>rfl) (λ_=>rfl) (λ_=>rfl) (λ_=>rfl)
def AF:CO "bool":=nS (λ_=>rfl) (λ_=>rfl) (λ_=>rfl) (λ_=>rfl) (λ_=>rfl) (λ_=>rfl) (λ_=>rfl)
def AA:CO "list":=nS (λ_=>rfl) (λ_=>rfl) (λ_=>rfl) (λ_=>rfl) (λ_=>rfl) (λ_=>rfl) (λ_=>rfl)
def yq:CO "tuple":=nS (λ_=>rfl) (λ_=>rfl) (λ_=>rfl) (λ_=>rfl) (λ_=>rfl) (λ_=>rfl) (λ_=>rfl)
def uS{S:SD}{Z:L2.St}{H:Hp}{s:Shared}{U:SX}{h:MH}{x:PV}{L:V}{u:Value}{t:String}(f:Inv X S Z H s)(rh:RH X.K X.mg U H h)(rx:RP X.K U H x L)(j:aL L u)(e:CN h x=J t):
  t∈["NoneType","bool","int","str","tuple","list","dict"]/\u≠.builtin "__main__.__loader__#opaque"/\∃F,PySem.W.KitX X.K u (.type t) F/\F s.heap:=by
 cases rx with
 |non=>cases e;cases j;exact⟨by simp,(λz=>nomatch z),_,PySem.W.kitx_none,trivial⟩
 |bl b=>cases e;cases j;exact⟨by simp,(λz=>nomatch z),_,PySem.W.kitx_bool,trivial⟩
 |int i=>cases e;obtain⟨t,rfl⟩:=j;exact⟨by simp,(λz=>nomatch z),_,PySem.W.kitx_int,trivial⟩
 |str i=>cases e;obtain⟨t,rfl⟩:=j;exact⟨by simp,(λz=>nomatch z),_,PySem.W.kitx_str,trivial⟩
 |tup C R =>
  cases e;cases j;obtain⟨l,E,⟨o,e1,e2,_⟩,_⟩:=f.tuple C;exact⟨by simp,(λz=>nomatch z),_,PySem.W.kitx_tuple,⟨o,e1,e2⟩⟩
 |frl C R =>
  cases e;cases j;obtain⟨l,E,⟨o,m,e1,e2,_,e3⟩,_⟩:=f.list C.sq;exact⟨by simp,(λz=>nomatch z),_,PySem.W.kitx_list,⟨o,e1,e2⟩⟩
 |@loc n a M =>
  obtain⟨O,P,y⟩:=rh.obj M;dsimp only[CN]at e;rw[P]at e;cases j
  cases O with
  |lst xs =>
   cases e;obtain⟨ys,B,_⟩:=y;obtain⟨l,E,⟨o,m,e1,e2,_,e3⟩,_⟩:=f.list (SqL.of (K:=X.K) B);exact⟨by simp,(λz=>nomatch z),_,PySem.W.kitx_list,⟨o,e1,e2⟩⟩
  |dic fz ks xs =>
   cases e;obtain⟨zs,_,_,B⟩:=y;obtain⟨_,_,vs,_,p⟩:=lG f.hok B;obtain⟨o,es,ep,Q,h2,_⟩:=p;exact⟨by simp,(λz=>nomatch z),_,PySem.W.kitx_dict,⟨o,Q,h2.1⟩⟩
  |exc x=>cases e
def Gq(g:Good X N W G k){a:Expr}{m:Mx PV}{f:String}{c:Str}{i j:Nat}{p q B:Pos}(S:G[i]?=J "isinstance")(hm:X.mg "isinstance"=Y)(hj:G[j]?=J c)(hc:X.mg c=Y)(hv:bootBuiltins c=J (.type f))(hT:CO f)(ha:ME X a m)(he:starEach [a,.Name c q] X.env=(T,eval a X.env)::starEach [.Name c q] X.env:=by rfl)(L:starEach [.Name c q] X.env=[(T,eval (.Name c q) X.env)]:=by rfl)(O:(backTo B (starEach [.Name c q] X.env)).any (·.1)=T:=by rfl):
  ME X (.Call (.Name "isinstance" p) [a,.Name c q] [] B) (Kc (lg [f]) m):=by
 have d1:=g.dbg _ (se _ (aN S));have d:=g.dbg c (se _ (aN hj));have l:cw X (.builtin "isinstance") (λxs H Q=>∃z,xs=[z,.ty f]/\uJ X (lg [f]) z H Q):=by
  intro KC s Z H xs us Q y r ⟨z,e,U,h,x,C,R,q⟩;subst e
  cases r with
  |cons r1 t1=>cases t1 with
   |cons r2 t2 =>
    cases t2;obtain rfl:=(show _=Value.type f from r2);unfold lg at q
    cases F:CN h x with
    |none=>rw[F]at q;exact q.elim
    |some t =>
     rw[F]at q;obtain⟨ht,E,Hq,Za,hz⟩:=uS y C R r1 F
     exact PySem.W.kia_one Za y.kIn hz (hT X.K t ht) E λtk=>⟨.bl _,H,y.tok _,rfl,by
      have q':=q U H _ (Le.refl _ _) C (.bl _)
      simpa using q'⟩
 refine PE.imp (mD l (g.gl _ (aN S)) hm PyProof.Rows.Boot.«isinstance» (eA ha (eA (oJ (v:=.ty f) (u:=.type f) (g.gl c (aN hj)) hc hv rfl d.2.2 d.1) ku L) he) d1.2.2 d1.1 he O) λZ H Q ⟨U,M,h,rs,C,q⟩=>?_;exact⟨U,M,h,rs,C,Ful.bind q λU1 H1 x z h1 _ l1 P R q1=>⟨z,rfl,U1,h1,x,P,R,q1.zero⟩⟩
def Gs(K:h8)(mg:BN)(F:SM->MH->SK):Sp:=λu H Q E=>∃U j h,RPs K U H j u/\RH K mg U H h/\match F j h with
 |.ok v i=>∀f a l,Le U H f a->RH K mg f a i->RP K f a v l->Q l a
 |.exc x i=>∀C f a,x.fs=[]->mg x.cls=J (.ref C)->Le U H f a->RH K mg f a i->E (.ref C) Y a
 |.bad=>False
def IY(P:Program)(w:World):BG:=λouter H s E e a=>∃i C f,e=.ref i/\a.os=s.os/\AllBare a.gens/\Un (x6 outer) [] H f s.heap a.heap/\HOk P w f a.heap/\OC outer f s.heap C i a.heap/\E (.ref C) Y f
structure Cal(X:Cx)(x:Str)(ps:SQ)(F:SM->MH->SK)(k:Nat):Prop where
 ex:∃f fd,X.mg x=J (.ref f)/\PySem.W.keepIn X.K (.ref f)=I/\nt X.K fd ps []/\FnOk X.prog X.w X.K X.mg X.base (IY X.prog X.w) k f fd ps (Gs X.K X.mg F)
def Cal.to(c:Cal X x ps F i)(e1:g.prog=X.prog)(e2:g.w=X.w)(e3:g.K=X.K)(e4:g.mg=X.mg)(e5:g.base=X.base):Cal g x ps F i:=by obtain⟨f,fd,a,b,d,e⟩:=c.ex;refine⟨f,fd,by rw[e4];exact a,by rw[e3];exact b,by rw[e3];exact d,?_⟩;rw[e1,e2,e3,e4,e5];exact e
def bI(F:SM->MH->SK)(m:Mx (SM)):Mx PV:=λZ h=>(m Z h).bind F
def ue(g:Good X N W G k){x:Str}{j:Nat}(hj:G[j]?=J x){ps:SQ}{F:SM->MH->SK}(C:Cal X x ps F k){e:Expr}{es:SH}{m:Mx (SM)}{p S:Pos}(ha:MA X (e::es) m)(he:starEach (e::es) X.env=(T,eval e X.env)::starEach es X.env:=by rfl)(ap:(backTo S (starEach es X.env)).any (·.1)=T:=by rfl):ME X (.Call (.Name x p) (e::es) [] S) (bI F m):=by
 obtain⟨f,fd,hm,hk,hb,F'⟩:=C.ex;have d:=g.dbg x (se _ (aN hj));intro KC s Z H Q P ⟨U,al,h,rs,rh,q⟩;refine wpAny_Call_Name_kw (ve P (g.gl x (aN hj)) hm ?_ d.1)
 refine PySem.W.callWith_K (h₀:=X.base) P.ok.mod.kin hk (j3 (ha S KC s Z H (λvs y=>∃B xs M,Le U H B y/\RH X.K X.mg B y M/\RPs X.K B y xs vs/\Ful X (RV' X) al B y (F xs M) Q) P
  ⟨U,al,h,rs,rh,Ful.bind q λB y xs vs M _ l1 L rx O=>⟨B,xs,M,l1,L,rx,O⟩⟩) λus R ⟨vs,y,I1,r,B,xs,M,l1,L,rx,O⟩=>⟨I1.kIn,?_⟩) he ap
 have run:∀E:XK,Gs X.K X.mg F vs y Q E->(∀ea C i l,l.os=R.os->AllBare l.gens->Un (x6 X.stack) [] y i R.heap l.heap->HOk X.prog X.w i l.heap->OC X.stack i R.heap C ea l.heap->E (.ref C) Y i->X.xe (.ref ea) l) ->
   wpAny (model X.prog X.w) X.A (call (.ref f) us) (EP X KC Z Q) X.xe R:=λE ai hE=>by
  have hl:(us++[]).length=ps.length:=by rw[IV,<-r.length];exact F'.len _ _ _ _ ai
  have ab:=hb R us I1.kIn hl;rw[IV]at ab;refine wpAny_call (codeAny_mono (F'.run X.A X.stack R y ⟨us,[]⟩ us vs Q E g.room I1.env0 ab r ai) λr l hq=>?_)
  cases r with
  |error e =>
   obtain⟨ea,C,i,rfl,a1,a2,a3,a4,a5,a6⟩:=hq;exact hE ea C i l a1 a2 a3 a4 a5 a6
  |ok fl =>
   cases fl with
   |ret u=>exact I1.after hq
   |next=>exact False.elim hq
   |brk=>exact False.elim hq
   |cont=>exact False.elim hq
 cases eF:F xs M with
 |bad=>rw[eF]at O;exact O.elim
 |ok v h' =>
  rw[eF]at O;exact run (λ_ _ _=>False) ⟨B,xs,M,rx,L,by rw[eF];exact O⟩ λ_ _ _ _ _ _ _ _ _ z=>z.elim
 |exc x' h' =>
  rw[eF]at O;refine run (λc _ i=>∃C U',c=.ref C/\x'.fs=[]/\X.mg x'.cls=J (.ref C)/\Le B y U' i/\RH X.K X.mg U' i h') ⟨B,xs,M,rx,L,by rw[eF];exact λC U' i a b c d=>⟨C,U',rfl,a,b,c,d⟩⟩ λea C i l a1 a2 a3 a4 a5 a6=>?_;obtain⟨C',U',eC,b1,b2,b3,b4⟩:=a6;cases eC;have IX:=I1.call' (s':=l) (ch:=[]) a1 a3 a4 a2 (λb z=>absurd z (by simp));have an:Inv X [] Z i l:=Inv.unpinned (KC:=[]) (pl:=KC) IX;exact O ea C U' i Z l R.heap b1 b2 b3 b4 (rs.le (l1.trans b3)) an (Inv.bears I1) a5
def be(n:Nat)(a:SM):m_:=a.map J++List.replicate (n-a.length) Y
def b7(n i:Nat)(m:mh):SM->MH->SK:=λf h=>if f.length=i then (match m (be n f) h with
 |.nx _ a=>.ok .non a
 |.rt v a=>.ok v a
 |.exc x _ a=>.exc x a
 |.rse x _ a=>.exc x a
 |_=>.bad)else .bad
def Ad{K:h8}{U:SX}{H:Hp}{N:SQ}{a:SM}{j:List V}(r:RPs K U H a j):RS K U H (be N.length a) (L2.start N j):=by
 have hl:=r.length;refine⟨by simp[be,L2.start,hl],λi v e=>?_⟩;unfold be at e;by_cases f:i<a.length
 .rw[p_ (by simpa using f),qb]at e
  cases q:a[i]? with
  |none=>rw[q]at e;cases e
  |some x =>
   rw[q]at e;cases e;obtain⟨y,u,l⟩:=r.get q;refine⟨y,?_,l⟩;unfold L2.start;rw[p_ (by simp;lia),qb,u];rfl
 .rw[AR (by simpa using f),Fc]at e
  split at e<;>cases e
def zr{B h:Heap}(k:B.StaysIn h){b:Addr}{o a:Obj}(e1:B.get? b=J a)(e2:h.get? b=J o):a=o:=by
 have:=k b a e1
 rw[e2]at this;exact(Option.some.inj this).symm
def ub{X:Cx}{Z':L2.St}{O:Hp}{M:Shared}{y B:Heap}(f:Inv X [] Z' O M)(R:X.ex=[])(U:B.StaysIn M.heap)(H:B.StaysIn y)(sm:M.heap.UpToSlots y)(L:∀b o,X.s₀.heap.get? b=J o->b∉X.fs->∃i,B.get? b=J i)(C:∀b o,O b=J o->∃i,B.get? b=J i):Un X.fs [] X.H₀ O X.s₀.heap y/\HOk X.prog X.w O y:=by
 have j:∀b:Addr,b∉X.ex:=λb=>by rw[R];simp
 have kp:∀b o i,B.get? b=J i->M.heap.get? b=J o->y.get? b=J o:=λb o i e1 e2=>by
  have:=zr U e1 e2
  subst this;exact H b i e1
 refine⟨⟨λb o e n hf _=>?_,λb o e n hf _=>?_,λb o e n _=>f.base.free b o e n (j b),λb o e _=>?_,f.base.tups,f.base.frzs,f.base.tbls⟩,λa o e=>?_⟩
 .obtain⟨i,l⟩:=L b o e hf;exact kp b o i l (f.base.keep b o e n hf (j b))
 .obtain⟨sl,e1⟩:=f.base.slot b o e n hf (j b);obtain⟨_,Z,F,P⟩:=f.ok.funs.mem hf;rw[e]at F;cases F;obtain⟨E,e2⟩:=sm b _ e1 (λQ z=>P Q z);exact⟨E,e2⟩
 .by_cases hf:b∈X.fs
  .obtain⟨_,Z,F,P⟩:=f.ok.funs.mem hf;rw[e]at F;cases F;obtain⟨sl,e1⟩:=f.base.slot b o e (f.ok.frf b hf) hf (j b);obtain⟨E,e2⟩:=sm b _ e1 (λQ z=>P Q z);exact⟨_,e2⟩
  .obtain⟨i,l⟩:=L b o e hf;exact⟨i,H b i l⟩
 .refine (f.hok a o e).stay (λb u S z=>?_) (λ_ z=>z) λ_ _ z=>z;rcases S with rfl|S
  .obtain⟨i,l⟩:=C _ _ e;exact kp _ u i l z
  .obtain⟨i,l⟩:=C _ _ S;exact kp _ u i l z
def _root_.L2.ObjOk.has(x:ObjOk P w H h a o):∃u,h.get? a=J u:=by
 cases o with
 |lst xs=>obtain⟨_,_,_,_,e⟩:=x;exact⟨_,e⟩
 |tup xs=>obtain⟨_,_,_,o,e,_⟩:=x;exact⟨o,e⟩
 |dK i=>obtain⟨_,_,_,_,o,_,_,e,_⟩:=x;exact⟨o,e⟩
 |dT i=>obtain⟨_,_,_,_,o,_,_,e,_⟩:=x;exact⟨o,e⟩
 |set S n=>obtain⟨o,_,_,_,e,_⟩:=x;exact⟨o,e⟩
 |ins C z fs=>obtain⟨_,_,_,e,_⟩:=x;exact⟨_,e⟩
 |own y=>obtain⟨o,e⟩:=x;exact⟨o,e⟩
 |xd fs=>obtain⟨_,⟨o,_,_,e,_⟩,_⟩:=x;exact⟨o,e⟩
 |rng lo l=>obtain⟨_,_,_,e⟩:=x;exact⟨_,e⟩
 |frz j u=>obtain⟨e,_⟩:=x;exact⟨_,e⟩
 |tbl B=>exact⟨_,(show h.get? a=J _ from x)⟩
 |met f y=>exact⟨_,(show h.get? a=J _ from x)⟩
 |ext φ=>obtain⟨_,⟨o,e⟩,_⟩:=x;exact⟨o,e⟩
structure io(X:Cx):Prop where
 stk:X.stack=X.env::X.outer
 fr:X.env.frame=J X.env.locals
 ex:X.ex=[]
def OD{P:Program}{w:World}{K:h8}{mg:Si}{base:Heap}{x a:Str}{st:Stmt}{f:Addr}{fd:FuncData}{ps:SQ}{m:mh}(Fu:Fun K x a st f fd)(S:p0 N ps (ah st))(hl:∀y∈N,Loc (ah st) y)(a6:∀y∈G,(ah st).names.lookup y=J .globalImplicit)(dbg:∀x∈N++G,(x==("__debug__":Str))=T/\(x==("__classdict__":Str))=T/\x≠"__name__")(hb:∀X:Cx,X.prog=P->X.w=w->X.K=K->X.mg=mg->X.base=base->X.env.scope=ah st->Good X N N G k->io X->Aw X (aE st) m):
  FnOk P w K mg base (IY P w) (k+1) f fd ps (Gs K mg (b7 N.length ps.length m)):=by
 have len:∀vs H Q E,Gs K mg (b7 N.length ps.length m) vs H Q E->vs.length=ps.length:=by
  rintro vs H Q E ⟨U,zs,h,r,rh,q⟩;rw[<-r.length];unfold b7 at q;by_cases hp:zs.length=ps.length
  .exact hp
  .rw[f_ hp]at q;exact q.elim
 obtain⟨oc,od,kV,b0,pm,an,i,ct,b1,rfl,lk,a3⟩:=Fu.ex;refine J2 lk a3 S len λA outer s H vs Q E hr a4=>?_;obtain⟨U,zs,h,r,rh,q⟩:=a4;refine⟨_,hb _ rfl rfl rfl rfl rfl rfl ⟨rfl,S.nd,hl,λ_ _=>.inl rfl,a6,dbg,rfl,hr,PassesOwn.leaving⟩ ⟨rfl,rfl,rfl⟩,U,be N.length zs,h,Ad r,rh,?_⟩;unfold b7 at q;by_cases hp:zs.length=ps.length
 .rw[b_ hp]at q
  cases e:m (be N.length zs) h with
  |nx Z' h'=>rw[e]at q;exact λU' R Z' l r' s'=>q U' R .non l r' .non
  |rt v h'=>rw[e]at q;exact q
  |bk Z h'=>rw[e]at q;exact q.elim
  |ct Z h'=>rw[e]at q;exact q.elim
  |bad=>rw[e]at q;exact q.elim
  |exc x Z h' =>
   rw[e]at q;intro ea C U' R Z' s' bm ab ar l ap a7 j a5 a8;obtain⟨B,t,ax,O,ay,al⟩:=a8;refine wpAny_leaves_onW (base:=B) (env:=envOfC a (ah st) s.heap.objs.size f i) (outer:=outer) j.ok.frames rfl ax λas F sm=>?_;have L:∀b o,s.heap.get? b=J o->b∉x6 outer->∃ob,B.get? b=J ob:=λb o eb hf=>by
    obtain⟨o',e'⟩:=a5.old b o eb (by show b∉([]:SX);simp);refine ay b o' e' λhm=>?_;rcases pu.mp (j.stkSub b hm)with z|z
    .exact absurd (n5 eb) (by rw[z];exact A6 _)
    .exact hf z
   obtain⟨un,ai⟩:=ub (B:=B) j rfl ax.1 F.1 sm L O;exact⟨ea,C,R,rfl,j.os,j.bare,un,ai,⟨B,t,F,O,L,al⟩,q C U' R ab ar l ap⟩
  |rse x Z h' =>
   rw[e]at q;intro ea C U' R Z' s' h0 a9 ab ar l ap a7 j M;have a2:=j.stack;have a1:∀env∈(envOfC a (ah st) s.heap.objs.size f i::outer),∀b,env.frame=J b->b∈x6 (envOfC a (ah st) s.heap.objs.size f i::outer):=λenv he b hb=>Fh.mpr ⟨env,he,hb⟩;refine wpAny_leaves_madeW (base:=PySem.W.hideAll h0 (x6 (envOfC a (ah st) s.heap.objs.size f i::outer))) (h:=h0) (env:=envOfC a (ah st) s.heap.objs.size f i) (outer:=outer) j.ok.frames rfl (λb o z=>PySem.W.of_hideAll _ z)
    (PySem.W.funFrames_hide (base:=base) a2 a1) M λas t F _ _ sm=>?_
   have sub:∀b,b∈x6 (envOfC a (ah st) s.heap.objs.size f i::outer)->b=s.heap.objs.size\/b∈x6 outer:=λb hm=>pu.mp (j.stkSub b hm);have L:∀b o,s.heap.get? b=J o->b∉x6 outer->∃ob,(PySem.W.hideAll h0 (x6 (envOfC a (ah st) s.heap.objs.size f i::outer))).get? b=J ob:=λb o eb hf=>by
    obtain⟨o',e'⟩:=j.base.there b o eb (by show b∉([]:SX);simp);refine⟨o',PySem.W.hideAll_get _ e' λhm=>?_⟩;rcases sub b hm with z|z
    .exact absurd (n5 eb) (by rw[z];exact A6 _)
    .exact hf z
   have O:∀b o,R b=J o->∃ob,(PySem.W.hideAll h0 (x6 (envOfC a (ah st) s.heap.objs.size f i::outer))).get? b=J ob:=λb o eb=>by
    have bv:=j.hok.lt eb;obtain⟨u,eu⟩:∃u,h0.get? b=J u:=(j.hok b o eb).has;refine⟨u,PySem.W.hideAll_get _ eu λhm=>?_⟩
    have:=j.stkFree b hm
    rw[eb]at this;cases this
   have a0:h0.UpToSlots as:=(Heap.UpToSlots.of_keeps M.keeps).trans sm;obtain⟨un,ai⟩:=ub (B:=PySem.W.hideAll h0 (x6 (envOfC a (ah st) s.heap.objs.size f i::outer))) j rfl (λb o z=>PySem.W.of_hideAll _ z) F.1 a0 L O;have al:R ea=Y:=by
    cases z:R ea with
    |none=>rfl
    |some o =>
     obtain⟨u,eu⟩:=(j.hok ea o z).has;rw[M.new]at eu;cases eu
   exact⟨ea,C,R,rfl,j.os,j.bare,un,ai,⟨_,t,F,O,L,al⟩,q C U' R ab ar l ap⟩
 .rw[f_ hp]at q;exact q.elim
def qr(v:PV)(h:MH):Out MIt:=match v with
 |.loc n=>(match h[n]? with
  |some (.lst xs)=>.ok ⟨xs,[(n,xs)]⟩ h
  |_=>.bad)
 |.frl xs=>.ok ⟨xs,[]⟩ h
 |.tup xs=>.ok ⟨xs,[]⟩ h
 |_=>.bad
def dB(m:Mx PV):Mx MIt:=λZ h=>(m Z h).bind qr
def hU(hl:ME X l m):MI X tg l (dB m):=by
 intro u s Z H R i ⟨U,a,h,j,y,q⟩;by_cases z:∃xs f,m a h=.ok (.tup xs) f
 .obtain⟨xs,f,e⟩:=z;refine Gk (tg:=tg) hl u s Z H R i ⟨U,a,h,j,y,?_⟩;unfold dB at q;unfold Kj;rw[e]at q ⊢;exact q
 .refine CL (tg:=tg) hl u s Z H R i ⟨U,a,h,j,y,?_⟩;unfold dB at q;unfold Ki
  cases e:m a h with
  |ok v f =>
   rw[e]at q
   cases v with
   |tup xs=>exact absurd ⟨xs,f,e⟩ z
   |_=>exact q
  |exc x f=>rw[e]at q;exact q
  |bad=>rw[e]at q;exact q
def Inv.bigM{f:SD}{Z:L2.St}{H:Hp}{s:Shared}(a:Inv X f Z H s):sysModules<s.heap.objs.size:=by have h:mainGlobals<s.heap.objs.size:=(a.mod.glob.keeps a.bk).lt;exact MU (by decide) h
def Gu:Mx PV:=λ_ h=>.ok (.loc h.length) (h++[.dic T [] []])
def CQ:ME X (.Dict [] [] pos) Gu:=λy s Z H Q f ⟨U,l,h,z,i,q⟩=>by
 have hf:H s.heap.objs.size=Y:=f.hok.fresh (jj _);obtain⟨j,u⟩:=i.new hf (o:=.dic T [] []) (ho:=.dK []) ⟨[],rfl,.nil,rfl⟩;refine wpAny_Dict_empty ⟨.ref s.heap.objs.size,_,f.laid (a:=s.heap.objs.size) (o:=.dK []) (t':=s.toks) (λ_ _ q=>mx _ q) (jj _) ?_,rfl,q _ _ _ u j (.loc (by rw[<-i.len];simp))⟩;exact⟨zL _,beq_eq_false_iff_ne.mpr (Ne.symm (vK (Inv.bigM f))),[],.nil,Heap.DictOf.new s.heap⟩
structure FnAt(P:Program)(w:World)(K:h8)(mg:Si)(base:Heap)(x:Str)(ps:SQ)(F:SM->MH->SK)(k:Nat):Prop where
 ex:∃f fd,mg x=J (.ref f)/\PySem.W.keepIn K (.ref f)=I/\nt K fd ps []/\FnOk P w K mg base (IY P w) k f fd ps (Gs K mg F)/\∃oc od osl,K.lookup f=J ⟨oc,od,.func fd,osl⟩
def FnAt.mono{P:Program}{w:World}{K:h8}{mg:Si}{base:Heap}{x:Str}{l:SQ}{F:SM->MH->SK}{i j:Nat}(c:FnAt P w K mg base x l F i)(h:i<=j):FnAt P w K mg base x l F j :=
 let⟨f,fd,a,b,d,e,z⟩:=c.ex;⟨f,fd,a,b,d,e.mono h,z⟩
def FnAt.cal{P:Program}{w:World}{K:h8}{mg:Si}{base:Heap}{x:Str}{j:SQ}{F:SM->MH->SK}{i:Nat}(c:FnAt P w K mg base x j F i){X:Cx}(e1:X.prog=P)(e2:X.w=w)(e3:X.K=K)(e4:X.mg=mg)(e5:X.base=base):Cal X x j F i:=by subst e1;subst e2;subst e3;subst e4;subst e5;obtain⟨f,fd,a,b,d,e,_⟩:=c.ex;exact⟨f,fd,a,b,d,e⟩
structure d_(K:h8)(x:Str)(st:Stmt):Prop where
 ex:∃f fd,PySem.W.nsIn K mainGlobals x=J (J (.ref f))/\Fun K x x st f fd
def BU{K:h8}{x:Str}{st:Stmt}{f:Addr}{j:Value}{z u:Option Addr}{B:Array (SF)}{kV y pm i ct:Value}(a:PySem.W.nsIn K mainGlobals x=J (J (.ref f)))(l:K.lookup f=J ⟨j,z,.func (PySem.W.fnOf x x (gI st) (aE st) (ah st) .none kV y pm u i ct),B⟩)(c:PySem.W.codeIn K i x=I)(kp:PySem.W.keepIn K (.ref f)=I):d_ K x st :=
 ⟨f,_,a,F5 l c kp⟩
def eU(x:Str)(st:Stmt)(j:SQ):Prop:=∀(kV a pm:Value)(l:Option Addr)(f ct:Value)(i:SA),i.length=j.length->bindArgs (PySem.W.fnOf x x (gI st) (aE st) (ah st) .none kV a pm l f ct) ⟨i,[]⟩=pure (j.zip i)
def nJ{P:Program}{w:World}{K:h8}{mg:Si}{base:Heap}{x:Str}{st:Stmt}{j:SQ}{m:mh}(kin:K.In base)(ns:base.Ns mainGlobals mg)(D:d_ K x st)(S:p0 N j (ah st))(B:eU x st j)(hl:∀y∈N,(ah st).names.lookup y=J .local\/(ah st).names.lookup y=J .cell)(l:∀y∈G,(ah st).names.lookup y=J .globalImplicit)(dbg:∀x∈N++G,(x==("__debug__":Str))=T/\(x==("__classdict__":Str))=T/\x≠"__name__")(L:∀X:Cx,X.prog=P->X.w=w->X.K=K->X.mg=mg->X.base=base->X.env.scope=ah st->Good X N N G k->io X->Aw X (aE st) m):
  FnAt P w K mg base x j (b7 N.length j.length m) (k+1):=by
 obtain⟨f,fd,a,i⟩:=D.ex;have H:=i.ex;obtain⟨z,E,kV,C,pm,M,F,ct,u,e1,e2,_⟩:=H;exact⟨f,fd,PySem.W.mg_of kin ns a,i.kp,i.binds B,OD i S hl l dbg L,z,E,u,e2⟩
def Gw{P:Program}{w:World}{K:h8}{mg:Si}{h:Heap}{x y:Str}{st:Stmt}{F:SM->MH->SK}{E:Addr}(D:d_ K x st)(B:eU x st [y])(i:mg x=J (.ref E))(kin:K.In h)(ns:h.Ns mainGlobals mg)(H:∀base:Heap,K.In base->base.Ns mainGlobals mg->FnAt P w K mg base x [y] F k):
  ∃fd:FuncData,(∀(s:Shared)(u:Value),BindsTo s fd ⟨[u],[]⟩ [(y,u)])/\∀base:Heap,K.In base->base.Ns mainGlobals mg->FnOk P w K mg base (IY P w) k E fd [y] (Gs K mg F):=by
 obtain⟨f,fd,a,O⟩:=D.ex;have e:=i.symm.trans (PySem.W.mg_of kin ns a);cases e;obtain⟨oc,od,kV,j,pm,M,l,ct,S,e1,e2,e3⟩:=O.ex;refine⟨fd,λs u=>.of_eq ?_,λbase kb nb=>?_⟩
 .rw[e1];exact B kV j pm M l ct [u] rfl
 .obtain⟨f',Z,z,g2,g3,U,Q,R,L,C⟩:=(H base kb nb).ex;rw[i]at z;cases z;rw[e2]at C;cases C;exact U
def Kn(K:h8):Sp:=λi H Q _=>∃(a:Addr)(ns:SS),i=[.ref a]/\SqF K H a (ns.map V.int)/\ns.length<=63/\∀f,Q (.bl I) f
def Gx{l:PySem.W.OpenLaw}{q:Program}{loose:SQ}{XP:(Str->SF)->Heap->Prop}{P:World->Heap->Prop}{d:DefRec}{K:Params->h8}{x:Str}{F:SM->MH->SK}(hn:l.most=J 63)(L:d.params.defaults=[])(hr:Room k callerA)(S:PyProof.Rows.importsNone q=I)(B:l.prog.given.tree=Y)(hY:∀(w:World)(h:Heap),P w h->(K w.params).In h)(HF:∀(w:World)(mg:Si)(i:Addr)(h:Heap),(K w.params).In h->h.Ns mainGlobals mg->mg d.name=J (.ref i) ->
   ∃fd:FuncData,(∀(s:Shared)(u:Value),BindsTo s fd ⟨[u],[]⟩ [(x,u)])/\∀base:Heap,(K w.params).In base->base.Ns mainGlobals mg->FnOk l.prog w (K w.params) mg base (IY l.prog w) k i fd [x] (Gs (K w.params) mg F))(U:∀ns:SS,ns.length<=63->∃O,F [.frl (ns.map .int)] []=.ok (.bl I) O):
  PySem.W.WalkO q loose XP P l.row.toRowW d [] (λf R=>PySem.call f R):=by
 refine L2.CG (n:=63) (k:=k) (x:=x) (CX:=λw=>IY l.prog w) (sp:=λw=>Kn (K w.params)) hn (by decide) L hr S B hY (λw mg i h hK C j=>?_) (λw H a ns hl hO hS=>?_) λw H s e s' z=>?_
 .obtain⟨fd,hb,hF⟩:=HF w mg i h hK C j;refine⟨fd,hb,λbase kb nb=>(hF base kb nb).imp λR H Q E z=>?_⟩;obtain⟨a,ns,rfl,M,hl,Z⟩:=z;obtain⟨O,e⟩:=U ns hl;refine⟨[],[.frl (ns.map .int)],[],.cons (.frl M (RPs.ints ns)) .nil,⟨rfl,List.nodup_nil,λn a o z _=>by simp at z⟩,?_⟩;rw[e];intro U' H' v' _ _ r;cases r;exact Z H'
 .have M:SqF (K w.params) H a (ns.map V.int):=by
   rcases hS with(z|z)|z
   .rcases hO a with y|⟨o,xs,y⟩
    .rw[y]at z;cases z
    .rw[y]at z;cases z
   .exact .inl z
   .exact .inr z
  exact⟨a,ns,rfl,M,hl,λ_=>rfl⟩
 .obtain⟨_,_,_,_,_,_,_,_,_,z⟩:=z;exact z
end
section
variable{α:Type}{Z:m_}{h:MH}
@[simp]theorem Ko:mC v Z h=.ok v h:=rfl
@[simp]theorem xQ{v:PV}{r:m_}:ag 0 (J v::r) h=.ok v h:=rfl
@[simp]theorem xU{i:Nat}{o:Sl}{r:m_}:ag (i+1) (o::r) h=ag i r h:=by simp[ag]
@[simp]theorem CT:au f a b Z h=(a Z h).bind λx h1=>(b Z h1).bind λy h2=>(f x y h2).ne:=rfl
@[simp]theorem OE:Kc f a Z h=(a Z h).bind λx h1=>(f x h1).ne:=rfl
@[simp]theorem Gy:p6 f a Z h=(a Z h).bind λx h1=>(f x h1).ne:=rfl
@[simp]theorem zR:bI f a Z h=(a Z h).bind f:=rfl
@[simp]theorem gJ:g_ Z h=.ok [] h:=rfl
@[simp]theorem dQ:af a r Z h=(a Z h).bind λx h1=>(r Z h1).bind λxs h2=>.ok (x::xs) h2:=rfl
@[simp]theorem CU:f7 a Z h=(a Z h).bind q_:=rfl
@[simp]theorem M5:cT a Z h=(a Z h).bind ll:=rfl
@[simp]theorem M6:Gu Z h=.ok (.loc h.length) (h++[.dic T [] []]):=rfl
@[simp]theorem Q3:mB a Z h=(a Z h).bind λv h1=>match v with|.bl b=>.ok b h1|_=>.bad:=rfl
@[simp]theorem M7:qV a Z h=(a Z h).bind λb h1=>.ok (!b) h1:=rfl
@[simp]theorem M8:F6 a b Z h=(a Z h).bind λx h1=>if x=I then b Z h1 else .ok T h1:=rfl
@[simp]theorem OF:Kg a b Z h=(a Z h).bind λx h1=>if x=I then .ok I h1 else b Z h1:=rfl
@[simp]theorem Kq:vB a b Z h=(a Z h).bind λx h1=>match x with|.bl c=>if c=I then b Z h1 else .ok (.bl T) h1|_=>.bad:=rfl
@[simp]theorem Kr:wm a Z h=(a Z h).bind λx h1=>match x with|.bl c=>.ok (.bl (!c)) h1|_=>.bad:=rfl
@[simp]theorem M9:Ga c a b Z h=(c Z h).bind λx h1=>if x=I then a Z h1 else b Z h1:=rfl
@[simp]theorem rQ:n7 Z h=.nx Z h:=rfl
@[simp]theorem br:aR a b Z h=(a Z h).then b:=rfl
@[simp]theorem aB:(SOut.nx Z h).then k=k Z h:=rfl
@[simp]theorem uA:(SOut.rt v h).then k=.rt v h:=rfl
@[simp]theorem then_bk:(SOut.bk Z h).then k=.bk Z h:=rfl
@[simp]theorem then_ct:(SOut.ct Z h).then k=.ct Z h:=rfl
@[simp]theorem Af:(SOut.rse x Z h).then k=.rse x Z h:=rfl
@[simp]theorem Ax:(SOut.exc x Z h).then k=.exc x Z h:=rfl
@[simp]theorem Ak:SOut.bad.then k=.bad:=rfl
def Out.rt(o:SK)(Z:m_):SOut:=match o with
 |.ok v a=>.rt v a
 |.exc x a=>.exc x Z a
 |.bad=>.bad
@[simp]theorem Q4:(Out.ok v h).rt Z=.rt v h:=rfl
@[simp]theorem OG:(Out.exc x h:SK).rt Z=.exc x Z h:=rfl
@[simp]theorem OH:(Out.bad:SK).rt Z=.bad:=rfl
@[simp]theorem uY:bQ m Z h=(m Z h).rt Z:=rfl
def Out.go{α:Type}(o:Out α)(Z:m_)(k:α->mh):SOut:=match o with
 |.ok v a=>k v Z a
 |.exc x a=>.exc x Z a
 |.bad=>.bad
@[simp]theorem az:(Out.ok v h).go Z k=k v Z h:=rfl
@[simp]theorem go_exc:(Out.exc x h:Out α).go Z k=.exc x Z h:=rfl
@[simp]theorem go_bad:(Out.bad:Out α).go Z k=.bad:=rfl
@[simp]theorem Gz:vQ m k Z h=(m Z h).go Z k:=rfl
@[simp]theorem jA:eS m Z h=(m Z h).go Z λ_=>n7:=rfl
@[simp]theorem yd:A9 c a b Z h=(c Z h).go Z λx=>if x=I then a else b:=rfl
@[simp]theorem lH:ba i m Z h=(m Z h).go Z λv Z h=>.nx (Z.set i (J v)) h:=rfl
@[simp]theorem M_:Gh i j m Z h=(m Z h).go Z λvs Z h=>match vs with|[v,w]=>.nx ((Z.set i (J v)).set j (J w)) h|_=>.bad:=rfl
@[simp]theorem Na:oX m g Z h=(m Z h).go Z λv Z h=>match g v Z h with|.nx Z2 h2=>.nx Z2 h2|.exc x Z2 h2=>.exc x Z2 h2|_=>.bad:=rfl
@[simp]theorem OI:mf i v Z h=.nx (Z.set i (J v)) h:=rfl
@[simp]theorem OK:x_ [] Z h=.nx Z h:=rfl
@[simp]theorem OL:pq a r (v::vs) Z h=(a v Z h).then (r vs):=rfl
@[simp]theorem OM:yW r n (.tup xs) Z h=if xs.length=n then r xs Z h else .bad:=rfl
@[simp]theorem jm:iP mi g b Z h=(mi Z h).go Z λit=>vt it g b it.xs:=rfl
@[simp]theorem CV:dB m Z h=(m Z h).bind qr:=rfl
@[simp]theorem Ks:dz m Z h=(m Z h).bind λvs h1=>match vs with
 |[.int j]=>if -(2^62)<=j/\j<2^62 then .ok ⟨bo 0 j.toNat,[]⟩ h1 else .bad
 |_=>.bad:=rfl
@[simp]theorem GA:Gj mo mi v Z h=(mo Z h).go Z λo=>vQ mi λi Z h=>match rV o i v h with
 |some h2=>.nx Z h2
 |none=>.bad:=rfl
def SOut.fin(o:SOut):SK:=match o with
 |.nx _ a=>.ok .non a
 |.rt v a=>.ok v a
 |.exc x _ a=>.exc x a
 |.rse x _ a=>.exc x a
 |_=>.bad
@[simp]theorem fin_exc:(SOut.exc x Z h).fin=.exc x h:=rfl
@[simp]theorem fin_rse:(SOut.rse x Z h).fin=.exc x h:=rfl
@[simp]theorem bD:(SOut.rt v h).fin=.ok v h:=rfl
@[simp]theorem xu:(SOut.nx Z h).fin=.ok .non h:=rfl
theorem d3(e:ps.length=np):b7 n np m ps h=(m (be n ps) h).fin:=by unfold b7;rw[b_ e];rfl
end
section
variable{h:MH}{i j:Int}
@[simp]theorem Kt:i_ (.int i) (.int j) h=.ok (.int (i+j)) h:=rfl
@[simp]theorem Ku:BQ (.int i) (.int j) h=.ok (.int (i-j)) h:=rfl
@[simp]theorem Nb:BR (.int i) h=.ok (.int (-i)) h:=rfl
@[simp]theorem Nc:BO (.int i) (.int j) h=.ok (.bl (decide (i<j))) h:=rfl
@[simp]theorem Nd:Gn (.int i) (.int j) h=.ok (.bl (decide (i<=j))) h:=rfl
@[simp]theorem Nf:BP (.int i) (.int j) h=.ok (.bl (decide (j<i))) h:=rfl
@[simp]theorem Ng:Bt (.int i) (.int j) h=.ok (.bl (decide (j<=i))) h:=rfl
@[simp]theorem Nh:zM (.int i) (.int j) h=.ok (.bl (decide (i=j))) h:=by simp[zM,rd,SeqAt.shaped,PyData.canLay0,PyData.depth,PyData.eqv,Js]
@[simp]theorem Ni:Ay (.int i) (.int j) h=.ok (.bl (!decide (i=j))) h:=by simp[Ay,rd,SeqAt.shaped,PyData.canLay0,PyData.depth,PyData.eqv,Js]
@[simp]theorem Nj:zM (.bl a) (.bl b) h=.ok (.bl (a==b)) h:=by simp[zM,rd,SeqAt.shaped,PyData.canLay0,PyData.depth,PyData.eqv]
@[simp]theorem Nk:Ay (.bl a) (.bl b) h=.ok (.bl (!(a==b))) h:=by simp[Ay,rd,SeqAt.shaped,PyData.canLay0,PyData.depth,PyData.eqv]
theorem ff(a:j≠0):mm (.int i) (.int j) h=.ok (.int (i.fmod j)) h:=by simp[mm,a]
def uv(a:j≠0):A_ (.int i) (.int j) h=.ok (.int (i.fdiv j)) h:=by simp[A_,a]
def gC(hl:-(2^64)<i/\i<2^64):jn (.int i) (.int j) h=.ok (.int (i*j)) h:=by simp[jn,IntMulOk.of_left (intBits_le_64 hl.1 hl.2)]
def CW(hl:-(2^64)<j/\j<2^64):jn (.int i) (.int j) h=.ok (.int (i*j)) h:=by simp[jn,IntMulOk.of_right (intBits_le_64 hl.1 hl.2)]
def tz(a:0<=j/\j<=1000000/\i.natAbs<2^64):rg (.int i) (.int j) h=.ok (.int (i^j.toNat)) h:=by simp[rg,gQ,a]
@[simp]theorem ON:AC [.int i] h=.ok (.int (if i<0 then -i else i)) h:=rfl
@[simp]theorem Nl:wq [.int i,.int j] h=.ok (.int (if j<i then j else i)) h:=rfl
@[simp]theorem Nm:AW [.int i,.int j] h=.ok (.int (if j>i then j else i)) h:=rfl
@[simp]theorem OO:BS [.int i] h=.ok (.int i) h:=rfl
@[simp]theorem OP:BS [.bl b] h=.ok (.int (if b then 1 else 0)) h:=rfl
@[simp]theorem Kv:qo [.frl xs] h=.ok (.int xs.length) h:=rfl
@[simp]theorem Kw:qo [.tup xs] h=.ok (.int xs.length) h:=rfl
theorem gq(hl:xs.length<=1000):ll xs h=.ok (.tup xs) h:=by unfold ll;rw[b_ (ql hl (by decide))]
def jM(hl:xs.length<=1000):q_ xs h=.ok (.loc h.length) (h++[.lst xs]):=by unfold q_;rw[b_ (ql hl (by decide))]
@[simp]theorem OQ:ll [] h=.ok (.tup []) h:=gq (by decide)
@[simp]theorem OS:ll [a] h=.ok (.tup [a]) h:=gq (by simp)
@[simp]theorem OT:ll [a,b] h=.ok (.tup [a,b]) h:=gq (by simp)
@[simp]theorem OU:ll [a,b,c] h=.ok (.tup [a,b,c]) h:=gq (by simp)
theorem jh(hl:m<n):vq n (m:Int)=J m:=by unfold vq;rw[b_ ⋯,b_ ⋯];simp
@[simp]theorem Q5:n3 (a::r) 0=J a:=cS (j:=0) rfl
@[simp]theorem Q6:n3 (a::b::r) 1=J b:=cS (j:=1) rfl
@[simp]theorem Q7:n3 (a::b::c::r) 2=J c:=cS (j:=2) rfl
@[simp]theorem Q8:n3 (a::b::c::d::r) 3=J d:=cS (j:=3) rfl
def Out.ofO(o:Sl)(h:MH):SK:=match o with
 |some v=>.ok v h
 |none=>.bad
@[simp]theorem Kx:Out.ofO (J v) h=.ok v h:=rfl
@[simp]theorem Ky:bc (.tup xs) (.int i) h=Out.ofO (n3 xs i) h:=rfl
@[simp]theorem Kz:bc (.frl xs) (.int i) h=Out.ofO (n3 xs i) h:=rfl
theorem fe(e:h[n]?=J (.lst xs)):bc (.loc n) (.int i) h=Out.ofO (n3 xs i) h:=by simp only[bc,e];rfl
def jL(e:h[n]?=J (.lst xs)):rV (.loc n) (.int i) v h=(vq xs.length i).map λp=>h.set n (.lst (xs.set p v)):=by simp only[rV,e]
def xH(e:h[n]?=J (.lst xs)):qr (.loc n) h=.ok ⟨xs,[(n,xs)]⟩ h:=by simp only[qr,e]
@[simp]theorem IZ:qr (.tup xs) h=.ok ⟨xs,[]⟩ h:=rfl
@[simp]theorem I_:qr (.frl xs) h=.ok ⟨xs,[]⟩ h:=rfl
@[simp]theorem fB:(⟨xs,[]⟩:MIt).ok h↔True:=⟨λ_=>trivial,λ_ p hp=>nomatch hp⟩
@[simp]theorem No:(⟨xs,[(n,zs)]⟩:MIt).ok h↔h[n]?=J (.lst zs):=by
 constructor
 .intro q;exact q (n,zs) (by simp)
 .intro q p hp;have e:p=(n,zs):=B5.mp hp;subst e;exact q
end
def SOut.turn(o:SOut)(k:mh):SOut:=match o with
 |.nx f a=>k f a
 |.ct f a=>k f a
 |.bk f a=>.nx f a
 |.rt v a=>.rt v a
 |.exc e f a=>.exc e f a
 |.rse e f a=>.rse e f a
 |.bad=>.bad
@[simp]theorem zk:(SOut.rse x Z h).turn k=.rse x Z h:=rfl
@[simp]theorem Az:(SOut.exc x Z h).turn k=.exc x Z h:=rfl
@[simp]theorem turn_nx:(SOut.nx Z h).turn k=k Z h:=rfl
@[simp]theorem turn_ct:(SOut.ct Z h).turn k=k Z h:=rfl
@[simp]theorem turn_bk:(SOut.bk Z h).turn k=.nx Z h:=rfl
@[simp]theorem turn_rt:(SOut.rt v h).turn k=.rt v h:=rfl
theorem iS(e:it.ok h):vt it g b [] Z h=.nx Z h:=by rw[vt];dsimp only;rw[b_ e]
def gO(e:it.ok h)(a:g x Z h=.nx Z1 h1):vt it g b (x::r) Z h=(b Z1 h1).turn (vt it g b r):=by rw[vt];dsimp only;rw[b_ e,a];rfl
def sJ(l:Nat->Shared->Prop)(turn:∀n s,l n s->wpAny (model prog w) A (pyNext it) (λr f=>match r with
   |none=>R (.ok .next) f
   |some v=>wpAny (model prog w) A (letOwnedTupleGo target it v) (λ_ i=>wpAny (model prog w) A (assign target env v) (λ_ C =>
     wpAny (model prog w) A (forIn ifs I λc r=>if r=I then do let ok <-isTrue c env (eval c env);pure (ForInStep.yield ok)else pure (ForInStep.yield r)) (λok j =>
      if ok=I then wpAny (model prog w) A (eval elt env) (λx z =>
       wpAny (model prog w) A (call (.builtin "list.append") [acc,x]) (λ_ B=>∃m,m<n/\l m B) (λ_ _=>False) z) (λ_ _=>False) j
      else ∃m,m<n/\l m j) (λ_ _=>False) C) (λ_ _=>False) i) (λ_ _=>False) f) (λ_ _=>False) s)(n:Nat)(h:l n s):
  codeAny (model prog w) A (.compLoop (.ListComp elt [⟨target,iter,ifs,0⟩] scope pos) 0 it acc env) R s:=by
 refine codeAny_loop rfl l (λn s L=>?_) n h;refine wpAny_noted ?_;rw[compTurn_list];refine hH (wpAny_standAt (hH (wpAny_mono (turn n s L) (λr f u=>?_) λ_ _ a=>a.elim)))
 cases r with
 |none=>exact ln u
 |some v =>
  refine hH (wpAny_mono u (λ_ i E=>?_) λ_ _ a=>a.elim);refine hH (wpAny_mono E (λ_ C G=>hH (wpAny_mono G (λok j y=>?_) λ_ _ a=>a.elim)) λ_ _ a=>a.elim)
  cases ok with
  |false=>exact ln ⟨rfl,y⟩
  |true =>
   exact hH (hH (wpAny_mono y (λx z H=>hH (wpAny_mono H (λ_ B F=>ln (ln ⟨rfl,F⟩)) λ_ _ a=>a.elim)) λ_ _ a=>a.elim))
def jX(env:Env):List (Str×NameKind)->List (Str×Addr)->List (Str×Addr)
 |[],a=>a
 |(n,k)::r,a=>jX env r (if(k==NameKind.free)=I then(n,(env.cells.lookup n).getD 0)::a else a)
def qF(h:∀y∈scope.names,y.2=.free->∃c,env.cells.lookup y.1=J c):closureFor scope env=pure (jX env scope.names []):=by
 have key:∀(l:List (Str×NameKind))(f:List (Str×Addr)),(∀y∈l,y.2=.free->∃c,env.cells.lookup y.1=J c) ->
   (forIn l f λ(x:Str×NameKind)(r:List (Str×Addr))=>if(x.2==NameKind.free)=I then(do let a <-cellOf env x.1;pure (ForInStep.yield ((x.1,a)::r)):Sem _)else pure (ForInStep.yield r))=(pure (jX env l f):Sem _):=by
  intro l
  induction l with
  |nil=>intro f _;rfl
  |cons y l u =>
   intro f B;obtain⟨n,k⟩:=y;rw[N1];have hl:=λz E=>B z (n_ _ E);by_cases i:(k==NameKind.free)=I
   .obtain⟨c,C⟩:=B (n,k) Bq (by simpa using i);rw[b_ i];have j:cellOf env n=pure c:=by unfold cellOf;rw[C]
    rw[j];refine(u ((n,c)::f) hl).trans ?_;simp only[jX,i,if_true,C,IU]
   .rw[f_ i];refine(u f hl).trans ?_;simp[jX,i]
 exact(congrArg (λz=>z >>= λr=>pure r) (key scope.names [] h)).trans rfl
def mn:∀(l:List (Str×NameKind))(f:List (Str×Addr)),(∀a,f.lookup x=J a->a=(env.cells.lookup x).getD 0)->(∀a,(jX env l f).lookup x=J a->a=(env.cells.lookup x).getD 0)/\((∃k,(x,k)∈l/\k=.free)\/(∃a,f.lookup x=J a)->∃a,(jX env l f).lookup x=J a):=by
 intro l
 induction l with
 |nil =>
  intro f h;refine⟨h,λz=>?_⟩;rcases z with⟨k,z,_⟩|z
  .cases z
  .exact z
 |cons y r B =>
  intro f h;obtain⟨n,k⟩:=y;have u:∀a,(if(k==NameKind.free)=I then(n,(env.cells.lookup n).getD 0)::f else f).lookup x=J a->a=(env.cells.lookup x).getD 0:=λa i=>by
   split at i
   .rw[BE]at i
    split at i
    .rename_i e
     have:x=n:=by simpa using e
     subst this;exact(Option.some.inj i).symm
    .exact h a i
   .exact h a i
  obtain⟨C,E⟩:=B _ u;refine⟨C,λz=>E ?_⟩;rcases z with⟨F,z,j⟩|⟨a,z⟩
  .rcases pu.mp z with e|e
   .cases e;right;subst j;exact⟨(env.cells.lookup x).getD 0,by simp⟩
   .exact .inl ⟨F,e,j⟩
  .right;split
   .rw[BE];split
    .exact⟨_,rfl⟩
    .exact⟨a,z⟩
   .exact⟨a,z⟩
def ce{env:Env}(l:env.scope.kind=.function):∀{names:List (Str×NameKind)}{x:Str}{k:NameKind},names.lookup x=J k ->
  (names.map λ(n,k)=>if(k==NameKind.free&&env.scope.kind == .function&&env.kindOf n==J .cell)then(n,NameKind.cell)else(n,k)).lookup x=J (if k=.free/\env.kindOf x=J .cell then .cell else k):=by
 intro names
 induction names with
 |nil=>intro x k h;simp at h
 |cons y r i =>
  intro x k h;obtain⟨n,f⟩:=y;have j:=@i x k;show List.lookup x ((if(f==NameKind.free&&env.scope.kind == .function&&env.kindOf n==J .cell)=I then(n,NameKind.cell)else(n,f))::_)=_
  cases a:x==n with
  |true =>
   have e:x=n:=by simpa using a
   subst e;simp only[BE,a]at h;cases h;by_cases z:k=.free/\env.kindOf x=J .cell
   .rw[b_ (by simp[z.1,z.2,l]),b_ z];simp
   .rw[f_ (by simp[l];intro C B;exact z ⟨C,B⟩),f_ z];simp
  |false =>
   simp only[BE,a]at h;by_cases u:(f==NameKind.free&&env.scope.kind == .function&&env.kindOf n==J .cell)=I
   .rw[b_ u];simp only[BE,a];exact j h
   .rw[f_ u];simp only[BE,a];exact j h
def cZ(X:Cx)(a:Scope)(cl:List (Str×Addr))(f:Shared)(i:Hp)(l:SX)(j:SQ):Cx :=
 { X with N:=j,s₀:=f,H₀:=i,env:=compEnvC a cl f.heap.objs.size X.env,outer:=X.stack,ex:=l,fn:=λx=>decide (a.names.lookup x=J .cell),pn:=[],xe:=λ_ _=>False}
structure yZ(X:Cx)(N:SQ)(scope:Scope)(vars frees:SQ)(fm:SV):Prop where
 kind:scope.kind=.function
 cell:∀y∈scope.names,y.2=.cell->scope.names.lookup y.1=J .cell
 names:∀y∈scope.names,y.2=.local->scope.names.lookup y.1=J .local
 hv:∀x∈vars,scope.names.lookup x=J .local\/scope.names.lookup x=J .cell
 hf:∀x∈frees,scope.names.lookup x=J .free
 all:∀y∈scope.names,y.2=.free->y.1∈frees
 fm:fm.map (λi=>N[i]?)=frees.map J
 cl:∀x∈frees,X.env.kindOf x=J .cell
def BV(a:Nat)(fm:SV)(Z:m_):m_:=List.replicate a Y++fm.map λi=>(Z[i]?).getD Y
def y4(f:MIt)(n:Nat)(i:Mg)(mt:Mx Bool)(j:Mx PV):SM->m_->MH->Out Unit
 |[],_,h=>if f.ok h then .ok () h else .bad
 |x::r,Z,h=>if f.ok h then (match i x Z h with
  |.nx a y=>(mt a y).ne.bind λb l=>if b=I then (j a l).ne.bind λv u=>(match u[n]? with
    |some (.lst ys)=>if ys.length<sizeLine then y4 f n i mt j r a (u.set n (.lst (ys++[v])))else .bad
    |_=>.bad)else y4 f n i mt j r a l
  |_=>.bad)else .bad
def bN(l:Nat)(fm:SV)(i:Mx MIt)(j:Mg)(mt:Mx Bool)(u:Mx PV):Mx PV:=λZ h =>
 (i Z h).bind λf a=>(y4 f a.length j mt u f.xs (BV l fm Z) (a++[.lst []])).bind λ_ y=>.ok (.loc a.length) y
def B7(X:Cx)(a:SH)(m:Mx Bool):Prop :=
 ∀(f:SD)(s:Shared)(Z:L2.St)(H:Hp)(Q:Bool->Hp->Prop),Inv X f Z H s->tM X Kb m Z H Q ->
  wpAny (model X.prog X.w) X.A (forIn a I λc r=>if r=I then do let ok <-isTrue c X.env (eval c X.env);pure (ForInStep.yield ok)else pure (ForInStep.yield r)) (TP X f Z Q) X.xe s
def oF:Mx Bool:=λ_ h=>.ok I h
def gE:B7 X [] oF:=λj s Z H Q a ⟨U,i,h,l,f,q⟩=>wpAny_tests_nil ⟨H,a,q U H I (Le.refl _ _) f rfl⟩
def uF(h:MT X c m):B7 X [c] m:=λf s Z H Q a q=>wpAny_tests_one (h f s Z H Q a q)
inductive CS(X:Cx)(U:SX)(H:Hp)(σp:m_)(gt:Mg)(mt:Mx Bool)(me:Mx PV)(Z0:m_)(Q:VK)(J:It)(H1:Hp):Prop
 |mk(U1:SX)(it:MIt)(h1:MH)(l:Le U H U1 H1)(rh:RH X.K X.mg U1 H1 h1)(j:pA X U1 H1 it J)(q:Ful X (RV' X) σp U1 H1 ((y4 it h1.length gt mt me it.xs Z0 (h1++[.lst []])).bind λ_ h3=>.ok (.loc h1.length) h3) Q):CS X U H σp gt mt me Z0 Q J H1
inductive CI(X Y:Cx)(it:MIt)(tn:Nat->Heap->Prop)(fp U0:SX)(H0:Hp)(σp:m_)(n1:Nat)(gt:Mg)(mt:Mx Bool)(me:Mx PV)(Q:VK)(n:Nat)(s6:Shared):Prop
 |mk(i:Nat)(Z6:L2.St)(H6:Hp)(U6:SX)(σp6:m_)(h6:MH)(e:n=it.xs.length-i)(l:i<=it.xs.length)(v:Inv Y [] Z6 H6 s6)(t:tn i s6.heap)(f:∀b∈fp,H6 b=none)(le:Le U0 H0 U6 H6)(rs:RS X.K U6 H6 σp6 Z6)(rh:RH X.K X.mg U6 H6 h6)
   (q:Ful X (RV' X) σp U6 H6 ((y4 it n1 gt mt me (it.xs.drop i) σp6 h6).bind λ_ h3=>.ok (.loc n1) h3) Q):CI X Y it tn fp U0 H0 σp n1 gt mt me Q n s6
def qz(j:Q (newEnv scope s.heap.objs.size globals (cellsFrom (s.heap.objs.size+1) scope.names closure) qual Y .none (J env) builtinsNs) { s with heap:=pushCells (s.heap.push { cls:=.type "dict",data:=.dict #[]}) scope.names}):
  wpAny M A (newFunctionEnv scope globals closure [] qual Y .none (J env)) Q E s:=by
 simp only[newFunctionEnv,Option.isSome_some,if_true];refine hH (wpAny_alloc ?_);refine hH (wpAny_layCells _ (λi kind a=>by cases f:kind==NameKind.cell<;>simp[f]) _ _ _ _ ?_);rw[show({ s with heap:=s.heap.push { cls:=.type "dict",data:=.dict #[]}}:Shared).heap.objs.size=s.heap.objs.size+1 from BF ..];rw[N3];exact hH (ln (ln j))
def cO:∀(names:List (Str×NameKind))(n:Nat)(a:List (Str×Addr)),cellsFrom n names a=cellsFrom n names []++a
 |[],n,a=>rfl
 |(x,k)::r,n,a=>by
  unfold cellsFrom;split
  .rw[cO r (n+1) ((x,n)::a),cO r (n+1) [(x,n)]];simp
  .exact cO r n a
def eO:∀(names:List (Str×NameKind))(n:Nat)(x:Str),(∃c,(x,c)∈cellsFrom n names [])↔(x,NameKind.cell)∈names
 |[],n,x=>by simp[cellsFrom]
 |(y,k)::r,n,x=>by
  unfold cellsFrom;split
  .rename_i f
   have i:k=NameKind.cell:=by simpa using f
   subst i;rw[cO];constructor
   .rintro⟨c,a⟩;rcases tr.mp a with a|a
    .exact n_ _ ((eO r (n+1) x).mp ⟨c,a⟩)
    .have:x=y:=by simp at a;exact a.1
     rw[this];exact Bq
   .intro h;rcases pu.mp h with e|h
    .have:x=y:=by simpa using e
     subst this;exact⟨n,se _ (by simp)⟩
    .obtain⟨c,a⟩:=(eO r (n+1) x).mpr h;exact⟨c,AU _ a⟩
  .rename_i f
   rw[eO r n x];constructor
   .exact n_ _
   .intro h;rcases pu.mp h with e|h
    .exfalso
     have:NameKind.cell=k:=by simpa using(Prod.mk.inj e).2
     rw[<-this]at f;exact f rfl
    .exact h
def jW{α:Type}:∀(a b:List (Str×α))(x:Str),(a++b).lookup x=(a.lookup x).or (b.lookup x)
 |[],b,x=>rfl
 |(y,v)::a,b,x=>by
  rw[MB,BE,BE]
  cases x==y with
  |true=>rfl
  |false=>exact jW a b x
def tI{α:Type}:∀(a:List (Str×α))(x:Str),a.lookup x=Y->∀c,(x,c)∉a
 |[],x,_,c,h=>nomatch h
 |(y,v)::a,x,e,c,h=>by
  rw[BE]at e
  cases z:x==y with
  |true=>rw[z]at e;cases e
  |false =>
   rw[z]at e;rcases pu.mp h with q|q
   .have:x=y:=(Prod.mk.inj q).1
    rw[this]at z;simp at z
   .exact tI a x e c q
section
variable{X:Cx}{N W G:SQ}{k:Nat}
def pT(g:Good X N W G k){tg an cb:Expr}{ck:SH}{f:Scope}{pos:Pos}{B frees G':SQ}{fm:SV}{mi:Mx MIt}{gt:Mg}{mt:Mx Bool}{me:Mx PV}(C:yZ X N f B frees fm)(nd:(B++frees).Nodup)(gg:∀x∈G',f.names.lookup x=J .globalImplicit)(dbg:∀x∈(B++frees)++G',(x==("__debug__":Str))=T/\(x==("__classdict__":Str))=T/\x≠"__name__")(hi:MI X tg an mi)(hY:∀ab:Cx,ab.prog=X.prog->ab.w=X.w->ab.K=X.K->ab.mg=X.mg->ab.base=X.base->ab.env.scope=relabel f X.env->Good ab (B++frees) B G' k->MG ab tg gt/\B7 ab ck mt/\ME ab cb me)(hs:∀x,foldedSetIterable an X.env x=pure x){use:Option (Value->Sem Unit)}{Qv:Sh}{pp:Pos}{KC:SD}{s:Shared}{Z:L2.St}{H:Hp}{Q:VK}(dc:Inv X KC Z H s)(tm:tM X (RV' X) (bN B.length fm mi gt mt me) Z H Q)(fin:∀(d0 C:Addr) (H6:Hp) (s7:Shared) (m7:Si),Inv X KC Z H6 s7->H6 C=Y->s7.heap.Ns C m7->C≠X.env.locals->X.s₀.heap.objs.size<=C->C∉X.fs->(∀x c,X.env.cells.lookup x=J c->c≠C)->(∀p∈X.pn++KC,p.1≠C)->Q (.ref d0) H6 ->
   compPost (model X.prog X.w) X.A X.xe use Qv (.ref d0) C (.ok .next) s7):
  wpAny (model X.prog X.w) X.A (comprehension (.ListComp cb [⟨tg,an,ck,0⟩] f pos) f X.env pp (newList []) T (eval an X.env) use) Qv X.xe s:=by
 obtain⟨U,al,h,rs,rh,q⟩:=tm;have b6:∀y∈f.names,y.2=.free->∃c,X.env.cells.lookup y.1=J c:=λy hy e=>dc.ok.has y.1 (.inl (C.cl _ (C.all y hy e)));refine wpAny_comprehension_free (use:=use) rfl hs (qF b6) C.kind C.names ?_;generalize db:jX X.env f.names []=cl;have d4:∀x a,cl.lookup x=J a->X.env.cells.lookup x=J a\/((X.env.cells.lookup x)=Y/\a=0):=λx a e=>by
  rw[<-db]at e
  have:=(mn (env:=X.env) (x:=x) f.names [] (λa z=>by simp at z)).1 a e
  cases z:X.env.cells.lookup x with
  |none=>right;rw[z]at this;exact⟨rfl,this⟩
  |some c=>left;rw[z]at this;rw[this];rfl
 have er:∀x∈frees,∃c,cl.lookup x=J c/\X.env.cells.lookup x=J c:=λx hx=>by
  obtain⟨c,hc⟩:=dc.ok.has x (.inl (C.cl x hx));have hm:(∃kk,(x,kk)∈f.names/\kk=.free):=⟨.free,PySem.mem_of_lookup (C.hf x hx),rfl⟩;obtain⟨a,ha⟩:=(mn (env:=X.env) (x:=x) f.names [] (λa z=>by simp at z)).2 (.inl hm);rw[db]at ha;rcases d4 x a ha with z|⟨z,_⟩
  .rw[hc]at z;cases z;exact⟨c,ha,hc⟩
  .rw[hc]at z;cases z
 have dt:∀x a,cl.lookup x=J a->X.env.cells.lookup x=J a/\x∈frees:=λx a e=>by
   have only:∀(l:List (Str×NameKind))(cs:List (Str×Addr))(x:Str)(a:Addr),(jX X.env l cs).lookup x=J a->(x,NameKind.free)∈l\/cs.lookup x=J a:=by
    intro l
    induction l with
    |nil=>intro cs x a e;exact .inr e
    |cons y l ih =>
     intro cs x a e;obtain⟨n,kk⟩:=y;rcases ih _ x a e with z|z
     .exact .inl (n_ _ z)
     .split at z
      .rename_i hk
       have e8:kk=NameKind.free:=by simpa using hk
       rw[BE]at z
       split at z
       .rename_i e'
        have:x=n:=by simpa using e'
        subst this;subst e8;exact .inl Bq
       .exact .inr z
      .exact .inr z
   have e':=e;rw[<-db]at e';rcases only _ _ x a e' with z'|z'
   .refine⟨?_,C.all _ z' rfl⟩;rcases d4 x a e with z|⟨z,_⟩
    .exact z
    .obtain⟨c,hc⟩:=b6 _ z' rfl;rw[z]at hc;cases hc
   .simp at z'
 have start:=hi KC s Z H (CS X U H al gt mt me (BV B.length fm al) Q) dc
  ⟨U,al,h,rs,rh,Ful.bind q λU1 H1 it gk h1 _ l1 cd jr q1=>⟨U1,it,h1,l1,cd,jr,q1⟩⟩
 refine wpAny_mono start (λx g1 dv=>wpAny_mono dv (λg4 F en=>?_) λ_ _ e=>e) λ_ _ e=>e;obtain⟨dV,fp,tn,gk,H2,rfl,I2,R,dr,f2,U1,it,h1,l1,cd,jr,q1⟩:=en;refine wpAny_newObj_type ?_;have fl:H2 F.heap.objs.size=Y:=I2.hok.fresh (jj _);have M:=I2.lnew (ys:=[]) (its:=[]) (t':=F.toks) .nil (zL _);obtain⟨ek,l3⟩:=cd.new fl (o:=.lst []) (ho:=.lst []) ⟨[],rfl,.nil⟩;generalize fo:({ F with heap:=F.heap.push { cls:=.type "list",data:=.seq ([]:SA).toArray},toks:=F.toks}:Shared)=E at M;generalize d2:l7 H2 F.heap.objs.size (.lst [])=L at M ek l3;have g3:L F.heap.objs.size=J (.lst []):=by rw[<-d2];exact bP
 have f5:E.heap=F.heap.push { cls:=.type "list",data:=.seq ([]:SA).toArray}:=by rw[<-fo]
 have cv:tn 0 E.heap:=R.keep _ _ _ dr λb _ o e=>by rw[f5];exact mx _ e
 have b4:∀b∈fp,ie X KC L b:=λb S=>by
  obtain⟨a0,a1⟩:=f2 b S;refine⟨?_,a1⟩;obtain⟨o,eo,_⟩:=R.obj _ _ dr b S;rw[<-d2,aS (vK (n5 eo))];exact a0
 have c5:wpAny (model X.prog X.w) X.A (newFunctionEnv f X.env.globals cl [] X.env.qual Y .none (J X.env)) (λtt d1 =>
    codeAny (model X.prog X.w) X.A (.compStart (.ListComp cb [⟨tg,an,ck,0⟩] f pos) 0 (.ref dV) (.ref F.heap.objs.size) { tt with scope:=relabel f X.env}) (compPost (model X.prog X.w) X.A X.xe use Qv (.ref F.heap.objs.size) tt.locals) d1) X.xe E:=by
  refine qz ?_;have O:∀b o,E.heap.get? b=J o->(pushCells (E.heap.push { cls:=.type "dict",data:=.dict #[]}) f.names).get? b=J o:=λb o e=>pushCells_keeps _ _ b o (mx _ e);have eq:=(Heap.Ns.new E.heap (.type "dict")).keeps (pushCells_keeps f.names _);have b3:=cellsFrom_ok f.names (E.heap.push { cls:=.type "dict",data:=.dict #[]}) (E.heap.objs.size+1) [] ⟨λ_ _ hm=>(nomatch hm),List.Pairwise.nil⟩ (by rw[BF];exact jj _);rw[BF]at b3;rw[cO];have cf:=eO f.names (E.heap.objs.size+1);generalize cellsFrom (E.heap.objs.size+1) f.names []=cn at b3 cf ⊢;generalize pushCells (E.heap.push { cls:=.type "dict",data:=.dict #[]}) f.names=h' at O eq b3 ⊢;dsimp only[newEnv];have a3:∀x c,(cn++cl).lookup x=J c->((x,c)∈cn/\f.names.lookup x=J .cell/\E.heap.objs.size<c/\h'.IsCell c Y)\/(X.env.cells.lookup x=J c/\f.names.lookup x=J .free):=λx c e=>by
   rw[jW]at e
   cases z:cn.lookup x with
   |some c' =>
    rw[z]at e
    have:c'=c:=by simpa using e
    subst this;have m:=PySem.mem_of_lookup z;obtain⟨q1,q2⟩:=b3.empty x c' m;exact .inl ⟨m,C.cell _ ((cf x).mp ⟨c',m⟩) rfl,q2,q1⟩
   |none =>
    rw[z]at e;obtain⟨q1,q2⟩:=dt x c (by simpa using e);exact .inr ⟨q1,C.hf x q2⟩
  have eF:∀x c,x∈frees->cl.lookup x=J c->(cn++cl).lookup x=J c:=λx c hx e=>by
   rw[jW]
   cases z:cn.lookup x with
   |none=>simpa using e
   |some c' =>
    have:=C.cell _ ((cf x).mp ⟨c',PySem.mem_of_lookup z⟩) rfl
    rw[C.hf x hx]at this;cases this
  have old:∀x c,X.env.cells.lookup x=J c->c<E.heap.objs.size:=λx c e=>by
   obtain⟨v,qc⟩:=M.cell x c e;exact qc.lt
  have ok:(cZ X f (cn++cl) E L fp (B++frees)).Ok:=by
   refine⟨M.ok.mod,C.kind,M.ok.glob,M.ok.blt,jj _,λx y c h1 h2=>?_,λx hx=>?_,λx c hx e=>?_,M.ok.hd,M.ok.frames,.inl rfl,
    λb S=>⟨?_,λx c e z=>?_⟩,M.bs,ql M.ok.bsz M.sz,λb o e S=>?_,λb S z=>?_,M.stack,M.stkFree,M.ok.tree,M.ok.top⟩
   .rcases a3 x c h1 with⟨a1,_,a2,_⟩|⟨a1,_⟩<;>rcases a3 y c h2 with⟨b1,_,b2,_⟩|⟨b1,_⟩
    .exact PySem.name_of_addr b3.apart a1 b1
    .exact absurd (MU a2 (old y c b1)) (A6 _)
    .exact absurd (MU b2 (old x c a1)) (A6 _)
    .exact M.ok.inj x y c a1 b1
   .
    have bv:(relabel f X.env).names.lookup x=J .cell\/(relabel f X.env).names.lookup x=J .free:=hx
    cases e:f.names.lookup x with
    |none =>
     exfalso;have nn:∀(l:List (Str×NameKind)),l.lookup x=Y->(l.map λ(n,k)=>if(k==NameKind.free&&X.env.scope.kind == .function&&X.env.kindOf n==J .cell)then(n,NameKind.cell)else(n,k)).lookup x=Y:=by
      intro l
      induction l with
      |nil=>intro _;rfl
      |cons y l ih =>
       intro hl;obtain⟨n,kk⟩:=y;rw[BE]at hl
       split at hl
       .cases hl
       .rename_i e7
        rw[n8];dsimp only
        split<;>(rw[BE];simp only[e7];exact ih hl)
     have e2:=nn f.names e;rcases bv with z|z
     .rw[show(relabel f X.env).names.lookup x=Y from e2]at z;cases z
     .rw[show(relabel f X.env).names.lookup x=Y from e2]at z;cases z
    |some kk =>
     have e2:=ce (env:=X.env) M.ok.kind e;have hk:kk=.free\/kk=.cell:=by
      rcases bv with z|z
      .rw[show(relabel f X.env).names.lookup x=_ from e2]at z;have z':=Option.some.inj z;by_cases zz:kk=.free/\X.env.kindOf x=J .cell
       .exact .inl zz.1
       .rw[f_ zz]at z';exact .inr z'
      .rw[show(relabel f X.env).names.lookup x=_ from e2]at z;have z':=Option.some.inj z;by_cases zz:kk=.free/\X.env.kindOf x=J .cell
       .exact .inl zz.1
       .rw[f_ zz]at z';exact .inl z'
     rcases hk with hk|hk
     .subst hk;have hf:=C.all _ (PySem.mem_of_lookup e) rfl;obtain⟨c,h1,_⟩:=er x hf;exact⟨c,eF x c hf h1⟩
     .subst hk;obtain⟨c,hc⟩:=(cf x).mpr (PySem.mem_of_lookup e);show ∃c,(cn++cl).lookup x=J c;rw[jW]
      cases z:cn.lookup x with
      |some c'=>exact⟨c',rfl⟩
      |none=>exact absurd hc (tI cn x z c)
   .have bv:=of_decide_eq_true hx;rcases a3 x c e with⟨_,_,q,_⟩|⟨_,q⟩
    .exact EF q
    .rw[q]at bv;cases bv
   .obtain⟨o,eo,_⟩:=R.obj _ _ cv b S;exact vK (n5 eo)
   .rcases a3 x c e with⟨_,_,q,_⟩|⟨q,_⟩
    .obtain⟨o,eo,_⟩:=R.obj _ _ cv b S;exact absurd (MU q (z▸n5 eo)) (A6 _)
    .exact (b4 b S).2.2.2.2.1 x c q z
   .obtain⟨_,_,_,h4,_⟩:=b4 b S;rcases h4 with h4|h4
    .exact M.ok.noex b o e h4
    .exact absurd (vE (n5 e) (ql M.ok.bsz h4)) (A6 _)
   .obtain⟨_,h2,h3,_⟩:=b4 b S;rcases pu.mp (M.stkSub b z)with e|e
    .exact h2 e
    .exact h3 e
  obtain⟨mX,g6,lX⟩:=M.loc;have fw:Le U H (U1++[F.heap.objs.size]) L:=l1.trans l3
  let ar:L2.St:=List.replicate B.length Y++fm.map λi=>(Z[i]?).getD Y
  have fx:fm.length=frees.length:=by have:=congrArg List.length C.fm;simpa using this
  have ey:Inv (cZ X f (cn++cl) E L fp (B++frees)) [] ar L { E with heap:=h',toks:=E.toks}:=by
   refine⟨ok,rfl,M.bare,Un.kept O,⟨_,eq,λi x v hN hv g2=>?_⟩,λx c e=>?_,?_,λx c e=>?_,λp hp=>absurd (show p∈([]:SD)from hp) (by simp),M.hok.kept O,?_⟩
   .have da:(B++frees)[i]?=J x:=hN;have ea:B.length<=i:=by
     by_cases z:B.length<=i
     .exact z
     .exfalso;have as:ar[i]?=J (J v):=hv;rw[p_ (by simp;ext),Fc]at as
      split at as<;>cases as
    have as:ar[i]?=J (J v):=hv;rw[AR (by simpa using ea),Jr,qb]at as;rw[AR ea]at da
    cases ej:fm[i-B.length]? with
    |none=>rw[ej]at as;cases as
    |some j =>
     rw[ej]at as;have ef:=congrArg (λl=>l[i-B.length]?) C.fm;simp only[qb,ej,da,EC]at ef;have ft:N[j]?=J x:=by simpa using ef
     have ev:Z[j]?=J (J v):=by
      have:(Z[j]?).getD Y=J v:=by simpa using as
      cases z:Z[j]? with
      |none=>rw[z]at this;cases this
      |some o=>rw[z]at this;simp at this;rw[this]
     have hx:x∈frees:=Ap da;have gs:MZ X.env.scope x:=.inr (.inl (C.cl x hx));obtain⟨u,ru,ds⟩:=lX j x v (by rw[g.hN];exact ft) ev gs;refine⟨u,ru,.inr ⟨?_,?_⟩⟩
     .left;show(relabel f X.env).names.lookup x=J .cell
      have:=ce (env:=X.env) M.ok.kind (C.hf x hx)
      rw[b_ ⟨rfl,C.cl x hx⟩]at this;exact this
     .rcases ds with⟨hk,_⟩|⟨_,c,hc,di⟩
      .rw[C.cl x hx]at hk;cases hk
      .obtain⟨c',h1,h2⟩:=er x hx;rw[hc]at h2;cases h2;obtain⟨o,eo,ed⟩:=di;exact⟨c,eF x c hx h1,o,O _ _ eo,ed⟩
   .rcases a3 x c e with⟨_,_,_,q⟩|⟨q,_⟩
    .exact⟨Y,q⟩
    .obtain⟨v,o,eo,ed⟩:=M.cell x c q;exact⟨v,o,O _ _ eo,ed⟩
   .exact M.hok.fresh (jj _)
   .rcases a3 x c e with⟨_,_,q,_⟩|⟨q,_⟩
    .exact M.hok.fresh (EF q)
    .exact M.freeC x c q
   .show ar.length=(B++frees).length;simp[ar,fx]
  have gY:Good (cZ X f (cn++cl) E L fp (B++frees)) (B++frees) B G' k:=by
   refine⟨rfl,nd,λx hx=>?_,λx hx=>?_,λx hx=>?_,dbg,g.calm,g.room,PassesOwn.never⟩
   .rcases tr.mp hx with z|z
    .rcases C.hv x z with z|z
     .left
      have:=ce (env:=X.env) M.ok.kind z
      rw[f_ (λq=>nomatch q.1)]at this;exact this
     .right
      have:=ce (env:=X.env) M.ok.kind z
      rw[f_ (λq=>nomatch q.1)]at this;exact this
    .right
     have:=ce (env:=X.env) M.ok.kind (C.hf x z)
     rw[b_ ⟨rfl,C.cl x z⟩]at this;exact this
   .rcases C.hv x hx with z|z
    .right
     have:=ce (env:=X.env) M.ok.kind z
     rw[f_ (λq=>nomatch q.1)]at this;exact this
    .exact .inl (decide_eq_true z)
   .have:=ce (env:=X.env) M.ok.kind (gg x hx)
    rw[f_ (λq=>nomatch q.1)]at this;exact this
  obtain⟨hg,ht,he⟩:=hY (cZ X f (cn++cl) E L fp (B++frees)) rfl rfl rfl rfl rfl rfl gY;have g0:RS X.K (U1++[F.heap.objs.size]) L (BV B.length fm al) ar:=by
   refine⟨by simp[ar,BV],λi v e=>?_⟩;unfold BV at e;by_cases z:B.length<=i
   .rw[AR (by simpa using z),Jr,qb]at e
    cases ej:fm[i-B.length]? with
    |none=>rw[ej]at e;cases e
    |some j =>
     rw[ej]at e;have ev:al[j]?=J (J v):=by
      have:(al[j]?).getD Y=J v:=by simpa using e
      cases z:al[j]? with
      |none=>rw[z]at this;cases this
      |some o=>rw[z]at this;simp at this;rw[this]
     obtain⟨v',e',rv⟩:=rs.2 j v ev;refine⟨v',?_,rv.le fw⟩;show ar[i]?=_;rw[AR (by simpa using z),Jr,qb,ej];simp[e']
   .rw[p_ (by simp;ext),Fc]at e
    split at e<;>cases e
  have q3:Ful X (RV' X) al (U1++[F.heap.objs.size]) L ((y4 it h1.length gt mt me it.xs (BV B.length fm al) (h1++[.lst []])).bind λ_ h3=>.ok (.loc h1.length) h3) Q:=Ful.le l3 q1;have b5:(U1++[F.heap.objs.size])[h1.length]?=J F.heap.objs.size:=by rw[<-cd.len];simp
  have c4:∀a9:Shared,a9={ E with heap:=h',toks:=E.toks}->codeAny (model X.prog X.w) X.A (.compLoop (.ListComp cb [⟨tg,an,ck,0⟩] f pos) 0 (.ref dV) (.ref F.heap.objs.size) (compEnvC f (cn++cl) E.heap.objs.size X.env))
    (compPost (model X.prog X.w) X.A X.xe use Qv (.ref F.heap.objs.size) E.heap.objs.size) a9:=by
   rintro a9 rfl;refine sJ (CI X (cZ X f (cn++cl) E L fp (B++frees)) it tn fp (U1++[F.heap.objs.size]) L al h1.length gt mt me Q) ?_ it.xs.length
    ⟨0,ar,L,_,_,_,rfl,zL _,ey,R.keep _ _ _ cv (λb _ o e=>O b o e),λb S=>(b4 b S).1,Le.refl _ _,g0,ek,by simpa using q3⟩
   rintro n s6 ⟨i,Z6,H6,U6,b9,h6,rfl,g5,I6,ec,es,l6,f1,dq,q6⟩;have bm:∀{H':Hp},(∀b∈fp,H' b=Y)->∀b∈fp,ie (cZ X f (cn++cl) E L fp (B++frees)) [] H' b:=λ{H'} hn b S =>
    ⟨hn b S,(ok.exf b S).1,ok.exfs b S,.inl S,(ok.exf b S).2,λp hp=>absurd (show p∈([]:SD)from hp) (by simp)⟩
   by_cases b0:i<it.xs.length
   .have ed:it.xs.drop i=it.xs[i]::it.xs.drop (i+1):=Mo b0;rw[ed]at q6;simp only[y4]at q6;by_cases hok:it.ok h6
    .rw[b_ hok]at q6;obtain⟨j1,_⟩:=jr U6 H6 h6 i (l3.trans l6) dq hok;obtain⟨go,yl⟩:=j1 b0;refine j3 (R.item (cZ X f (cn++cl) E L fp (B++frees)) rfl rfl rfl g.calm i [] s6 Z6 H6 (λ_ _=>False) I6 (bm es) ec go) λr s7 ⟨u,hr,h7⟩=>?_;subst hr;refine j3 h7 λ_ s8 ⟨x8,H8,I8,r8,y8,dn,fk⟩=>?_;obtain⟨U8,x,l8,gc,ex,rx⟩:=yl x8 H8 y8;have f3:x=it.xs[i]:=by rw[vp b0]at ex;exact(Option.some.inj ex).symm
     subst f3;have gv:=I8.pinned (bm fk) (R.obj _ _ dn);have q8:=Ful.le l8 q6;have c3:∀{Z9:L2.St}{H9:Hp}{s9:Shared},Inv (cZ X f (cn++cl) E L fp (B++frees)) ([]++k9 fp s8.heap) Z9 H9 s9->Inv (cZ X f (cn++cl) E L fp (B++frees)) [] Z9 H9 s9/\tn (i+1) s9.heap/\∀b∈fp,H9 b=Y:=λ{Z9 H9 s9} I9=>by
      refine⟨I9.unpinned,R.keep _ _ _ dn λb S o e=>(I9.pin (b,o) (se _ (se _ (gh S e)))).1,λb S=>?_⟩;obtain⟨o,e,d⟩:=R.obj _ _ dn b S;exact(I9.pin (b,o) (se _ (se _ (gh S e)))).2.1
     cases eg:gt it.xs[i] b9 h6 with
     |nx P h9 =>
      rw[eg]at q8;dsimp only at q8
      refine j3 (hg _ s8 Z6 H8 x8 u (λZ' H'=>∃U',Le U8 H8 U' H'/\RH X.K X.mg U' H' h9/\RS X.K U' H' P Z') gv r8 ⟨U8,b9,h6,_,f1.le l8,gc,rx,by
       show mP _ _ _ (gt it.xs[i] b9 h6) _
       rw[eg];exact λU' H' Z' l r s=>⟨U',l,r,s⟩⟩) λ_ s9 ⟨Z9,H9,I9,U9,l9,gx,ci⟩=>?_
      have q9:=Ful.le l9 q8
      cases em:mt P h9 with
      |ok b ay =>
       rw[em,Out.ne_ok]at q9;rw[Out.bind_ok]at q9
       refine j3 (ht _ s9 Z9 H9 (λb' H'=>b'=b/\∃U',Le U9 H9 U' H'/\RH X.K X.mg U' H' ay) I9 ⟨U9,P,h9,ci,gx,by
        show Ful _ _ _ _ _ (mt P h9) _
        rw[em];exact λU' H' v' l r e=>⟨e.symm,U',l,r⟩⟩) λb' fc ⟨c6,ez,eb,dk,a7,c1⟩=>?_
       subst eb;have ai:=Ful.le a7 q9
       cases b' with
       |false =>
        rw[f_ Fg]at ai ⊢;obtain⟨et,eh,eu⟩:=c3 ez;exact⟨_,by ext,i+1,Z9,c6,dk,P,ay,rfl,b0,et,eh,eu,l6.trans (l8.trans (l9.trans a7)),ci.le a7,c1,ai⟩
       |true =>
        rw[b_ rfl]at ai ⊢
        cases ee:me P ay with
        |ok v ew =>
         rw[ee,Out.ne_ok]at ai;rw[Out.bind_ok]at ai
         refine j3 (he _ fc Z9 c6 (λv' H'=>∃U',Le dk c6 U' H'/\RH X.K X.mg U' H' ew/\RP X.K U' H' v v') ez ⟨dk,P,ay,ci.le a7,c1,by
          show Ful _ _ _ _ _ (me P ay) _
          rw[ee];exact λU' H' v' l r e=>⟨U',l,r,e⟩⟩) λgV f0 ⟨v',df,fa,ep,eC,c7,c2,dx⟩=>?_
         have ax:=Ful.le c7 ai;have ca:Le (U1++[F.heap.objs.size]) L eC df:=l6.trans (l8.trans (l9.trans (a7.trans c7)));obtain⟨oa,e9,gy⟩:=c2.obj (ca.get b5);rw[e9]at ax
         cases oa with
         |dic fz ks xs=>exact ax.elim
         |exc x=>exact ax.elim
         |lst ys =>
          dsimp only at ax;by_cases a8:ys.length<sizeLine
          .rw[b_ a8]at ax;obtain⟨de,fg,ry⟩:=gy;obtain⟨dF,dj⟩:=c2.put (ca.get b5) (o:=.lst (ys++[v])) (ho:=.lst (de++[v'])) ⟨_,rfl,ry.append (.cons dx .nil)⟩;have ap:=qf (X:=cZ X f (cn++cl) E L fp (B++frees)) _ f0 Z9 df (.ref F.heap.objs.size) [v'] (.ref F.heap.objs.size) [gV] (λ_ H'=>H'=l7 df F.heap.objs.size (.lst (de++[v']))) fa rfl (.cons ep .nil) ⟨F.heap.objs.size,de,v',rfl,rfl,fg,by rw[<-ry.length];exact a8,rfl⟩;refine j3 ap λ_ hh ⟨_,hj,f4,_,eH⟩=>?_;subst eH;obtain⟨ei,e6,el⟩:=c3 f4;exact⟨_,by ext,i+1,Z9,_,eC,P,_,rfl,b0,ei,e6,el,ca.trans dj,(ci.le a7).le (c7.trans dj),dF,Ful.le dj ax⟩
          .rw[f_ a8]at ax;exact ax.elim
        |exc x ew=>rw[ee]at ai;exact ai.elim
        |bad=>rw[ee]at ai;exact ai.elim
      |exc x ay=>rw[em]at q9;exact q9.elim
      |bad=>rw[em]at q9;exact q9.elim
     |_=>rw[eg]at q8;exact q8.elim
    .rw[f_ hok]at q6;exact q6.elim
   .have e:i=it.xs.length:=by ext
    rw[e,List.drop_length]at q6;simp only[y4]at q6;by_cases hok:it.ok h6
    .rw[b_ hok]at q6;obtain⟨_,j2⟩:=jr U6 H6 h6 i (l3.trans l6) dq hok;refine j3 (R.done (cZ X f (cn++cl) E L fp (B++frees)) rfl rfl rfl g.calm i [] s6 Z6 H6 (λ_ _=>False) I6 (bm es) ec (j2 (by ext))) λr s7 ⟨hr,I7⟩=>?_;subst hr;obtain⟨m7,fv,_⟩:=I7.loc;have IX:=M.call' (s':=s7) (ch:=fp) I7.os I7.base I7.hok I7.bare λb S=>by
      obtain⟨_,a2,_,a4,a5,a6⟩:=b4 b S;exact⟨a4,a2,a5,a6⟩
     exact fin _ _ H6 s7 m7 IX I7.free fv (A1 M.lt) M.sz (M.nofs (jj _)) (λx c e z=>by
      obtain⟨v,qc⟩:=M.cell x c e
      exact absurd qc.lt (by rw[z];exact A6 _)) (λp hp z=>absurd (n5 (M.pin p hp).1) (by rw[z];exact A6 _)) (q6 U6 H6 _ (Le.refl _ _) dq (.loc (l6.get b5)))
    .rw[f_ hok]at q6;exact q6.elim
  exact codeAny_compStart_list (c4 _ rfl) (R.self X.A 0 _ _ _ (R.keep _ _ _ cv (λb _ o e=>O b o e)) (c4 _ rfl))
 exact c5
def pf(g:Good X N W G k){z j l:Expr}{u:SH}{i:Scope}{F:Pos}{f frees y:SQ}{fm:SV}{R:Mx MIt}{P:Mg}{mt:Mx Bool}{S:Mx PV}(C:yZ X N i f frees fm)(nd:(f++frees).Nodup)(B:∀x∈y,i.names.lookup x=J .globalImplicit)(dbg:∀x∈(f++frees)++y,(x==("__debug__":Str))=T/\(x==("__classdict__":Str))=T/\x≠"__name__")(hi:MI X z j R)(hY:∀a:Cx,a.prog=X.prog->a.w=X.w->a.K=X.K->a.mg=X.mg->a.base=X.base->a.env.scope=relabel i X.env->Good a (f++frees) f y k->MG a z P/\B7 a u mt/\ME a l S)(hs:∀x,foldedSetIterable j X.env x=pure x:=by intro _;rfl):ME X (.ListComp l [⟨z,j,u,0⟩] i F) (bN f.length fm R P mt S):=by
 intro KC s Z H Q M tm;rw[eval_ListComp];refine pT g C nd B dbg hi hY hs M tm λE D H6 s7 m7 IX hC ns hL hz U L hp q=>?_;refine⟨m7,ns,λab O=>⟨.ref E,H6,?_,rfl,q⟩⟩;exact IX.turned (it:=D) (t':=s7.toks) (λb o hb e=>O.extBut b o hb e) hC hL (.inr hz) L hp
def oV(g:Good X N W G k)(i:Nat){y:Str}{py L:Pos}{O f F:Expr}{B:SH}{a:Scope}{E:Pos}{u frees G':SQ}{fm:SV}{mi:Mx MIt}{gt:Mg}{mt:Mx Bool}{me:Mx PV}(R:N[i]?=J y)(hw:W[i]?=J y)(an:swapsWith (.ListComp F [⟨O,f,B,0⟩] a E) (J (.Name y py)) L.line X.env=pure I)(C:yZ X N a u frees fm)(nd:(u++frees).Nodup)(ar:∀x∈G',a.names.lookup x=J .globalImplicit)(dbg:∀x∈(u++frees)++G',(x==("__debug__":Str))=T/\(x==("__classdict__":Str))=T/\x≠"__name__")(hi:MI X O f mi)(hY:∀j:Cx,j.prog=X.prog->j.w=X.w->j.K=X.K->j.mg=X.mg->j.base=X.base->j.env.scope=relabel a X.env->Good j (u++frees) u G' k->MG j O gt/\B7 j B mt/\ME j F me)(hs:∀x,foldedSetIterable f X.env x=pure x:=by intro _;rfl):MS X (.Assign [.Name y py] (.ListComp F [⟨O,f,B,0⟩] a E) L) (ba i (bN u.length fm mi gt mt me)):=by
 intro KC s Z H D al tm;obtain⟨U,ap,h,rs,rh,q⟩:=tm;rw[exec_Assign_Name_used _ _ _ _ an];refine hH (wpAny_standAt (hH ?_));show wpAny _ X.A (do let _ <-comprehension (.ListComp F [⟨O,f,B,0⟩] a E) a X.env _ (newList []) T (eval f X.env) (J (assign (.Name y py) X.env))) _ _ s
 refine hH (wpAny_mono (pT (pos:=E) g C nd ar dbg hi hY hs (use:=J (assign (.Name y py) X.env)) (Qv:=λ_ s'=>SP X KC D .next s') (pp:=firstIterPos [⟨O,f,B,0⟩] E) (Q:=λv H'=>D.nx (Z.set i (J v)) H') al
  ⟨U,ap,h,rs,rh,bf.ex q λU1 H1 v v' h1 l r z w=>w U1 H1 _ (Le.refl _ _) r ((rs.le l).set i z)⟩ λM P H6 s7 m7 IX hC ns hL hz S ai hp q6=>?_) (λ_ s' hq=>ln (ln hq)) λ_ _ e=>e)
 .obtain⟨o,es,ep,ho,hd,hr⟩:=id ns;have IP:Inv X (KC++[(P,o)]) Z H6 s7:=IX.pins_of λp ab=>(tr.mp ab).elim (λz=>IX.pin p (se _ z)) λz=>by
   have e:p=(P,o):=by simpa using z
   subst e;exact⟨ho,hC,hL,S,λv z=>by rw[hd]at z;cases z⟩
  have st:=uO (X:=X) (pos:=py) (by rw[g.hN];exact g.nd) (g.x R) (g.loc y (aN R)) (g.fn y (aN hw)) (KC++[(P,o)]) s7 Z H6 (.ref M) (.ref M) (λZ' H'=>Z'=Z.set i (J (.ref M))/\H'=H6) IP rfl ⟨rfl,rfl⟩;refine j3 st λ_ s8 ⟨Z8,H8,I8,e1,e2⟩=>?_;subst e1;subst e2;have pn:=I8.pin (P,o) (se _ (se _ (by simp)));refine⟨m7,⟨o,es,ep,pn.1,hd,hr⟩,λax as=>⟨_,_,?_,q6⟩⟩;exact(I8.unpinned).turned (it:=P) (t':=s8.toks) (λb o hb e=>as.extBut b o hb e) hC hL (.inr hz) ai hp
end
section
variable{X:Cx}{N W G:SQ}{k:Nat}{Z:L2.St}{H:Hp}{s:Shared}
end
section
variable{prog:Program}{w:World}{A:Around}{E:Sh}{h:Heap}{g:Array GenState}{d:Drawn}{t:Nat}{os:OsState}{a C:Addr}{o:Obj}{K:h8}
end
section
variable{X:Cx}{N W G:SQ}{k:Nat}
end
def my(hf:∀v d,f v=J d->d.depth<=n/\d.hasDict=T):∀{xs:SM}{a:List PyData},bV f xs=J a->PyData.depthAll a<=n/\PyData.hasDictAll a=T
 |[],a,e=>by cases e;simp[PyData.depthAll,PyData.hasDictAll]
 |x::r,a,e=>by
  simp only[bV]at e
  split at e
  .rename_i d j e1 e2
   cases e;obtain⟨y,l⟩:=hf _ _ e1;obtain⟨u,i⟩:=my hf e2;simp only[PyData.depthAll,PyData.hasDictAll,l,i];exact⟨⋯,rfl⟩
  .cases e
def sD:∀(n:Nat)(v:PV)(d:PyData),rd n h v=J d->d.depth<=n/\d.hasDict=T
 |0,v,d,e=>by
  cases v<;>simp only[rd]at e<;>cases e<;>simp[PyData.depth,PyData.hasDict]
 |n+1,v,d,e=>by
  have key:∀xs,(∀f,bV (rd n h) xs=J f->PyData.depthAll f<=n/\PyData.hasDictAll f=T):=λxs f=>my (sD n)
  cases v with
  |non=>cases e;simp[PyData.depth,PyData.hasDict]
  |bl b=>cases e;simp[PyData.depth,PyData.hasDict]
  |int b=>cases e;simp[PyData.depth,PyData.hasDict]
  |str b=>cases e;simp[PyData.depth,PyData.hasDict]
  |tup xs =>
   simp only[rd,vz]at e;obtain⟨f,e1,rfl⟩:=e;obtain⟨a,b⟩:=key xs f e1;exact⟨by simp only[PyData.depth];lia,by simp only[PyData.hasDict,b]⟩
  |frl xs =>
   simp only[rd,vz]at e;obtain⟨f,e1,rfl⟩:=e;obtain⟨a,b⟩:=key xs f e1;exact⟨by simp only[PyData.depth];lia,by simp only[PyData.hasDict,b]⟩
  |loc m =>
   simp only[rd]at e
   split at e
   .rename_i xs _
    simp only[vz]at e;obtain⟨f,e1,rfl⟩:=e;obtain⟨a,b⟩:=key xs f e1;exact⟨by simp only[PyData.depth];lia,by simp only[PyData.hasDict,b]⟩
   .cases e
section
variable{X:Cx}{N W G:SQ}{k:Nat}
end
def sI{p:Str->Prop}{a:Str}{l:SQ}(h:p a)(t:∀x∈l,p x):∀x∈a::l,p x:=λx f=>by
 rcases pu.mp f with rfl|z
 .exact h
 .exact t x z
section
variable{X:Cx}{N W G:SQ}{k:Nat}
def Cal.at(e1:a.prog=X.prog)(e2:a.w=X.w)(e3:a.K=X.K)(e4:a.mg=X.mg)(e5:a.base=X.base)(c:Cal X x ps F i):Cal a x ps F i:=c.to e1 e2 e3 e4 e5
end
def GB(f:X.env.scope=sc)(B:scope.kind=.function)(E:∀y∈scope.names,y.2=.cell->scope.names.lookup y.1=J .cell)(G:∀y∈scope.names,y.2=.local->scope.names.lookup y.1=J .local)(l:∀x∈a,scope.names.lookup x=J .local\/scope.names.lookup x=J .cell)(u:∀x∈frees,scope.names.lookup x=J .free)(F:∀y∈scope.names,y.2=.free->y.1∈frees)(z:fm.map (λi=>N[i]?)=frees.map J)(j:∀x∈frees,sc.names.lookup x=J .cell):yZ X N scope a frees fm :=
 ⟨B,E,G,l,u,F,z,λx C=>by rw[<-f]at j;exact j x C⟩
section
variable{Z:m_}{h:MH}
@[simp]theorem jE{nv:Nat}{fm:SV}{mi:Mx MIt}{gt:Mg}{mt:Mx Bool}{me:Mx PV}:bN nv fm mi gt mt me Z h =
 (mi Z h).bind λit h1=>(y4 it h1.length gt mt me it.xs (BV nv fm Z) (h1++[.lst []])).bind λ_ h3=>.ok (.loc h1.length) h3:=rfl
def lI{a:MIt}{n:Nat}{i:Mg}{mt:Mx Bool}{f:Mx PV}(e:a.ok h):y4 a n i mt f [] Z h=.ok () h:=by rw[y4,b_ e]
def lJ{f:MIt}{n:Nat}{a:Mg}{mt:Mx Bool}{i:Mx PV}{x v:PV}{r ys:SM}{Z1:m_}{h1 h2 h3:MH}(e:f.ok h)(u:a x Z h=.nx Z1 h1)(l:mt Z1 h1=.ok I h2)(j:i Z1 h2=.ok v h3)(y:h3[n]?=J (.lst ys))(hl:ys.length<1000):
  y4 f n a mt i (x::r) Z h=y4 f n a mt i r Z1 (h3.set n (.lst (ys++[v]))):=by
 rw[y4,b_ e,u];simp only[l,Out.ne_ok,Out.bind_ok,if_true,j,y];rw[b_ (vE hl (by decide))]
def wn{o:MO}{g:MH}:(h++o::g)[h.length]?=J o:=by simp
def KA{g:MH}{n:Nat}{o:MO}(e:h[n]?=J o):(h++g)[n]?=J o:=by rw[p_ (nw.mp e).1];exact e
end
def Bi(f:Nat->SM->MH->SK)(m:Mx PV)(l:Mx (SM)):Mx PV:=λZ h=>(m Z h).bind λo a=>match o with
 |.loc n=>(match a[n]? with
  |some (.lst _)=>(l Z a).bind λi j=>(f n i j).ne
  |_=>.bad)
 |_=>.bad
def du(n:Nat)(a:SM)(h:MH):SK:=match a,h[n]? with
 |[v],J (.lst xs)=>if xs.length<sizeLine then .ok .non (h.set n (.lst (xs++[v])))else .bad
 |_,_=>.bad
def i5(n:Nat)(a:SM)(h:MH):SK:=match a with
 |[.loc m]=>(match h[n]?,h[m]? with
  |some (.lst xs),J (.lst ys)=>if xs.length+ys.length<=sizeLine then .ok .non (h.set n (.lst (xs++ys)))else .bad
  |_,_=>.bad)
 |[.tup ys]=>(match h[n]? with
  |some (.lst xs)=>if xs.length+ys.length<=sizeLine then .ok .non (h.set n (.lst (xs++ys)))else .bad
  |_=>.bad)
 |_=>.bad
def fC(n:Nat)(a:SM)(h:MH):SK:=match a,h[n]? with
 |[],J (.lst xs)=>.ok .non (h.set n (.lst xs.reverse))
 |_,_=>.bad
def RPs.reverse{K:h8}{U:SX}{H:Hp}:∀{xs:SM}{ys:List V},RPs K U H xs ys->RPs K U H xs.reverse ys.reverse
 |_,_,.nil=>.nil
 |_,_,.cons r t=>by rw[Mt,Mt];exact(RPs.reverse t).append (.cons r .nil)
section
variable{X:Cx}{N W G:SQ}{k:Nat}
def EQ(X:Cx)(f:Nat->SM->MH->SK):V->List V->Hp->VK->Prop:=λx j H Q=>∃U h n a i,x=.ref a/\U[n]?=J a/\RH X.K X.mg U H h/\RPs X.K U H i j/\iN X (RV' X) U H (f n i h) Q
def km:CA X "list.append" (EQ X du):=by
 intro M s Z H x R v z Q i P E ⟨U,h,n,a,S,e,j,u,rp,q⟩;subst e;obtain⟨o,y,O⟩:=u.obj j;unfold du at q
 cases rp with
 |nil=>exact q.elim
 |cons F C =>
  cases C with
  |cons _ _=>exact q.elim
  |nil =>
   rw[y]at q
   cases o with
   |lst xs =>
    dsimp only at q;by_cases hl:xs.length<sizeLine
    .rw[b_ hl]at q;obtain⟨ys,L,l⟩:=O;obtain⟨f,B⟩:=u.put j (o:=.lst (xs++[_])) ⟨_,rfl,l.append (.cons F .nil)⟩;exact qf M s Z H _ _ v z Q i P E ⟨a,ys,_,rfl,rfl,L,by rw[<-l.length];exact hl,q U _ .non B f .non⟩
    .rw[f_ hl]at q;exact q.elim
   |_=>exact q.elim
def qA(l b:Addr)(f:Array Value)(n:Nat)(a:Array Value)(u:¬(!f.isEmpty&&Builtin.List.listTooLong (f.size+a.size))=I)(j:f.size<=sizeLine)(i:f.size+a.size<=sizeLine+1):
  Meets (Builtin.«list.extend» ⟨[.ref l,.ref b],[]⟩) (λ_ R s=>s.heap.get? l=J { cls:=.type "list",data:=.seq f n}/\IsTup s.heap b a/\R (.ok (.ret Value.none)) { s with heap:=s.heap.update l (Obj.mapSeq λx=>x++a),toks:=s.toks}):=by
 intro prog w A R s ⟨hl,⟨o,z,C,E,hd⟩,h⟩;have y:(f++a).size<=sizeLine+1:=by rw[Jw];exact i
 show wpAny _ A.in1 (Builtin.List.listExtendWith (.ref l) (.ref b) .none) _ _ s;refine hH (wpAny_typeOf ⟨o,z,C⟩ ?_);have B:(Builtin.List.listSameRef (.ref l) (.ref b)||Value.type "tuple" == Value.type "list" || Value.type "tuple" == Value.type "tuple")=I:=by simp
 simp only[B];refine hH ?_;refine hH (wpAny_seqItems z hd (ln ?_));refine hH ?_;refine hH (wpAny_seqItems hl rfl (ln ?_));simp only[u];refine hH (wpAny_updateSeq hl rfl ?_ (hz:=j) (_hz':=y));exact ln h
def xW:CA X "list.extend" (EQ X i5):=by
 intro KC s Z H x vs v us Q j rx rv ⟨U,h,n,a,ps,e,O,M,rp,q⟩;subst e;obtain⟨o,eo,ro⟩:=M.obj O;unfold i5 at q
 cases rp with
 |nil=>exact q.elim
 |cons r1 t1 =>
  cases t1 with
  |cons _ _=>cases r1<;>exact q.elim
  |nil =>
   cases r1 with
   |@loc m b em =>
    obtain⟨o2,S,ab⟩:=M.obj em;dsimp only at q;rw[eo,S]at q
    cases o with
    |lst xs =>
     cases o2 with
     |lst C =>
      dsimp only at q;by_cases hl:xs.length+C.length<=sizeLine
      .rw[b_ hl]at q;obtain⟨ys,L,E⟩:=ro;obtain⟨B,ew,rw'⟩:=ab;obtain⟨y,P⟩:=M.put O (o:=.lst (xs++C)) (ho:=.lst (ys++B)) ⟨_,rfl,E.append rw'⟩;exact xc KC s Z H _ _ v us Q j rx rv ⟨a,b,ys,B,rfl,rfl,L,ew,by rw[<-E.length,<-rw'.length];exact hl,q U _ .non P y .non⟩
      .rw[f_ hl]at q;exact q.elim
     |_=>exact q.elim
    |_=>exact q.elim
   |@tup C a2 B sq rr =>
    rw[eo]at q
    cases o with
    |lst xs =>
     dsimp only at q;by_cases hl:xs.length+C.length<=sizeLine
     .rw[b_ hl]at q;obtain⟨ys,L,E⟩:=ro;obtain⟨y,P⟩:=M.put O (o:=.lst (xs++C)) (ho:=.lst (ys++B)) ⟨_,rfl,E.append rr⟩;cases rx;obtain⟨u,rfl,ru⟩:=rv.one;cases ru;obtain⟨z,i,n,r,ap,e⟩:=j.lstM L;obtain⟨f,r2,pl,an⟩:=j.tuple sq;have ai:ys.length+B.length<=sizeLine:=by rw[<-E.length,<-rr.length];exact hl
      have al:=r2.length;have R:i.toArray.size+f.toArray.size<=sizeLine:=by rw[q7,q7];lia
      have l:¬(!i.toArray.isEmpty&&Builtin.List.listTooLong (i.toArray.size+f.toArray.size))=I:=by rw[mV R,Bool.and_false];exact Fg
      refine call_meets F.slot_list_extend ⟨_,e,rfl⟩ F.entry_list_extend (F.args_list_extend_2 _ _) (qA a _ i.toArray n f.toArray l (by rw[q7];lia) ⋯) ⟨e,pl,?_⟩;refine⟨.non,_,j.lset (its':=i++f) L e (by simp) (r.append r2) ?_,rfl,q U _ .non P y .non⟩;rw[Br];lia
     .rw[f_ hl]at q;exact q.elim
    |_=>exact q.elim
   |_=>exact q.elim
def v9:CA X "list.reverse" (EQ X fC):=by
 intro E s Z H x O v y Q i M B ⟨U,h,n,a,P,e,j,l,rp,q⟩;subst e;obtain⟨o,u,F⟩:=l.obj j;unfold fC at q
 cases rp with
 |cons _ _=>exact q.elim
 |nil =>
  rw[u]at q
  cases o with
  |lst xs =>
   obtain⟨ys,C,L⟩:=F;obtain⟨f,z⟩:=l.put j (o:=.lst xs.reverse) ⟨_,rfl,L.reverse⟩;exact wA E s Z H _ _ v y Q i M B ⟨a,ys,rfl,rfl,C,q U _ .non z f .non⟩
  |_=>exact q.elim
variable{o e:Expr}{es:SH}{name:Str}{apos cpos:Pos}{id:String}{f:Nat->SM->MH->SK}{m:Mx PV}{ma:Mx (SM)}
def ER{E:TA}(z:∀Z H Q,tM X (RVs' X) ma Z H Q->E Z H Q){Z:L2.St}{H:Hp}{Q:VK}(tm:tM X (RV' X) (Bi f m ma) Z H Q):tM X (RV' X) m Z H (λx u=>M3 X.K "list" x u/\E Z u λxs L=>EQ X f x xs L Q):=by
 obtain⟨U,j,h,F,rh,q⟩:=tm;refine⟨U,j,h,F,rh,?_⟩;refine Ful.bind q λU1 u x x' R _ S l rx i=>?_
 cases rx with
 |@loc n a C =>
  obtain⟨M,P,ro⟩:=l.obj C;dsimp only at i;rw[P]at i
  cases M with
  |lst xs =>
   obtain⟨ys,ey,ry⟩:=ro;refine⟨.inl ⟨rfl,ys,SqL.of ey⟩,z Z u _ ⟨U1,j,R,F.le S,l,?_⟩⟩;exact Ful.bind i λU2 L vs ab h2 _ O B y q2=>⟨U2,h2,n,a,vs,rfl,O.get C,B,y,q2.zero⟩
  |_=>exact i.elim
 |_=>exact i.elim
def wC(slot:Slot "list" name id)(u:typeOf (.builtin id)=pure (.type "method_descriptor"))(B:CA X id (EQ X f))(C:ME X o m)(y:MA X (e::es) ma)(i:attributeBase o name X.env (eval o X.env)=eval o X.env:=by rfl)(l:((backTo cpos (starEach (e::es) X.env)).all (λx=>!x.1)&&(backToKw cpos (keywordEach [] X.env)).all (λx=>x.1.isSome)
   && decide ((e::es).length+([]:List Keyword).length+(if([]:List Keyword).isEmpty then 0 else 1)<30))=I:=by rfl)(j:(apos.endLine==cpos.line)=I:=by rfl)(E:starEach (e::es) X.env=(T,eval e X.env)::starEach es X.env:=by rfl)(a:(backTo cpos (starEach es X.env)).any (·.1)=T:=by rfl):
  ME X (.Call (.Attribute o name apos) (e::es) [] cpos) (Bi f m ma) :=
 PE.imp (J_ PySem.F.plainAttrs_list slot u B C y i l j E a) λZ H Q q=>ER (λ_ _ _ z=>z) q
def GC(slot:Slot "list" name id)(j:typeOf (.builtin id)=pure (.type "method_descriptor"))(u:CA X id (EQ X f))(y:ME X o m)(a:attributeBase o name X.env (eval o X.env)=eval o X.env:=by rfl)(i:(apos.endLine==cpos.line)=I:=by rfl):
  ME X (.Call (.Attribute o name apos) [] [] cpos) (Bi f m g_) :=
 PE.imp (F1 PySem.F.plainAttrs_list slot j u y a i) λZ H Q q=>by
  have z:=ER (λZ H Q ⟨U,B,h,C,l,z⟩=>z U H [] (Le.refl _ _) l .nil) q;exact z
@[simp]theorem GD:Bi f m ma Z h=(m Z h).bind λo h1=>match o with
 |.loc n=>(match h1[n]? with
  |some (.lst _)=>(ma Z h1).bind λvs h2=>(f n vs h2).ne
  |_=>.bad)
 |_=>.bad:=rfl
end
def bW(h:MH):PV->Option (SM)
 |.tup xs=>J xs
 |.frl xs=>J xs
 |.loc n=>(match h[n]? with
  |some (.lst xs)=>J xs
  |_=>Y)
 |_=>Y
section
variable{X:Cx}{N W G:SQ}{k:Nat}
def lm(z:RH X.K X.mg U H h)(B:RP X.K U H x x')(e:bW h x=J xs):∃a ys,x'=.ref a/\(SqL X.K H a ys\/SqT X.K H a ys)/\RPs X.K U H xs ys:=by
 cases B with
 |tup s r=>cases e;exact⟨_,_,rfl,.inr s,r⟩
 |frl s r=>cases e;exact⟨_,_,rfl,.inl s.sq,r⟩
 |@loc n a f =>
  obtain⟨o,j,u⟩:=z.obj f;simp only[bW,j]at e
  cases o with
  |lst ys =>
   cases e;obtain⟨y,l,i⟩:=u;exact⟨a,y,rfl,.inl (SqL.of l),i⟩
  |_=>cases e
 |_=>cases e
def oq(f g:PV->PV->MH->SK)(a b c:Mx PV):Mx PV:=λZ h=>(a Z h).bind λx l=>(b Z l).bind λy u=>(f x y u).ne.bind λz i=>match z with
 |.bl t=>if t=I then(c Z i).bind λw j=>(g y w j).ne else .ok (.bl T) i
 |_=>.bad
variable{a b c:Expr}{ma mb mc:Mx PV}{f g':PV->PV->MH->SK}{op op':CmpOp}{pos:Pos}
def Aq{Z:L2.St}{H:Hp}{Q:VK}(q:tM X (RV' X) (oq f g' ma mb mc) Z H Q):ym (rJ X f) (rJ X g') (tM X (RV' X) ma) (tM X (RV' X) mb) (tM X (RV' X) mc) Z H Q:=by
 obtain⟨U,i,h,B,rh,q⟩:=q;refine⟨U,i,h,B,rh,Ful.bind q λU1 H1 x x' h1 _ P E rx q1=>?_⟩;refine⟨U1,i,h1,B.le P,E,Ful.bind q1 λR H2 y y' h2 _ M F ry q2=>?_⟩;refine⟨R,h2,x,y,F,rx.le M,ry,?_⟩;have key:Ful X (RV' X) i R H2 (f x y h2).ne (λz l=>∃k,z=.bl k/\(if k=I then tM X (RV' X) mc Z l λO H4=>rJ X g' y' O H4 Q else Q (.bl T) l)):=Ful.bind q2 λL l z z' h3 _ S j rz u=>by
  cases rz with
  |bl t =>
   refine⟨t,rfl,?_⟩
   cases t with
   |true =>
    exact⟨L,i,h3,B.le (P.trans (M.trans S)),j,Ful.bind u λU4 H4 w O h4 _ l4 C rw' q4=>⟨U4,h4,y,w,C,(ry.le S).le l4,rw',q4.zero⟩⟩
   |false =>
    exact u L l _ (Le.refl _ _) j (.bl _)
  |_=>exact u.elim
 exact key.zero
def zu(u:wj X (compareOp op) f)(i:wj X (compareOp op') g')(j:ME X a ma)(z:ME X b mb)(y:ME X c mc)(l:lastMarks [op,op'] [b,c]=T:=by with_unfolding_all rfl):ME X (.Compare a [op,op'] [b,c] pos) (oq f g' ma mb mc) :=
 PE.imp (yX u i j z y l) λ_ _ _ q=>Aq q
@[simp]theorem Ja:oq f g' ma mb mc Z h=(ma Z h).bind λx h1=>(mb Z h1).bind λy h2=>(f x y h2).ne.bind λz h3=>match z with
 |.bl t=>if t=I then(mc Z h3).bind λw h4=>(g' y w h4).ne else .ok (.bl T) h3
 |_=>.bad:=rfl
def CY(neg:Bool)(x y:PV)(h:MH):SK:=match bW h y with
 |some ys=>(match rd 60 h x,bV (rd 60 h) ys with
  |some d,J i=>if d.canLay0=I/\PyData.canLayAll0 i=I then .ok (.bl (if neg then !i.any (λe=>PyData.eqv e d)else i.any (λe=>PyData.eqv e d))) h else .bad
  |_,_=>.bad)
 |none=>.bad
def nW:∀{i:List PyData},PyData.canLayAll0 i=I->∀d∈i,d.canLay0=I
 |e::i,h,d,hd=>by
  simp only[PyData.canLayAll0,AZ]at h;rcases pu.mp hd with rfl|hd
  .exact h.1
  .exact nW h.2 d hd
def pV(hf:∀u d i,Reads hp u d i->fq u=PyData.eqv d dx):∀{j:SA}{l:List PyData}{i:SX},ReadsAll hp j l i->j.any fq=l.any λe=>PyData.eqv e dx
 |_,_,_,.nil=>rfl
 |_,_,_,.cons r t=>by rw[MP,MP,hf _ _ _ r,pV hf t]
def p8:∀{j:SA}{l:List PyData}{z:SX},ReadsAll hp j l z->∀u∈j,∃d i,d∈l/\Reads hp u d i
 |_,_,_,.nil,u,h=>nomatch h
 |_,_,_,.cons r t,u,h=>by
  rcases pu.mp h with rfl|h
  .exact⟨_,_,Bq,r⟩
  .obtain⟨d,i,hd,y⟩:=p8 t u h;exact⟨d,i,n_ _ hd,y⟩
def fq(l:Heap)(i:PyData)(u:Value):Bool:=if z:∃d j,Reads l u d j then PyData.eqv z.choose i else T
def ES(r:Reads hp u d i):fq hp dx u=PyData.eqv d dx:=by have z:∃d i,Reads hp u d i:=⟨d,i,r⟩;unfold fq;rw[dif_pos z];obtain⟨l,j⟩:=z.choose_spec;rw[<-(Reads.unique r _ _ j).1]
def ET(hr:Room k X.A)(neg:Bool):wj X (compareOp (if neg then .NotIn else .In)) (CY neg):=by
 intro KC s Z H x' y' u v Q j al ai ⟨U,h,x,y,L,rx,ry,q⟩;unfold CY at q
 cases R:bW h y with
 |none=>rw[R]at q;exact q.elim
 |some ys =>
  rw[R]at q;dsimp only at q;obtain⟨a,zs,rfl,O,ab⟩:=lm L ry R
  cases ex:rd 60 h x with
  |none=>rw[ex]at q;exact q.elim
  |some l =>
   rw[ex]at q
   cases S:bV (rd 60 h) ys with
   |none=>rw[S]at q;exact q.elim
   |some ds =>
    rw[S]at q;dsimp only at q;by_cases hl:l.canLay0=I/\PyData.canLayAll0 ds=I
    .rw[b_ hl]at q;cases ai;obtain⟨_,rX⟩:=eV j L 60 x x' u l rx al ex;have an:=(sD 60 x l ex).1;have B:∀(i:SA),aF zs i->(∀w∈i,SeqAt.EqAt X.A.in1 s w u (fq s.heap l w))/\i.any (fq s.heap l)=ds.any λe=>PyData.eqv e l:=λi z=>by
      obtain⟨as,RA⟩:=fK (λv v' u d r1 r2 e=>eV j L 60 v v' u d r1 r2 e) ab z S;refine⟨λw hw=>?_,pV (λu d as r=>ES r) RA⟩;obtain⟨d,ap,hd,P⟩:=p8 RA w hw;rw[ES P];refine SeqAt.eqAt_reads d l X.A.in1 s w u _ _ P rX (nW hl.2 d hd) hl.1 ?_
      have:=hr.un
      lia
     cases neg with
     |false =>
      rcases O with F|F
      .obtain⟨i,z,C,hz⟩:=j.list F;obtain⟨E,M⟩:=B i z;refine SeqAt.in_listAt (fq s.heap l) C.isList (λw hw=>E w (by simpa using hw)) ⟨.bl _,H,j,rfl,?_⟩;rw[show i.toArray.any (fq s.heap l)=i.any (fq s.heap l) by simp,M];exact q U H _ (Le.refl _ _) L (.bl _)
      .obtain⟨i,z,C,hz⟩:=j.tuple F;obtain⟨E,M⟩:=B i z;refine SeqAt.in_tupleAt (fq s.heap l) C (λw hw=>E w (by simpa using hw)) ⟨.bl _,H,j,rfl,?_⟩;rw[show i.toArray.any (fq s.heap l)=i.any (fq s.heap l) by simp,M];exact q U H _ (Le.refl _ _) L (.bl _)
     |true =>
      rcases O with F|F
      .obtain⟨i,z,C,hz⟩:=j.list F;obtain⟨E,M⟩:=B i z;refine SeqAt.notIn_listAt (fq s.heap l) C.isList (λw hw=>E w (by simpa using hw)) ⟨.bl _,H,j,rfl,?_⟩;rw[show i.toArray.any (fq s.heap l)=i.any (fq s.heap l) by simp,M];exact q U H _ (Le.refl _ _) L (.bl _)
      .obtain⟨i,z,C,hz⟩:=j.tuple F;obtain⟨E,M⟩:=B i z;refine SeqAt.notIn_tupleAt (fq s.heap l) C (λw hw=>E w (by simpa using hw)) ⟨.bl _,H,j,rfl,?_⟩;rw[show i.toArray.any (fq s.heap l)=i.any (fq s.heap l) by simp,M];exact q U H _ (Le.refl _ _) L (.bl _)
    .rw[f_ hl]at q;exact q.elim
def u_(xs:SM)(h:MH):SK:=match xs with
 |[x]=>(match bW h x with
  |some ys=>q_ ys h
  |none=>.bad)
 |_=>.bad
def AI(xs:SM)(h:MH):SK:=match xs with
 |[x]=>(match bW h x with
  |some ys=>.ok (.tup ys) h
  |none=>.bad)
 |_=>.bad
def t8:cr X (.type "list") u_:=by
 intro F s Z H xs B Q u r ⟨U,h,O,z,rp,q⟩
 cases rp with
 |nil=>exact q.elim
 |cons E C =>
  cases C with
  |cons _ _=>exact q.elim
  |nil =>
   rename_i x y
   unfold u_ at q
   cases i:bW h x with
   |none=>simp only[i]at q;exact q.elim
   |some ys =>
    simp only[i]at q;obtain⟨a,L,rfl,l,j⟩:=lm z E i;obtain⟨_,M⟩:=lM z j q;exact r9 F s Z H _ B Q u r ⟨a,L,rfl,l,M⟩
def mT:cr X (.type "tuple") AI:=by
 intro M s Z H xs F Q j r ⟨U,h,S,E,rp,q⟩
 cases rp with
 |nil=>exact q.elim
 |cons R P =>
  cases P with
  |cons _ _=>exact q.elim
  |nil =>
   rename_i x y
   unfold AI at q
   cases z:bW h x with
   |none=>simp only[z]at q;exact q.elim
   |some ys =>
    simp only[z]at q;obtain⟨a,B,rfl,C,i⟩:=lm E R z;rcases C with u|u
    .refine j5 M s Z H _ F Q j r ⟨a,B,rfl,.inl ⟨u,λl hl=>?_⟩⟩;obtain⟨O,L⟩:=E.tup hl B;exact q U _ _ L O (.tup (SqT.of bP) (i.le L))
    .exact j5 M s Z H _ F Q j r ⟨a,B,rfl,.inr ⟨u,q U H _ (Le.refl _ _) E (.tup u i)⟩⟩
def eX(xs:SM)(lo i:SG):SM:=(xs.drop (HT.li xs.length 0 lo)).take (HT.li xs.length xs.length i-HT.li xs.length 0 lo)
def GF(x:PV)(lo i:SG)(h:MH):SK:=match x with
 |.tup xs=>if HT.li xs.length 0 lo=0/\HT.li xs.length xs.length i=xs.length then .bad else .ok (.tup (eX xs lo i)) h
 |.frl xs=>.ok (.loc h.length) (h++[.lst (eX xs lo i)])
 |.loc n=>(match h[n]? with
  |some (.lst xs)=>.ok (.loc h.length) (h++[.lst (eX xs lo i)])
  |_=>.bad)
 |_=>.bad
def R5(X:Cx)(f:PV->SG->SG->MH->SK):V->SG->SG->Hp->VK->Prop:=λj lo i H Q=>∃U h x,RH X.K X.mg U H h/\RP X.K U H x j/\iN X (RV' X) U H (f x lo i h) Q
def pr{K:h8}{U:SX}{H:Hp}{xs:SM}{ys:List V}(r:RPs K U H xs ys)(lo i:SG):RPs K U H (eX xs lo i) (ju ys lo i):=by unfold eX ju;rw[r.length];exact(r.drop _).take _
def KD:M2 X (R5 X GF):=by
 intro P s Z H x' v vl F lo i S Q j rx M E L ⟨U,h,x,u,R,q⟩
 cases R with
 |tup O C =>
  unfold GF at q;dsimp only at q
  rename_i xs a ys
  by_cases z:HT.li xs.length 0 lo=0/\HT.li xs.length xs.length i=xs.length
  .rw[b_ z]at q;exact q.elim
  .rw[f_ z]at q;refine FX P s Z H _ v vl F lo i S Q j rx M E L ⟨a,ys,rfl,O,by rw[<-C.length];exact z,λp y=>?_⟩;obtain⟨B,l⟩:=u.tup y (ju ys lo i);exact q U _ _ l B (.tup (SqT.of bP) ((pr C lo i).le l))
 |frl O C =>
  rename_i xs a ys
  refine uC P s Z H _ v vl F lo i S Q j rx M E L ⟨a,ys,rfl,O.sq,λp y=>?_⟩;obtain⟨B,l⟩:=u.new y (o:=.lst (eX xs lo i)) ⟨_,rfl,pr C lo i⟩;exact q _ _ _ l B (.loc (by rw[<-u.len];simp))
 |@loc n a en =>
  obtain⟨o,eo,ro⟩:=u.obj en;unfold GF at q;dsimp only at q;rw[eo]at q
  cases o with
  |lst xs =>
   obtain⟨ys,ey,ry⟩:=ro;refine uC P s Z H _ v vl F lo i S Q j rx M E L ⟨a,ys,rfl,SqL.of ey,λp y=>?_⟩;obtain⟨B,l⟩:=u.new y (o:=.lst (eX xs lo i)) ⟨_,rfl,pr ry lo i⟩;exact q _ _ _ l B (.loc (by rw[<-u.len];simp))
  |_=>exact q.elim
 |_=>exact q.elim
def MO'(X:Cx)(e:Option Expr)(m:Mx (SG)):Prop:=PO X e (tM X Kb m)
def Q9:Mx (SG):=λ_ h=>.ok Y h
def Q_(m:Mx PV):Mx (SG):=λZ h=>(m Z h).bind λv j=>match v with
 |.int i=>.ok (J i) j
 |_=>.bad
def t7:MO' X Y Q9:=λl s Z H Q i ⟨U,u,h,y,j,q⟩=>Cw l s Z H Q i (q U H Y (Le.refl _ _) j rfl)
def u7(h:ME X e m):MO' X (J e) (Q_ m):=λE s Z H Q l ⟨U,j,B,C,F,q⟩=>Cy h E s Z H Q l ⟨U,j,B,C,F,Ful.bind q λM L v R O _ P u z y=>by
 cases z with
 |int i=>exact⟨i,rfl,y M L (J i) (Le.refl _ _) u rfl⟩
 |_=>exact y.elim⟩
def Ra(m:Mx PV)(i l:Mx (SG)):Mx PV:=λZ h=>(m Z h).bind λx u=>(i Z u).bind λlo y=>(l Z y).bind λj z=>(GF x lo j z).ne
def EU{e:Expr}{lo j:Option Expr}{m:Mx PV}{E F:Mx (SG)}{p2:Pos}(S:ME X e m)(hl:MO' X lo E)(hu:MO' X j F):ME X (.Subscript e (.Slice lo j Y p2) pos) (Ra m E F) :=
 PE.imp (Ai KD S hl hu) λZ H Q ⟨U,i,h,u,rh,q⟩=>⟨U,i,h,u,rh,Ful.bind q λU1 H1 x x' P _ C y rx q1=>⟨U1,i,P,u.le C,y,Ful.bind q1 λU2 H2 lo O h2 _ B z el q2=>by
  subst el
  exact⟨U2,i,h2,u.le (C.trans B),z,Ful.bind q2 λM H3 j ab h3 _ l3 l L R=>by
   subst L
   exact⟨M,h3,x,l,(rx.le B).le l3,R.zero⟩⟩⟩⟩
end
section
variable{X:Cx}{N W G:SQ}{k:Nat}
def At{A:Around}{E:Sh}{L:SD}{Z:L2.St}{H:Hp}{s:Shared}{a:Addr}{ys:List V}{Q:Sh}(C:A.handled=Y)(u:Inv X L Z H s)(l:SqL X.K H a ys\/SqT X.K H a ys)(h:∀(f:SA)(z:Heap)(It:Addr)(St:Nat->Heap->Prop),aF ys f->Walks X.prog X.w A It [It,a] [It] f.toArray.size (λi v=>f.toArray[i]?=J v) St->St 0 z->(∀b∈[It,a],b<z.objs.size)->(∀b o,s.heap.get? b=J o->z.get? b=J o)->s.heap.objs.size=It->Q (.ref It) { s with heap:=z}):
  wpAny (model X.prog X.w) A (pyIter (.ref a)) Q E s:=by
 have sz:∀(o:Obj),a<s.heap.objs.size->∀b∈[s.heap.objs.size,a],b<(s.heap.push o).objs.size:=λo j b y=>by
  rw[BF];rcases pu.mp y with rfl|y
  .exact Mz _
  .rcases pu.mp y with rfl|y
   .exact NW j
   .cases y
 rcases l with l|l
 .obtain⟨f,B,F,_⟩:=u.list l;have hl:=F.isList;have j:a<s.heap.objs.size:=by obtain⟨_,e,_⟩:=hl;exact n5 e
  exact wpAny_pyIter_list hl (h f _ _ _ B (Walks.list C _ a (vK j) f.toArray) ⟨⟨_,wh _ rfl,rfl,rfl⟩,hl.push _⟩ (sz _ j) (λb o e=>mx _ e) rfl)
 .obtain⟨f,B,hl,_⟩:=u.tuple l;have j:a<s.heap.objs.size:=by obtain⟨_,e,_⟩:=hl;exact n5 e
  exact wpAny_pyIter_tuple hl (h f _ _ _ B (Walks.tuple C _ a (vK j) f.toArray) ⟨⟨_,wh _ rfl,rfl,rfl⟩,hl.push _⟩ (sz _ j) (λb o e=>mx _ e) rfl)
def KG{s:Shared}{f a:Heap}{It:Addr}(l:∀b o,s.heap.get? b=J o->f.get? b=J o)(e:s.heap.objs.size=It)(j:∀b o,b∉[It]->f.get? b=J o->a.get? b=J o):∀b o,s.heap.get? b=J o->a.get? b=J o:=λb o q=>by
 refine j b o (λi=>?_) (l b o q)
 have:b=It:=by simpa using i
 exact absurd (n5 q) (by rw[this,e];exact A6 _)
def jJ:SM->Option (List Bool)
 |[]=>J []
 |.bl b::r=>(jJ r).map (b::·)
 |_=>Y
def CZ{K:h8}{U:SX}{H:Hp}:∀{xs:SM}{ys:List V}{bs:List Bool}{a:SA},RPs K U H xs ys->aF ys a->jJ xs=J bs->a=bs.map Value.bool:=by
 intro xs
 induction xs with
 |nil=>intro ys bs a r v e;cases r;cases v;cases e;rfl
 |cons x xs f =>
  intro ys bs a r v e
  cases r with
  |cons j y =>
   cases v with
   |cons z i =>
    cases j with
    |bl b =>
     simp only[jJ,vz]at e;obtain⟨u,l,rfl⟩:=e;rw[f y i l,show _=Value.bool b from z];rfl
    |_=>cases e
def tV(bs:List Bool):TruthOf X.prog X.w A (λi v=>(bs.map Value.bool).toArray[i]?=J v) (λi=>bs.getD i T):=λi v s Q E a f=>by
 have:v=.bool (bs.getD i T):=by
  have a:(List.map Value.bool bs).toArray[i]?=J v:=a;rw[QX,qb,vz]at a;obtain⟨b,e,rfl⟩:=a
  simp_all
 subst this;exact wpAny_truthy_bool f
def xo(bs:List Bool):(List.range bs.length).all (λi=>bs.getD i T)=bs.all id:=by
 induction bs with
 |nil=>rfl
 |cons b r a =>
  rw[A0,QU,List.all_cons,List.all_map,List.all_cons,<-a];rfl
def Bb(xs:SM)(h:MH):SK:=match xs with
 |[x]=>(match (bW h x).bind jJ with
  |some bs=>.ok (.bl (bs.all id)) h
  |none=>.bad)
 |_=>.bad
def xz(g:Good X N W G k):cr X (.builtin "all") Bb:=by
 intro KC s Z H xs S Q f r ⟨U,h,ps,C,rp,q⟩
 cases rp with
 |nil=>exact q.elim
 |cons O L =>
  cases L with
  |cons _ _=>exact q.elim
  |nil =>
   rename_i x y
   unfold Bb at q
   cases j:(bW h x).bind jJ with
   |none=>simp only[j]at q;exact q.elim
   |some bs =>
    simp only[j]at q;obtain⟨ys,e1,e2⟩:=Jp.mp j;obtain⟨a,zs,rfl,z,l⟩:=lm C O e1
    cases r with
    |cons E F =>
     cases F;cases E;refine call_all_walk (At g.room.hd f z λi h2 It St M Wk st fp kp u=>?_);have B:=CZ l M e2;refine⟨It,_,_,_,_,St,_,rfl,Wk,st,by rw[B];exact tV bs,λR tk kk=>?_⟩;have P:i.toArray.size=bs.length:=by rw[B];simp
     rw[P,xo];exact⟨.bl _,H,f.kept (KG kp u kk),rfl,q U H _ (Le.refl _ _) C (.bl _)⟩
end
def RH.loose{K:h8}{mg:BN}{U:SX}{H:Hp}{h:MH}(r:RH K mg U H h){p:Addr}(i:H p=Y)(j:HO):RH K mg U (l7 H p j) h/\Le U H U (l7 H p j):=by
 have f:∀n a,U[n]?=J a->a≠p:=λn a e z=>by
  obtain⟨B,_,q⟩:=r.obj e;rw[z,i]at q;exact q.some rfl
 have l:Le U H U (l7 H p j):=⟨⟨[],by simp⟩,λa xs e=>by rw[aS (bB e i)];exact e,λa y u e=>by rw[aS (bB e i)];exact e⟩;exact⟨⟨r.len,r.nd,λn a o e1 e2=>by rw[aS (f n a e1)];exact(r.at' n a o e1 e2).le l⟩,l⟩
section
variable{X:Cx}{N W G:SQ}{k:Nat}
def j9(xs:SM)(i:Int)(v:PV):SM :=
 let k:=if i<0 then(i+(xs.length:Int)).toNat else min i.toNat xs.length
 xs.take k++v::xs.drop k
def lR(n:Nat)(a:SM)(h:MH):SK:=match a with
 |[.int i,v]=>(match h[n]? with
  |some (.lst xs)=>if(-(2^63)<=i/\i<2^63)/\xs.length<sizeLine then .ok .non (h.set n (.lst (j9 xs i v)))else .bad
  |_=>.bad)
 |_=>.bad
def xL:CA X "list.insert" (EQ X lR):=by
 intro KC s Z H x vs v us Q y rx rv ⟨U,h,n,a,ps,e,R,rh,rp,q⟩;subst e;obtain⟨o,eo,ro⟩:=rh.obj R;unfold lR at q
 split at q
 .rename_i i B
  cases rp with
  |cons r1 t1 =>
   cases t1 with
   |cons r2 t2 =>
    cases t2;cases r1;rw[eo]at q
    cases o with
    |lst xs =>
     dsimp only at q;by_cases hl:(-(2^63)<=i/\i<2^63)/\xs.length<sizeLine
     .rw[b_ hl]at q;obtain⟨ys,S,F⟩:=ro;cases rx
      cases rv with
      |cons M O=>cases O with
       |cons L C =>
        cases C
        rename_i v' u1 u2
        obtain⟨t,rfl⟩:=M;obtain⟨z,f,nn,r,j,e⟩:=y.lstM S
        let kk:=if i<0 then(i+(f.length:Int)).toNat else min i.toNat f.length
        have l:RPs X.K U H (j9 xs i B) (ys.take kk++v'::ys.drop kk):=by
         have:(if i<0 then(i+(xs.length:Int)).toNat else min i.toNat xs.length)=kk:=by rw[F.length,j]
         unfold j9;rw[this];exact(F.take kk).append (.cons r2 (F.drop kk))
        obtain⟨E,l'⟩:=rh.put R (o:=.lst (j9 xs i B)) ⟨_,rfl,l⟩;refine call_meets PySem.F.slot_list_insert ⟨_,e,rfl⟩ PySem.F.entry_list_insert (PySem.F.args_list_insert_3 _ _ _) (AutoListH.list_insert_list_int_val_1 a f.toArray nn i t u2 (by rw[fitsIndex_both hl.1.1 hl.1.2];simp) (by rw[q7];ext)) ⟨e,?_⟩;have u:=(r.take kk).append (.cons L (r.drop kk));have P:(ys.take kk++v'::ys.drop kk).length<=sizeLine:=by
         rw[<-l.length];have e1:(j9 xs i B).length=xs.length+1:=by unfold j9;simp only[Br,A0,Jz,My];ext
         ext
        refine⟨.non,_,y.lset (its':=f.take kk++u2::f.drop kk) S e ?_ u P,rfl,q U _ .non l' E .non⟩;simp[kk,List.extract];refine Ey ?_;rw[My];exact jj _
     .rw[f_ hl]at q;exact q.elim
    |_=>exact q.elim
 .exact q.elim
def C0(g:Good X N W G k){a:Expr}{m:Mx PV}{f y:String}{c l:Str}{i j j':Nat}{p q z P pt:Pos}{kt}(hi:G[i]?=J "isinstance")(hm:X.mg "isinstance"=Y)(hj:G[j]?=J c)(hc:X.mg c=Y)(hv:bootBuiltins c=J (.type f))(hT:CO f)(L:G[j']?=J l)(ab:X.mg l=Y)(an:bootBuiltins l=J (.type y))(a3:CO y)(ha:ME X a m)(he:starEach [a,.Tuple [.Name c q,.Name l z] kt pt] X.env=(T,eval a X.env)::starEach [.Tuple [.Name c q,.Name l z] kt pt] X.env:=by rfl)(ax:starEach [.Tuple [.Name c q,.Name l z] kt pt] X.env=[(T,eval (.Tuple [.Name c q,.Name l z] kt pt) X.env)]:=by rfl)(ay:(backTo P (starEach [.Tuple [.Name c q,.Name l z] kt pt] X.env)).any (·.1)=T:=by rfl)(as:starEach [.Name c q,.Name l z] X.env=(T,eval (.Name c q) X.env)::starEach [.Name l z] X.env:=by rfl)(ai:starEach [.Name l z] X.env=[(T,eval (.Name l z) X.env)]:=by rfl):
  ME X (.Call (.Name "isinstance" p) [a,.Tuple [.Name c q,.Name l z] kt pt] [] P) (Kc (lg [f,y]) m):=by
 have d1:=g.dbg _ (se _ (aN hi));have d:=g.dbg c (se _ (aN hj));have d':=g.dbg l (se _ (aN L));have C:cw X (.builtin "isinstance") (λxs H Q=>∃F M,xs=[F,.ref M]/\SqT X.K H M [.ty f,.ty y]/\uJ X (lg [f,y]) F H Q):=by
  intro KC s Z H xs us Q B r ⟨F,M,e,a5,U,h,x,R,rx,q⟩;subst e
  cases r with
  |cons r1 t1=>cases t1 with
   |cons r2 t2 =>
    cases t2;cases r2;obtain⟨ar,rv,ht,_⟩:=B.tuple a5;have ei:ar=[.type f,.type y]:=by
     cases rv with
     |cons v1 w1=>cases w1 with
      |cons v2 w2 =>
       cases w2;rw[show _=Value.type f from v1,show _=Value.type y from v2]
    subst ei;obtain⟨⟨oc,od,a6,a7⟩,ho,al,nn,a1⟩:=ht;subst al;subst a1;unfold lg at q
    cases et:CN h x with
    |none=>rw[et]at q;exact q.elim
    |some t =>
     rw[et]at q;obtain⟨E,S,Hq,Za,hz⟩:=uS B R rx r1 et;have O:PySem.W.kitAny X.K (.type t) [.type f,.type y]=J (cA t f||cA t y):=by
      unfold PySem.W.kitAny;rw[hT X.K t E]
      cases cA t f with
      |true=>rfl
      |false =>
       unfold PySem.W.kitAny;rw[a3 X.K t E];cases cA t y<;>rfl
     exact PySem.W.kia_tup Za B.kIn hz ho O S λtk=>⟨.bl _,H,B.tok _,rfl,by
      have z:=q U H _ (Le.refl _ _) R (.bl _)
      simpa using z⟩
 refine PE.imp (mD C (g.gl _ (aN hi)) hm PyProof.Rows.Boot.«isinstance» (eA ha (eA (yC (eA (oJ (v:=.ty f) (u:=.type f) (g.gl c (aN hj)) hc hv rfl d.2.2 d.1) (eA (oJ (v:=.ty y) (u:=.type y) (g.gl l (aN L)) ab an rfl d'.2.2 d'.1) ku ai) as)) ku ax) he) d1.2.2 d1.1 he ay) λZ H Q ⟨U,a2,h,rs,R,q⟩=>?_;refine⟨U,a2,h,rs,R,Ful.bind q λU1 H1 x F h1 _ l1 ap rx q1=>?_⟩;refine⟨by show 2<=sizeLine;decide,λM a4=>?_⟩;obtain⟨a0,l2⟩:=ap.tup a4 [.ty f,.ty y];exact⟨F,M,rfl,SqT.of bP,U1,h1,x,a0,rx.le l2,(Ful.le l2 q1).zero⟩
def KH(f:TA):TE:=λZ H Q=>f Z H λi a=>∃j:Int,i=[.int j] /\ -(2^62)<=j/\j<2^62/\∀p,a p=Y->Q (.ref p) (l7 a p (.rng 0 j))
def yS(E:Gl X "range")(z:X.mg "range"=Y)(C:PA X [a] ta)(B:starEach [a] X.env=[(T,eval a X.env)]:=by rfl):PE X (.Call (.Name "range" p) [a] [] pos) (KH ta):=by
 intro L s Z H R f h;refine Call_ (gK f E z boot_range (PyProof.Rows.callWith_type1 (j3 (C pos L s Z H _ f h) λM F ⟨O,Q,i,y,l⟩=>?_) B rfl));obtain⟨j,e,l,P,q⟩:=l;subst e
 cases y with
 |cons r u =>
  cases u;obtain⟨t,rfl⟩:=r;refine call_range_1 ⟨.ref F.heap.objs.size,_,i.laid (λb o e=>mx _ e) (jj _) ?_,rfl,q _ (i.hok.fresh (jj _))⟩;exact⟨_,_,_,wh _ rfl⟩
def nA:∀(n:Nat)(lo:Int)(a:SA),a.length=n->(∀(i:Nat)(v:Value),a[i]?=J v->∃t,v=.int (lo+i) t)->aF ((List.range n).map λi=>V.int (lo+(i:Nat))) a
 |0,lo,a,hl,_=>by cases a with|nil=>exact .nil|cons _ _=>simp at hl
 |n+1,lo,a,hl,h=>by
  cases a with
  |nil=>simp at hl
  |cons u a =>
   rw[QU,n8,vM];obtain⟨t,e⟩:=h 0 u rfl;refine .cons ⟨t,e⟩ ?_;have f:=nA n (lo+1) a (by simpa using hl) λi v hv=>by
    obtain⟨t,e⟩:=h (i+1) v (by simpa using hv);exact⟨t,by rw[e];congr 1;push_cast;ext⟩
   have e2:((λi=>V.int (lo+((i:Nat):Int)))∘Nat.succ)=λi=>V.int (lo+1+((i:Nat):Int)):=by funext i;simp only[Function.comp];congr 1;push_cast;ext
   rw[e2];exact f
def qG(R:X.calm=I):cw X (.type "list") (λxs H Q=>∃r j,xs=[.ref r]/\H r=J (.rng 0 j) /\ -(2^62)<=j/\j<2^62/\j.toNat<=sizeLine/\∀l,H l=Y->Q (.ref l) (l7 H l (.lst ((List.range j.toNat).map λi=>V.int (0+(i:Nat)))))):=by
 intro KC s Z H xs us Q a r ⟨B,j,e,L,E,S,z,q⟩;subst e
 cases r with
 |cons P O =>
  cases O;cases P;obtain⟨t,u,v,C⟩:=(a.hok B _ L);refine call_list_range (a.ok.hd R) C (small_one (by ext) (by ext) E S) (by rw[rangeSize_one];split<;>ext) z λU tk f F kp e y=>?_;have M:=nA _ 0 _ (by exact y.1) λi v hv=>by
   obtain⟨t,e⟩:=y.2 i v (by rw[<-BD];exact hv)
   grind
  refine⟨.ref s.heap.objs.size,_,a.laid (o:=.lst _) kp (jj _) (⟨by simpa using z,f.toList,F,M,by simpa using e⟩),rfl,q _ (a.hok.fresh (jj _))⟩
def R6(m:Mx (SM)):Mx PV:=λZ h=>(m Z h).bind λf a=>match f with
 |[.int j]=>if -(2^62)<=j/\j<2^62/\j.toNat<=sizeLine then .ok (.loc a.length) (a++[.lst (bo 0 j.toNat)])else .bad
 |_=>.bad
def qe{K:h8}{U:SX}{H:Hp}{lo:Int}:∀(l:SV),RPs K U H (l.map λ(i:Nat)=>PV.int (lo+(i:Int))) (l.map λ(i:Nat)=>V.int (lo+(i:Int)))
 |[]=>.nil
 |i::l=>.cons (.int _) (qe l)
def Ab(g:Good X N W G k){a:Expr}{m:Mx (SM)}{i j:Nat}{p O F f:Pos}(P:G[i]?=J "list")(hm:X.mg "list"=Y)(hj:G[j]?=J "range")(L:X.mg "range"=Y)(ha:MA X [a] m)(hs:starEach [a] X.env=[(T,eval a X.env)]:=by rfl)(R:starEach [.Call (.Name "range" O) [a] [] f] X.env=[(T,eval (.Call (.Name "range" O) [a] [] f) X.env)]:=by rfl):ME X (.Call (.Name "list" p) [.Call (.Name "range" O) [a] [] f] [] F) (R6 m):=by
 have d:=g.dbg _ (se _ (aN P));refine PE.imp (pE (qG g.calm) (g.gl _ (aN P)) hm PyProof.Rows.Boot.«list» (eA (yS (g.gl _ (aN hj)) L ha hs) ku R) d.2.2 d.1 R rfl) λZ H Q ⟨U,E,h,rs,rh,q⟩=>?_;refine⟨U,E,h,rs,rh,Ful.bind q λU1 H1 x x' h1 _ l1 B rx u=>?_⟩
 cases rx with
 |nil=>exact u.elim
 |cons S t1 =>
  cases t1 with
  |cons _ _=>cases S<;>exact u.elim
  |nil =>
   cases S with
   |int y =>
    dsimp only at u;by_cases z:-(2^62)<=y/\y<2^62/\y.toNat<=sizeLine
    .rw[b_ z]at u;refine⟨y,rfl,z.1,z.2.1,λr hr=>?_⟩;obtain⟨M,l2⟩:=B.loose hr (.rng 0 y);refine⟨r,y,rfl,bP,z.1,z.2.1,z.2.2,λl hl=>?_⟩;obtain⟨C,l3⟩:=M.new hl (o:=.lst (bo 0 y.toNat)) ⟨_,rfl,qe _⟩;exact u _ _ _ (l2.trans l3) C (.loc (by rw[<-B.len];simp))
    .rw[f_ z]at u;exact u.elim
   |_=>exact u.elim
end
end MM
namespace SetT
open PySem.SetTable
def base(M:Nat)(h:Int):Nat->Nat×Nat
 |0=>(bits h % (M+1),bits h)
 |b+1=>leap M (base M h b).1 (base M h b).2
section
variable{prog:Program}{w:World}{A:Around}{E:Sh}{s:Shared}
abbrev TK(prog:Program)(w:World)(h:Heap)(k:SS)(a:Addr):Prop:=IsTupleKey (intKind prog w) h k a
end
end SetT
namespace SetT
open PySem.SetTable PyProof.Rows
section
variable{prog:Program}{w:World}{A:Around}{E:Sh}{s:Shared}
def Ext(a h:Heap):Prop:=∀b o,a.get? b=J o->h.get? b=J o
def yz(x:Ext H0 h)(t:TK prog w H0 k a):TK prog w h k a:=by obtain⟨o,items,n,f,r⟩:=t;exact⟨o,items,n,x a o f,r⟩
def C1(prog:Program)(w:World)(j:Heap)(items:Array Value)(f:SU):Prop :=
 items.size=f.length/\∀(i:Nat)(v:Value)(k:SS),items[i]?=J v->f[i]?=J k->∃a,v=.ref a/\TK prog w j k a
end
section
variable{prog:Program}{w:World}{A:Around}{E:Sh}{s:Shared}{S it:Addr}{o:Obj}{es:Array (Int × Value)}{ep:Nat}{t:SetTable}{ks:SU}
end
section
variable{prog:Program}{w:World}{A:Around}{E:Sh}{s:Shared}{S:Addr}{o:Obj}{es:Array (Int × Value)}{ep:Nat}{t:SetTable}
end
end SetT
namespace SortT
open PyProof.Rows
structure vu(prog:Program)(w:World)(A:Around)(E:Sh)(s:Shared)(kd:SortKind)(O:KeyOrd) where
 key:Keyed->O.α
 dflt:O.α
 good:Keyed->Prop
 ask:∀(x y:Keyed)(st:SortSt)(Q:Option Bool->SortSt->Prop),good x->good y->kindOf st=kd->Q (J (O.blt (key x) (key y))) st->wpS (model prog w) A E s (lt' x y) Q st
section
variable{prog:Program}{w:World}{A:Around}{E:Sh}{s:Shared}{kd:SortKind}{O:KeyOrd}(C:vu prog w A E s kd O)
def kk(xs:Array Keyed)(i:Nat):O.α:=match xs[i]? with
 |some p=>C.key p
 |none=>C.dflt
def tf(xs:Array Keyed)(lo a:Nat):Prop:=∀i j,lo<=i->i<=j->j<a->O.kle (kk C xs i) (kk C xs j)
def Jb(xs:Array Keyed)(lo a:Nat):Prop:=∀i j,lo<=i->i<=j->j<a->O.kle (kk C xs j) (kk C xs i)
def cy(xs:Array Keyed):Prop:=∀p,p∈xs.toList->C.good p
structure SB(kd:SortKind)(a₀:Array Keyed)(st:SortSt):Prop where
 perm:(arrOf st).Perm a₀
 kind:kindOf st=kd
 failed:failedOf st=Y
def cB(lo:Nat)(xs ys:Array Keyed):Prop:=∀i,i<lo->ys[i]?=xs[i]?
def cB.rfl'{lo:Nat}{xs:Array Keyed}:cB lo xs xs:=λ_ _=>rfl
def cB.trans{lo:Nat}{xs ys f:Array Keyed}(h:cB lo xs ys)(g:cB lo ys f):cB lo xs f:=λi a=>(g i a).trans (h i a)
variable{C}{a₀:Array Keyed}{st:SortSt}
def SB.size(h:SB kd a₀ st):(arrOf st).size=a₀.size:=h.perm.size_eq
def SB.arr(h:SB kd a₀ st)(a:xs.Perm (arrOf st)):SB kd a₀ (setArr st xs):=⟨a.trans h.perm,h.kind,h.failed⟩
def SB.good(h:SB kd a₀ st)(a:cy C a₀):cy C (arrOf st):=λp f=>a p ((NK.mp h.perm).mem_iff.mp f)
def dX(h:xs[i]?=ys[j]?):kk C xs i=kk C ys j:=by unfold kk;rw[h]
def aO(h:xs[i]?=J p):kk C xs i=C.key p:=by unfold kk;rw[h]
def bq{xs:Array Keyed}(g:cy C xs){i:Nat}{p:Keyed}(h:xs[i]?=J p):C.good p:=by refine g p (AT.mpr ⟨i,?_⟩);rw[BD];exact h
def aP(a:i<xs.size)(h:∀p,xs[i]?=J p->Q p st):wpS (model prog w) A E s (elem' xs i) Q st:=by rw[elem'_eq];have e:=getElem?_pos xs i a;rw[e];exact wpS_pure (h _ e)
def kj{i j:Nat}{Q:Option Bool->SortSt->Prop}(a:SB kd a₀ st)(l:cy C a₀)(z:i<a₀.size)(B:j<a₀.size)(h:Q (J (O.blt (kk C (arrOf st) i) (kk C (arrOf st) j))) st):wpS (model prog w) A E s (ltAt' i j) Q st:=by
 refine wpS_bind (wpS_get ?_);refine wpS_bind (aP (by rw[a.size];exact z) λx u=>wpS_bind (aP (by rw[a.size];exact B) λy f=>?_));rw[aO u,aO f]at h;exact C.ask x y st Q (bq (a.good l) u) (bq (a.good l) f) a.kind h
def pG(j:src<xs.size)(hd:d<=src)(i:Nat):
  kk C (bubble xs src d) i=if i=src-d then kk C xs src else if src-d<i/\i<=src then kk C xs (i-1)else kk C xs i:=by
 have e:=getElem?_bubble j d hd i;split
 .next a=>rw[b_ a]at e;exact dX e
 .next a =>
  rw[f_ a]at e;split
  .next f=>rw[b_ f]at e;exact dX e
  .next f=>rw[f_ f]at e;exact dX e
def kL(f:j<=xs.size)(q:Nat):
  kk C (mirror xs i j ((j-i)/2)) q=if i<=q/\q<j then kk C xs (i+j-1-q)else kk C xs q:=by
 have e:=getElem?_mirror_all (i:=i) f q;split
 .next a=>rw[b_ a]at e;exact dX e
 .next a=>rw[f_ a]at e;exact dX e
def c8(f:j<=xs.size)(a:∀q,i<=q->q<j->kk C xs q=kk C xs (j-1))(q:Nat):
  kk C (mirror xs i j ((j-i)/2)) q=kk C xs q:=by
 rw[kL f];split
 .next h=>rw[a (i+j-1-q) ⋯ ⋯,a q h.1 h.2]
 .rfl
def fF{xs:Array Keyed}{lo i j:Nat}(a:j<=xs.size)(h:lo<=i):cB lo xs (mirror xs i j ((j-i)/2)):=λq f=>by
 rw[getElem?_mirror_all a,f_ ⋯]
def tU{xs:Array Keyed}{lo a d:Nat}(f:a<xs.size)(hd:d<=a)(h:lo<=a-d):cB lo xs (bubble xs a d):=λq i=>by
 rw[getElem?_bubble f d hd,f_ ⋯,f_ ⋯]
abbrev AS:=Option (Option Nat)×Nat
abbrev DS:=Option (Option Nat)×Nat×Nat
def kZ(p a f:Nat):StateT SortSt Sem AS :=
 forIn [a:f] ((Y,a):AS) λ_ c=>do
  let q <-ltAt' (p+c.2) (p+c.2-1)
  match q with
  |some z=>if z=I then pure (ForInStep.done (Y,c.2))else pure (ForInStep.yield (Y,c.2+1))
  |_=>pure (ForInStep.done (J Y,c.2))
def GG(p n a:Nat):StateT SortSt Sem (Option Nat):=do
 reverseSlice' p (p+n)
 let c <-kZ p n a
 match c.1 with
 |some r=>pure r
 |none=>pure (J c.2)
def C2(p n a:Nat):StateT SortSt Sem DS :=
 forIn [n:a] ((Y,n,0):DS) λ_ c=>do
  let q <-ltAt' (p+c.2.1) (p+c.2.1-1)
  match q with
  |some z =>
   if z=I then
    if c.2.2>0 then do
     reverseSlice' (p+c.2.1-(c.2.2+1)) (p+c.2.1)
     pure (ForInStep.yield (Y,c.2.1+1,0))
    else pure (ForInStep.yield (Y,c.2.1+1,0))
   else do
    let q <-ltAt' (p+c.2.1-1) (p+c.2.1)
    match q with
    |some z=>if z=I then pure (ForInStep.done (Y,c.2.1,c.2.2))else pure (ForInStep.yield (Y,c.2.1+1,c.2.2+1))
    |_=>pure (ForInStep.done (J Y,c.2.1,c.2.2))
  |_=>pure (ForInStep.done (J Y,c.2.1,c.2.2))
def GH(p n a:Nat):StateT SortSt Sem (Option Nat):=do
 liftM (rule "list.sort.descending-run")
 let c <-C2 p (n+1) a
 match c.1 with
 |some r=>pure r
 |none =>
  if c.2.2>0 then do
   reverseSlice' (p+c.2.1-(c.2.2+1)) (p+c.2.1)
   GG p c.2.1 a
  else GG p c.2.1 a
def GJ(p a:Nat):countRun' p a=(do
  let c <-kZ p 1 a
  match c.1 with
  |some r=>pure r
  |none =>
   if(c.2==a)=I then pure (J c.2)
   else if c.2>1 then do
    let q <-ltAt' p (p+c.2-1)
    match q with
    |some z=>if z=I then pure (J c.2)else do
      reverseSlice' p (p+c.2)
      GH p c.2 a
    |_=>pure Y
   else GH p c.2 a):=by
 refine congrArg (λg=>kZ p 1 a >>= g) (funext λc=>?_);obtain⟨r,n⟩:=c
 cases r with
 |some r=>rfl
 |none =>
  dsimp only;split
  .rfl
  .split
   .congr 1;funext x
    cases x with
    |none=>rfl
    |some z =>
     dsimp only;split
     .rfl
     .refine congrArg _ (funext λ_=>?_);refine congrArg _ (funext λ_=>?_);refine congrArg (λg=>C2 p (n+1) a >>= g) (funext λu=>?_);obtain⟨l,j,B⟩:=u
      cases l with
      |some l=>rfl
      |none =>
       dsimp only;split
       .refine congrArg _ (funext λ_=>?_);refine congrArg _ (funext λ_=>?_);refine congrArg (λg=>kZ p j a >>= g) (funext λi=>?_);obtain⟨f,y⟩:=i;cases f<;>rfl
       .refine congrArg _ (funext λ_=>?_);refine congrArg (λg=>kZ p j a >>= g) (funext λi=>?_);obtain⟨f,y⟩:=i;cases f<;>rfl
   .refine congrArg _ (funext λ_=>?_);refine congrArg (λg=>C2 p (n+1) a >>= g) (funext λu=>?_);obtain⟨l,j,B⟩:=u
    cases l with
    |some l=>rfl
    |none =>
     dsimp only;split
     .refine congrArg _ (funext λ_=>?_);refine congrArg _ (funext λ_=>?_);refine congrArg (λg=>kZ p j a >>= g) (funext λi=>?_);obtain⟨f,y⟩:=i;cases f<;>rfl
     .refine congrArg _ (funext λ_=>?_);refine congrArg (λg=>kZ p j a >>= g) (funext λi=>?_);obtain⟨f,y⟩:=i;cases f<;>rfl
def uy(P:cy C a₀)(S:p+nrem<=a₀.size)(U:1<=a)(L:a<=nrem)(G:SB kd a₀ st)(M:tf C (arrOf st) p (p+a))(h:∀n,a<=n->n<=nrem->tf C (arrOf st) p (p+n)->(n=nrem\/O.klt (kk C (arrOf st) (p+n)) (kk C (arrOf st) (p+n-1)))->Q (Y,n) st):
  wpS (model prog w) A E s (kZ p a nrem) Q st:=by
 refine wpS_forRange (I:=λx c f=>f=st/\c=(Y,x)/\tf C (arrOf st) p (p+x)) ?_ ?_ ⟨rfl,rfl,M⟩
 .rintro x c f H W ⟨rfl,rfl,u⟩;refine wpS_bind (kj G P ⋯ ⋯ ?_)
  cases F:O.blt (kk C (arrOf f) (p+x)) (kk C (arrOf f) (p+x-1)) with
  |true=>exact wpS_pure (h x H ⋯ u (.inr F))
  |false =>
   refine wpS_pure ⟨rfl,rfl,λi j B l R=>?_⟩;by_cases y:j<p+x
   .exact u i j B l y
   .have e:j=p+x:=by lia
    subst e;by_cases z:i=p+x
    .subst z;exact KeyOrd.kle_refl _
    .exact KeyOrd.kle_trans (u i (p+x-1) B ⋯ ⋯) F
 .simp_all
def lV(h:Q () (setArr st (mirror (arrOf st) i j ((j-i)/2)))):wpS (model prog w) A E s (reverseSlice' i j) Q st:=by exact wpS_modify h
def vc(L:cy C a₀)(F:p+nrem<=a₀.size)(B:1<=n)(u:n<=nrem)(y:SB kd a₀ st)(G:Jb C (arrOf st) p (p+n))(h:∀m a,SB kd a₀ a->cB p (arrOf st) (arrOf a)->pendingOf a=pendingOf st->1<=m->m<=nrem->tf C (arrOf a) p (p+m)->Q (J m) a):
  wpS (model prog w) A E s (GG p n nrem) Q st:=by
 have f:p+n<=(arrOf st).size:=by rw[y.size];lia
 refine wpS_bind (lV ?_);have l:=y.arr (mirror_perm (arrOf st) p (p+n) ((p+n-p)/2));refine wpS_bind (uy L F B u l (λi j P z R=>?_) λm S H M _=>wpS_pure (h m _ l (fF f (jj _)) rfl ⋯ H M));rw[kL f,kL f,b_ ⋯,b_ ⋯];exact G _ _ ⋯ ⋯ ⋯
def C3{p n l:Nat}{Q:DS->SortSt->Prop}(h0:cy C a₀)(hn:p+l<=a₀.size)(h1:1<=n)(W:n<=l)(hB:SB kd a₀ st)(hs:Jb C (arrOf st) p (p+n))(h:∀m q f,SB kd a₀ f->cB p (arrOf st) (arrOf f)->pendingOf f=pendingOf st->n<=m->m<=l->Jb C (arrOf f) p (p+m)->q+1<=m ->
   (∀i,p+m-(q+1)<=i->i<p+m->kk C (arrOf f) i=kk C (arrOf f) (p+m-1))->Q (Y,m,q) f):
  wpS (model prog w) A E s (C2 p n l) Q st:=by
 refine wpS_forRange (I:=λx c f=>∃q,c=(Y,x,q)/\SB kd a₀ f/\cB p (arrOf st) (arrOf f)/\pendingOf f=pendingOf st/\Jb C (arrOf f) p (p+x)/\q+1<=x /\
   ∀i,p+x-(q+1)<=i->i<p+x->kk C (arrOf f) i=kk C (arrOf f) (p+x-1)) ?_ ?_ ⟨0,rfl,hB,cB.rfl',rfl,hs,⋯,λi a b=>by congr 1;lia⟩
 .rintro x c f S al ⟨q,rfl,u,y,z,hf,M,F⟩;have L:p+x<=(arrOf f).size:=by rw[u.size];lia
  have B:∀xs:Array Keyed,(∀i,kk C xs i=kk C (arrOf f) i)->O.kle (kk C (arrOf f) (p+x)) (kk C (arrOf f) (p+x-1))->Jb C xs p (p+(x+1)):=by
   intro xs hk ai i j hi P hj;rw[hk,hk];by_cases U:j<p+x
   .exact hf i j hi P U
   .have e:j=p+x:=by lia
    subst e;by_cases Z:i=p+x
    .subst Z;exact KeyOrd.kle_refl _
    .exact KeyOrd.kle_trans ai (hf i (p+x-1) hi ⋯ ⋯)
  dsimp only;refine wpS_bind (kj u h0 ⋯ ⋯ ?_)
  cases X:O.blt (kk C (arrOf f) (p+x)) (kk C (arrOf f) (p+x-1)) with
  |true =>
   dsimp only;rw[b_ rfl];by_cases G:q>0
   .rw[b_ G];refine wpS_bind (lV (wpS_pure ⟨0,rfl,u.arr (mirror_perm _ _ _ _),y.trans (fF L ⋯),z,B _ (c8 L F) (KeyOrd.kle_of_klt X),⋯,λi a b=>by congr 1;lia⟩))
   .rw[f_ G];exact wpS_pure ⟨0,rfl,u,y,z,B _ (λ_=>rfl) (KeyOrd.kle_of_klt X),⋯,λi a b=>by congr 1;lia⟩
  |false =>
   dsimp only;rw[f_ (by simp)];refine wpS_bind (kj u h0 ⋯ ⋯ ?_)
   cases H:O.blt (kk C (arrOf f) (p+x-1)) (kk C (arrOf f) (p+x)) with
   |true =>
    dsimp only;rw[b_ rfl];exact wpS_pure (h x q f u y z S ⋯ hf M F)
   |false =>
    dsimp only;rw[f_ (by simp)];have R:kk C (arrOf f) (p+x)=kk C (arrOf f) (p+x-1):=KeyOrd.kle_antisymm H X;refine wpS_pure ⟨q+1,rfl,u,y,z,B _ (λ_=>rfl) H,⋯,λi a b=>?_⟩;have e1:p+(x+1)-1=p+x:=by lia
    rw[e1];by_cases ab:i=p+x
    .subst ab;rfl
    .rw[R];exact F i ⋯ ⋯
 .rintro c f ⟨q,rfl,u,y,z,hf,M,F⟩;have e:max n l=l:=by lia
  rw[e]at hf M F ⊢;exact h l q f u y z W (jj _) hf M F
def sj{p n f:Nat}{Q:Option Nat->SortSt->Prop}(W:cy C a₀)(U:p+f<=a₀.size)(S:n+1<=f)(hB:SB kd a₀ st)(hs:Jb C (arrOf st) p (p+(n+1)))(h:∀m a,SB kd a₀ a->cB p (arrOf st) (arrOf a)->pendingOf a=pendingOf st->1<=m->m<=f->tf C (arrOf a) p (p+m)->Q (J m) a):
  wpS (model prog w) A E s (GH p n f) Q st:=by
 refine wpS_bind (wpS_lift (wpAny_rule ⟨rfl,?_⟩));refine wpS_bind (C3 W U ⋯ S hB hs λm q a y F G ab B hf hq X=>?_);dsimp only;have u:p+m<=(arrOf a).size:=by rw[y.size];lia
 by_cases z:q>0
 .rw[b_ z];refine wpS_bind (lV (vc W U ⋯ B (y.arr (mirror_perm _ _ _ _)) ?_ λL l R M P=>h L l R ((F.trans (fF u ⋯)).trans M) (P.trans G)));intro i j Z H hj;rw[c8 u X,c8 u X];exact hf i j Z H hj
 .rw[f_ z];exact vc W U ⋯ B y hf λL l R M P=>h L l R (F.trans M) (P.trans G)
def ug(P:cy C a₀)(W:p+nrem<=a₀.size)(h1:1<=nrem)(u:SB kd a₀ st)(h:∀m f,SB kd a₀ f->cB p (arrOf st) (arrOf f)->pendingOf f=pendingOf st->1<=m->m<=nrem->tf C (arrOf f) p (p+m)->Q (J m) f):
  wpS (model prog w) A E s (countRun' p nrem) Q st:=by
 rw[GJ];refine wpS_bind (uy P W (jj 1) h1 u (λi j L F Z=>by have e:i=j:=⋯;subst e;exact KeyOrd.kle_refl _) λn a1 a2 l X=>?_);by_cases y:n=nrem
 .rw[b_ (by simpa using y)];exact wpS_pure (h n st u cB.rfl' rfl a1 a2 l)
 .rw[f_ (by simpa using y)];have G:=X.resolve_left y;by_cases H:n>1
  .rw[b_ H];refine wpS_bind (kj u P ⋯ ⋯ ?_)
   cases hz:O.blt (kk C (arrOf st) p) (kk C (arrOf st) (p+n-1)) with
   |true =>
    dsimp only;exact wpS_pure (h n st u cB.rfl' rfl a1 a2 l)
   |false =>
    dsimp only;have z:p+n<=(arrOf st).size:=by rw[u.size];lia
    have a:∀q,p<=q->q<p+n->kk C (arrOf st) q=kk C (arrOf st) (p+n-1):=λq M S =>
     KeyOrd.kle_antisymm (l q (p+n-1) M ⋯ ⋯) (KeyOrd.kle_trans hz (l p q (jj _) M S))
    refine wpS_bind (lV (sj P W ⋯ (u.arr (mirror_perm _ _ _ _)) ?_ λm2 R M S b3=>h m2 R M ((fF z (jj _)).trans S) b3));intro i j L F Z;rw[c8 z a,c8 z a];by_cases U:j<p+n
    .rw[a i L ⋯,a j ⋯ U];exact KeyOrd.kle_refl _
    .have e:j=p+n:=by lia
     subst e;by_cases B:i=p+n
     .subst B;exact KeyOrd.kle_refl _
     .rw[a i L ⋯];exact KeyOrd.kle_of_klt G
  .rw[f_ H];have e:n=1:=by lia
   subst e;refine sj P W ⋯ u ?_ h;intro i j L F Z;by_cases B:i=j
   .subst B;exact KeyOrd.kle_refl _
   .have e1:i=p:=by lia
    have e2:j=p+1:=by lia
    subst e1;subst e2;exact KeyOrd.kle_of_klt G
end
section
variable{prog:Program}{w:World}{A:Around}{E:Sh}{s:Shared}{kd:SortKind}{O:KeyOrd}{C:vu prog w A E s kd O}{a₀:Array Keyed}{st:SortSt}
def uX(h0:cy C a₀)(hn:p+n<=a₀.size)(hok:ok<=n)(X:SB kd a₀ st)(hs:tf C (arrOf st) p (p+ok))(h:∀f,SB kd a₀ f->cB p (arrOf st) (arrOf f)->pendingOf f=pendingOf st->tf C (arrOf f) p (p+n)->Q I f):wpS (model prog w) A E s (binarySort' p n ok) Q st:=by
 rw[binarySort'_eq]
 refine wpS_bind (wpS_mono (wpS_forRange (I:=λk c f=>c=(Y,())/\SB kd a₀ f/\cB p (arrOf st) (arrOf f)/\pendingOf f=pendingOf st/\tf C (arrOf f) p (p+min k n))
  (Q:=λc f=>c=(Y,())/\SB kd a₀ f/\cB p (arrOf st) (arrOf f)/\pendingOf f=pendingOf st/\tf C (arrOf f) p (p+n)) ?_ ?_ ?_) ?_)
 .rintro k c f ab ai ⟨rfl,z,G,H,y⟩;have Z:min k n=k:=by lia
  rw[Z]at y
  refine wpS_bind (wpS_mono (wpS_forRange (I:=λx c u=>u=f/\∃l r,c=(Y,l,r)/\l<=r/\r<=k/\r-l<=k-x /\
    (∀i,p<=i->i<p+l->O.kle (kk C (arrOf f) i) (kk C (arrOf f) (p+k)))/\∀i,p+r<=i->i<p+k->O.klt (kk C (arrOf f) (p+k)) (kk C (arrOf f) i))
   (Q:=λc u=>u=f/\∃l r,c=(Y,l,r)/\l<=k /\
    (∀i,p<=i->i<p+l->O.kle (kk C (arrOf f) i) (kk C (arrOf f) (p+k)))/\∀i,p+l<=i->i<p+k->O.klt (kk C (arrOf f) (p+k)) (kk C (arrOf f) i)) ?_ ?_ ?_) ?_)
  .rintro x c u _ hx ⟨rfl,l,r,rfl,S,L,hm,B,F⟩;by_cases R:l>=r
   .rw[b_ R];have e:l=r:=by lia
    subst e;exact wpS_pure ⟨rfl,l,l,rfl,L,B,F⟩
   .rw[f_ R];refine wpS_bind (kj z h0 ⋯ ⋯ ?_)
    cases W:O.blt (kk C (arrOf u) (p+k)) (kk C (arrOf u) (p+(l+r)/2)) with
    |true =>
     simp only[if_true];exact wpS_pure ⟨rfl,l,(l+r)/2,rfl,⋯,⋯,⋯,B,λi a b=>KeyOrd.klt_of_klt_of_kle W (y _ _ ⋯ a b)⟩
    |false =>
     simp only[qi,if_false];exact wpS_pure ⟨rfl,(l+r)/2+1,r,rfl,⋯,⋯,⋯,λi a b=>KeyOrd.kle_trans (y i (p+(l+r)/2) a ⋯ ⋯) W,F⟩
  .rintro c u ⟨rfl,l,r,rfl,S,L,hm,B,F⟩;have e:l=r:=by lia
   subst e;exact⟨rfl,l,l,rfl,L,B,F⟩
  .exact⟨rfl,0,k,rfl,⋯,⋯,⋯,λi a b=>by lia,λi a b=>by lia⟩
  .rintro c u ⟨rfl,l,r,rfl,al,B,F⟩;dsimp only;rw[moveDown'_eq];have M:p+k<(arrOf u).size:=by rw[z.size];lia
   have ed:p+k-(p+l)=k-l:=by lia
   rw[ed];refine wpS_bind (wpS_modify (wpS_pure ⟨rfl,z.arr (bubble_perm _ _ _),G.trans (tU M ⋯ ⋯),H,?_⟩));have e1:min (k+1) n=k+1:=by lia
   rw[e1];intro i j U P hj;show O.kle (kk C (bubble (arrOf u) (p+k) (k-l)) i) (kk C (bubble (arrOf u) (p+k) (k-l)) j);have e2:p+k-(k-l)=p+l:=by lia
   rw[pG M ⋯,pG M ⋯,e2]
   repeat' split
   all_goals first
    |(exfalso;lia)
    |exact KeyOrd.kle_refl _
    |exact B _ ⋯ ⋯
    |exact KeyOrd.kle_of_klt (F _ ⋯ ⋯)
    |exact y _ _ ⋯ ⋯ ⋯
 .rintro c f ⟨hc,z,G,H,y⟩;refine⟨hc,z,G,H,?_⟩;have e:min (max (max ok 1) n) n=n:=by lia
  rwa [e]at y
 .refine⟨rfl,X,cB.rfl',rfl,λi j U P hj=>?_⟩;by_cases h1:ok=0
  .have e:i=j:=by lia
   subst e;exact KeyOrd.kle_refl _
  .exact hs i j U P ⋯
 .rintro c f ⟨rfl,z,G,H,y⟩;exact wpS_pure (h f z G H y)
def gallop':Bool->Keyed->Array Keyed->Nat->Nat->Nat->StateT SortSt Sem (Option Nat):=sortPriv% PySem.Builtin.gallop
def oS(left:Bool)(key:Keyed)(arr:Array Keyed)(base i:Nat):StateT SortSt Sem (Option Bool):=do
 let x <-elem' arr (base+i)
 if left then lt' x key else return (<-lt' key x).map (!·)
def vh(left:Bool)(key:Keyed)(arr:Array Keyed)(base n a:Nat):gallop' left key arr base n a=(do
  let mut la:=0
  let mut of:=1
  let mut lo:=0
  let mut hi:=0
  let J rt <-oS left key arr base a|return Y
  if rt then
   let f:=n-a
   for _ in [0:n] do
    if of>=f then break
    let J q <-oS left key arr base (a+of)|return Y
    if !q then break
    la:=of
    of:=2*of+1
   lo:=a+la+1
   hi:=a+min of f
  else
   let f:=a+1
   for _ in [0:n] do
    if of>=f then break
    let J q <-oS left key arr base (a-of)|return Y
    if q then break
    la:=of
    of:=2*of+1
   lo:=a+1-min of f
   hi:=a-la
  for _ in [0:n] do
   if lo>=hi then break
   let m:=lo+(hi-lo)/2
   let J q <-oS left key arr base m|return Y
   if q then lo:=m+1 else hi:=m
  return J hi):=rfl
def h_(C:vu prog w A E s kd O)(left:Bool)(key:Keyed)(arr:Array Keyed)(i:Nat):Bool:=if left then O.blt (kk C arr i) (C.key key)else !O.blt (C.key key) (kk C arr i)
def lK(l:kindOf st=kd)(j:cy C arr)(a:C.good key)(u:base+i<arr.size)(h:Q (J (h_ C left key arr (base+i))) st):wpS (model prog w) A E s (oS left key arr base i) Q st:=by
 refine wpS_bind (aP u λx f=>?_);unfold h_ at h;rw[aO f]at h
 cases left with
 |true =>
  exact C.ask x key st Q (bq j f) a l h
 |false =>
  exact wpS_bind (C.ask key x st _ a (bq j f) l (wpS_pure h))
def KI(left:Bool)(key:Keyed)(arr:Array Keyed)(base n lo a:Nat):StateT SortSt Sem DS :=
 forIn [:n] ((Y,lo,a):DS) λ_ c =>
  if c.2.1>=c.2.2 then pure (ForInStep.done (Y,c.2.1,c.2.2))
  else do
   let q <-oS left key arr base (c.2.1+(c.2.2-c.2.1)/2)
   match q with
   |some q=>if q=I then pure (ForInStep.yield (Y,c.2.1+(c.2.2-c.2.1)/2+1,c.2.2))else pure (ForInStep.yield (Y,c.2.1,c.2.1+(c.2.2-c.2.1)/2))
   |_=>pure (ForInStep.done (J Y,c.2.1,c.2.2))
section
variable{left:Bool}{key:Keyed}{arr:Array Keyed}{base n:Nat}
def gu(u:base+n<=arr.size)(l:tf C arr base (base+n)):∀i j,i<=j->j<n->h_ C left key arr (base+j)=I->h_ C left key arr (base+i)=I:=by
 intro i j f y;have a:=l (base+i) (base+j) ⋯ ⋯ ⋯;unfold h_
 cases left with
 |true=>exact λq=>KeyOrd.klt_of_kle_of_klt a q
 |false =>
  simp only[qi,if_false,Jx];exact λq=>KeyOrd.kle_trans a q
def jt(z:base+n<=arr.size)(y:tf C arr base (base+n)):∀i j,i<=j->j<n->h_ C left key arr (base+i)=T->h_ C left key arr (base+j)=T:=by
 intro i j a u l
 cases f:h_ C left key arr (base+j) with
 |false=>rfl
 |true=>rw[gu z y i j a u f]at l;cases l
def tq{lo hi:Nat}{Q:DS->SortSt->Prop}(S:kindOf st=kd)(W:cy C arr)(u:C.good key)(M:base+n<=arr.size)(P:tf C arr base (base+n))(G:lo<=hi)(H:hi<=n)(R:∀i,i<lo->h_ C left key arr (base+i)=I)(X:∀i,hi<=i->i<n->h_ C left key arr (base+i)=T)(h:∀k,k<=n->(∀i,i<k->h_ C left key arr (base+i)=I)->(∀i,k<=i->i<n->h_ C left key arr (base+i)=T)->Q (Y,k,k) st):
  wpS (model prog w) A E s (KI left key arr base n lo hi) Q st:=by
 refine wpS_forRange (I:=λx c f=>f=st/\∃l r,c=(Y,l,r)/\l<=r/\r<=n/\r-l<=n-x/\(∀i,i<l->h_ C left key arr (base+i)=I)/\∀i,r<=i->i<n->h_ C left key arr (base+i)=T)
  ?_ ?_ ⟨rfl,lo,hi,rfl,G,H,⋯,R,X⟩
 .rintro x c f _ Z ⟨rfl,l,r,rfl,F,j,U,z,B⟩;by_cases y:l>=r
  .rw[b_ y];have e:l=r:=by lia
   subst e;exact wpS_pure (h l j z B)
  .rw[f_ y];refine wpS_bind (lK S W u ⋯ ?_)
   cases L:h_ C left key arr (base+(l+(r-l)/2)) with
   |true =>
    simp only[if_true];exact wpS_pure ⟨rfl,_,_,rfl,⋯,⋯,⋯,λi hi=>gu M P i (l+(r-l)/2) ⋯ ⋯ L,B⟩
   |false =>
    simp only[qi,if_false];exact wpS_pure ⟨rfl,_,_,rfl,⋯,⋯,⋯,z,λi a b=>jt M P (l+(r-l)/2) i a b L⟩
 .rintro c f ⟨rfl,l,r,rfl,F,j,U,z,B⟩;have e:l=r:=by lia
  subst e;exact h l j z B
def dw{f:Nat}{Q:Option Nat->SortSt->Prop}(M:kindOf st=kd)(R:cy C arr)(u:C.good key)(H:base+n<=arr.size)(hh:f<n)(L:tf C arr base (base+n))(h:∀k,k<=n->(∀i,i<k->h_ C left key arr (base+i)=I)->(∀i,k<=i->i<n->h_ C left key arr (base+i)=T)->Q (J k) st):
  wpS (model prog w) A E s (gallop' left key arr base n f) Q st:=by
 rw[vh];refine wpS_bind (lK M R u ⋯ ?_)
 cases W:h_ C left key arr (base+f) with
 |true =>
  refine wpS_bind (wpS_mono (wpS_forRange (I:=λx c l=>l=st/\∃j of,c=(Y,j,of)/\j<of/\x+1<=of/\f+j<n/\h_ C left key arr (base+(f+j))=I)
   (Q:=λc l=>l=st/\∃j of,c=(Y,j,of)/\j<of/\f+j<n/\h_ C left key arr (base+(f+j))=I/\(n-f<=of\/of<n-f/\h_ C left key arr (base+(f+of))=T)) ?_ ?_
    ⟨rfl,0,1,rfl,⋯,⋯,hh,W⟩) ?_)
  .rintro x c l _ Z ⟨rfl,j,of,rfl,F,S,B,z⟩;dsimp only;by_cases y:of>=n-f
   .rw[b_ y];exact wpS_pure ⟨rfl,j,of,rfl,F,B,z,.inl y⟩
   .rw[f_ y];refine wpS_bind (lK M R u ⋯ ?_)
    cases P:h_ C left key arr (base+(f+of)) with
    |true =>
     simp only[B6,qi,if_false];exact wpS_pure ⟨rfl,_,_,rfl,⋯,⋯,⋯,P⟩
    |false =>
     simp only[Bool.not_false,if_true];exact wpS_pure ⟨rfl,j,of,rfl,F,B,z,.inr ⟨⋯,P⟩⟩
  .rintro c l ⟨rfl,j,of,rfl,F,S,B,z⟩;exact⟨rfl,j,of,rfl,F,B,z,.inl ⋯⟩
  .rintro c l ⟨rfl,j,of,rfl,F,B,z,G⟩;dsimp only;refine wpS_bind (tq (lo:=f+j+1) (hi:=f+min of (n-f)) M R u H L ⋯ ⋯ (λi X=>gu H L i (f+j) ⋯ B z) (λi a b=>?_) λk a b c=>wpS_pure (h k a b c));rcases G with G|⟨G,U⟩
   .lia
   .exact jt H L (f+of) i ⋯ b U
 |false =>
  simp only[qi,if_false]
  refine wpS_bind (wpS_mono (wpS_forRange (I:=λx c l=>l=st/\∃j of,c=(Y,j,of)/\j<of/\x+1<=of/\j<=f/\h_ C left key arr (base+(f-j))=T)
   (Q:=λc l=>l=st/\∃j of,c=(Y,j,of)/\j<of/\j<=f/\h_ C left key arr (base+(f-j))=T/\(f+1<=of\/of<f+1/\h_ C left key arr (base+(f-of))=I)) ?_ ?_
    ⟨rfl,0,1,rfl,⋯,⋯,⋯,W⟩) ?_)
  .rintro x c l _ Z ⟨rfl,j,of,rfl,F,S,B,z⟩;dsimp only;by_cases y:of>=f+1
   .rw[b_ y];exact wpS_pure ⟨rfl,j,of,rfl,F,B,z,.inl y⟩
   .rw[f_ y];refine wpS_bind (lK M R u ⋯ ?_)
    cases P:h_ C left key arr (base+(f-of)) with
    |true =>
     simp only[if_true];exact wpS_pure ⟨rfl,j,of,rfl,F,B,z,.inr ⟨⋯,P⟩⟩
    |false =>
     simp only[qi,if_false];exact wpS_pure ⟨rfl,_,_,rfl,⋯,⋯,⋯,P⟩
  .rintro c l ⟨rfl,j,of,rfl,F,S,B,z⟩;exact⟨rfl,j,of,rfl,F,B,z,.inl ⋯⟩
  .rintro c l ⟨rfl,j,of,rfl,F,B,z,G⟩;dsimp only;refine wpS_bind (tq (lo:=f+1-min of (f+1)) (hi:=f-j) M R u H L ⋯ ⋯ (λi X=>?_) (λi a b=>jt H L (f-j) i a b z) λk a b c=>wpS_pure (h k a b c));rcases G with G|⟨G,U⟩
   .lia
   .exact gu H L i (f-of) ⋯ ⋯ U
end
end
def nh:Array Keyed->Array Keyed->StateT SortSt Sem (Array Keyed):=sortPriv% PySem.Builtin.mergeLo
def C4:Nat->StateT SortSt Sem Unit:=sortPriv% PySem.Builtin.setMinGallop
section
variable{prog:Program}{w:World}{A:Around}{E:Sh}{s:Shared}{kd:SortKind}{O:KeyOrd}(C:vu prog w A E s kd O)
def LS(l:List Keyed):Prop:=l.Pairwise λx y=>O.kle (C.key x) (C.key y)
def LB(l m:List Keyed):Prop:=∀x∈l,∀y∈m,O.kle (C.key x) (C.key y)
variable{C}
def bY(f:LS C l)(i:LS C m)(a:LB C l m):LS C (l++m):=by unfold LS;rw[List.pairwise_append];exact⟨f,i,a⟩
def nK{xs:Array Keyed}{lo hi:Nat}(y:hi<=xs.size)(h:tf C xs lo hi):LS C (xs.extract lo hi).toList:=by
 unfold LS;rw[NL];intro i j u a f;have z:(xs.extract lo hi).size=hi-lo:=by simp;lia
 have l:j<(xs.extract lo hi).size:=by exact a
 have e1:(xs.extract lo hi).toList[i]=xs[lo+i]'⋯:=by simp
 have e2:(xs.extract lo hi).toList[j]=xs[lo+j]'⋯:=by simp
 rw[e1,e2]
 have:=h (lo+i) (lo+j) ⋯ ⋯ ⋯
 rw[aO (getElem?_pos xs (lo+i) ⋯),aO (getElem?_pos xs (lo+j) ⋯)]at this;exact this
def kq(h:LS C xs.toList):tf C xs 0 xs.size:=by
 intro i j _ f a;rw[aO (getElem?_pos xs i ⋯),aO (getElem?_pos xs j a)];by_cases e:i=j
 .subst e;exact KeyOrd.kle_refl _
 .unfold LS at h;rw[NL]at h
  have:=h i j (by simp;lia) (by simpa using a) ⋯
  simpa using this
structure MI(C:vu prog w A E s kd O)(a b ou:Array Keyed)(i j:Nat):Prop where
 perm:(ou.toList++(a.toList.drop i++b.toList.drop j)).Perm (a.toList++b.toList)
 srt:LS C ou.toList
 low:LB C ou.toList (a.toList.drop i++b.toList.drop j)
variable{a b ou:Array Keyed}{i j:Nat}
def MI.size(m:MI C a b ou i j)(l:i<=a.size)(f:j<=b.size):ou.size+(a.size-i)+(b.size-j)=a.size+b.size:=by
 have:=m.perm.length_eq
 simp at this;lia
def jp{xs:Array Keyed}{i:Nat}{p:Keyed}(h:xs[i]?=J p):xs.toList.drop i=p::xs.toList.drop (i+1):=by
 have hl:i<xs.toList.length:=by
  have:=(Jo.mp h).1
  simpa using this
 have e:xs.toList[i]=p:=by
  have:=(Jo.mp h).2
  simpa using this
 rw[<-e,List.getElem_cons_drop hl]
def i4{xs:Array Keyed}(h:LS C xs.toList)(i:Nat):LS C (xs.toList.drop i):=h.sublist (Mu i _)
def iQ{xs:Array Keyed}(h:LS C xs.toList){i:Nat}{p:Keyed}(u:xs[i]?=J p):∀y∈xs.toList.drop i,O.kle (C.key p) (C.key y):=by
 have f:=i4 h i;rw[jp u]at f ⊢;unfold LS at f;rw[NS]at f;intro y l;rcases pu.mp l with rfl|l
 .exact KeyOrd.kle_refl _
 .exact f.1 y l
def MI.pushA(m:MI C a b ou i j)(H:LS C a.toList)(L:LS C b.toList){p:Keyed}(F:a[i]?=J p)(G:∀q,b[j]?=J q->O.kle (C.key p) (C.key q)):MI C a b (ou.push p) (i+1) j:=by
 have hd:=jp F;have B:∀y∈a.toList.drop i++b.toList.drop j,O.kle (C.key p) (C.key y):=by
  intro y f;rcases tr.mp f with f|f
  .exact iQ H F y f
  .cases u:b[j]? with
   |none =>
    have:b.toList.drop j=[]:=Jq (by have:=QK.mp u;simpa using this)
    rw[this]at f;cases f
   |some q=>exact KeyOrd.kle_trans (G q u) (iQ L u y f)
 refine⟨?_,?_,?_⟩
 .have:=m.perm
  rw[hd]at this;rw[EA,Cd];exact this
 .rw[EA];refine bY m.srt (by unfold LS;simp) λx l y f=>?_
  have:y=p:=by simpa using f
  subst this;exact m.low x l y (AU _ (by rw[hd];exact Bq))
 .intro x l y f;rw[EA]at l;have z:y∈a.toList.drop i++b.toList.drop j:=by
   simp_all
  rcases tr.mp l with l|l
  .exact m.low x l y z
  .have:x=p:=by simpa using l
   subst this;exact B y z
def MI.pushB(m:MI C a b ou i j)(H:LS C a.toList)(L:LS C b.toList){p:Keyed}(F:b[j]?=J p)(G:∀q,a[i]?=J q->O.kle (C.key p) (C.key q)):MI C a b (ou.push p) i (j+1):=by
 have hd:=jp F;have B:∀y∈a.toList.drop i++b.toList.drop j,O.kle (C.key p) (C.key y):=by
  intro y f;rcases tr.mp f with f|f
  .cases u:a[i]? with
   |none =>
    have:a.toList.drop i=[]:=Jq (by have:=QK.mp u;simpa using this)
    rw[this]at f;cases f
   |some q=>exact KeyOrd.kle_trans (G q u) (iQ H u y f)
  .exact iQ L F y f
 refine⟨?_,?_,?_⟩
 .have:=m.perm
  rw[hd]at this;rw[EA,Cd];refine List.Perm.trans (List.Perm.append_left _ ?_) this;show(p::(a.toList.drop i++b.toList.drop (j+1))).Perm _;exact NX.symm
 .rw[EA];refine bY m.srt (by unfold LS;simp) λx l y f=>?_
  have:y=p:=by simpa using f
  subst this;exact m.low x l y (se _ (by rw[hd];exact Bq))
 .intro x l y f;rw[EA]at l;have z:y∈a.toList.drop i++b.toList.drop j:=by
   rcases tr.mp f with f|f
   .exact AU _ f
   .exact se _ (by rw[hd];exact n_ _ f)
  rcases tr.mp l with l|l
  .exact m.low x l y z
  .have:x=p:=by simpa using l
   subst this;exact B y z
def kA{xs:Array Keyed}{i k:Nat}{p:Keyed}(h:xs[i+k]?=J p):xs.extract i (i+(k+1))=(xs.extract i (i+k)).push p:=by
 apply EB.mp;simp only[Mr,EA,NM];have e1:i+(k+1)-i=k+1:=by lia
 have e2:i+k-i=k:=by lia
 rw[e1,e2,N4,NT,BD,h];rfl
def MI.moveA(m:MI C a b ou i j)(z:LS C a.toList)(F:LS C b.toList):∀k,i+k<=a.size->(∀r p q,r<k->a[i+r]?=J p->b[j]?=J q->O.kle (C.key p) (C.key q))->MI C a b (ou++a.extract i (i+k)) (i+k) j:=by
 intro k
 induction k with
 |zero =>
  intro _ _;have e:ou++a.extract i (i+0)=ou:=by apply EB.mp;simp
  rw[e];exact m
 |succ k B =>
  intro H u;have f:=getElem?_pos a (i+k) ⋯;have y:=(B ⋯ λr p q G=>u r p q ⋯).pushA z F f (λq l=>u k _ q ⋯ f l);have e:ou++(a.extract i (i+k)).push (a[i+k]'⋯)=(ou++a.extract i (i+k)).push (a[i+k]'⋯):=by simp
  rw[kA f,e];exact y
def MI.moveB(m:MI C a b ou i j)(z:LS C a.toList)(F:LS C b.toList):∀k,j+k<=b.size->(∀r p q,r<k->b[j+r]?=J p->a[i]?=J q->O.kle (C.key p) (C.key q))->MI C a b (ou++b.extract j (j+k)) i (j+k):=by
 intro k
 induction k with
 |zero =>
  intro _ _;have e:ou++b.extract j (j+0)=ou:=by apply EB.mp;simp
  rw[e];exact m
 |succ k B =>
  intro H u;have f:=getElem?_pos b (j+k) ⋯;have y:=(B ⋯ λr p q G=>u r p q ⋯).pushB z F f (λq l=>u k _ q ⋯ f l);have e:ou++(b.extract j (j+k)).push (b[j+k]'⋯)=(ou++b.extract j (j+k)).push (b[j+k]'⋯):=by simp
  rw[kA f,e];exact y
def MR(C:vu prog w A E s kd O)(a b f:Array Keyed):Prop:=f.toList.Perm (a.toList++b.toList)/\LS C f.toList
def ib{xs:Array Keyed}{i:Nat}:(xs.extract i xs.size).toList=xs.toList.drop i:=by rw[Mr];exact Ey (by simp)
def MI.all(m:MI C a b ou i j)(f:LS C a.toList)(l:LS C b.toList)(h:a.size<=i\/b.size<=j):MR C a b (ou++a.extract i a.size++b.extract j b.size):=by
 have e:(ou++a.extract i a.size++b.extract j b.size).toList=ou.toList++(a.toList.drop i++b.toList.drop j):=by rw[Fe,Fe,ib,ib,Cd]
 unfold MR;rw[e];refine⟨m.perm,bY m.srt ?_ m.low⟩;rcases h with h|h
 .have:a.toList.drop i=[]:=Jq (by simpa using h)
  rw[this];exact i4 l j
 .have:b.toList.drop j=[]:=Jq (by simpa using h)
  rw[this,IV];exact i4 f i
def MI.one(m:MI C a b ou i j)(B:LS C a.toList)(F:LS C b.toList)(h:i+1=a.size)(hl:∀x q,x∈b.toList->a[i]?=J q->O.kle (C.key x) (C.key q)):MR C a b (ou++b.extract j b.size++a.extract i a.size):=by
 have e:(ou++b.extract j b.size++a.extract i a.size).toList=ou.toList++(b.toList.drop j++a.toList.drop i):=by rw[Fe,Fe,ib,ib,Cd]
 unfold MR;rw[e];have z:=getElem?_pos a i ⋯;have hd:=jp z;have f:a.toList.drop (i+1)=[]:=Jq (by simp;lia);rw[f]at hd;refine⟨(List.Perm.append_left _ NO).trans m.perm,bY m.srt (bY (i4 F j) (i4 B i) ?_) ?_⟩
 .intro x u y l;rw[hd]at l
  have:y=a[i]'⋯:=by simpa using l
  subst this;exact hl x _ (IQ u) z
 .intro x u y l;exact m.low x u y (tr.mpr (tr.mp l).symm)
end
structure Eqv(st st':SortSt):Prop where
 kind:kindOf st'=kindOf st
 arr:arrOf st'=arrOf st
 pend:pendingOf st'=pendingOf st
 failed:failedOf st'=failedOf st
def Eqv.rfl'{st:SortSt}:Eqv st st:=⟨rfl,rfl,rfl,rfl⟩
def Eqv.trans{st f a:SortSt}(x:Eqv st f)(y:Eqv f a):Eqv st a:=⟨y.kind.trans x.kind,y.arr.trans x.arr,y.pend.trans x.pend,y.failed.trans x.failed⟩
abbrev GS:=Option (Array Keyed)×Array Keyed×Nat×Nat×Nat×Nat×Nat
def GK(a b f:Array Keyed)(i j g na nb:Nat):StateT SortSt Sem (ForInStep GS):=do
 let x <-elem' a i
 if(i+1+1==a.size)=I then pure (ForInStep.done (J (f.push x++b.extract j b.size++a.extract (i+1) a.size),f.push x,i+1,j,g,na,nb))
 else if(decide (na<7)&&decide (nb<7))=I then pure (ForInStep.done (Y,f.push x,i+1,j,g,na,nb))
 else pure (ForInStep.yield (Y,f.push x,i+1,j,g,na,nb))
def GL(a b f:Array Keyed)(i j g na nb:Nat):StateT SortSt Sem (ForInStep GS):=do
 let x <-elem' b j
 if(j+1==b.size)=I then pure (ForInStep.done (J (f.push x++a.extract i a.size++b.extract (j+1) b.size),f.push x,i,j+1,g,na,nb))
 else do
  let y <-elem' a i
  let q <-gallop' I y b (j+1) (b.size-(j+1)) 0
  match q with
  |some k =>
   if k>0 then
    if(j+1+k==b.size)=I then
     pure (ForInStep.done (J (f.push x++b.extract (j+1) (j+1+k)++a.extract i a.size++b.extract (j+1+k) b.size),f.push x++b.extract (j+1) (j+1+k),i,j+1+k,g,na,k))
    else GK a b (f.push x++b.extract (j+1) (j+1+k)) i (j+1+k) g na k
   else GK a b (f.push x) i (j+1) g na k
  |_=>pure (ForInStep.done (J (f.push x++a.extract i a.size++b.extract (j+1) b.size),f.push x,i,j+1,g,na,nb))
def C5(a b f:Array Keyed)(i j g na nb:Nat):StateT SortSt Sem (ForInStep GS):=do
 C4 g
 let x <-elem' b j
 let q <-gallop' T x a i (a.size-i) 0
 match q with
 |some k =>
  if k>0 then
   if(i+k+1==a.size)=I then
    pure (ForInStep.done (J (f++a.extract i (i+k)++b.extract j b.size++a.extract (i+k) a.size),f++a.extract i (i+k),i+k,j,g,k,nb))
   else if(i+k==a.size)=I then
    pure (ForInStep.done (J (f++a.extract i (i+k)++a.extract (i+k) a.size++b.extract j b.size),f++a.extract i (i+k),i+k,j,g,k,nb))
   else GL a b (f++a.extract i (i+k)) (i+k) j g k nb
  else GL a b f i j g k nb
 |_=>pure (ForInStep.done (J (f++a.extract i a.size++b.extract j b.size),f,i,j,g,na,nb))
abbrev Jc:=Option (Array Keyed)×Array Keyed×Nat×Nat×Nat×Nat
abbrev LCt:=Option (Array Keyed)×Array Keyed×Nat×Nat×Nat
def OV(a b:Array Keyed)(g:Nat)(c:Jc):StateT SortSt Sem (ForInStep Jc):=do
 let x <-elem' b c.2.2.2.1
 let y <-elem' a c.2.2.1
 let q <-lt' x y
 match q with
 |some q =>
  if q=I then do
   let z <-elem' b c.2.2.2.1
   if(c.2.2.2.1+1==b.size)=I then pure (ForInStep.done (J (c.2.1.push z++a.extract c.2.2.1 a.size++b.extract (c.2.2.2.1+1) b.size),c.2.1.push z,c.2.2.1,c.2.2.2.1+1,0,c.2.2.2.2.2+1))
   else if c.2.2.2.2.2+1>=g then pure (ForInStep.done (Y,c.2.1.push z,c.2.2.1,c.2.2.2.1+1,0,c.2.2.2.2.2+1))
   else pure (ForInStep.yield (Y,c.2.1.push z,c.2.2.1,c.2.2.2.1+1,0,c.2.2.2.2.2+1))
  else do
   let z <-elem' a c.2.2.1
   if(c.2.2.1+1+1==a.size)=I then pure (ForInStep.done (J (c.2.1.push z++b.extract c.2.2.2.1 b.size++a.extract (c.2.2.1+1) a.size),c.2.1.push z,c.2.2.1+1,c.2.2.2.1,c.2.2.2.2.1+1,0))
   else if c.2.2.2.2.1+1>=g then pure (ForInStep.done (Y,c.2.1.push z,c.2.2.1+1,c.2.2.2.1,c.2.2.2.2.1+1,0))
   else pure (ForInStep.yield (Y,c.2.1.push z,c.2.2.1+1,c.2.2.2.1,c.2.2.2.2.1+1,0))
 |_=>pure (ForInStep.done (J (c.2.1++a.extract c.2.2.1 a.size++b.extract c.2.2.2.1 b.size),c.2.1,c.2.2.1,c.2.2.2.1,c.2.2.2.2.1,c.2.2.2.2.2))
def OW(a b:Array Keyed)(c:GS):StateT SortSt Sem (ForInStep GS) :=
 if c.2.2.2.2.1>1 then C5 a b c.2.1 c.2.2.1 c.2.2.2.1 (c.2.2.2.2.1-1) c.2.2.2.2.2.1 c.2.2.2.2.2.2
 else C5 a b c.2.1 c.2.2.1 c.2.2.2.1 c.2.2.2.2.1 c.2.2.2.2.2.1 c.2.2.2.2.2.2
def Rb(c:GS):StateT SortSt Sem (ForInStep LCt) :=
 match c.1 with
 |some r=>pure (ForInStep.done (J r,c.2.1,c.2.2.1,c.2.2.2.1,c.2.2.2.2.1))
 |none=>do
  C4 (c.2.2.2.2.1+1)
  pure (ForInStep.yield (Y,c.2.1,c.2.2.1,c.2.2.2.1,c.2.2.2.2.1+1))
def Rc(a b:Array Keyed)(g:Nat)(c:Jc):StateT SortSt Sem (ForInStep LCt) :=
 match c.1 with
 |some r=>pure (ForInStep.done (J r,c.2.1,c.2.2.1,c.2.2.2.1,g))
 |none=>do
  liftM (rule "list.sort.gallop")
  let e <-forIn [:a.size+b.size] ((Y,c.2.1,c.2.2.1,c.2.2.2.1,g+1,c.2.2.2.2.1,c.2.2.2.2.2):GS) λ_ e=>OW a b e
  Rb e
def Re(a b:Array Keyed)(c:LCt):StateT SortSt Sem (ForInStep LCt):=do
 let d <-forIn [:a.size+b.size] ((Y,c.2.1,c.2.2.1,c.2.2.2.1,0,0):Jc) λ_ d=>OV a b c.2.2.2.2 d
 Rc a b c.2.2.2.2 d
def Rf(a b:Array Keyed)(x:Keyed):StateT SortSt Sem (Array Keyed):=do
 let g <-get
 let r <-forIn [:a.size+b.size] ((Y,#[x],0,1,gallopOf g):LCt) λ_ c=>Re a b c
 match r.1 with
 |some r=>pure r
 |none=>liftM (unsupported "internal:list.sort.merge-bound":Sem (Array Keyed))
def OX(a b:Array Keyed):nh a b=(do
 liftM (rule "list.sort.merge-lo")
 let x <-elem' b 0
 if(1==b.size)=I then pure (#[x]++a.extract 0 a.size++b.extract 1 b.size)
 else if(0+1==a.size)=I then pure (#[x]++b.extract 1 b.size++a.extract 0 a.size)
 else Rf a b x):=by
 refine congrArg (Bind.bind _) (funext λ_=>congrArg (Bind.bind _) (funext λx=>congrArg (λz=>ite _ _ (ite _ _ z)) ?_));have e:∀{α β:Type}{x y:StateT SortSt Sem α}{f h:α->StateT SortSt Sem β},x=y->(∀a,f a=h a)->(x >>= f)=(y >>= h):=λe f=>by rw[e,funext f]
 refine congrArg (Bind.bind _) (funext λg=>e (congrArg (forIn _ _) (funext λ_=>funext λc=>?_)) λ⟨r,_⟩=>by cases r<;>rfl);refine e rfl λd=>?_;obtain⟨i,j⟩:=d
 cases i with
 |some r=>rfl
 |none=>exact congrArg (Bind.bind _) (funext λ_=>e rfl λ⟨r,_⟩=>by cases r<;>rfl)
section
variable{prog:Program}{w:World}{A:Around}{E:Sh}{s:Shared}{kd:SortKind}{O:KeyOrd}{C:vu prog w A E s kd O}{st:SortSt}{a b:Array Keyed}
structure Aa(C:vu prog w A E s kd O)(a b:Array Keyed):Prop where
 ga:cy C a
 gb:cy C b
 sa:LS C a.toList
 sb:LS C b.toList
 na:1<=a.size
 nb:1<=b.size
 fst:∀p q,b[0]?=J p->a[0]?=J q->O.kle (C.key p) (C.key q)
 lst:∀x q,x∈b.toList->a[a.size-1]?=J q->O.kle (C.key x) (C.key q)
def LI(C:vu prog w A E s kd O)(a b:Array Keyed)(N:Nat)(c:GS):Prop:=c.1=Y/\MI C a b c.2.1 c.2.2.1 c.2.2.2.1/\c.2.2.1+1<a.size/\c.2.2.2.1<b.size/\N<=c.2.1.size
def kX(C:vu prog w A E s kd O)(a b:Array Keyed)(N:Nat)(st:SortSt)(r:ForInStep GS)(f:SortSt):Prop:=Eqv st f/\match r with
 |.done c=>(∃x,c.1=J x/\MR C a b x)\/LI C a b N c
 |.yield c=>LI C a b N c
def u9(f:Aa C a b)(m:MI C a b ou i j)(P:i+1<a.size)(L:j<b.size)(hN:N<=ou.size)(u:∀p q,a[i]?=J p->b[j]?=J q->O.kle (C.key p) (C.key q)):
  wpS (model prog w) A E s (GK a b ou i j g na nb) (kX C a b N st) st:=by
 refine wpS_bind (aP ⋯ λx G=>?_);have B:=m.pushA f.sa f.sb G (λq z=>u x q G z);have M:(ou.push x).size=ou.size+1:=ED ..;by_cases l:i+1+1=a.size
 .rw[b_ (by simpa using l)];exact wpS_pure ⟨Eqv.rfl',.inl ⟨_,rfl,B.one f.sa f.sb l λy q H z=>f.lst y q H (by rw[<-l];exact z)⟩⟩
 .rw[f_ (by simpa using l)];have F:LI C a b N (Y,ou.push x,i+1,j,g,na,nb):=⟨rfl,B,⋯,L,⋯⟩;split
  .exact wpS_pure ⟨Eqv.rfl',.inr F⟩
  .exact wpS_pure ⟨Eqv.rfl',F⟩
def uH(f:Aa C a b)(hk:kindOf st=kd)(m:MI C a b ou i j)(S:i+1<a.size)(hj:j<b.size)(hN:N<=ou.size)(P:∀p q,b[j]?=J p->a[i]?=J q->O.kle (C.key p) (C.key q)):
  wpS (model prog w) A E s (GL a b ou i j g na nb) (kX C a b N st) st:=by
 refine wpS_bind (aP hj λx W=>?_);have G:=m.pushB f.sa f.sb W (λq l=>P x q W l);have ai:(ou.push x).size=ou.size+1:=ED ..;by_cases U:j+1=b.size
 .rw[b_ (by simpa using U)];exact wpS_pure ⟨Eqv.rfl',.inl ⟨_,rfl,G.all f.sa f.sb (.inr ⋯)⟩⟩
 .rw[f_ (by simpa using U)];refine wpS_bind (aP ⋯ λy H=>?_);refine wpS_bind (dw (C:=C) hk f.gb (bq f.ga H) ⋯ ⋯ ?_ λk ab L Q=>?_)
  .intro p q z M l;exact kq f.sb p q (zL _) M ⋯
  .have B:∀r p q,r<k->b[j+1+r]?=J p->a[i]?=J q->O.kle (C.key p) (C.key q):=λr p q hr z l=>by
    have:=L r hr
    unfold h_ at this;rw[aO z]at this;rw[H]at l;cases l;exact KeyOrd.kle_of_klt this
   have u:∀p q,a[i]?=J p->b[j+1+k]?=J q->O.kle (C.key p) (C.key q):=λp q z l=>by
    have Z:=(Jo.mp l).1
    have:=Q k (jj _) ⋯
    unfold h_ at this;rw[aO l]at this;rw[H]at z;cases z;exact this
   dsimp only;by_cases F:k>0
   .rw[b_ F];have R:=G.moveB f.sa f.sb k ⋯ B;by_cases X:j+1+k=b.size
    .rw[b_ (by simpa using X)];exact wpS_pure ⟨Eqv.rfl',.inl ⟨_,rfl,R.all f.sa f.sb (.inr ⋯)⟩⟩
    .rw[f_ (by simpa using X)];exact u9 f R S ⋯ (by rw[Jw];lia) u
   .rw[f_ F];have e:k=0:=by lia
    subst e;exact u9 f G S ⋯ ⋯ u
def uK(f:Aa C a b)(hk:kindOf st=kd)(m:MI C a b ou i j)(Z:i+1<a.size)(M:j<b.size)(hN:N<=ou.size):
  wpS (model prog w) A E s (C5 a b ou i j g na nb) (kX C a b N st) st:=by
 unfold C5;refine wpS_bind (wpS_modify ?_);have X:Eqv st (SortSt.mk' (kindOf st) (arrOf st) (pendingOf st) g (failedOf st)):=⟨rfl,rfl,rfl,rfl⟩;refine wpS_mono (Q:=kX C a b N (SortSt.mk' (kindOf st) (arrOf st) (pendingOf st) g (failedOf st))) ?_ λr ai h=>⟨X.trans h.1,h.2⟩;have z:kindOf (SortSt.mk' (kindOf st) (arrOf st) (pendingOf st) g (failedOf st))=kd:=hk;refine wpS_bind (aP M λx P=>?_);refine wpS_bind (dw (C:=C) z f.ga (bq f.gb P) ⋯ ⋯ ?_ λk al R U=>?_)
 .intro p q B S l;exact kq f.sa p q (zL _) S ⋯
 .have F:∀r p q,r<k->a[i+r]?=J p->b[j]?=J q->O.kle (C.key p) (C.key q):=λr p q hr B l=>by
   have:=R r hr
   unfold h_ at this;rw[aO B]at this;rw[P]at l;cases l;simp only[qi,if_false,Jx]at this;exact this
  have u:∀p q,b[j]?=J p->a[i+k]?=J q->O.kle (C.key p) (C.key q):=λp q B l=>by
   have ab:=(Jo.mp l).1
   have:=U k (jj _) ⋯
   unfold h_ at this;rw[aO l]at this;rw[P]at B;cases B;simp only[qi,if_false,NU]at this;exact KeyOrd.kle_of_klt this
  dsimp only;by_cases G:k>0
  .rw[b_ G];have L:=m.moveA f.sa f.sb k ⋯ F;by_cases H:i+k+1=a.size
   .rw[b_ (by simpa using H)];exact wpS_pure ⟨Eqv.rfl',.inl ⟨_,rfl,L.one f.sa f.sb H λy q hy l=>f.lst y q hy (by rw[<-H];exact l)⟩⟩
   .rw[f_ (by simpa using H)];by_cases W:i+k=a.size
    .rw[b_ (by simpa using W)];exact wpS_pure ⟨Eqv.rfl',.inl ⟨_,rfl,L.all f.sa f.sb (.inl ⋯)⟩⟩
    .rw[f_ (by simpa using W)];exact uH f z L ⋯ M (by rw[Jw];lia) u
  .rw[f_ G];have e:k=0:=by lia
   subst e;exact uH f z m Z M hN u
def KJ(C:vu prog w A E s kd O)(a b:Array Keyed)(N:Nat)(c:Jc):Prop:=c.1=Y/\MI C a b c.2.1 c.2.2.1 c.2.2.2.1/\c.2.2.1+1<a.size/\c.2.2.2.1<b.size/\N<=c.2.1.size
def OY(C:vu prog w A E s kd O)(a b:Array Keyed)(N:Nat)(c:LCt):Prop:=c.1=Y/\MI C a b c.2.1 c.2.2.1 c.2.2.2.1/\c.2.2.1+1<a.size/\c.2.2.2.1<b.size/\N<=c.2.1.size
def OZ(C:vu prog w A E s kd O)(a b:Array Keyed)(N:Nat)(st:SortSt)(r:ForInStep Jc)(f:SortSt):Prop:=match r with
 |.done c=>f=st/\((∃x,c.1=J x/\MR C a b x)\/KJ C a b N c)
 |.yield c=>f=st/\KJ C a b N c
def GN(C:vu prog w A E s kd O)(a b:Array Keyed)(N:Nat)(st:SortSt)(r:ForInStep LCt)(f:SortSt):Prop:=match r with
 |.done c=>Eqv st f/\∃x,c.1=J x/\MR C a b x
 |.yield c=>Eqv st f/\OY C a b N c
def GO(f:Aa C a b)(L:kindOf st=kd)(M:MI C a b ou' i' j')(G:i'+1<a.size)(u:j'<b.size)(hN:N<=ou'.size):
  wpS (model prog w) A E s (OV a b g (Y,ou',i',j',na,nb)) (OZ C a b (N+1) st) st:=by
 unfold OV;dsimp only;refine wpS_bind (aP u λp H=>wpS_bind (aP ⋯ λq F=>?_));refine wpS_bind (C.ask p q st _ (bq f.gb H) (bq f.ga F) L ?_)
 cases P:O.blt (C.key p) (C.key q) with
 |true =>
  dsimp only;refine wpS_bind (aP u λS i=>?_);rw[H]at i;cases i;have z:=M.pushB f.sa f.sb H (λR l=>by rw[F]at l;cases l;exact KeyOrd.kle_of_klt P);have j:(ou'.push p).size=ou'.size+1:=ED ..;by_cases B:j'+1=b.size
  .rw[b_ (by simpa using B)];exact wpS_pure ⟨rfl,.inl ⟨_,rfl,z.all f.sa f.sb (.inr ⋯)⟩⟩
  .rw[f_ (by simpa using B)];split
   .exact wpS_pure ⟨rfl,.inr ⟨rfl,z,G,⋯,by rw[j];lia⟩⟩
   .exact wpS_pure ⟨rfl,rfl,z,G,⋯,by rw[j];lia⟩
 |false =>
  dsimp only;refine wpS_bind (aP ⋯ λR l=>?_);rw[F]at l;cases l;have z:=M.pushA f.sa f.sb F (λS i=>by rw[H]at i;cases i;exact P);have j:(ou'.push q).size=ou'.size+1:=ED ..;by_cases B:i'+1+1=a.size
  .rw[b_ (by simpa using B)];exact wpS_pure ⟨rfl,.inl ⟨_,rfl,z.one f.sa f.sb B λy q Q F=>f.lst y q Q (by rw[<-B];exact F)⟩⟩
  .rw[f_ (by simpa using B)];split
   .exact wpS_pure ⟨rfl,.inr ⟨rfl,z,⋯,u,by rw[j];lia⟩⟩
   .exact wpS_pure ⟨rfl,rfl,z,⋯,u,by rw[j];lia⟩
def GP(j:Eqv zJ st)(i:(∃x,c.1=J x/\MR C a b x)\/LI C a b N c):wpS (model prog w) A E s (Rb c) (GN C a b N zJ) st:=by
 obtain⟨H,l,B,G,F,z,u⟩:=c;rcases i with⟨r,f,y⟩|⟨i,f⟩
 .cases f;exact wpS_pure ⟨j,r,rfl,y⟩
 .cases i;exact wpS_bind (wpS_modify (wpS_pure ⟨j.trans ⟨rfl,rfl,rfl,rfl⟩,rfl,f⟩))
def GQ(i:Aa C a b)(y:kindOf st=kd)(h:LI C a b N c):wpS (model prog w) A E s (OW a b c) (kX C a b N st) st:=by
 obtain⟨_,u,l,f,j⟩:=h;unfold OW;split
 .exact uK i y u l f j
 .exact uK i y u l f j
def GR(z:Aa C a b)(F:kindOf st=kd)(B:Eqv zJ st)(l:(∃x,c.1=J x/\MR C a b x)\/KJ C a b N c):wpS (model prog w) A E s (Rc a b g c) (GN C a b N zJ) st:=by
 obtain⟨S,L,W,R,na,nb⟩:=c;rcases l with⟨r,j,M⟩|⟨l,j⟩
 .cases j;exact wpS_pure ⟨B,r,rfl,M⟩
 .cases l;refine wpS_bind (wpS_lift (wpAny_rule ⟨rfl,?_⟩));refine wpS_bind (wpS_mono (wpS_forRange (I:=λy c i=>Eqv st i/\LI C a b N c) (Q:=λc i=>Eqv st i/\((∃x,c.1=J x/\MR C a b x)\/LI C a b N c)) ?_ ?_ ⟨Eqv.rfl',rfl,j⟩) ?_)
  .rintro y c i _ U ⟨f,P⟩;refine wpS_mono (GQ z (f.kind.trans F) P) λr H j=>?_
   cases r with
   |done G=>exact⟨f.trans j.1,j.2⟩
   |yield G=>exact⟨f.trans j.1,j.2⟩
  .rintro c i ⟨f,u⟩;exact⟨f,.inr u⟩
  .rintro c i ⟨f,l⟩;exact GP (B.trans f) l
def GU(i:Aa C a b)(F:kindOf st=kd)(h:OY C a b N c):wpS (model prog w) A E s (Re a b c) (GN C a b (N+1) st) st:=by
 obtain⟨z,P⟩:=h
 refine wpS_bind (wpS_mono (wpS_forRange (I:=λy c f=>f=st/\KJ C a b (N+y) c)
  (Q:=λc f=>f=st/\((∃x,c.1=J x/\MR C a b x)\/KJ C a b (N+1) c)) ?_ ?_ ⟨rfl,rfl,P⟩) ?_)
 .rintro y c f _ R ⟨rfl,G⟩;obtain⟨z,H,u,B,j⟩:=G;refine wpS_mono (GO i F H u B j) λr M l=>?_
  cases r with
  |done L=>exact⟨l.1,l.2.imp_right λh=>⟨h.1,h.2.1,h.2.2.1,h.2.2.2.1,ql ⋯ h.2.2.2.2⟩⟩
  |yield L=>exact l
 .rintro c f ⟨rfl,h⟩;exact⟨rfl,.inr ⟨h.1,h.2.1,h.2.2.1,h.2.2.2.1,ql ⋯ h.2.2.2.2⟩⟩
 .rintro c f ⟨rfl,z⟩;exact GR i F Eqv.rfl' z
def GV(u:Aa C a b)(z:kindOf st=kd)(y:MI C a b #[x0] 0 1)(G:0+1<a.size)(L:1<b.size)(h:∀x f,Eqv st f->MR C a b x->Q x f):wpS (model prog w) A E s (Rf a b x0) Q st:=by
 refine wpS_bind (wpS_get ?_)
 refine wpS_bind (wpS_mono (wpS_forRange (I:=λx c f=>Eqv st f/\OY C a b (x+1) c)
  (Q:=λc f=>Eqv st f/\∃x,c.1=J x/\MR C a b x) ?_ ?_ ⟨Eqv.rfl',rfl,y,G,L,jj _⟩) ?_)
 .rintro x c f _ M ⟨i,l⟩;refine wpS_mono (GU u (i.kind.trans z) l) λr F j=>?_
  cases r with
  |done B=>exact⟨i.trans j.1,j.2⟩
  |yield B=>exact⟨i.trans j.1,j.2⟩
 .rintro c f ⟨i,l⟩;exfalso;have y:=l.2.2.1;have S:=l.2.2.2.1
  have:=l.2.1.size ⋯ ⋯
  have:=l.2.2.2.2
  lia
 .rintro c f ⟨i,r,j,H⟩;obtain⟨P,R⟩:=c;cases j;exact wpS_pure (h r f i H)
def GW(f:Aa C a b)(H:kindOf st=kd)(h:∀x j,Eqv st j->MR C a b x->Q x j):wpS (model prog w) A E s (nh a b) Q st:=by
 rw[OX];refine wpS_bind (wpS_lift (wpAny_rule ⟨rfl,?_⟩));have L:=f.na;have M:=f.nb;refine wpS_bind (aP ⋯ λB i=>?_);have R:MI C a b #[] 0 0:=⟨by simp,by unfold LS;simp,λx P=>by simp at P⟩;have u:MI C a b #[B] 0 1:=by
  have:=R.pushB f.sa f.sb i (λq z=>f.fst B q i z)
  simpa using this
 by_cases F:1=b.size
 .rw[b_ (by simpa using F)]
  have:=u.all f.sa f.sb (.inr ⋯)
  exact wpS_pure (h _ st Eqv.rfl' (by simpa using this))
 .rw[f_ (by simpa using F)];by_cases l:0+1=a.size
  .rw[b_ (by simpa using l)]
   have:=u.one f.sa f.sb l λy q G z=>f.lst y q G (by rw[<-l];exact z)
   exact wpS_pure (h _ st Eqv.rfl' (by simpa using this))
  .rw[f_ (by simpa using l)];exact GV f H u ⋯ ⋯ h
end
def mI:Array Keyed->Array Keyed->StateT SortSt Sem (Array Keyed):=sortPriv% PySem.Builtin.mergeHi
section
variable{prog:Program}{w:World}{A:Around}{E:Sh}{s:Shared}{kd:SortKind}{O:KeyOrd}{C:vu prog w A E s kd O}{a b ou:Array Keyed}{m n:Nat}{st:SortSt}
structure HI(C:vu prog w A E s kd O)(a b ou:Array Keyed)(m n:Nat):Prop where
 perm:(a.toList.take m++b.toList.take n++ou.toList.reverse).Perm (a.toList++b.toList)
 srt:LS C ou.toList.reverse
 hgh:LB C (a.toList.take m++b.toList.take n) ou.toList.reverse
def HI.size(h:HI C a b ou m n)(i:m<=a.size)(f:n<=b.size):ou.size+m+n=a.size+b.size:=by
 have:=h.perm.length_eq
 simp at this;lia
def lS{xs:Array Keyed}{i:Nat}{p:Keyed}(h:xs[i]?=J p):xs.toList.take (i+1)=xs.toList.take i++[p]:=by rw[N4,BD,h];rfl
def ji{xs:Array Keyed}(h:LS C xs.toList)(i:Nat):LS C (xs.toList.take i):=h.sublist (NV i _)
def lC{xs:Array Keyed}(h:LS C xs.toList){i:Nat}{p:Keyed}(l:xs[i]?=J p):∀y∈xs.toList.take (i+1),O.kle (C.key y) (C.key p):=by
 have j:=ji h (i+1);rw[lS l]at j ⊢;unfold LS at j;rw[List.pairwise_append]at j;intro y f;rcases tr.mp f with f|f
 .exact j.2.2 y f p (by simp)
 .have:y=p:=by simpa using f
  subst this;exact KeyOrd.kle_refl _
def gU(p:Keyed):(ou.push p).toList.reverse=p::ou.toList.reverse:=by simp
def HI.pushA(h:HI C a b ou (m+1) n)(F:LS C a.toList)(G:LS C b.toList){p:Keyed}(u:a[m]?=J p)(H:1<=n)(z:n<=b.size)(B:∀q,b[n-1]?=J q->O.kle (C.key q) (C.key p)):HI C a b (ou.push p) m n:=by
 have hd:=lS u;obtain⟨q,j⟩:∃q,b[n-1]?=J q:=⟨_,getElem?_pos b (n-1) ⋯⟩;have l:∀y∈a.toList.take m++b.toList.take n,O.kle (C.key y) (C.key p):=by
  intro y f;rcases tr.mp f with f|f
  .exact lC F u y (by rw[hd];exact AU _ f)
  .refine KeyOrd.kle_trans (lC G j y ?_) (B q j)
   have:n-1+1=n:=by lia
   rw[this];exact f
 refine⟨?_,?_,?_⟩
 .have:=h.perm
  rw[hd]at this;rw[gU];refine List.Perm.trans ?_ this;have e1:(a.toList.take m++b.toList.take n++p::ou.toList.reverse).Perm (p::(a.toList.take m++b.toList.take n++ou.toList.reverse)):=NX;have e2:(a.toList.take m++[p]++b.toList.take n++ou.toList.reverse).Perm (p::(a.toList.take m++b.toList.take n++ou.toList.reverse)):=by simp_all
  exact e1.trans e2.symm
 .rw[gU];unfold LS;rw[NS];refine⟨λy f=>h.hgh p (AU _ (by rw[hd];simp)) y f,h.srt⟩
 .rw[gU];intro x i y f;rcases pu.mp f with rfl|f
  .exact l x i
  .refine h.hgh x ?_ y f;rcases tr.mp i with i|i
   .exact AU _ (by rw[hd];exact AU _ i)
   .exact se _ i
def HI.pushB(h:HI C a b ou m (n+1))(F:LS C a.toList)(G:LS C b.toList){p:Keyed}(u:b[n]?=J p)(H:1<=m)(B:m<=a.size)(z:∀q,a[m-1]?=J q->O.kle (C.key q) (C.key p)):HI C a b (ou.push p) m n:=by
 have hd:=lS u;obtain⟨q,j⟩:∃q,a[m-1]?=J q:=⟨_,getElem?_pos a (m-1) ⋯⟩;have l:∀y∈a.toList.take m++b.toList.take n,O.kle (C.key y) (C.key p):=by
  intro y f;rcases tr.mp f with f|f
  .refine KeyOrd.kle_trans (lC F j y ?_) (z q j)
   have:m-1+1=m:=by lia
   rw[this];exact f
  .exact lC G u y (by rw[hd];exact AU _ f)
 refine⟨?_,?_,?_⟩
 .have:=h.perm
  simp_all
 .rw[gU];unfold LS;rw[NS];refine⟨λy f=>h.hgh p (se _ (by rw[hd];simp)) y f,h.srt⟩
 .rw[gU];intro x i y f;rcases pu.mp f with rfl|f
  .exact l x i
  .refine h.hgh x ?_ y f;rcases tr.mp i with i|i
   .exact AU _ i
   .exact se _ (by rw[hd];exact AU _ i)
def rY{xs:Array Keyed}{m k:Nat}{p:Keyed}(i:k<m)(f:m<=xs.size)(h:xs[m-(k+1)]?=J p):ou++(xs.extract (m-(k+1)) m).reverse=(ou++(xs.extract (m-k) m).reverse).push p:=by
 apply EB.mp;simp only[Fe,Array.toList_reverse,EA,Mr,NM];have e1:m-(m-(k+1))=k+1:=by lia
 have e2:m-(m-k)=k:=by lia
 have e3:m-(k+1)+1=m-k:=by lia
 rw[e1,e2,jp h,e3];simp
def HI.moveA(h:HI C a b ou m n)(H:LS C a.toList)(M:LS C b.toList)(F:m<=a.size)(G:1<=n)(i:n<=b.size):∀k,k<=m->(∀r p q,m-k<=r->r<m->a[r]?=J p->b[n-1]?=J q->O.kle (C.key q) (C.key p)) ->
  HI C a b (ou++(a.extract (m-k) m).reverse) (m-k) n:=by
 intro k
 induction k with
 |zero =>
  intro _ _;have e:ou++(a.extract (m-0) m).reverse=ou:=by apply EB.mp;simp
  rw[e];exact h
 |succ k B =>
  intro P y;have f:a[m-(k+1)]?=J (a[m-(k+1)]'⋯):=getElem?_pos a _ ⋯;have u:=B ⋯ λr p q L l=>y r p q ⋯ l;have e:m-k=m-(k+1)+1:=by lia
  rw[rY ⋯ F f];rw[e]at u;have z:=u.pushA H M f G i (λq j=>y _ _ q (jj _) ⋯ f j);rw[<-e]at z;exact z
def HI.moveB(h:HI C a b ou m n)(H:LS C a.toList)(M:LS C b.toList)(F:n<=b.size)(G:1<=m)(i:m<=a.size):∀k,k<=n->(∀r p q,n-k<=r->r<n->b[r]?=J p->a[m-1]?=J q->O.kle (C.key q) (C.key p)) ->
  HI C a b (ou++(b.extract (n-k) n).reverse) m (n-k):=by
 intro k
 induction k with
 |zero =>
  intro _ _;have e:ou++(b.extract (n-0) n).reverse=ou:=by apply EB.mp;simp
  rw[e];exact h
 |succ k B =>
  intro P y;have f:b[n-(k+1)]?=J (b[n-(k+1)]'⋯):=getElem?_pos b _ ⋯;have u:=B ⋯ λr p q L l=>y r p q ⋯ l;have e:n-k=n-(k+1)+1:=by lia
  rw[rY ⋯ F f];rw[e]at u;have z:=u.pushB H M f G i (λq j=>y _ _ q (jj _) ⋯ f j);rw[<-e]at z;exact z
def mF{xs:Array Keyed}{i:Nat}:(xs.extract 0 i).toList=xs.toList.take i:=by rw[Mr,NM];simp
def HI.all(h:HI C a b ou m n)(f:LS C a.toList)(j:LS C b.toList)(i:m=0\/n=0):MR C a b (a.extract 0 m++b.extract 0 n++ou.reverse):=by
 have e:(a.extract 0 m++b.extract 0 n++ou.reverse).toList=a.toList.take m++b.toList.take n++ou.toList.reverse:=by simp_all
 unfold MR;rw[e];refine⟨h.perm,bY ?_ h.srt h.hgh⟩;rcases i with rfl|rfl
 .simpa using ji j n
 .simpa using ji f m
def HI.one(h:HI C a b ou m n)(f:Aa C a b)(G:n=1):MR C a b (b.extract 0 n++a.extract 0 m++ou.reverse):=by
 subst G;have e:(b.extract 0 1++a.extract 0 m++ou.reverse).toList=b.toList.take 1++a.toList.take m++ou.toList.reverse:=by rw[Fe,Fe,mF,mF,Array.toList_reverse]
 unfold MR;rw[e];have F:=f.nb;have B:=f.na;have u:=getElem?_pos b 0 ⋯;have z:=getElem?_pos a 0 ⋯;have hd:=lS u;refine⟨(List.Perm.append_right _ NO).trans h.perm,bY (bY (ji f.sb 1) (ji f.sa m) ?_) h.srt ?_⟩
 .intro x l y i;have j:x=b[0]'⋯:=by
   have:=l
   rw[hd]at this;simpa using this
  subst j;refine KeyOrd.kle_trans (f.fst _ _ u z) (iQ f.sa z y ?_);exact List.mem_of_mem_take i
 .intro x l y i;exact h.hgh x (tr.mpr (tr.mp l).symm) y i
end
abbrev HS:=Option (Array Keyed)×Nat×Nat×Array Keyed×Nat×Nat×Nat
def GX(a b f:Array Keyed)(m n g j i:Nat):StateT SortSt Sem (ForInStep HS):=do
 let x <-elem' a (m-1)
 if(m-1==0)=I then pure (ForInStep.done (J (a.extract 0 (m-1)++b.extract 0 n++(f.push x).reverse),m-1,n,f.push x,g,j,i))
 else if(decide (j<7)&&decide (i<7))=I then pure (ForInStep.done (Y,m-1,n,f.push x,g,j,i))
 else pure (ForInStep.yield (Y,m-1,n,f.push x,g,j,i))
def GY(a b f:Array Keyed)(m n g i j:Nat):StateT SortSt Sem (ForInStep HS):=do
 let x <-elem' b (n-1)
 if(n-1==1)=I then pure (ForInStep.done (J (b.extract 0 (n-1)++a.extract 0 m++(f.push x).reverse),m,n-1,f.push x,g,i,j))
 else do
  let y <-elem' a (m-1)
  let q <-gallop' I y b 0 (n-1) (n-1-1)
  match q with
  |some z =>
   if n-1-z>0 then
    if(z==1)=I then
     pure (ForInStep.done (J (b.extract 0 z++a.extract 0 m++(f.push x++(b.extract z (n-1)).reverse).reverse),m,z,f.push x++(b.extract z (n-1)).reverse,g,i,n-1-z))
    else if(z==0)=I then
     pure (ForInStep.done (J (a.extract 0 m++b.extract 0 z++(f.push x++(b.extract z (n-1)).reverse).reverse),m,z,f.push x++(b.extract z (n-1)).reverse,g,i,n-1-z))
    else GX a b (f.push x++(b.extract z (n-1)).reverse) m z g i (n-1-z)
   else GX a b (f.push x) m (n-1) g i (n-1-z)
  |_=>pure (ForInStep.done (J (a.extract 0 m++b.extract 0 (n-1)++(f.push x).reverse),m,n-1,f.push x,g,i,j))
def C6(a b f:Array Keyed)(m n g j i:Nat):StateT SortSt Sem (ForInStep HS):=do
 C4 g
 let x <-elem' b (n-1)
 let q <-gallop' T x a 0 m (m-1)
 match q with
 |some z =>
  if m-z>0 then
   if(z==0)=I then
    pure (ForInStep.done (J (a.extract 0 z++b.extract 0 n++(f++(a.extract z m).reverse).reverse),z,n,f++(a.extract z m).reverse,g,m-z,i))
   else GY a b (f++(a.extract z m).reverse) z n g (m-z) i
  else GY a b f m n g (m-z) i
 |_=>pure (ForInStep.done (J (a.extract 0 m++b.extract 0 n++f.reverse),m,n,f,g,j,i))
abbrev HB:=Option (Array Keyed)×Nat×Nat×Array Keyed×Nat×Nat
abbrev HC:=Option (Array Keyed)×Nat×Nat×Array Keyed×Nat
def O0(a b:Array Keyed)(g:Nat)(c:HB):StateT SortSt Sem (ForInStep HB):=do
 let x <-elem' b (c.2.2.1-1)
 let y <-elem' a (c.2.1-1)
 let q <-lt' x y
 match q with
 |some q =>
  if q=I then do
   let z <-elem' a (c.2.1-1)
   if(c.2.1-1==0)=I then pure (ForInStep.done (J (a.extract 0 (c.2.1-1)++b.extract 0 c.2.2.1++(c.2.2.2.1.push z).reverse),c.2.1-1,c.2.2.1,c.2.2.2.1.push z,c.2.2.2.2.1+1,0))
   else if c.2.2.2.2.1+1>=g then pure (ForInStep.done (Y,c.2.1-1,c.2.2.1,c.2.2.2.1.push z,c.2.2.2.2.1+1,0))
   else pure (ForInStep.yield (Y,c.2.1-1,c.2.2.1,c.2.2.2.1.push z,c.2.2.2.2.1+1,0))
  else do
   let z <-elem' b (c.2.2.1-1)
   if(c.2.2.1-1==1)=I then pure (ForInStep.done (J (b.extract 0 (c.2.2.1-1)++a.extract 0 c.2.1++(c.2.2.2.1.push z).reverse),c.2.1,c.2.2.1-1,c.2.2.2.1.push z,0,c.2.2.2.2.2+1))
   else if c.2.2.2.2.2+1>=g then pure (ForInStep.done (Y,c.2.1,c.2.2.1-1,c.2.2.2.1.push z,0,c.2.2.2.2.2+1))
   else pure (ForInStep.yield (Y,c.2.1,c.2.2.1-1,c.2.2.2.1.push z,0,c.2.2.2.2.2+1))
 |_=>pure (ForInStep.done (J (a.extract 0 c.2.1++b.extract 0 c.2.2.1++c.2.2.2.1.reverse),c.2.1,c.2.2.1,c.2.2.2.1,c.2.2.2.2.1,c.2.2.2.2.2))
def O5(a b:Array Keyed)(c:HS):StateT SortSt Sem (ForInStep HS) :=
 if c.2.2.2.2.1>1 then C6 a b c.2.2.2.1 c.2.1 c.2.2.1 (c.2.2.2.2.1-1) c.2.2.2.2.2.1 c.2.2.2.2.2.2
 else C6 a b c.2.2.2.1 c.2.1 c.2.2.1 c.2.2.2.2.1 c.2.2.2.2.2.1 c.2.2.2.2.2.2
def Rg(c:HS):StateT SortSt Sem (ForInStep HC) :=
 match c.1 with
 |some r=>pure (ForInStep.done (J r,c.2.1,c.2.2.1,c.2.2.2.1,c.2.2.2.2.1))
 |none=>do
  C4 (c.2.2.2.2.1+1)
  pure (ForInStep.yield (Y,c.2.1,c.2.2.1,c.2.2.2.1,c.2.2.2.2.1+1))
def Rh(a b:Array Keyed)(g:Nat)(c:HB):StateT SortSt Sem (ForInStep HC) :=
 match c.1 with
 |some r=>pure (ForInStep.done (J r,c.2.1,c.2.2.1,c.2.2.2.1,g))
 |none=>do
  liftM (rule "list.sort.gallop")
  let e <-forIn [:a.size+b.size] ((Y,c.2.1,c.2.2.1,c.2.2.2.1,g+1,c.2.2.2.2.1,c.2.2.2.2.2):HS) λ_ e=>O5 a b e
  Rg e
def Ri(a b:Array Keyed)(c:HC):StateT SortSt Sem (ForInStep HC):=do
 let d <-forIn [:a.size+b.size] ((Y,c.2.1,c.2.2.1,c.2.2.2.1,0,0):HB) λ_ d=>O0 a b c.2.2.2.2 d
 Rh a b c.2.2.2.2 d
def Rj(a b:Array Keyed)(x:Keyed):StateT SortSt Sem (Array Keyed):=do
 let g <-get
 let r <-forIn [:a.size+b.size] ((Y,a.size-1,b.size,#[x],gallopOf g):HC) λ_ c=>Ri a b c
 match r.1 with
 |some r=>pure r
 |none=>liftM (unsupported "internal:list.sort.merge-bound":Sem (Array Keyed))
def O6(a b:Array Keyed):mI a b=(do
 liftM (rule "list.sort.merge-hi")
 let x <-elem' a (a.size-1)
 if(a.size-1==0)=I then pure (a.extract 0 (a.size-1)++b.extract++#[x].reverse)
 else if(b.size==1)=I then pure (b.extract++a.extract 0 (a.size-1)++#[x].reverse)
 else Rj a b x):=by
 refine congrArg (Bind.bind _) (funext λ_=>congrArg (Bind.bind _) (funext λx=>congrArg (λz=>ite _ _ (ite _ _ z)) ?_));have e:∀{α β:Type}{x y:StateT SortSt Sem α}{f h:α->StateT SortSt Sem β},x=y->(∀a,f a=h a)->(x >>= f)=(y >>= h):=λe f=>by rw[e,funext f]
 refine congrArg (Bind.bind _) (funext λg=>e (congrArg (forIn _ _) (funext λ_=>funext λc=>?_)) λ⟨r,_⟩=>by cases r<;>rfl);refine e rfl λd=>?_;obtain⟨i,j⟩:=d
 cases i with
 |some r=>rfl
 |none=>exact congrArg (Bind.bind _) (funext λ_=>e rfl λ⟨r,_⟩=>by cases r<;>rfl)
section
variable{prog:Program}{w:World}{A:Around}{E:Sh}{s:Shared}{kd:SortKind}{O:KeyOrd}{C:vu prog w A E s kd O}{st:SortSt}{a b:Array Keyed}
def GZ(C:vu prog w A E s kd O)(a b:Array Keyed)(N:Nat)(c:HS):Prop :=
 c.1=Y/\HI C a b c.2.2.2.1 c.2.1 c.2.2.1/\1<=c.2.1/\c.2.1<=a.size/\2<=c.2.2.1/\c.2.2.1<=b.size/\N<=c.2.2.2.1.size
def ot(C:vu prog w A E s kd O)(a b:Array Keyed)(N:Nat)(st:SortSt)(r:ForInStep HS)(f:SortSt):Prop:=Eqv st f/\match r with
 |.done c=>(∃x,c.1=J x/\MR C a b x)\/GZ C a b N c
 |.yield c=>GZ C a b N c
def uo(f:Aa C a b)(h:HI C a b ou m n)(L:1<=m)(F:m<=a.size)(G:2<=n)(i:n<=b.size)(hN:N<=ou.size)(j:∀p q,b[n-1]?=J p->a[m-1]?=J q->O.kle (C.key p) (C.key q)):wpS (model prog w) A E s (GX a b ou m n g ca cb) (ot C a b N st) st:=by
 refine wpS_bind (aP ⋯ λx y=>?_);have e:m=m-1+1:=by lia
 have u:HI C a b (ou.push x) (m-1) n:=by have l:=h;rw[e]at l;exact l.pushA f.sa f.sb y ⋯ i (λq B=>j q x B y)
 have H:(ou.push x).size=ou.size+1:=ED ..;by_cases z1:m-1=0
 .rw[b_ (by simpa using z1)];exact wpS_pure ⟨Eqv.rfl',.inl ⟨_,rfl,u.all f.sa f.sb (.inl z1)⟩⟩
 .rw[f_ (by simpa using z1)];have z:GZ C a b N (Y,m-1,n,ou.push x,g,ca,cb):=⟨rfl,u,⋯,⋯,G,i,⋯⟩;split
  .exact wpS_pure ⟨Eqv.rfl',.inr z⟩
  .exact wpS_pure ⟨Eqv.rfl',z⟩
def um(f:Aa C a b)(hk:kindOf st=kd)(h:HI C a b ou m n)(L:1<=m)(j:m<=a.size)(hn:2<=n)(ab:n<=b.size)(hN:N<=ou.size)(X:∀p q,a[m-1]?=J p->b[n-1]?=J q->O.kle (C.key p) (C.key q)):wpS (model prog w) A E s (GY a b ou m n g ca cb) (ot C a b N st) st:=by
 refine wpS_bind (aP ⋯ λx hx=>?_);have e:n=n-1+1:=by lia
 have P:HI C a b (ou.push x) m (n-1):=by have h':=h;rw[e]at h';exact h'.pushB f.sa f.sb hx L j (λq i=>X q x i hx)
 have ai:(ou.push x).size=ou.size+1:=ED ..;by_cases z1:n-1=1
 .rw[b_ (by simpa using z1)];exact wpS_pure ⟨Eqv.rfl',.inl ⟨_,rfl,P.one f z1⟩⟩
 .rw[f_ (by simpa using z1)];refine wpS_bind (aP ⋯ λy Q=>?_);refine wpS_bind (dw (C:=C) hk f.gb (bq f.ga Q) ⋯ ⋯ ?_ λz hz S Z=>?_)
  .intro p q l W i;exact kq f.sb p q (zL _) W ⋯
  .have u:∀r p q,r<z->b[r]?=J p->a[m-1]?=J q->O.kle (C.key p) (C.key q):=λr p q hr l i=>by
    have:=S r hr
    unfold h_ at this;rw[A2,aO l]at this;rw[Q]at i;cases i;exact KeyOrd.kle_of_klt this
   have F:∀r p q,z<=r->r<n-1->b[r]?=J p->a[m-1]?=J q->O.kle (C.key q) (C.key p):=λr p q H B l i=>by
    have:=Z r H B
    unfold h_ at this;rw[A2,aO l]at this;rw[Q]at i;cases i;exact this
   dsimp only;by_cases G:n-1-z>0
   .rw[b_ G];have ez:n-1-(n-1-z)=z:=by lia
    have M:=P.moveB f.sa f.sb ⋯ L j (n-1-z) ⋯ (λr p q H B=>F r p q ⋯ B);rw[ez]at M;by_cases U:z=1
    .rw[b_ (by simpa using U)];exact wpS_pure ⟨Eqv.rfl',.inl ⟨_,rfl,M.one f U⟩⟩
    .rw[f_ (by simpa using U)];by_cases R:z=0
     .rw[b_ (by simpa using R)];exact wpS_pure ⟨Eqv.rfl',.inl ⟨_,rfl,M.all f.sa f.sb (.inr R)⟩⟩
     .rw[f_ (by simpa using R)];exact uo f M L j ⋯ ⋯ (by rw[Jw];lia) (λp q l i=>u (z-1) p q ⋯ l i)
   .rw[f_ G];exact uo f P L j ⋯ ⋯ ⋯ (λp q l i=>u (n-1-1) p q ⋯ l i)
def uR(f:Aa C a b)(hk:kindOf st=kd)(h:HI C a b ou m n)(hm:1<=m)(F:m<=a.size)(X:2<=n)(y:n<=b.size)(hN:N<=ou.size):
  wpS (model prog w) A E s (C6 a b ou m n g ca cb) (ot C a b N st) st:=by
 unfold C6;refine wpS_bind (wpS_modify ?_);have Z:Eqv st (SortSt.mk' (kindOf st) (arrOf st) (pendingOf st) g (failedOf st)):=⟨rfl,rfl,rfl,rfl⟩;refine wpS_mono (Q:=ot C a b N (SortSt.mk' (kindOf st) (arrOf st) (pendingOf st) g (failedOf st))) ?_ λr ab h=>⟨Z.trans h.1,h.2⟩;have u:kindOf (SortSt.mk' (kindOf st) (arrOf st) (pendingOf st) g (failedOf st))=kd:=hk;refine wpS_bind (aP ⋯ λx M=>?_);refine wpS_bind (dw (C:=C) u f.ga (bq f.gb M) ⋯ ⋯ ?_ λz hz P W=>?_)
 .intro p q j S i;exact kq f.sa p q (zL _) S ⋯
 .have l:∀r p q,r<z->a[r]?=J p->b[n-1]?=J q->O.kle (C.key p) (C.key q):=λr p q hr j i=>by
   have:=P r hr
   unfold h_ at this;rw[A2,aO j]at this;rw[M]at i;cases i;simp only[qi,if_false,Jx]at this;exact this
  have G:∀r p q,z<=r->r<m->a[r]?=J p->b[n-1]?=J q->O.kle (C.key q) (C.key p):=λr p q L B j i=>by
   have:=W r L B
   unfold h_ at this;rw[A2,aO j]at this;rw[M]at i;cases i;simp only[qi,if_false,NU]at this;exact KeyOrd.kle_of_klt this
  dsimp only;by_cases H:m-z>0
  .rw[b_ H];have ez:m-(m-z)=z:=by lia
   have U:=h.moveA f.sa f.sb F ⋯ y (m-z) ⋯ (λr p q L B=>G r p q ⋯ B);rw[ez]at U;by_cases R:z=0
   .rw[b_ (by simpa using R)];exact wpS_pure ⟨Eqv.rfl',.inl ⟨_,rfl,U.all f.sa f.sb (.inl R)⟩⟩
   .rw[f_ (by simpa using R)];exact um f u U ⋯ ⋯ X y (by rw[Jw];lia) (λp q j i=>l (z-1) p q ⋯ j i)
  .rw[f_ H];exact um f u h hm F X y hN (λp q j i=>l (m-1) p q ⋯ j i)
def KL(C:vu prog w A E s kd O)(a b:Array Keyed)(N:Nat)(c:HB):Prop :=
 c.1=Y/\HI C a b c.2.2.2.1 c.2.1 c.2.2.1/\1<=c.2.1/\c.2.1<=a.size/\2<=c.2.2.1/\c.2.2.1<=b.size/\N<=c.2.2.2.1.size
def O7(C:vu prog w A E s kd O)(a b:Array Keyed)(N:Nat)(c:HC):Prop :=
 c.1=Y/\HI C a b c.2.2.2.1 c.2.1 c.2.2.1/\1<=c.2.1/\c.2.1<=a.size/\2<=c.2.2.1/\c.2.2.1<=b.size/\N<=c.2.2.2.1.size
def KN(C:vu prog w A E s kd O)(a b:Array Keyed)(N:Nat)(st:SortSt)(r:ForInStep HB)(f:SortSt):Prop:=match r with
 |.done c=>f=st/\((∃x,c.1=J x/\MR C a b x)\/KL C a b N c)
 |.yield c=>f=st/\KL C a b N c
def wo(C:vu prog w A E s kd O)(a b:Array Keyed)(N:Nat)(st:SortSt)(r:ForInStep HC)(f:SortSt):Prop:=match r with
 |.done c=>Eqv st f/\∃x,c.1=J x/\MR C a b x
 |.yield c=>Eqv st f/\O7 C a b N c
def G0(f:Aa C a b)(Q:kindOf st=kd)(L:HI C a b ou' m' n')(B:1<=m')(l:m'<=a.size)(H:2<=n')(u:n'<=b.size)(hN:N<=ou'.size):
  wpS (model prog w) A E s (O0 a b g (Y,m',n',ou',ca,cb)) (KN C a b (N+1) st) st:=by
 unfold O0;dsimp only;refine wpS_bind (aP ⋯ λp M=>wpS_bind (aP ⋯ λq P=>?_));refine wpS_bind (C.ask p q st _ (bq f.gb M) (bq f.ga P) Q ?_)
 cases R:O.blt (C.key p) (C.key q) with
 |true =>
  dsimp only;refine wpS_bind (aP ⋯ λU y=>?_);rw[P]at y;cases y;have em:m'=m'-1+1:=by lia
  have F:HI C a b (ou'.push q) (m'-1) n':=by have G:=L;rw[em]at G;exact G.pushA f.sa f.sb P ⋯ u (λW i=>by rw[M]at i;cases i;exact KeyOrd.kle_of_klt R)
  have j:(ou'.push q).size=ou'.size+1:=ED ..;by_cases z:m'-1=0
  .rw[b_ (by simpa using z)];exact wpS_pure ⟨rfl,.inl ⟨_,rfl,F.all f.sa f.sb (.inl z)⟩⟩
  .rw[f_ (by simpa using z)];split
   .exact wpS_pure ⟨rfl,.inr ⟨rfl,F,⋯,⋯,H,u,by rw[j];lia⟩⟩
   .exact wpS_pure ⟨rfl,rfl,F,⋯,⋯,H,u,by rw[j];lia⟩
 |false =>
  dsimp only;rw[f_ (by simp)];refine wpS_bind (aP ⋯ λW i=>?_);rw[M]at i;cases i;have S:n'=n'-1+1:=by lia
  have F:HI C a b (ou'.push p) m' (n'-1):=by have G:=L;rw[S]at G;exact G.pushB f.sa f.sb M B l (λU y=>by rw[P]at y;cases y;exact R)
  have j:(ou'.push p).size=ou'.size+1:=ED ..;by_cases z:n'-1=1
  .rw[b_ (by simpa using z)];exact wpS_pure ⟨rfl,.inl ⟨_,rfl,F.one f z⟩⟩
  .rw[f_ (by simpa using z)];split
   .exact wpS_pure ⟨rfl,.inr ⟨rfl,F,B,l,⋯,⋯,by rw[j];lia⟩⟩
   .exact wpS_pure ⟨rfl,rfl,F,B,l,⋯,⋯,by rw[j];lia⟩
def G1(j:Eqv zJ st)(i:(∃x,c.1=J x/\MR C a b x)\/GZ C a b N c):wpS (model prog w) A E s (Rg c) (wo C a b N zJ) st:=by
 obtain⟨H,B,G,l,F,u,z⟩:=c;rcases i with⟨r,f,y⟩|⟨i,f⟩
 .cases f;exact wpS_pure ⟨j,r,rfl,y⟩
 .cases i;exact wpS_bind (wpS_modify (wpS_pure ⟨j.trans ⟨rfl,rfl,rfl,rfl⟩,rfl,f⟩))
def G2(u:Aa C a b)(B:kindOf st=kd)(h:GZ C a b N c):wpS (model prog w) A E s (O5 a b c) (ot C a b N st) st:=by
 obtain⟨_,z,l,f,j,i,y⟩:=h;unfold O5;split
 .exact uR u B z l f j i y
 .exact uR u B z l f j i y
def G3(z:Aa C a b)(G:kindOf st=kd)(B:Eqv zJ st)(l:(∃x,c.1=J x/\MR C a b x)\/KL C a b N c):wpS (model prog w) A E s (Rh a b g c) (wo C a b N zJ) st:=by
 obtain⟨W,R,X,L,U,S⟩:=c;rcases l with⟨r,j,M⟩|⟨l,j⟩
 .cases j;exact wpS_pure ⟨B,r,rfl,M⟩
 .cases l;refine wpS_bind (wpS_lift (wpAny_rule ⟨rfl,?_⟩));refine wpS_bind (wpS_mono (wpS_forRange (I:=λy c i=>Eqv st i/\GZ C a b N c) (Q:=λc i=>Eqv st i/\((∃x,c.1=J x/\MR C a b x)\/GZ C a b N c)) ?_ ?_ ⟨Eqv.rfl',rfl,j⟩) ?_)
  .rintro y c i _ Z ⟨f,P⟩;refine wpS_mono (G2 z (f.kind.trans G) P) λr H j=>?_
   cases r with
   |done F=>exact⟨f.trans j.1,j.2⟩
   |yield F=>exact⟨f.trans j.1,j.2⟩
  .rintro c i ⟨f,u⟩;exact⟨f,.inr u⟩
  .rintro c i ⟨f,l⟩;exact G1 (B.trans f) l
def G4(i:Aa C a b)(R:kindOf st=kd)(h:O7 C a b N c):wpS (model prog w) A E s (Ri a b c) (wo C a b (N+1) st) st:=by
 obtain⟨M,hI,X,B,Z,u,L⟩:=h
 refine wpS_bind (wpS_mono (wpS_forRange (I:=λy c f=>f=st/\KL C a b (N+y) c)
  (Q:=λc f=>f=st/\((∃x,c.1=J x/\MR C a b x)\/KL C a b (N+1) c)) ?_ ?_ ⟨rfl,rfl,hI,X,B,Z,u,L⟩) ?_)
 .rintro y c f _ hy ⟨rfl,S⟩;obtain⟨M,H,P,j,G,l,z⟩:=S;refine wpS_mono (G0 i R H P j G l z) λr W F=>?_
  cases r with
  |done U=>exact⟨F.1,F.2.imp_right λh=>⟨h.1,h.2.1,h.2.2.1,h.2.2.2.1,h.2.2.2.2.1,h.2.2.2.2.2.1,ql ⋯ h.2.2.2.2.2.2⟩⟩
  |yield U=>exact F
 .rintro c f ⟨rfl,h⟩;exact⟨rfl,.inr ⟨h.1,h.2.1,h.2.2.1,h.2.2.2.1,h.2.2.2.2.1,h.2.2.2.2.2.1,ql ⋯ h.2.2.2.2.2.2⟩⟩
 .rintro c f ⟨rfl,M⟩;exact G3 i R Eqv.rfl' M
def G5(u:Aa C a b)(z:kindOf st=kd)(y:HI C a b #[x0] (a.size-1) b.size)(G:1<=a.size-1)(H:2<=b.size)(h:∀x f,Eqv st f->MR C a b x->Q x f):wpS (model prog w) A E s (Rj a b x0) Q st:=by
 refine wpS_bind (wpS_get ?_)
 refine wpS_bind (wpS_mono (wpS_forRange (I:=λx c f=>Eqv st f/\O7 C a b (x+1) c)
  (Q:=λc f=>Eqv st f/\∃x,c.1=J x/\MR C a b x) ?_ ?_ ⟨Eqv.rfl',rfl,y,G,Nat.sub_le _ _,H,jj _,jj _⟩) ?_)
 .rintro x c f _ M ⟨i,l⟩;refine wpS_mono (G4 u (i.kind.trans z) l) λr F j=>?_
  cases r with
  |done B=>exact⟨i.trans j.1,j.2⟩
  |yield B=>exact⟨i.trans j.1,j.2⟩
 .rintro c f ⟨i,l⟩;exfalso
  have:=l.2.1.size l.2.2.2.1 l.2.2.2.2.2.1
  have:=l.2.2.2.2.2.2
  lia
 .rintro c f ⟨i,r,j,L⟩;obtain⟨P,R⟩:=c;cases j;exact wpS_pure (h r f i L)
def G6(f:Aa C a b)(H:kindOf st=kd)(h:∀x i,Eqv st i->MR C a b x->Q x i):wpS (model prog w) A E s (mI a b) Q st:=by
 rw[O6];refine wpS_bind (wpS_lift (wpAny_rule ⟨rfl,?_⟩));have M:=f.na;have u:=f.nb;refine wpS_bind (aP ⋯ λB j=>?_)
 have P:HI C a b #[] a.size b.size:=⟨by
   have e1:a.toList.take a.size=a.toList:=Ey (by simp);have e2:b.toList.take b.size=b.toList:=Ey (by simp)
   rw[e1,e2];simp,by unfold LS;simp,λx _ y L=>by simp at L⟩
 have l:HI C a b #[B] (a.size-1) b.size:=by
  have e:a.size=a.size-1+1:=by lia
  have F:HI C a b #[] (a.size-1+1) b.size:=by rw[<-e];exact P
  have:=F.pushA f.sa f.sb j u (jj _) (λq G=>f.lst q B (AT.mpr ⟨_,by rw[BD];exact G⟩) j)
  simpa using this
 by_cases z1:a.size-1=0
 .rw[b_ (by simpa using z1)];exact wpS_pure (h _ st Eqv.rfl' (l.all f.sa f.sb (.inl z1)))
 .rw[f_ (by simpa using z1)];by_cases z:b.size=1
  .rw[b_ (by simpa using z)];exact wpS_pure (h _ st Eqv.rfl' (l.one f z))
  .rw[f_ (by simpa using z)];exact G5 f H l ⋯ ⋯ h
end
def tO(i:Nat):mergeAt' i=(do
 let c <-get
 let(J (sa,na,pw),J (sb,nb,_)):=((pendingOf c)[i]?,(pendingOf c)[i+1]?)|unsupported "internal:list.sort.pending"
 set (setPending c (((pendingOf c).setIfInBounds i (sa,na+nb,pw)).eraseIdxIfInBounds (i+1)))
 let J k <-gallop' T (<-elem' (arrOf c) sb) (arrOf c) sa na 0|return T
 let(sa,na):=(sa+k,na-k)
 if na==0 then return I
 let J nb <-gallop' I (<-elem' (arrOf c) (sa+na-1)) (arrOf c) sb nb (nb-1)|return T
 if nb==0 then return I
 let x:=(arrOf c).extract sa sb
 let y:=(arrOf c).extract sb (sb+nb)
 let f <-if na<=nb then nh x y else mI x y
 modify λc=>setArr c (f.toList.zipIdx.foldl (λa (p,j)=>a.setIfInBounds (sa+j) p) (arrOf c))
 return (failedOf (<-get)).isNone):=rfl
def C7(off:Nat):∀(l:List Keyed)(q:Nat)(xs:Array Keyed)(i:Nat),((l.zipIdx q).foldl (λa (p:Keyed×Nat)=>a.setIfInBounds (off+p.2) p.1) xs)[i]? =
  if off+q<=i/\i<off+q+l.length/\i<xs.size then l[i-(off+q)]? else xs[i]?:=by
 intro l
 induction l with
 |nil=>intro q xs i;rw[f_ (by simp;lia)];rfl
 |cons p l f =>
  intro q xs i;rw[NY,List.foldl_cons,f];simp only[Array.size_setIfInBounds]
  grind
def AK{xs ou:Array Keyed}{off:Nat}(h:off+ou.size<=xs.size):
  (ou.toList.zipIdx.foldl (λa (p:Keyed×Nat)=>a.setIfInBounds (off+p.2) p.1) xs).toList=xs.toList.take off++(ou.toList++xs.toList.drop (off+ou.size)):=by
 apply Fi;intro i;rw[BD,C7];have hl:(xs.toList.take off).length=off:=by simp;lia
 by_cases f:i<off
 .rw[f_ ⋯,p_ ⋯,Mp f,BD]
 .rw[AR ⋯,hl];by_cases j:i<off+ou.size
  .rw[b_ ⟨⋯,by simpa using j,⋯⟩,p_ (by simp;lia)];congr 1
  .rw[f_ (by simp;lia),AR (by simp;lia),NT,BD];congr 1;simp;lia
section
variable{prog:Program}{w:World}{A:Around}{E:Sh}{s:Shared}{kd:SortKind}{O:KeyOrd}{C:vu prog w A E s kd O}{a₀:Array Keyed}{st:SortSt}
def g7{xs:Array Keyed}{lo l i j:Nat}(h:tf C xs lo l)(f:lo<=i)(a:i<=j)(y:j<l){p q:Keyed}(u:xs[i]?=J p)(z:xs[j]?=J q):O.kle (C.key p) (C.key q):=by
 have:=h i j f a y
 rw[aO u,aO z]at this;exact this
def uI{xs:Array Keyed}{lo f:Nat}{p:Keyed}(j:f<=xs.size)(h:p∈(xs.extract lo f).toList):∃i,lo<=i/\i<f/\xs[i]?=J p:=by
 obtain⟨q,a⟩:=AT.mp h;rw[BD,NN]at a
 split at a
 .exact⟨lo+q,⋯,⋯,a⟩
 .cases a
def G7{xs:Array Keyed}{i j k:Nat}(l:i<=j)(u:j<=k)(y:k<=xs.size):xs.toList=xs.toList.take i++((xs.extract i j).toList++(xs.extract j k).toList++xs.toList.drop k):=by
 have e1:(xs.extract i j).toList=(xs.toList.drop i).take (j-i):=by simp
 have e2:(xs.extract j k).toList=(xs.toList.drop j).take (k-j):=by simp
 rw[e1,e2];have a:(xs.toList.drop j).take (k-j)++xs.toList.drop k=xs.toList.drop j:=by
  have:=Mq (k-j) (xs.toList.drop j)
  simp_all
 have f:(xs.toList.drop i).take (j-i)++xs.toList.drop j=xs.toList.drop i:=by
  have:=Mq (j-i) (xs.toList.drop i)
  rw[List.drop_drop]at this;have e:i+(j-i)=j:=by lia
  rw[e]at this;exact this
 rw[Cd,a,f,Mq]
def tT{n1 pw:Nat}{Q:Bool->SortSt->Prop}(h0:cy C a₀)(hB:SB kd a₀ st)(h1:1<=n1)(h2:n1<a₀.size)(hp:pendingOf st=#[(0,n1,pw),(n1,a₀.size-n1,0)])(G:tf C (arrOf st) 0 n1)(B:tf C (arrOf st) n1 a₀.size)(h:∀an,SB kd a₀ an->(pendingOf an).size=1->tf C (arrOf an) 0 a₀.size->Q I an):wpS (model prog w) A E s (mergeAt' 0) Q st:=by
 have b4:=hB.size;have hg:=hB.good h0;rw[tO];refine wpS_bind (wpS_get ?_);rw[hp];have e0:(#[(0,n1,pw),(n1,a₀.size-n1,0)]:Array (Nat×Nat×Nat))[0]?=J (0,n1,pw):=rfl;have e1:(#[(0,n1,pw),(n1,a₀.size-n1,0)]:Array (Nat×Nat×Nat))[0+1]?=J (n1,a₀.size-n1,0):=rfl;rw[e0,e1];dsimp only;refine wpS_bind ?_;have a3:∀(c:SortSt)(Q':PUnit->SortSt->Prop),Q' ⟨⟩ c->wpS (model prog w) A E s (set c:StateT SortSt Sem PUnit) Q' st:=λc Q' hq=>by
  unfold wpS;rw[StateT.run_set];exact ln ⟨rfl,hq⟩
 refine a3 _ _ ?_;obtain⟨M,H⟩:∃c,c=setPending st (((#[(0,n1,pw),(n1,a₀.size-n1,0)]:Array (Nat×Nat×Nat)).setIfInBounds 0 (0,n1+(a₀.size-n1),pw)).eraseIdxIfInBounds (0+1)):=⟨_,rfl⟩;rw[<-H];have F:SB kd a₀ M:=by rw[H];exact⟨hB.perm,hB.kind,hB.failed⟩
 have ax:(pendingOf M).size=1:=by rw[H];simp[pendingOf]
 have a5:arrOf M=arrOf st:=by rw[H]
 clear H;have X:tf C (arrOf st) 0 n1->tf C (arrOf st) n1 a₀.size->(∀i j,i<n1->n1<=j->j<a₀.size->O.kle (kk C (arrOf st) i) (kk C (arrOf st) j))->tf C (arrOf M) 0 a₀.size:=by
  intro g1 g2 g3 i j _ a2 R;rw[a5];by_cases c1:j<n1
  .exact g1 i j (zL _) a2 c1
  .by_cases c2:i<n1
   .exact g3 i j c2 ⋯ R
   .exact g2 i j ⋯ a2 R
 refine wpS_bind (aP ⋯ λb0 Z=>?_);refine wpS_bind (dw (C:=C) F.kind hg (bq hg Z) ⋯ ⋯ (by rw[A2];exact G) λk hk b2 bv=>?_);have S:∀r p,r<k->(arrOf st)[r]?=J p->O.kle (C.key p) (C.key b0):=λr p hr f=>by
  have:=b2 r hr
  unfold h_ at this;rw[A2,aO f]at this;simp only[qi,if_false,Jx]at this;exact this
 have a9:∀r p,k<=r->r<n1->(arrOf st)[r]?=J p->O.kle (C.key b0) (C.key p):=λr p ay ar f=>by
  have:=bv r ay ar
  unfold h_ at this;rw[A2,aO f]at this;simp only[qi,if_false,NU]at this;exact KeyOrd.kle_of_klt this
 dsimp only;rw[A2];have P:∀i,i<a₀.size->∃p,(arrOf st)[i]?=J p:=λi z=>⟨_,getElem?_pos _ i ⋯⟩;by_cases z1:n1-k=0
 .rw[b_ (by simpa using z1)];refine wpS_pure (h M F ax (X G B λi j z a4 ab=>?_));obtain⟨p,f⟩:=P i ⋯;obtain⟨q,u⟩:=P j ab;rw[aO f,aO u];exact KeyOrd.kle_trans (S i p ⋯ f) (g7 B (jj _) a4 ab Z u)
 .rw[f_ (by simpa using z1)];have ez:k+(n1-k)-1=n1-1:=by lia
  rw[ez];refine wpS_bind (aP ⋯ λal ai=>?_);refine wpS_bind (dw (C:=C) F.kind hg (bq hg ai) ⋯ ⋯ (by have e:n1+(a₀.size-n1)=a₀.size:=⋯;rw[e];exact B) λm hm a8 a7=>?_);have as:∀r p,n1<=r->r<n1+m->(arrOf st)[r]?=J p->O.kle (C.key p) (C.key al):=λr p ay ar f=>by
   have:=a8 (r-n1) ⋯
   have e:n1+(r-n1)=r:=by lia
   unfold h_ at this;rw[e,aO f]at this;exact KeyOrd.kle_of_klt this
  have W:∀r p,n1+m<=r->r<a₀.size->(arrOf st)[r]?=J p->O.kle (C.key al) (C.key p):=λr p ay ar f=>by
   have:=a7 (r-n1) ⋯ ⋯
   have e:n1+(r-n1)=r:=by lia
   unfold h_ at this;rw[e,aO f]at this;exact this
  dsimp only;by_cases z2:m=0
  .rw[b_ (by simpa using z2)];refine wpS_pure (h M F ax (X G B λi j z a4 ab=>?_));obtain⟨p,f⟩:=P i ⋯;obtain⟨q,u⟩:=P j ab;rw[aO f,aO u];exact KeyOrd.kle_trans (g7 G (zL _) ⋯ ⋯ f ai) (W j q ⋯ ab u)
  .rw[f_ (by simpa using z2)];have sx:((arrOf st).extract k n1).size=n1-k:=by simp;lia
   have sy:((arrOf st).extract n1 (n1+m)).size=m:=by simp;lia
   have gx:∀r,r<n1-k->((arrOf st).extract k n1)[r]?=(arrOf st)[k+r]?:=λr hr=>by rw[NN,b_ ⋯]
   have gy:∀r,r<m->((arrOf st).extract n1 (n1+m))[r]?=(arrOf st)[n1+r]?:=λr hr=>by rw[NN,b_ ⋯]
   have ap:∀p,p∈((arrOf st).extract k n1).toList->∃i,k<=i/\i<n1/\(arrOf st)[i]?=J p:=λp f=>uI ⋯ f;have U:∀p,p∈((arrOf st).extract n1 (n1+m)).toList->∃i,n1<=i/\i<n1+m/\(arrOf st)[i]?=J p:=λp f=>uI ⋯ f;have a0:Aa C ((arrOf st).extract k n1) ((arrOf st).extract n1 (n1+m)):=by
    refine⟨λp f=>?_,λp f=>?_,nK ⋯ λi j a b c=>G i j (zL _) b c,nK ⋯ λi j a b c=>B i j a b ⋯,⋯,⋯,?_,?_⟩
    .obtain⟨i,_,_,z⟩:=ap p f;exact bq hg z
    .obtain⟨i,_,_,z⟩:=U p f;exact bq hg z
    .intro p q f u;rw[gy 0 ⋯]at f;rw[gx 0 ⋯]at u;have e:(arrOf st)[n1+0]?=J b0:=Z;rw[e]at f;cases f;exact a9 (k+0) q ⋯ ⋯ u
    .intro x q hx u;obtain⟨i,i1,i2,z⟩:=U x hx;rw[sx,gx _ ⋯]at u;have e:k+(n1-k-1)=n1-1:=by lia
     rw[e,ai]at u;cases u;exact as i x i1 i2 z
   have fin:∀L l,Eqv M l->MR C ((arrOf st).extract k n1) ((arrOf st).extract n1 (n1+m)) L ->
     wpS (model prog w) A E s (do
      modify λc=>setArr c (L.toList.zipIdx.foldl (λa (p:Keyed×Nat)=>a.setIfInBounds (k+p.2) p.1) (arrOf c))
      return (failedOf (<-get)).isNone) Q l:=by
    intro L l ev mr;refine wpS_bind (wpS_modify ?_);refine wpS_bind (wpS_get (wpS_pure ?_));have ea:arrOf l=arrOf st:=ev.arr.trans a5;have so:L.size=n1-k+m:=by
     have:=mr.1.length_eq
     rw[IR,Br,IR,IR,sx,sy]at this;exact this
    have hl:=AK (xs:=arrOf l) (ou:=L) (off:=k) (by rw[ea];lia);have eo:k+L.size=n1+m:=by lia
    rw[eo,ea]at hl;have b1:=G7 (xs:=arrOf st) (i:=k) (j:=n1) (k:=n1+m) ⋯ ⋯ ⋯;have bm:(failedOf (setArr l (L.toList.zipIdx.foldl (λa (p:Keyed×Nat)=>a.setIfInBounds (k+p.2) p.1) (arrOf l)))).isNone=I:=by show(failedOf l).isNone=I;rw[ev.failed,F.failed];rfl
    rw[bm];have b3:LS C (L.toList.zipIdx.foldl (λa (p:Keyed×Nat)=>a.setIfInBounds (k+p.2) p.1) (arrOf l)).toList:=by
     rw[ea,hl];have mo:∀p,p∈L.toList->(∃i,k<=i/\i<n1/\(arrOf st)[i]?=J p)\/(∃i,n1<=i/\i<n1+m/\(arrOf st)[i]?=J p):=λp f =>
      (tr.mp (mr.1.mem_iff.mp f)).imp (ap p) (U p)
     have mt:∀p,p∈(arrOf st).toList.take k->∃i,i<k/\(arrOf st)[i]?=J p:=λp f=>by
      obtain⟨i,z⟩:=AT.mp f;by_cases c:i<k
      .rw[Mp c,BD]at z;exact⟨i,c,z⟩
      .rw[BC (by simp;lia)]at z;cases z
     have md:∀p,p∈(arrOf st).toList.drop (n1+m)->∃i,n1+m<=i/\i<a₀.size/\(arrOf st)[i]?=J p:=λp f=>by
      obtain⟨i,z⟩:=AT.mp f;rw[NT,BD]at z
      have:=(Jo.mp z).1
      exact⟨n1+m+i,⋯,⋯,z⟩
     refine bY ?_ (bY mr.2 ?_ ?_) ?_
     .have:=nK (C:=C) (xs:=arrOf st) (lo:=0) (hi:=k) ⋯ λi j a b c=>G i j a b ⋯
      rw[mF]at this;exact this
     .have:=nK (C:=C) (xs:=arrOf st) (lo:=n1+m) (hi:=(arrOf st).size) (jj _) λi j a b c=>B i j ⋯ b ⋯
      rw[ib]at this;exact this
     .intro x hx y hy;obtain⟨j,j1,j2,R⟩:=md y hy;rcases mo x hx with⟨i,i1,i2,z⟩|⟨i,i1,i2,z⟩
      .exact KeyOrd.kle_trans (g7 G (zL _) ⋯ ⋯ z ai) (W j y j1 j2 R)
      .exact g7 B i1 ⋯ j2 z R
     .intro x hx y hy;obtain⟨i,i1,z⟩:=mt x hx;rcases tr.mp hy with hy|hy
      .rcases mo y hy with⟨j,j1,j2,R⟩|⟨j,j1,j2,R⟩
       .exact g7 G (zL _) ⋯ j2 z R
       .exact KeyOrd.kle_trans (S i x i1 z) (g7 B (jj _) j1 ⋯ Z R)
      .obtain⟨j,j1,j2,R⟩:=md y hy;exact KeyOrd.kle_trans (S i x i1 z) (g7 B (jj _) ⋯ j2 Z R)
    have a1:(L.toList.zipIdx.foldl (λa (p:Keyed×Nat)=>a.setIfInBounds (k+p.2) p.1) (arrOf l)).Perm (arrOf st):=by rw[NK,ea,hl];refine List.Perm.trans ?_ (List.Perm.of_eq b1.symm);exact List.Perm.append_left _ (List.Perm.append_right _ mr.1)
    refine h _ ⟨a1.trans hB.perm,ev.kind.trans F.kind,ev.failed.trans F.failed⟩ ?_ ?_
    .show (pendingOf l).size=1;rw[ev.pend];exact ax
    .have:=kq b3
     have e2:(L.toList.zipIdx.foldl (λa (p:Keyed×Nat)=>a.setIfInBounds (k+p.2) p.1) (arrOf l)).size=a₀.size:=(a1.trans hB.perm).size_eq;rw[e2]at this;exact this
   by_cases a6:n1-k<=m
   .rw[b_ a6];refine wpS_bind (GW a0 F.kind λL l ev mr=>?_);exact fin L l ev mr
   .rw[f_ a6];refine wpS_bind (G6 a0 F.kind λL l ev mr=>?_);exact fin L l ev mr
end
def sQ(a:2<=n)(h:n<64):minRun' n n 0=n:=by
 obtain⟨f,hf⟩:∃f,n=f+1:=⟨n-1,⋯⟩
 have:minRun' (f+1) n 0=n+0:=by rw[minRun'_succ,b_ h]
 rw[<-hf]at this;exact this
def yo(a:2<=n)(h:n<=66):1<=minRun' n n 0/\minRun' n n 0<=n/\n<=2*minRun' n n 0:=by
 by_cases c:n<64
 .rw[sQ a c];lia
 .have:n=64\/n=65\/n=66:=by lia
  rcases this with e|e | e<;>subst e
  .have:minRun' 64 64 0=32:=by decide
   rw[this];lia
  .have:minRun' 65 65 0=33:=by decide
   rw[this];lia
  .have:minRun' 66 66 0=33:=by decide
   rw[this];lia
section
variable{prog:Program}{w:World}{A:Around}{E:Sh}{s:Shared}{kd:SortKind}{O:KeyOrd}{C:vu prog w A E s kd O}{a₀:Array Keyed}{st:SortSt}
def One(C:vu prog w A E s kd O)(a₀:Array Keyed)(f a:Nat)(st:SortSt):Prop:=SB kd a₀ st/\pendingOf st=#[(0,a,0)]/\f<=a/\a<=a₀.size/\tf C (arrOf st) 0 a
def KO(C:vu prog w A E s kd O)(a₀:Array Keyed)(a:Nat)(st:SortSt):Prop :=
 SB kd a₀ st/\1<=a/\a<a₀.size/\(∃f,pendingOf st=#[(0,a,f),(a,a₀.size-a,0)])/\tf C (arrOf st) 0 a/\tf C (arrOf st) a a₀.size
def qZ{xs ys:Array Keyed}{p lo l:Nat}(h:cB p xs ys)(y:l<=p)(g:tf C xs lo l):tf C ys lo l:=by intro i j f a u;rw[dX (h i ⋯),dX (h j ⋯)];exact g i j f a u
def zW(h0:cy C a₀)(hB:SB kd a₀ st)(a3:pendingOf st=#[])(h2:2<=a₀.size)(an:a₀.size<=66)(h:∀i,(arrOf i).Perm a₀->failedOf i=Y->tf C (arrOf i) 0 a₀.size->Q () i):wpS (model prog w) A E s sortRuns' Q st:=by
 obtain⟨m1,m2,m3⟩:=yo h2 an;rw[sortRuns'_eq];refine wpS_bind (wpS_get ?_);dsimp only;rw[hB.size];generalize minRun' a₀.size a₀.size 0=mr at m1 m2 m3 ⊢
 refine wpS_bind (wpS_mono (wpS_forRange
  (I:=λx c i=>(x=0/\c=(Y,0)/\SB kd a₀ i/\pendingOf i=#[])\/(x=1/\∃f,c=(Y,f)/\One C a₀ mr f i)\/(2<=x/\c=(Y,a₀.size)/\∃f,KO C a₀ f i))
  (Q:=λc i=>c=(Y,a₀.size)/\(One C a₀ mr a₀.size i\/∃f,KO C a₀ f i)) ?_ ?_ (.inl ⟨rfl,rfl,hB,a3⟩)) ?_)
 .rintro x c i _ hx (⟨rfl,rfl,z,j⟩|⟨rfl,f,rfl,z,j,a2,a0,S⟩|⟨a5,rfl,f,U⟩)
  .rw[f_ ⋯];simp only[Nat.sub_zero,A2];refine wpS_bind (ug (p:=0) h0 ⋯ ⋯ z λm F u _ H ay a1 G=>?_);rw[A2]at G;dsimp only;by_cases R:m<mr
   .rw[b_ R];refine wpS_bind (wpS_lift (wpAny_rule ⟨rfl,?_⟩));refine wpS_bind (uX (p:=0) h0 ⋯ ⋯ u (by rw[A2];exact G) λB L _ M P=>?_);simp only[B6,qi,if_false];refine wpS_bind (wpS_get ?_);have U:(pendingOf B).back?=Y:=by rw[M,H,j];rfl
    rw[U];dsimp only;refine wpS_bind (wpS_modify (wpS_pure (.inr (.inl ⟨trivial,_,rfl,⟨L.perm,L.kind,L.failed⟩,?_,⋯,⋯,?_⟩))))
    .show (pendingOf B).push _=_;rw[M,H,j];rfl
    .rw[A2]at P;exact P
   .rw[f_ R];refine wpS_bind (wpS_get ?_);have U:(pendingOf F).back?=Y:=by rw[H,j];rfl
    rw[U];dsimp only;refine wpS_bind (wpS_modify (wpS_pure (.inr (.inl ⟨trivial,_,rfl,⟨u.perm,u.kind,u.failed⟩,?_,⋯,⋯,G⟩))));show(pendingOf F).push _=_;rw[H,j];rfl
  .dsimp only;by_cases W:f>=a₀.size
   .rw[b_ W];have e:f=a₀.size:=by lia
    subst e;exact wpS_pure ⟨rfl,.inl ⟨z,j,a2,a0,S⟩⟩
   .rw[f_ W];have as:a₀.size-f<=mr:=by lia
    refine wpS_bind (ug (p:=f) h0 ⋯ ⋯ z λm F u al H ay a1 G=>?_);dsimp only;by_cases R:m<mr
    .rw[b_ R];refine wpS_bind (wpS_lift (wpAny_rule ⟨rfl,?_⟩));have em:min (a₀.size-f) mr=a₀.size-f:=by lia
     rw[em];refine wpS_bind (uX (p:=f) h0 ⋯ ⋯ u G λB L ai M P=>?_);simp only[B6,qi,if_false];refine wpS_bind (wpS_get ?_);have Z:pendingOf B=#[(0,f,0)]:=by rw[M,H,j]
     have U:(pendingOf B).back?=J (0,f,0):=by rw[Z];rfl
     rw[U];dsimp only;refine wpS_bind (wpS_mono (wpS_forRange (I:=λ_ c l=>c=(Y,())/\l=B) (Q:=λc l=>c=(Y,())/\l=B) ?_ (λ_ _ hh=>hh) ⟨rfl,rfl⟩) ?_)
     .rintro y c l _ _ ⟨rfl,rfl⟩;refine wpS_bind (wpS_get ?_);rw[Z];exact wpS_pure ⟨rfl,rfl⟩
     .rintro c l ⟨rfl,rfl⟩;dsimp only;refine wpS_bind (wpS_modify (wpS_bind (wpS_modify (wpS_pure (.inr (.inr ⟨⋯,?_,f,⟨L.perm,L.kind,L.failed⟩,⋯,⋯,⟨power' a₀.size (2*0+f) (2*0+f+f+(a₀.size-f)) a₀.size,?_⟩,(qZ (al.trans ai) (jj _) S),(by have e:f+(a₀.size-f)=a₀.size:=⋯;rw[e]at P;exact P)⟩))))))
      .have e:f+(a₀.size-f)=a₀.size:=by lia
       rw[e]
      .show ((pendingOf l).modify _ _).push _=_;rw[Z];simp
    .rw[f_ R];have em:m=a₀.size-f:=by lia
     subst em;refine wpS_bind (wpS_get ?_);have ab:pendingOf F=#[(0,f,0)]:=by rw[H,j]
     have U:(pendingOf F).back?=J (0,f,0):=by rw[ab];rfl
     rw[U];dsimp only;refine wpS_bind (wpS_mono (wpS_forRange (I:=λ_ c l=>c=(Y,())/\l=F) (Q:=λc l=>c=(Y,())/\l=F) ?_ (λ_ _ hh=>hh) ⟨rfl,rfl⟩) ?_)
     .rintro y c l _ _ ⟨rfl,rfl⟩;refine wpS_bind (wpS_get ?_);rw[ab];exact wpS_pure ⟨rfl,rfl⟩
     .rintro c l ⟨rfl,rfl⟩;dsimp only;refine wpS_bind (wpS_modify (wpS_bind (wpS_modify (wpS_pure (.inr (.inr ⟨⋯,?_,f,⟨u.perm,u.kind,u.failed⟩,⋯,⋯,⟨power' a₀.size (2*0+f) (2*0+f+f+(a₀.size-f)) a₀.size,?_⟩,(qZ al (jj _) S),(by have e:f+(a₀.size-f)=a₀.size:=⋯;rw[e]at G;exact G)⟩))))))
      .have e:f+(a₀.size-f)=a₀.size:=by lia
       rw[e]
      .show ((pendingOf l).modify _ _).push _=_;rw[ab];simp
  .dsimp only;rw[b_ (jj _)];exact wpS_pure ⟨rfl,.inr ⟨f,U⟩⟩
 .rintro c i (⟨hx,_⟩|⟨hx,_⟩|⟨_,hc,U⟩)
  .lia
  .lia
  .exact⟨hc,.inr U⟩
 .rintro c i ⟨rfl,hc⟩;dsimp only;rcases hc with⟨z,j,_,_,S⟩|⟨f,z,ax,n12,⟨pw,j⟩,ap,ar⟩
  .refine wpS_bind (wpS_mono (wpS_forRange (I:=λ_ c a=>a=i/\c=(Y,())) (Q:=λc a=>a=i/\c=(Y,())) ?_ (λ_ _ hh=>hh) ⟨rfl,rfl⟩) ?_)
   .rintro x c a _ _ ⟨rfl,rfl⟩;refine wpS_bind (wpS_get ?_);rw[b_ (by rw[j];exact jj 1)];exact wpS_pure ⟨rfl,rfl⟩
   .rintro c a ⟨rfl,rfl⟩;exact wpS_pure (h _ z.perm z.failed S)
  .refine wpS_bind (wpS_mono (wpS_forRange (I:=λx c a=>c=(Y,())/\((x=0/\a=i)\/(1<=x/\SB kd a₀ a/\(pendingOf a).size=1/\tf C (arrOf a) 0 a₀.size)))
    (Q:=λc a=>c=(Y,())/\SB kd a₀ a/\tf C (arrOf a) 0 a₀.size) ?_ ?_ ⟨rfl,.inl ⟨rfl,rfl⟩⟩) ?_)
   .rintro x c a _ _ ⟨rfl,X⟩;rcases X with⟨rfl,rfl⟩|⟨a4,b1,b2,b3⟩
    .refine wpS_bind (wpS_get ?_);rw[f_ (by rw[j];simp)];rw[j];refine wpS_bind (tT (n1:=f) (pw:=pw) h0 z ax n12 j ap ar λB c1 c2 c3=>?_);simp only[B6,qi,if_false];exact wpS_pure ⟨rfl,.inr ⟨⋯,c1,c2,c3⟩⟩
    .refine wpS_bind (wpS_get ?_);rw[b_ (by rw[b2];exact jj 1)];exact wpS_pure ⟨rfl,b1,b3⟩
   .rintro c a ⟨rfl,⟨hx,_⟩|⟨_,b1,_,b3⟩⟩
    .lia
    .exact⟨rfl,b1,b3⟩
   .rintro c a ⟨rfl,b1,b3⟩;exact wpS_pure (h _ b1.perm b1.failed b3)
end
end SortT
namespace SortT
open PyProof.Rows SetT PySem.W
def bO:SS->SS->Bool
 |[],[]=>T
 |[],_::_=>I
 |_::_,[]=>T
 |a::x,b::y=>if a=b then bO x y else decide (a<b)
def mw:∀x,bO x x=T
 |[]=>rfl
 |a::x=>by unfold bO;rw[b_ rfl];exact mw x
def nU:∀x y z,bO x y=I->bO y z=I->bO x z=I
 |[],_::_,_::_,_,_=>rfl
 |a::x,b::y,c::z,i,f=>by
  unfold bO at i f ⊢;by_cases e1:a=b
  .rw[b_ e1]at i;by_cases e2:b=c
   .rw[b_ e2]at f;rw[b_ (e1.trans e2)];exact nU x y z i f
   .rw[f_ e2]at f;rw[f_ (λq=>e2 (e1.symm.trans q)),e1];exact f
  .grind
def sB:∀x y z,bO x z=I->bO x y=I\/bO y z=I
 |[],[],_::_,_=>.inr rfl
 |[],_::_,_,_=>.inl rfl
 |_::_,[],_::_,_=>.inr rfl
 |a::x,b::y,c::z,h=>by
  unfold bO at h ⊢;by_cases e1:a=b
  .rw[b_ e1];by_cases e2:b=c
   .rw[b_ e2];rw[b_ (e1.trans e2)]at h;exact sB x y z h
   .rw[f_ (λq=>e2 (e1.symm.trans q)),e1]at h;rw[f_ e2];exact .inr h
  .grind
def jK:∀x y,bO x y=T->bO y x=T->x=y
 |[],[],_,_=>rfl
 |a::x,b::y,f,i=>by
  unfold bO at f i;by_cases e:a=b
  .rw[b_ e]at f;rw[b_ e.symm]at i;rw[e,jK x y f i]
  .rw[f_ e]at f;rw[f_ (λq=>e q.symm)]at i
   grind
def C9:KeyOrd:=⟨SS,bO,mw,nU,sB,jK⟩
def C_(l:SU):Prop:=l.Pairwise λx y=>bO y x=T
section
variable{prog:Program}{w:World}{A:Around}{E:Sh}{s:Shared}
def sw(prog:Program)(w:World)(h:Heap)(v:Value):SS:=Classical.epsilon λk=>∃a,v=.ref a/\TK prog w h k a
def gB(t:TK prog w h k a):sw prog w h (.ref a)=k:=by
 have:=Classical.epsilon_spec (p:=λk=>∃b,Value.ref a=.ref b/\TK prog w h k b) ⟨k,a,rfl,t⟩
 obtain⟨b,e,f⟩:=this;cases e;exact IsTupleKey.inj f t
def G8:∀(xs ys:SA)(f ky:SS)(i:Nat),ItemsAre (intKind prog w) f xs->ItemsAre (intKind prog w) ky ys->fin=decide (xs.length<ys.length)->Q (bO f ky) s ->
  KatLex prog w A b fin Q (xs.zip ys) i s:=by
 intro xs
 induction xs with
 |nil =>
  intro ys f ky i C F hf a;cases C
  cases F with
  |nil=>rw[hf];exact a
  |cons L M=>rw[hf];exact a
 |cons x xs O =>
  intro ys f ky i C F hf a
  cases C with
  |@cons l _ G _ L H =>
   cases F with
   |nil=>rw[hf];exact a
   |@cons j y z u M B =>
    obtain⟨R,rfl⟩:=Value.isInt_shape (k:=l) (v:=x) L;obtain⟨P,rfl⟩:=Value.isInt_shape (k:=j) (v:=y) M;refine kat_cons (wpAny_eqBool_int ?_);unfold bO at a;by_cases e:l=j
    .rw[b_ e]at a
     have:(l==j)=I:=by simpa using e
     rw[this];exact kat_yes (O u G z (i+1) H B (by rw[hf];simp) a)
    .rw[f_ e]at a
     have:(l==j)=T:=by simpa using e
     rw[this];refine kat_no ?_
     cases S:(b&&i==0) with
     |true=>exact oneLt_int a
     |false=>exact kat_one _ _ (wpAny_lt_int a)
def KP(prog:Program)(w:World)(A:Around)(E:Sh)(s:Shared)(b:Bool):vu prog w A E s (tuples' b) C9 where
 key:=λp=>sw prog w s.heap p.1
 dflt:=([]:SS)
 good:=λp=>∃a k,p.1=.ref a/\TK prog w s.heap k a
 ask:=λx y st Q O P M L=>by
  obtain⟨W,x2⟩:=x;obtain⟨Z,X⟩:=y;obtain⟨S,B,ex,F⟩:=O;obtain⟨G,ky,C,ty⟩:=P;simp only at ex C;subst ex;subst C;have R:Q (J (bO B ky)) st:=by
   have H:=gB F;have U:=gB ty;have e:C9.blt (sw prog w s.heap (.ref S)) (sw prog w s.heap (.ref G))=bO B ky:=by rw[H,U];rfl
   rw[<-e];exact L
  obtain⟨ox,ix,nx,l,_,j,u⟩:=F;obtain⟨oy,iy,ny,i,_,z,f⟩:=ty;rw[lt'_eq];refine wpS_bind (wpS_get ?_);rw[M];refine wpS_bind (wpS_lift (wpAny_attempt (kat_lt l j i z (G8 _ _ _ _ _ u f (by simp) ⟨rfl,?_⟩))));exact wpS_pure R
def rZ{C:SA}{G:SU}{Q:SortKind->Shared->Prop}(S:C1 prog w s.heap C.toArray G)(H:∀k∈G,k≠[])(h1:0<C.length)(h:Q (tuples' I) s):
  wpAny (model prog w) A (keyKind' C.toArray) Q E s:=by
 have B:C.length=G.length:=by have:=S.1;simpa using this
 have key:∀(z:SA)(j:SU),z.length=j.length->(∀(i:Nat)(v:Value)(k:SS),z[i]?=J v->j[i]?=J k->∃a,v=.ref a/\TK prog w s.heap k a)->(∀k∈j,k≠[]) ->
   ∃fs:SA,fs.length=z.length/\KatTups s.heap z fs/\∀v∈fs,∃i t,v=.int i t:=by
  intro z
  induction z with
  |nil=>intro j _ _ _;exact⟨[],rfl,KatTups.nil,λv hv=>by cases hv⟩
  |cons u z Z =>
   intro j hl y W
   cases j with
   |nil=>simp at hl
   |cons k j =>
    obtain⟨a,rfl,o,items,n,ho,hc,hd,hi⟩:=y 0 u k rfl rfl;obtain⟨fs,R,P,O⟩:=Z j (by simpa using hl) (λi v M hv f=>y (i+1) v M (by simpa using hv) (by simpa using f)) (λM f=>W M (n_ _ f))
    cases k with
    |nil=>exact absurd rfl (W [] Bq)
    |cons X kr =>
     have F:=hi;generalize L:items.toList=l at F
     cases F with
     |@cons _ v0 _ vr h0 hr =>
      obtain⟨U,rfl⟩:=Value.isInt_shape h0;have hg:items[0]?=J (.int X U):=by rw[<-BD,L];rfl
      refine⟨.int X U::fs,by simp[R],KatTups.cons ho hc hd hg P,λv hv=>?_⟩;rcases pu.mp hv with rfl|hv
      .exact⟨_,_,rfl⟩
      .exact O v hv
 obtain⟨fs,R,P,O⟩:=key C G B (λi v k hv f=>S.2 i v k (by simpa using hv) f) H;refine kat_kind (T:=.type "int") P ⋯ (λv hv=>?_) (by decide) ?_
 .obtain⟨i,t,rfl⟩:=O v hv;exact .now
 .exact h
def xp(ho:s.heap.get? a=J (seqObj "list" vs.toArray n))(G:C1 prog w s.heap vs.toArray z)(an:∀k∈z,k≠[])(a0:vs.length<=66)(h:∀(R:SA) (O:SU),C1 prog w s.heap R.toArray O->R.Perm vs->O.Perm z->C_ O->P (.done (.ret .none)) { s with heap:=sortedHeap s.heap a vs R.toArray}):
  wpAny (model prog w) A (Builtin.«list.sort» ⟨[.ref a],[]⟩) P E s:=by
 rw[list_sort_plain];have F:vs.length<=sizeLine:=by rw[sizeLine_eq];lia
 refine hH (listItems_at ho rfl ?_);refine hH (listUpdate_at ho rfl ?_ (by rw[q7];exact F) (zL _));obtain⟨e1,W⟩:∃e1,(s.heap.update a (Obj.mapSeq λ_=>(#[]:Array Value))).get? a=J (seqObj "list" #[] e1):=⟨_,get?_update_seq ho λ_=>#[]⟩;refine hH (seqEpoch_at W rfl ?_);refine hH (wpAny_newTuple ?_ (by show vs.length<=_;exact F));refine hH (wpAny_newList ?_ (zL _));refine wpAny_holding ?_;have H:(((s.heap.update a (Obj.mapSeq λ_=>(#[]:Array Value))).push (seqObj "tuple" vs.toArray 0)).push (seqObj "list" #[] 0)).get? a=J (seqObj "list" #[] e1) :=
  mx _ (mx _ W)
 have U:∀k b,TK prog w s.heap k b->TK prog w (((s.heap.update a (Obj.mapSeq λ_=>(#[]:Array Value))).push (seqObj "tuple" vs.toArray 0)).push (seqObj "list" #[] 0)) k b:=by
  rintro k b ⟨o,items,m,hb,hc,r⟩;have ai:b≠a:=by rintro rfl;rw[ho]at hb;cases hb;have ar:Value.type "list"=Value.type "tuple":=hc;exact absurd ar (by decide)
  exact⟨o,items,m,mx _ (mx _ ((Jt _ _ _ _ ai).trans hb)),hc,r⟩
 show wpAny (model prog w) A _ P E { s with heap:=((s.heap.update a (Obj.mapSeq λ_=>(#[]:Array Value))).push (seqObj "tuple" vs.toArray 0)).push (seqObj "list" #[] 0)};have X:C1 prog w (((s.heap.update a (Obj.mapSeq λ_=>(#[]:Array Value))).push (seqObj "tuple" vs.toArray 0)).push (seqObj "list" #[] 0)) vs.toArray z :=
  ⟨G.1,λi v k hv l=>let⟨b,e,t⟩:=G.2 i v k hv l;⟨b,e,U k b t⟩⟩
 have as:vs.toArray.size=vs.length:=by simp
 dsimp only;by_cases h2:vs.toArray.size<2
 .rw[b_ h2,b_ h2];refine hH (ln ?_);rw[StateT.run_pure];refine hH (ln ?_);dsimp only;refine hH (seqEpoch_at H rfl ?_);have hz:((vs.toArray.zip vs.toArray).map (·.2))=vs.toArray:=by
   apply EB.mp;simp only[Array.toList_map,Array.toList_zip,List.toList_toArray];exact List.map_snd_zip (jj _)
  refine hH (listUpdate_at H rfl ?_ (zL _) (by show((vs.toArray.zip vs.toArray).map (·.2)).size<=_;rw[hz,as];lia));simp only[bne_self_eq_false,qi,if_false];refine ln ?_
  have:=h vs z G (List.Perm.refl _) (List.Perm.refl _) (by
   have hl:z.length<2:=by have:=G.1;lia
   unfold C_
   match z,hl with
   |[],_=>simp
   |[x],_=>simp)
  have e:(arrOf (SortSt.mk' general' (vs.toArray.zip vs.toArray) #[] 7 Y)).map (·.2)=vs.toArray:=hz;rw[e];exact this
 .rw[f_ h2,f_ h2];refine hH (rZ (s:={ s with heap:=_}) X an ⋯ ?_);have ay:(pairsOf vs).size=vs.length:=pairsOf_size vs
  refine hH (wpAny_mono (zW (C:=KP prog w A E { s with heap:=((s.heap.update a (Obj.mapSeq λ_=>(#[]:Array Value))).push (seqObj "tuple" vs.toArray 0)).push (seqObj "list" #[] 0)} I)
   (a₀:=pairsOf vs) (st:=SortSt.mk' (tuples' I) (vs.toArray.zip vs.toArray) #[] 7 Y)
   (Q:=λ_ f=>(arrOf f).Perm (pairsOf vs)/\failedOf f=Y/\tf (KP prog w A E { s with heap:=((s.heap.update a (Obj.mapSeq λ_=>(#[]:Array Value))).push (seqObj "tuple" vs.toArray 0)).push (seqObj "list" #[] 0)} I) (arrOf f) 0 (pairsOf vs).size)
   ?_ ⟨Array.Perm.refl _,rfl,rfl⟩ rfl ⋯ ⋯ λf a1 a2 a3=>⟨a1,a2,a3⟩) ?_ λ_ _ e=>e)
  .intro p S;rw[pairsOf_toList]at S;obtain⟨q1,q2⟩:=mem_zip_self S;obtain⟨i,u⟩:=AT.mp q2
   obtain⟨k,l⟩:∃k,z[i]?=J k:=⟨_,vp (by
    have h3:=(nw.mp u).1
    have:=G.1;lia)⟩
   obtain⟨b,e,t⟩:=X.2 i p.1 k (by simpa using u) l;exact⟨b,k,e,t⟩
  .rintro⟨⟨⟩,f⟩ s' ⟨rfl,S,hf,hs⟩;dsimp only;refine hH (seqEpoch_at H rfl ?_);have hz:((arrOf f).map (·.2)).size=vs.length:=by rw[Array.size_map,S.size_eq,ay]
   refine hH (listUpdate_at H rfl ?_ (zL _) (by show((arrOf f).map (·.2)).size<=_;rw[hz];lia));rw[hf];simp only[bne_self_eq_false,qi,if_false];refine ln ?_;have hl:(arrOf f).toList.Perm (vs.zip vs):=by rw[<-pairsOf_toList];exact NK.mp S
   have B:∀p,p∈(arrOf f).toList->p.1=p.2/\p.1∈vs:=λp ap=>mem_zip_self (hl.mem_iff.mp ap);have hv:∀v,v∈vs->∃k b,v=.ref b/\TK prog w s.heap k b/\k∈z:=λv hv=>by
    obtain⟨i,u⟩:=AT.mp hv
    obtain⟨k,l⟩:∃k,z[i]?=J k:=⟨_,vp (by
     have h3:=(nw.mp u).1
     have:=G.1;lia)⟩
    obtain⟨b,e,t⟩:=G.2 i v k (by simpa using u) l;exact⟨k,b,e,t,AT.mpr ⟨i,l⟩⟩
   have Z:vs.map (sw prog w s.heap)=z:=by
    apply Fi;intro i;rw[qb]
    cases u:vs[i]? with
    |none =>
     have:=List.getElem?_eq_none_iff.mp u
     rw[BC (by have:=G.1;lia)];rfl
    |some v =>
     obtain⟨k,l⟩:∃k,z[i]?=J k:=⟨_,vp (by
      have h3:=(nw.mp u).1
      have:=G.1;lia)⟩
     obtain⟨b,e,t⟩:=G.2 i v k (by simpa using u) l;subst e;rw[l];show J (sw prog w s.heap (.ref b))=J k;rw[gB t]
   have M:∀v,v∈vs->sw prog w (((s.heap.update a (Obj.mapSeq λ_=>(#[]:Array Value))).push (seqObj "tuple" vs.toArray 0)).push (seqObj "list" #[] 0)) v=sw prog w s.heap v:=λv y=>by
    obtain⟨k,b,rfl,t,_⟩:=hv v y;rw[gB t,gB (U k b t)]
   have L:=h ((arrOf f).toList.map (·.2)) ((arrOf f).toList.map λp=>sw prog w s.heap p.1) ?_ ?_ ?_ ?_
   .have e:((arrOf f).toList.map (·.2)).toArray=(arrOf f).map (·.2):=by apply EB.mp;simp
    rw[e]at L;exact L
   .refine⟨by simp,λi v k y l=>?_⟩;rw[QX,qb]at y;rw[qb]at l
    cases u:(arrOf f).toList[i]? with
    |none=>rw[u]at y;cases y
    |some p =>
     rw[u]at y l;cases y;cases l;obtain⟨q1,q2⟩:=B p (Ap u);obtain⟨k,b,e,t,_⟩:=hv p.1 q2;refine⟨b,by show p.2=_;rw[<-q1];exact e,?_⟩;show TK prog w s.heap (sw prog w s.heap p.1) b;rw[e,gB t];exact t
   .have q:=hl.map (·.2);rw[List.map_snd_zip (jj _)]at q;exact q
   .have q:=hl.map λp=>sw prog w s.heap p.1;have e2:(vs.zip vs).map (λp=>sw prog w s.heap p.1)=z:=by
     rw[<-Z]
     have:(vs.zip vs).map (λp=>sw prog w s.heap p.1)=((vs.zip vs).map Prod.fst).map (sw prog w s.heap):=by rw[vM];rfl
     rw[this,List.map_fst_zip (jj _)]
    rw[e2]at q;exact q
   .unfold C_;rw[List.pairwise_map,NL];intro i j u hj al;have ax:i<(arrOf f).size:=by simpa using u
    have ab:j<(arrOf f).size:=by simpa using hj
    have q:=hs i j (zL _) (EF al) (by rw[<-S.size_eq];exact ab);rw[aO (getElem?_pos _ i ax),aO (getElem?_pos _ j ab)]at q;have m1:=(B (arrOf f)[i] (by simp)).2;have m2:=(B (arrOf f)[j] (by simp)).2;have q':bO (sw prog w (((s.heap.update a (Obj.mapSeq λ_=>(#[]:Array Value))).push (seqObj "tuple" vs.toArray 0)).push (seqObj "list" #[] 0)) (arrOf f)[j].1)
     (sw prog w (((s.heap.update a (Obj.mapSeq λ_=>(#[]:Array Value))).push (seqObj "tuple" vs.toArray 0)).push (seqObj "list" #[] 0)) (arrOf f)[i].1)=T:=q
    rw[M _ m1,M _ m2]at q';simpa using q'
def ir(j:h.get? a=J (seqObj "list" vs.toArray n))(f:Array Value):∃c,(sortedHeap h a vs f).get? a=J (seqObj "list" f c):=by obtain⟨e1,i⟩:∃e1,(h.update a (Obj.mapSeq λ_=>(#[]:Array Value))).get? a=J (seqObj "list" #[] e1):=⟨_,get?_update_seq j λ_=>#[]⟩;exact⟨_,get?_update_seq (mx _ (mx _ i)) λ_=>f⟩
def ii(i:b≠a)(j:h.get? b=J o)(f:Array Value):(sortedHeap h a vs f).get? b=J o:=by unfold sortedHeap;rw[Jt _ _ _ _ i];exact mx _ (mx _ ((Jt _ _ _ _ i).trans j))
structure Told(prog:Program)(w:World)(R:Value->Prop)(H0 h h':Heap)(l:Addr)(ks:SU)(out:SA)(ks':SU):Prop where
 ext:Ext h h'
 fresh:h.get? l=Y
 size:h.objs.size<=l
 at':∃c,h'.get? l=J (seqObj "list" out.toArray c)
 lie:C1 prog w H0 out.toArray ks'
 perm:ks'.Perm ks
 ris:C_ ks'
 mem:∀v∈out,R v
def yF(hx:Ext H0 s.heap)(ab:∀k∈ks,k≠[])(ai:ks.length<=66)(hc:wpAny (model prog w) A.in1 (collect v) (λj s1=>∃H C f,s1={ s with heap:=H,toks:=C}/\Ext s.heap H/\s.heap.objs.size<H.objs.size/\s.toks<=C/\C1 prog w H0 (List.toArray j) f/\f.Perm ks/\∀v∈j,R v) E s)(h:∀H C l y F,Told prog w R H0 s.heap H l ks y F->s.toks<=C->Q (.ref l) { s with heap:=H,toks:=C}):
  wpAny (model prog w) A (call (.builtin "sorted") [v]) Q E s:=by
 refine Calls.call_function_entry kind_sorted plain_sorted entry_sorted (args_sorted1 _) ?_;refine hH (ln ?_);refine hH (wpAny_mono hc (λj s1 X=>?_) λ_ _ e=>e);obtain⟨B,C,f,rfl,L,S,an,a,p1,hR⟩:=X;have P:j.length=f.length:=by have:=a.1;simpa using this
 have W:j.length<=66:=by rw[P,p1.length_eq];exact ai
 refine hH (wpAny_newList ?_ (by rw[sizeLine_eq];lia));have G:(B.push (seqObj "list" j.toArray 0)).get? B.objs.size=J (seqObj "list" j.toArray 0):=wh _ rfl;have up:∀b o,B.get? b=J o->(B.push (seqObj "list" j.toArray 0)).get? b=J o:=λb o e=>mx _ e;have U:C1 prog w (B.push (seqObj "list" j.toArray 0)) j.toArray f:=⟨a.1,λi u k Z O=>let⟨b,e,t⟩:=a.2 i u k Z O;⟨b,e,yz (λc o ho=>up c o (L c o (hx c o ho))) t⟩⟩
 refine hH (wpAny_holding (wpAny_call_entry slot_list_sort ⟨_,G,rfl⟩ entry_list_sort
  (xp G U (λk O=>ab k (p1.mem_iff.mp O)) W λy F l2 pv p2 r2=>⟨_,rfl,?_⟩) (args_list_sort _)))
 refine ln ⟨_,rfl,?_⟩;have z:s.heap.get? B.objs.size=Y:=by
  cases e:s.heap.get? B.objs.size with
  |none=>rfl
  |some o=>exact absurd (n5 (L _ _ e)) (A6 _)
 refine h _ C B.objs.size y F ⟨λb o e=>?_,z,EF S,ir G _,⟨l2.1,λi u k Z O=>?_⟩,p2.trans p1,r2,λv hv=>hR v (pv.mem_iff.mp hv)⟩ an
 .have hb:=vK (n5 (L b o e));exact ii hb (up b o (L b o e)) _
 .obtain⟨b,e,t⟩:=l2.2 i u k Z O;have ap:y[i]?=J u:=by simpa using Z
  have M:=pv.mem_iff.mp (Ap ap);obtain⟨q,X⟩:=AT.mp M;obtain⟨k1,al⟩:∃k1,f[q]?=J k1:=⟨_,vp (by have:=(nw.mp X).1;lia)⟩;obtain⟨b1,e1,t1⟩:=a.2 q u k1 (by simpa using X) al;rw[e]at e1;cases e1;have t2:=yz (λc o ho=>up c o (L c o (hx c o ho))) t1
  have:=IsTupleKey.inj t t2
  subst this;exact⟨b,e,t1⟩
def tQ{l:Addr}{f:SA}{a:SU}{Q:Sh}(hl:s.heap.IsList l f.toArray)(C:C1 prog w s.heap f.toArray a)(i:∀k∈a,k≠[])(j:a.length<=66)(h:∀B G l y z,Told prog w (·∈f) s.heap s.heap B l a y z->s.toks<=G->Q (.ref l) { s with heap:=B,toks:=G}):
  wpAny (model prog w) A (call (.builtin "sorted") [.ref l]) Q E s:=by
 have F:f.length=a.length:=by have:=C.1;simpa using this
 refine yF (λb o e=>e) i j (collect_list hl ⟨_,s.toks,a,rfl,λb o e=>?_,by rw[Heap.size_update,size_push'];exact Mz _,jj _,C,List.Perm.refl _,λv hv=>hv⟩ (by rw[sizeLine_eq];lia)) h;have u:=n5 e;rw[Jt _ _ _ _ (vK u)];exact mx _ e
end
end SortT
namespace MM
open PySem.Spec PyProof.Rows L2 SetT SortT
def iB:SM->Option (SS)
 |[]=>J []
 |.int i::r=>(iB r).map (i::·)
 |_=>Y
def Np:PV->Option (SS)
 |.tup xs=>iB xs
 |_=>Y
def kB:SM->Option (SU)
 |[]=>J []
 |x::r=>(match Np x,kB r with
  |some k,J a=>J (k::a)
  |_,_=>Y)
def kP(k:SS):PV:=.tup (k.map .int)
def ij(l:SU):SU:=l.mergeSort λx y=>!bO y x
def fN(l:SU):(ij l).Perm l:=List.mergeSort_perm _ _
def sU(l:SU):C_ (ij l):=by
 have:=QM (le:=λx y=>!bO y x) (λa b c f i=>by
   simp only[Jx]at f i ⊢
   exact KeyOrd.kle_trans (O:=C9) f i) (λa b=>by
   cases h:bO b a with
   |false=>simp
   |true =>
    have:bO a b=T:=KeyOrd.klt_asymm (O:=C9) h
    simp[this])
 unfold C_ ij
 simp_all
def vL(f:C_ l)(i:C_ m)(p:l.Perm m):l=m :=
 List.Perm.eq_of_pairwise (λa b _ _ x y=>jK a b y x) f i p
def rO:∀{xs:SM}{k:SS},iB xs=J k->xs=k.map .int
 |[],k,h=>by cases h;rfl
 |x::r,k,h=>by
  cases x with
  |int i =>
   unfold iB at h
   cases a:iB r with
   |none=>rw[a]at h;cases h
   |some f =>
    rw[a]at h;cases h;rw[rO a];rfl
  |_=>cases h
def G9(h:Np x=J k):x=kP k:=by
 cases x with
 |tup xs=>unfold kP;rw[rO (show iB xs=J k from h)]
 |_=>cases h
def uB:∀{xs:SM}{a:SU},kB xs=J a->xs=a.map kP
 |[],a,h=>by cases h;rfl
 |x::r,a,h=>by
  unfold kB at h
  cases f:Np x with
  |none=>rw[f]at h;cases h
  |some k =>
   cases i:kB r with
   |none=>rw[f,i]at h;cases h
   |some j =>
    rw[f,i]at h;cases h;rw[G9 f,uB i];rfl
def G_(K:h8)(H:Hp)(ys:List V)(f:SU):Prop :=
 ys.length=f.length/\∀(i:Nat)(y:V)(k:SS),ys[i]?=J y->f[i]?=J k->∃a,y=.ref a/\SqT K H a (k.map V.int)
def BW{K:h8}{U:SX}{H:Hp}:∀{k:SS}{ys:List V},RPs K U H (k.map PV.int) ys->ys=k.map V.int
 |[],ys,h=>by cases h;rfl
 |i::k,ys,h=>by
  cases h with
  |cons r t =>
   cases r;rw[BW t];rfl
def uT{K:h8}{U:SX}{H:Hp}:∀{a:SU}{ys:List V},RPs K U H (a.map kP) ys->G_ K H ys a
 |[],ys,h=>by cases h;exact⟨rfl,λi y k e=>by simp at e⟩
 |k::a,ys,h=>by
  cases h with
  |cons r t =>
   obtain⟨l,g⟩:=uT t;refine⟨by simp[l],λi y u e1 e2=>?_⟩
   cases i with
   |zero =>
    simp at e1 e2;subst e1;subst e2
    cases r with
    |tup f j =>
     rw[BW j]at f;exact⟨_,rfl,f⟩
   |succ i=>exact g i y u (by simpa using e1) (by simpa using e2)
def uQ{K:h8}{U:SX}{H:Hp}:∀{f:SU}{ys:List V},G_ K H ys f->RPs K U H (f.map kP) ys
 |[],ys,h=>by
  have:=QN.mp (by have:=h.1;simpa using this)
  subst this;exact .nil
 |k::f,ys,h=>by
  cases ys with
  |nil=>have:=h.1;simp at this
  |cons y ys =>
   obtain⟨a,rfl,l⟩:=h.2 0 y k rfl rfl;refine .cons (.tup l (RPs.ints k)) (uQ ⟨by have:=h.1;simpa using this,λi j u e1 e2=>h.2 (i+1) j u (by simpa using e1) (by simpa using e2)⟩)
def nQ:∀{k:SS}{a:SA},aF (k.map V.int) a->ItemsAre (intKind prog w) k a
 |[],_,h=>by cases h;exact .nil
 |i::k,_,h=>by
  cases h with
  |cons r t =>
   obtain⟨f,rfl⟩:=r;exact .cons (intKind_is _ _ _ _) (nQ t)
section
variable{X:Cx}{KC:List (Addr × Obj)}{Z:L2.St}{H:Hp}{s:Shared}
def xT(f:Inv X KC Z H s)(h:SqT X.K H a (k.map V.int)):TK X.prog X.w s.heap k a:=by obtain⟨i,j,⟨o,l,u,n,hd⟩,_⟩:=f.tuple h;exact⟨o,i.toArray,n,l,u,hd,by simpa using nQ j⟩
def Db(f:Inv X KC Z H s)(h:G_ X.K H ys ks)(j:aF ys its):C1 X.prog X.w s.heap its.toArray ks:=by
 refine⟨by simp[<-j.length,h.1],λi v k hv y=>?_⟩;have B:i<ys.length:=by rw[h.1];exact(nw.mp y).1
 obtain⟨a,e,z⟩:=h.2 i ys[i] k (by simp) y;obtain⟨u,C,l⟩:=j.get (show ys[i]?=J ys[i] by simp)
 have:v=u:=by simp_all
 subst this;rw[e]at l;exact⟨a,l,xT f z⟩
end
section
variable{X:Cx}{N W G:SQ}{k:Nat}
def Dc{KC:SD}{s:Shared}{Z:L2.St}{H:Hp}{Q:VK}{R:Value->Prop}{h':Heap}{tk:Nat}{l:Addr}{P E:SU}{j:SA}(F:Inv X KC Z H s)(f:Told X.prog X.w R s.heap s.heap h' l P j E)(hR:∀v,R v->∃(a:Addr)(k:SS),v=.ref a/\SqT X.K H a (k.map V.int))(hz:P.length<=66)(q:∀l ys,H l=Y->G_ X.K H ys (ij P)->Q (.ref l) (l7 H l (.lst ys))):EP X KC Z Q (.ref l) { s with heap:=h',toks:=tk}:=by
 have M:=f.size;have L:=vL f.ris (sU P) (f.perm.trans (fN P).symm);obtain⟨c,hc⟩:=f.at';have z:j.length=E.length:=by have:=f.lie.1;simpa using this
 have B:∀v∈j,∃a,v=.ref a:=λv hv=>let⟨a,_,e,_⟩:=hR v (f.mem v hv);⟨a,e⟩;obtain⟨ys,U,C⟩:∃ys:List V,aF ys j/\∀y∈ys,∃a,y=.ref a/\Value.ref a∈j:=by
  clear z f hR L hc
  induction j with
  |nil=>exact⟨[],.nil,λy C=>by cases C⟩
  |cons v j ih =>
   obtain⟨a,rfl⟩:=B v Bq;obtain⟨ys,r,g⟩:=ih (λu hu=>B u (n_ _ hu));refine⟨.ref a::ys,.cons rfl r,λy C=>?_⟩;rcases pu.mp C with rfl|C
   .exact⟨a,rfl,Bq⟩
   .obtain⟨b,e,m⟩:=g y C;exact⟨b,e,n_ _ m⟩
 have S:G_ X.K H ys E:=by
  refine⟨by rw[U.length,z],λi y k O hk=>?_⟩;obtain⟨u,eu,ru⟩:=U.get O;obtain⟨a,e,m⟩:=C y (Ap O);subst e;cases ru;obtain⟨b,k2,e2,s1⟩:=hR _ (f.mem _ m);cases e2;obtain⟨b2,e3,t⟩:=f.lie.2 i (.ref a) k (by simpa using eu) hk;cases e3
  have:=IsTupleKey.inj t (xT F s1)
  subst this;exact⟨a,rfl,s1⟩
 have ab:=F.hok.fresh M;refine⟨.ref l,_,F.laid (o:=.lst ys) f.ext M (⟨?_,j,c,U,hc⟩),rfl,q l ys ab (by rw[<-L];exact S)⟩;rw[U.length,z,f.perm.length_eq,sizeLine_eq];lia
def sW:cw X (.builtin "sorted") (λxs H Q=>∃l ys f,xs=[.ref l]/\SqL X.K H l ys/\G_ X.K H ys f/\(∀k∈f,k≠[])/\f.length<=66 /\
  ∀B y,H B=Y->G_ X.K H y (ij f)->Q (.ref B) (l7 H B (.lst y))):=by
 intro KC s Z H xs us Q j r ⟨l,ys,f,e,hq,E,C,P,q⟩;subst e;obtain⟨u,rfl,rx⟩:=f8 r;cases rx;obtain⟨ab,L,U,ai⟩:=j.list hq;refine tQ U.isList (Db j E L) C P λh' tk B al an td ap=>?_;refine Dc j td (λv hv=>?_) P q;obtain⟨i,M⟩:=AT.mp hv;have F:=(nw.mp M).1;have z:i<ys.length:=by rw[L.length];exact F
 have S:i<f.length:=by rw[<-E.1];exact z
 obtain⟨a,e,s1⟩:=E.2 i ys[i] f[i] (by simp) (by simp);obtain⟨u,R,O⟩:=L.get (show ys[i]?=J ys[i] by simp);rw[M]at R;cases R;rw[e]at O;exact⟨a,_,O,s1⟩
def iG(h:MH):PV->Option (SM)
 |.frl xs=>J xs
 |.loc n=>(match h[n]? with
  |some (.lst xs)=>J xs
  |_=>Y)
 |_=>Y
def Dd{U:SX}{H:Hp}{h:MH}{x:PV}{y:V}{xs:SM}{K:h8}{mg:BN}(B:RH K mg U H h)(r:RP K U H x y)(e:iG h x=J xs):∃a f,y=.ref a/\SqL K H a f/\RPs K U H xs f:=by
 cases r with
 |frl s r=>cases e;exact⟨_,_,rfl,s.sq,r⟩
 |@loc n a i =>
  obtain⟨o,j,u⟩:=B.obj i;unfold iG at e;dsimp only at e;rw[j]at e
  cases o with
  |lst f =>
   cases e;obtain⟨ys,l,z⟩:=u;exact⟨a,ys,rfl,SqL.of l,z⟩
  |_=>cases e
 |_=>cases e
end
end MM
namespace SeqT
abbrev B8(tp:Bool):String:=if tp then "tuple_iterator" else "list_iterator"
abbrev Rk(tp:Bool):String:=if tp then "tuple" else "list"
def SqI(j:Bool)(h:Heap)(f a:Addr)(i:Nat):Prop:=∃o,h.get? f=J o/\o.cls=.type (B8 j)/\o.data=.fields #[.ref a,.int i 0]
def SqO(f:Bool)(h:Heap)(a:Addr)(xs:Array Value):Prop:=∃o,h.get? a=J o/\o.cls=.type (Rk f)/\∃n,o.data=.seq xs n
def SqI.at'(x:SqI tp h it a i)(k:∀o,h.get? it=J o->h'.get? it=J o):SqI tp h' it a i:=let⟨o,e,r⟩:=x;⟨o,k o e,r⟩
def SqO.at'(x:SqO tp h a xs)(k:∀o,h.get? a=J o->h'.get? a=J o):SqO tp h' a xs:=let⟨o,e,r⟩:=x;⟨o,k o e,r⟩
def SqI.lt(x:SqI tp h it a i):it<h.objs.size:=let⟨_,e,_⟩:=x;n5 e
section
variable{prog:Program}{w:World}{A:Around}{E:Sh}{s:Shared}
def iu(y:SqI tp s.heap it a i)(B:SqO tp s.heap a xs)(G:xs[i]?=J x)(C:∀f,SqI tp f it a (i+1)->Heap.SameBut it s.heap f->Q x { s with heap:=f}):wpAny (model prog w) A (Builtin.SmallTypes.nextOf (.ref it)) Q E s:=by
 cases tp with
 |false=>exact wpAny_nextOf_list_item (y) (B) G C
 |true =>
  obtain⟨o,e,z,hd⟩:=id y;obtain⟨L,j,_,H,l⟩:=B;have u:s.TypeIs (.ref it) "tuple_iterator":=⟨o,e,z⟩;refine hH (wpAny_callSpecial?_slot u F.slot_tuple_iterator_next (wpAny_call_entry F.slot_tuple_iterator_next u F.entry_tuple_iterator_next ?_ (F.args_tuple_iterator_next_1 _)));show wpAny _ _ (field (.ref it) 0 >>= _) _ _ s;refine hH (wpAny_field e hd rfl ?_);refine hH (wpAny_field e hd rfl ?_);refine hH (wpAny_seqItems j l ?_);simp only[BK,G];refine hH (wpAny_setField e hd (by simp) (ln ⟨x,rfl,ln (C _ ?_ (Heap.SameBut.update ..))⟩));exact⟨_,QW _ e (Obj.isFreed_of_fields (Obj.data_mapFields hd _)),(Obj.cls_mapFields ..).trans z,by rw[Obj.data_mapFields hd];simp[rawInt]⟩
def jD(u:A.handled=Y)(z:SqI tp s.heap it a i)(B:SqO tp s.heap a xs)(G:xs[i]?=Y)(C:∀f e,Heap.ExtBut it s.heap f->(∃o,f.get? e=J o/\o.cls=.type "StopIteration")->E (.ref e) { s with heap:=f}):wpAny (model prog w) A (Builtin.SmallTypes.nextOf (.ref it)) Q E s:=by
 cases tp with
 |false=>exact wpAny_nextOf_list_end u (z) (B) G C
 |true =>
  obtain⟨o,e,H,hd⟩:=id z;obtain⟨M,j,_,L,l⟩:=B;have y:s.TypeIs (.ref it) "tuple_iterator":=⟨o,e,H⟩;refine hH (wpAny_callSpecial?_slot y F.slot_tuple_iterator_next (wpAny_call_entry F.slot_tuple_iterator_next y F.entry_tuple_iterator_next ?_ (F.args_tuple_iterator_next_1 _)));show wpAny _ _ (field (.ref it) 0 >>= _) _ _ s;refine hH (wpAny_field e hd rfl ?_);refine hH (wpAny_field e hd rfl ?_);refine hH (wpAny_seqItems j l ?_);simp only[BK,G];refine hH (wpAny_rule (hH (wpAny_setField e hd (by simp) ?_)));refine hH ?_;refine hH (m:=firstArgMember _ _) (wpAny_of_eq (by first | rfl | (simp only)) ?_);refine wpAny_newObj_type ?_ (by size_fits);refine hH (wpAny_handled ?_);rw[show A.in1.handled=Y from u];refine hH (ln (wpAny_throw ?_));exact C _ _ (((Heap.SameBut.update ..).extBut.push _).push _) ⟨_,wh _ rfl,rfl⟩
def jg(i:SqO tp s.heap a xs)(f:Q (.ref s.heap.objs.size) { s with heap:=s.heap.push { cls:=.type (B8 tp),data:=.fields #[.ref a,.int 0 0]}}):wpAny (model prog w) A (pyIter (.ref a)) Q E s:=by
 cases tp with
 |false=>exact wpAny_pyIter_list (i) f
 |true=>exact wpAny_pyIter_tuple (i) f
end
def KQ(G:A.handled=Y)(z:Bool)(l a:Addr)(u:a≠l)(xs:Array Value):
  Draws prog w A l [l,a] xs.size (λi v=>xs[i]?=J v) (λi h=>SqI z h l a i/\SqO z h a xs) where
 live:=λ_ _ st=>let⟨o,C,_⟩:=st.1;⟨o,C⟩
 frame:=λ_ _ _ st y=>⟨st.1.at' λo e=>y l (by simp) o e,st.2.at' λo e=>y a (by simp) o e⟩
 item:=λi s Q E L st F=>by
  refine iu st.1 st.2 (x:=xs[i]) (by simp) λB j f=>?_;exact F _ B s.toks (by simp) ⟨j,st.2.at' λo e=>(f.2 a u).trans e⟩ f
 done:=λs Q E st H=>jD G st.1 st.2 (by simp) H
def zh(f:Bool)(a:Addr)(xs:Array Value)(n:Nat)(i:Option Addr)(y:Array (SF)):
  Meets (Builtin.«enumerate.__new__» ⟨[.type "enumerate",.ref a],[]⟩) (λ_ R s=>s.heap.get? a=J { cls:=.type (Rk f),dict:=i,data:=.seq xs n,slots:=y} /\
   R (.ok (.ret (.ref (s.heap.push { cls:=.type (B8 f),data:=.fields #[.ref a,.int 0 0]}).objs.size)))
    { s with heap:=(s.heap.push { cls:=.type (B8 f),data:=.fields #[.ref a,.int 0 0]}).push { cls:=.type "enumerate",data:=.fields #[.none,.bool T,.ref s.heap.objs.size,rawInt 0,.none,.none]}}) :=
 .of_wp λprog w A R s h=>by
  obtain⟨l,g,d,u,os⟩:=s;obtain⟨hl,h⟩:=h;have j:=sub_enumerate;have hL:SqO f (Shared.heap ⟨l,g,d,u,os⟩) a xs:=⟨_,hl,rfl,n,rfl⟩
  wp_walk using AutoSeq1.wpAny_loadPart' hl
  refine wpAny_stack_any λst=>ln ?_;split
  .rename_i c _ _ _ _ _
   cases(c==Value.type "enumerate")
   .wp_walk using AutoSeq1.wpAny_loadPart' hl,jg hL
    exact⟨_,rfl,h⟩
   .wp_walk using AutoSeq1.wpAny_loadPart' hl,jg hL
    exact⟨_,rfl,h⟩
  .wp_walk using AutoSeq1.wpAny_loadPart' hl,jg hL
   exact⟨_,rfl,h⟩
section
variable{prog:Program}{w:World}{A:Around}{E:Sh}{s:Shared}
def yg(hL:SqO tp s.heap a xs)(h:∀f,IsEnum f (s.heap.objs.size+1) s.heap.objs.size 0 .none->SqI tp f s.heap.objs.size a 0->f.objs.size=s.heap.objs.size+2 ->
   (∀b o,s.heap.get? b=J o->f.get? b=J o)->Q (.ref (s.heap.objs.size+1)) { s with heap:=f}):
  wpAny (model prog w) A (call (.type "enumerate") [.ref a]) Q E s:=by
 obtain⟨⟨c,i,z,y⟩,hl,u,n,hd⟩:=hL;subst u hd;refine callType_new F.called_enumerate (by decide) (F.typeCall_enumerate_1 _) (F.newCall_enumerate_1 _) (λobj=>F.args_object_init_2 obj _) F.entry_enumerate_new (zh tp a xs n i y) ⟨hl,?_⟩;have j:(s.heap.push { cls:=.type (B8 tp),data:=.fields #[.ref a,.int 0 0]}).objs.size=s.heap.objs.size+1:=BF ..;rw[j]
 have l:IsEnum ((s.heap.push { cls:=.type (B8 tp),data:=.fields #[.ref a,.int 0 0]}).push
   { cls:=.type "enumerate",data:=.fields #[.none,.bool T,.ref s.heap.objs.size,rawInt 0,.none,.none]}) (s.heap.objs.size+1) s.heap.objs.size 0 .none:=by
  have:=wh (s.heap.push { cls:=.type (B8 tp),data:=.fields #[.ref a,.int 0 0]})
   (o:={ cls:=.type "enumerate",data:=.fields #[.none,.bool T,.ref s.heap.objs.size,rawInt 0,.none,.none]}) rfl
  rw[j]at this;exact this
 exact⟨⟨_,l,rfl⟩,h _ l ⟨_,mx _ (wh _ rfl),rfl,rfl⟩ (by rw[BF,j]) λb o x=>mx _ (mx _ x)⟩
end
section
variable{prog:Program}{w:World}{A:Around}{E:Sh}{s:Shared}{z TI TO i1 i2 l1 l2:Addr}{t1 t2:Bool}{k1 k2:Nat}{xs ys:Array Value}
def x9{x y a b:Value}{Q:Sh}(D:ZipApart z TI TO i1 i2 l1 l2)(O:IsZip s.heap z TI TO .none)(as:IsPair s.heap TI (.ref i1) (.ref i2))(ai:IsPair s.heap TO a b)(h1:SqI t1 s.heap i1 l1 k1)(h2:SqI t2 s.heap i2 l2 k2)(ax:SqO t1 s.heap l1 xs)(ar:SqO t2 s.heap l2 ys)(hx:xs[k1]?=J x)(hy:ys[k2]?=J y)(hQ:∀l,IsZip l z TI TO (rawInt s.heap.objs.size)->IsPair l TO x y->SqI t1 l i1 l1 (k1+1)->SqI t2 l i2 l2 (k2+1)->IsPair l s.heap.objs.size x y->l.objs.size=s.heap.objs.size+1 ->
   (∀c o,c≠z->c≠TO->c≠i1->c≠i2->s.heap.get? c=J o->l.get? c=J o)->Q (.ref s.heap.objs.size) { s with heap:=l}):
  wpAny (model prog w) A (Builtin.«zip.__next__» ⟨[.ref z],[]⟩) (λfin s'=>∃v,fin=.done (.ret v)/\Q v s') E s:=by
 show wpAny _ _ (field (.ref z) 2 >>= _) _ _ _;refine hH (wpAny_field O rfl (x:=.bool T) rfl ?_);refine hH (wpAny_field O rfl (x:=.ref TI) rfl ?_);refine hH (wpAny_seqItems as rfl ?_);refine hH ?_;refine hH (wpAny_field O rfl (x:=.none) rfl (ln ?_));refine hH (wpAny_rule ?_);refine hH (wpAny_field O rfl (x:=.ref TO) rfl ?_);refine hH (wpAny_setField_rec O (by simp) λha ay sa=>?_);refine hH ?_;simp only[NY,List.zipIdx_nil,N1,N3];refine hH (hH (wpAny_onRaise ?_));show wpAny _ _ (Builtin.SmallTypes.nextOf (.ref i1) >>= _) _ _ _;refine hH (iu (s:={ s with heap:=ha}) (h1.at' λo e=>(sa.2 _ D.i1z).trans e) (ax.at' λo e=>(sa.2 _ D.l1z).trans e) hx λhb a1 sb=>ln ?_);replace sb:Heap.SameBut i1 ha hb:=sb;have M:IsPair hb TO a b:=(sb.2 _ D.TOi1).trans ((sa.2 _ D.TOz).trans ai);refine hH (wpAny_seqItems M rfl ?_);refine hH (wpAny_updateSeq_pair M λZ L B=>?_);replace L:IsPair Z TO x b:=L;replace B:Heap.SameBut TO hb Z:=B;refine hH (wpAny_letGo (ln ?_));refine hH (hH (wpAny_onRaise ?_));show wpAny _ _ (Builtin.SmallTypes.nextOf (.ref i2) >>= _) _ _ _
 refine hH (iu (s:={ s with heap:=Z}) (h2.at' λo e=>(B.2 _ D.TOi2.symm).trans ((sb.2 _ D.i12.symm).trans ((sa.2 _ D.i2z).trans e)))
  (ar.at' λo e=>(B.2 _ D.l2TO).trans ((sb.2 _ D.l2i1).trans ((sa.2 _ D.l2z).trans e))) hy λhd ab H=>ln ?_)
 replace H:Heap.SameBut i2 Z hd:=H;have U:IsPair hd TO x b:=(H.2 _ D.TOi2).trans L;refine hH (wpAny_seqItems U rfl ?_);refine hH (wpAny_updateSeq_pair U λf j C=>?_);replace j:IsPair f TO x y:=j;replace C:Heap.SameBut TO hd f:=C;refine hH (wpAny_letGo (ln (ln ?_)));refine hH (wpAny_seqItems j rfl ?_);refine hH (wpAny_newTuple ?_);have P:f.objs.size=s.heap.objs.size:=by rw[C.1,H.1,B.1,sb.1,sa.1]
 have X:IsZip f z TI TO .ellipsis:=(C.2 _ D.TOz.symm).trans ((H.2 _ D.i2z.symm).trans ((B.2 _ D.TOz.symm).trans ((sb.2 _ D.i1z.symm).trans ay)));have a0:∀c o,c≠z->c≠TO->c≠i1->c≠i2->s.heap.get? c=J o->f.get? c=J o:=λc o G c2 c3 c4 e =>
  (C.2 _ c2).trans ((H.2 _ c4).trans ((B.2 _ c2).trans ((sb.2 _ c3).trans ((sa.2 _ G).trans e))))
 have al:SqI t1 f i1 l1 (k1+1):=a1.at' λo e=>(C.2 _ D.TOi1.symm).trans ((H.2 _ D.i12).trans ((B.2 _ D.TOi1.symm).trans e));have ap:SqI t2 f i2 l2 (k2+1):=ab.at' λo e=>(C.2 _ D.TOi2.symm).trans e;have u:z<f.objs.size:=n5 X;show wpAny _ _ (Builtin.SmallTypes.ownedTupleHandOut (.ref z) (.ref f.objs.size) >>= _) _ _ _;refine hH ?_;unfold Builtin.SmallTypes.ownedTupleHandOut;have an:IsZip (f.push { cls:=.type "tuple",data:=.seq #[x,y]}) z TI TO .ellipsis:=mx _ X;refine hH (wpAny_setField_rec an (by simp) λhg F sg=>?_);replace F:IsZip hg z TI TO (rawInt f.objs.size):=F;refine wpAny_setField_rec F (by simp) λR i sh=>?_;replace i:IsZip R z TI TO (rawInt f.objs.size):=i;have up:∀c o,c≠z->f.get? c=J o->R.get? c=J o:=λc o G e=>(sh.2 _ G).trans ((sg.2 _ G).trans (mx _ e));have S:IsPair R f.objs.size x y:=(sh.2 _ (A1 u)).trans ((sg.2 _ (A1 u)).trans (wh _ rfl));have W:R.objs.size=f.objs.size+1:=by rw[sh.1,sg.1,BF]
 rw[P]at i S W;refine ln ⟨_,rfl,?_⟩;show Q (.ref f.objs.size) _;rw[P];exact hQ R i (up _ _ D.TOz j) (al.at' λo e=>up _ o D.i1z e) (ap.at' λo e=>up _ o D.i2z e) S W λc o G c2 c3 c4 e=>up c o G (a0 c o G c2 c3 c4 e)
def As(hh:A.handled=Y)(D:ZipApart z TI TO i1 i2 l1 l2)(C:IsZip s.heap z TI TO .none)(X:IsPair s.heap TI (.ref i1) (.ref i2))(R:IsPair s.heap TO a b)(h1:SqI t1 s.heap i1 l1 k1)(h2:SqI t2 s.heap i2 l2 k2)(G:SqO t1 s.heap l1 xs)(W:SqO t2 s.heap l2 ys)(u:xs[k1]?=Y\/ys[k2]?=Y)(hE:∀P e,(∀c o,c≠z->c≠TO->c≠i1->c≠i2->s.heap.get? c=J o->P.get? c=J o)->(∃o,P.get? e=J o/\o.cls=.type "StopIteration")->E (.ref e) { s with heap:=P}):
  wpAny (model prog w) A (Builtin.«zip.__next__» ⟨[.ref z],[]⟩) Q E s:=by
 show wpAny _ _ (field (.ref z) 2 >>= _) _ _ _;refine hH (wpAny_field C rfl (x:=.bool T) rfl ?_);refine hH (wpAny_field C rfl (x:=.ref TI) rfl ?_);refine hH (wpAny_seqItems X rfl ?_);refine hH ?_;refine hH (wpAny_field C rfl (x:=.none) rfl (ln ?_));refine hH (wpAny_rule ?_);refine hH (wpAny_field C rfl (x:=.ref TO) rfl ?_);refine hH (wpAny_setField_rec C (by simp) λha H sa=>?_);refine hH ?_;simp only[NY,List.zipIdx_nil,N1,N3];refine hH (hH (wpAny_onRaise ?_));show wpAny _ _ (Builtin.SmallTypes.nextOf (.ref i1) >>= _) _ _ _
 cases Z:xs[k1]? with
 |none =>
  refine hH (jD (s:={ s with heap:=ha}) hh (h1.at' λo e=>(sa.2 _ D.i1z).trans e) (G.at' λo e=>(sa.2 _ D.l1z).trans e) Z λM e sb S=>?_);obtain⟨oe,f,i⟩:=S;have L:IsZip M z TI TO .ellipsis:=sb _ _ D.i1z.symm H;have l:e≠z:=λq=>by subst q;rw[L]at f;cases f;simp at i
  exact wpAny_setField_rec L (by simp) λO _ j=>hE O e (λc o F _ U _ q=>(j.2 _ F).trans (sb _ _ U ((sa.2 _ F).trans q))) ⟨oe,(j.2 _ l).trans f,i⟩
 |some x =>
  have hy:ys[k2]?=Y:=by
   rcases u with q|q
   .rw[Z]at q;cases q
   .exact q
  refine hH (iu (s:={ s with heap:=ha}) (h1.at' λo e=>(sa.2 _ D.i1z).trans e) (G.at' λo e=>(sa.2 _ D.l1z).trans e) Z λM ab sb=>ln ?_);replace sb:Heap.SameBut i1 ha M:=sb;have B:IsPair M TO a b:=(sb.2 _ D.TOi1).trans ((sa.2 _ D.TOz).trans R);refine hH (wpAny_seqItems B rfl ?_);refine hH (wpAny_updateSeq_pair B λO ai j=>?_);replace j:Heap.SameBut TO M O:=j;refine hH (wpAny_letGo (ln ?_));refine hH (hH (wpAny_onRaise ?_));show wpAny _ _ (Builtin.SmallTypes.nextOf (.ref i2) >>= _) _ _ _
  refine hH (jD (s:={ s with heap:=O}) hh (h2.at' λo e=>(j.2 _ D.TOi2.symm).trans ((sb.2 _ D.i12.symm).trans ((sa.2 _ D.i2z).trans e)))
   (W.at' λo e=>(j.2 _ D.l2TO).trans ((sb.2 _ D.l2i1).trans ((sa.2 _ D.l2z).trans e))) hy λhd e sd S=>?_)
  obtain⟨oe,f,i⟩:=S;have y:IsZip hd z TI TO .ellipsis:=sd _ _ D.i2z.symm ((j.2 _ D.TOz.symm).trans ((sb.2 _ D.i1z.symm).trans H));have l:e≠z:=λq=>by subst q;rw[y]at f;cases f;simp at i
  exact wpAny_setField_rec y (by simp) λhf _ sf=>hE hf e (λc o F c2 U c4 q=>(sf.2 _ F).trans (sd _ _ c4 ((j.2 _ c2).trans ((sb.2 _ U).trans ((sa.2 _ F).trans q))))) ⟨oe,(sf.2 _ l).trans f,i⟩
def zy(D:ZipApart z TI TO i1 i2 l1 l2)(C:IsZip s.heap z TI TO .none)(l:IsPair s.heap TI (.ref i1) (.ref i2))(i:IsPair s.heap TO a b)(G:SqI t1 s.heap i1 l1 k1)(Z:SqI t2 s.heap i2 l2 k2)(u:SqO t1 s.heap l1 xs)(j:SqO t2 s.heap l2 ys)(M:xs[k1]?=J x)(O:ys[k2]?=J y)(L:∀f,IsZip f z TI TO (rawInt s.heap.objs.size)->IsPair f TO x y->SqI t1 f i1 l1 (k1+1)->SqI t2 f i2 l2 (k2+1)->IsPair f s.heap.objs.size x y->f.objs.size=s.heap.objs.size+1 ->
   (∀c o,c≠z->c≠TO->c≠i1->c≠i2->s.heap.get? c=J o->f.get? c=J o)->Q (J (.ref s.heap.objs.size)) { s with heap:=f}):
  wpAny (model prog w) A (pyNext (.ref z)) Q E s:=by
 have B:s.TypeIs (.ref z) "zip":=⟨_,C,rfl⟩
 exact hH (wpAny_attempt (wpAny_callSpecial?_slot B F.slot_zip_next
  (wpAny_call_entry F.slot_zip_next B F.entry_zip_next (x9 D C l i G Z u j M O λf S P H W U X R=>ln (L f S P H W U X R)) (F.args_zip_next_1 _))))
def De(P:A.handled=Y)(D:ZipApart z TI TO i1 i2 l1 l2)(C:IsZip s.heap z TI TO .none)(u:IsPair s.heap TI (.ref i1) (.ref i2))(j:IsPair s.heap TO a b)(H:SqI t1 s.heap i1 l1 k1)(S:SqI t2 s.heap i2 l2 k2)(y:SqO t1 s.heap l1 xs)(l:SqO t2 s.heap l2 ys)(f:xs[k1]?=Y\/ys[k2]?=Y)(O:∀i,(∀c o,c≠z->c≠TO->c≠i1->c≠i2->s.heap.get? c=J o->i.get? c=J o)->Q Y { s with heap:=i}):wpAny (model prog w) A (pyNext (.ref z)) Q E s:=by
 have B:s.TypeIs (.ref z) "zip":=⟨_,C,rfl⟩
 refine hH (wpAny_attempt (wpAny_callSpecial?_slot B F.slot_zip_next
  (wpAny_call_entry F.slot_zip_next B F.entry_zip_next (As P D C u j H S y l f λi e M L=>?_) (F.args_zip_next_1 _))))
 obtain⟨o,G,R⟩:=L;refine hH (wpAny_isInstance ⟨o,G,R⟩ isSubtype_stop ?_);exact ln (O _ M)
end
abbrev zA(t1:Bool)(h:Heap)(l1:Addr):Heap:=h.push { cls:=.type (B8 t1),data:=.fields #[.ref l1,.int 0 0]}
abbrev zB(t1 t2:Bool)(h:Heap)(l1 l2:Addr):Heap:=(zA t1 h l1).push { cls:=.type (B8 t2),data:=.fields #[.ref l2,.int 0 0]}
abbrev zC(t1 t2:Bool)(h:Heap)(l1 l2:Addr):Heap:=(zB t1 t2 h l1 l2).push { cls:=.type "tuple",data:=.seq #[.ref h.objs.size,.ref (zA t1 h l1).objs.size]}
abbrev zD(t1 t2:Bool)(h:Heap)(l1 l2:Addr):Heap:=(zC t1 t2 h l1 l2).push { cls:=.type "tuple",data:=.seq #[.none,.none]}
abbrev zE(t1 t2:Bool)(h:Heap)(l1 l2:Addr):Heap:=(zD t1 t2 h l1 l2).push { cls:=.type "zip",data:=.fields #[.none,.bool T,.bool T,.ref (zB t1 t2 h l1 l2).objs.size,.ref (zC t1 t2 h l1 l2).objs.size]}
def Df(i j:Bool)(a f:Addr)(xs ys:Array Value):
  Meets (Builtin.«zip.__new__» ⟨[.type "zip",.ref a,.ref f],[]⟩) (λ_ R s=>SqO i s.heap a xs/\SqO j s.heap f ys/\R (.ok (.ret (.ref (zD i j s.heap a f).objs.size))) { s with heap:=zE i j s.heap a f}) :=
 .of_wp λprog w A R s h=>by
  obtain⟨B,g,d,C,os⟩:=s;obtain⟨z,u,h⟩:=h;have E:=sub_zip;have l:SqO i (Shared.heap ⟨B,g,d,C,os⟩) a xs:=z;have y:SqO j (Shared.heap ⟨B.push { cls:=.type (B8 i),data:=.fields #[.ref a,.int 0 0]},g,d,C,os⟩) f ys:=u.at' λo e=>mx _ e
  wp_walk using jg l,jg y
  exact⟨_,rfl,h⟩
section
variable{prog:Program}{w:World}{A:Around}{E:Sh}{s:Shared}
def zt(i:SqO t1 s.heap l1 xs)(l:SqO t2 s.heap l2 ys)(h:∀a,IsZip a (s.heap.objs.size+4) (s.heap.objs.size+2) (s.heap.objs.size+3) .none->IsPair a (s.heap.objs.size+2) (.ref s.heap.objs.size) (.ref (s.heap.objs.size+1)) ->
   IsPair a (s.heap.objs.size+3) .none .none->SqI t1 a s.heap.objs.size l1 0->SqI t2 a (s.heap.objs.size+1) l2 0->a.objs.size=s.heap.objs.size+5 ->
   (∀c o,s.heap.get? c=J o->a.get? c=J o)->Q (.ref (s.heap.objs.size+4)) { s with heap:=a}):
  wpAny (model prog w) A (call (.type "zip") [.ref l1,.ref l2]) Q E s:=by
 refine callType_new F.called_zip (by decide) (F.typeCall_zip_2 _ _) (F.newCall_zip_2 _ _) (λobj=>F.args_object_init_3 obj _ _) F.entry_zip_new (Df t1 t2 l1 l2 xs ys) ⟨i,l,?_⟩;have z1:(zA t1 s.heap l1).objs.size=s.heap.objs.size+1:=BF ..;have j:(zB t1 t2 s.heap l1 l2).objs.size=s.heap.objs.size+2:=by rw[BF,z1]
 have f:(zC t1 t2 s.heap l1 l2).objs.size=s.heap.objs.size+3:=by rw[BF,j]
 have y:(zD t1 t2 s.heap l1 l2).objs.size=s.heap.objs.size+4:=by rw[BF,f]
 have H:(zE t1 t2 s.heap l1 l2).objs.size=s.heap.objs.size+5:=by rw[BF,y]
 have u:(zE t1 t2 s.heap l1 l2).get? (zD t1 t2 s.heap l1 l2).objs.size=J _:=wh _ rfl;have z:(zE t1 t2 s.heap l1 l2).get? (zC t1 t2 s.heap l1 l2).objs.size=J _:=mx _ (wh _ rfl);have B:(zE t1 t2 s.heap l1 l2).get? (zB t1 t2 s.heap l1 l2).objs.size=J _:=mx _ (mx _ (wh _ rfl));have C:(zE t1 t2 s.heap l1 l2).get? (zA t1 s.heap l1).objs.size=J _:=mx _ (mx _ (mx _ (wh _ rfl)));have G:(zE t1 t2 s.heap l1 l2).get? s.heap.objs.size=J _:=mx _ (mx _ (mx _ (mx _ (wh _ rfl))));rw[j,f,y]at u;rw[z1,j]at B;rw[f]at z;rw[z1]at C;rw[y]
 exact⟨⟨_,u,rfl⟩,h _ u B z ⟨_,G,rfl,rfl⟩ ⟨_,C,rfl,rfl⟩ H λc o x =>
  mx _ (mx _ (mx _ (mx _ (mx _ x))))⟩
end
end SeqT
namespace MM
open PySem.Spec PyProof.Rows L2 SeqT
def Bj(f:Bool)(K:h8)(H:Hp)(a:Addr)(ys:List V):Prop:=match f with
 |true=>SqT K H a ys
 |false=>SqL K H a ys
section
variable{X:Cx}{KC:List (Addr × Obj)}{Z:L2.St}{H:Hp}{s:Shared}
def eJ(i:Inv X KC Z H s)(h:Bj tp X.K H a ys):∃f:SA,aF ys f/\SqO tp s.heap a f.toArray/\ys.length<=sizeLine:=by
 cases tp with
 |true =>
  obtain⟨f,l,j,u⟩:=i.tuple h;exact⟨f,l,j,u⟩
 |false =>
  obtain⟨f,l,j,u⟩:=i.list h;exact⟨f,l,j.isList,u⟩
def ph(f:Inv X KC Z H s)(h:Bj tp X.K H a xs)(i:Bj tp X.K H a ys):xs=ys:=by
 cases tp with
 |true=>exact f.tuple_inj h i
 |false=>exact f.list_inj h i
def jN(f:Inv X KC Z H s){l:Heap}{t':Nat}{j:SX}(hf:∀b∈j,ie X KC H b)(k:∀b o,b∉j->s.heap.get? b=J o->l.get? b=J o):
  Inv X KC Z H { s with heap:=l,toks:=t'}:=by
 have i:∀b u,H b=J u->b∉j:=λb u e z=>by rw[(hf b z).1]at e;cases e
 refine f.step (g':=s.gens) (d':=s.drawn) (λb O=>?_) (λb o _ _ a e _=>k b o a e) (λb o _ _ a e _=>⟨o.slots,k b o a e⟩) (λ_ _ _ _ n=>n)
  (λb o a e=>⟨o,k b o a e⟩) (λ_ _ e=>e) (λ_ _ _ e=>e) (λb Q e=>⟨#[],by rw[e];simp⟩) (λm E=>?_) (λb u e=>?_) f.bare
 .obtain⟨P,B,R,G,M,F⟩:=hf b O;exact⟨G,B,M,F⟩
 .obtain⟨o,C,L,y,r⟩:=E;exact⟨o,C,L,k _ o (λz=>(hf _ z).2.1 rfl) y,r⟩
 .refine (f.hok b u e).stay (λc v a q=>k c v ?_ q) (λ_ q=>q) λ_ _ q=>q;rcases a with z|z
  .rw[z];exact i b u e
  .exact i c _ z
def ul(f:Inv X KC Z H s){h':Heap}{t':Nat}{ch:SX}{ys:List V}{its:SA}(hf:∀b∈ch,ie X KC H b)(C:aF ys its)(E:ys.length<=sizeLine)(B:s.heap.objs.size∉ch)(G:h'.get? s.heap.objs.size=J { cls:=.type "tuple",data:=.seq its.toArray})(k:∀b o,b∉ch->s.heap.get? b=J o->h'.get? b=J o):
  Inv X KC Z (l7 H s.heap.objs.size (.tup ys)) { s with heap:=h',toks:=t'}/\(∀b∈ch,(l7 H s.heap.objs.size (.tup ys)) b=Y)/\H s.heap.objs.size=Y:=by
 have l:=f.hok.fresh (jj s.heap.objs.size);have j:∀b∈ch,b≠s.heap.objs.size:=λb a z=>B (by rw[<-z];exact a);have F:Inv X KC Z (l7 H s.heap.objs.size (.tup ys)) { s with heap:=s.heap.push { cls:=.type "tuple",data:=.seq its.toArray},toks:=s.toks} :=
  f.laid (λb u q=>mx _ q) (jj _) ⟨E,its,C,_,wh _ rfl,rfl,⟨_,rfl⟩,rfl⟩
 have i:∀b∈ch,(l7 H s.heap.objs.size (.tup ys)) b=Y:=λb a=>by rw[aS (j b a)];exact(hf b a).1
 refine⟨?_,i,l⟩;refine jN (t':=t') F (λb a=>⟨i b a,(hf b a).2⟩) λb o a e=>?_;by_cases z:b=s.heap.objs.size
 .have y:(s.heap.push { cls:=.type "tuple",data:=.seq its.toArray}).get? s.heap.objs.size=J { cls:=.type "tuple",data:=.seq its.toArray}:=wh _ rfl
  grind
 .have y:=e;rw[Heap.get?_push_ne _ _ _ z]at y;exact k b o a y
end
def R7(K:h8)(f:Bool)(a:Addr):It :=
 ⟨λi H=>∃ys y,Bj f K H a ys/\ys[i]?=J y,λi H x j=>∃p y,H p=Y/\x=.ref p/\j=l7 H p (.tup [.int i,y])/\∀ys,Bj f K H a ys->ys[i]?=J y,λi H=>∃ys,Bj f K H a ys/\ys.length<=i⟩
def yO{P:Program}{w:World}{K:h8}{R:SH}{x1:Nat}{a6:Pos}(tp:Bool)(a e j:Addr)(L:e≠j)(ab:a≠e)(ai:a≠j):
  Bs P w K (.Tuple R x1 a6) (R7 K tp a) [e,j] e (λi h=>(∃old,IsEnum h e j i old)/\SqI tp h j a i) where
 mem:=by simp
 obj:=λi h st b O=>by
  obtain⟨⟨old,l⟩,F⟩:=st
  have:b=e\/b=j:=by simpa using O
  rcases this with rfl|rfl
  .exact⟨_,l,λv z=>nomatch z⟩
  .obtain⟨o,ho,hc,hd⟩:=F;exact⟨o,ho,λv z=>by rw[hd]at z;cases z⟩
 keep:=λi h h' st k=>let⟨⟨old,l⟩,F⟩:=st;⟨⟨old,k e (by simp) _ l⟩,F.at' λo q=>k j (by simp) o q⟩
 item:=by
  intro X hP hw hK hc i KC s Z H E f hf st hg;subst hP hw hK;obtain⟨⟨old,l⟩,F⟩:=st;obtain⟨ys,y,W,hy⟩:=hg;obtain⟨B,rv,so,hz⟩:=eJ f W;obtain⟨u,hu,ru⟩:=rv.get hy;have a1:i<B.toArray.size:=by
   have:=(nw.mp hu).1
   simpa using this
  have G:(X.A.in1).handled=Y:=by have:=f.ok.hd hc;simpa using this
  refine wpAny_pyNext_enum_itemD (KQ G tp j a ai B.toArray) l ⟨F,so⟩ a1 L (by simp[L,Ne.symm ab]) λx h1 tk hx a5 as ap a9 a4=>⟨_,rfl,?_⟩;have an:x=u:=by
   have:B.toArray[i]?=J u:=by simpa using hu
   rw[this]at hx;exact(Option.some.inj hx).symm
  subst an;refine wpAny_letOwnedTupleGo_enum (s:={ s with heap:=h1,toks:=tk+1}) a5 λh2 ar M=>?_;have C:e<s.heap.objs.size:=n5 l;have U:j<s.heap.objs.size:=F.lt;obtain⟨I2,a3,a2⟩:=ul (t':=tk+1) (h':=h2) f (ch:=[e,j]) (ys:=[.int i,y]) (its:=[.int i tk,x]) hf (.cons ⟨tk,rfl⟩ (.cons ru .nil)) (by rw[sizeLine_eq];show 2<=_;decide)
   (by simp only[pu,IT,or_false,not_or];exact⟨A1 C,A1 U⟩)
   ((M.2 _ (A1 C)).trans ap)
   (λb o O q=>by
    have S:b≠e:=λz=>O (by simp[z]);have al:b≠j:=λz=>O (by simp[z])
    exact(M.2 b S).trans (a4 b o S al q))
  refine⟨.ref s.heap.objs.size,_,I2,rfl,⟨_,y,a2,rfl,rfl,λzs a7=>by rw[ph f a7 W];exact hy⟩,⟨⟨x,by simpa using ar⟩,?_⟩,a3⟩;exact as.1.at' λo q=>(M.2 j (Ne.symm L)).trans q
 done:=by
  intro X hP hw hK hc i KC s Z H E f hf st hg;subst hP hw hK;obtain⟨⟨old,l⟩,F⟩:=st;obtain⟨ys,W,hy⟩:=hg;obtain⟨B,rv,so,hz⟩:=eJ f W;have G:(X.A.in1).handled=Y:=by have:=f.ok.hd hc;simpa using this
  have a8:=rv.length;have hT:s.TypeIs (.ref e) "enumerate":=⟨_,l,rfl⟩;unfold pyNext;refine hH (wpAny_attempt (wpAny_callSpecial?_slot (name:=Str.ofString "__next__") hT PySem.F.slot_enumerate_next (wpAny_call_entry PySem.F.slot_enumerate_next hT PySem.F.entry_enumerate_next ?_ (PySem.F.args_enumerate_next_1 _))));show wpAny _ _ (field (.ref e) 2 >>= _) _ _ _;refine hH (wpAny_field l rfl (x:=.ref j) rfl ?_);refine hH (jD G F so (by simp;ext) λh1 x ay a0=>?_);obtain⟨o,ho,ax⟩:=a0;refine hH (wpAny_isInstance (T:="StopIteration") (b:=I) ⟨o,ho,ax⟩ isSubtype_stop ?_);refine ln ⟨rfl,jN (t':=s.toks) f hf λb o O q=>ay b o (λz=>O (by simp[z])) q⟩
 self:=λA i s Q E st h=>let⟨⟨old,l⟩,_⟩:=st;wpAny_pyIter_enum l h
def R8(K:h8)(f j:Bool)(a b:Addr):It :=
 ⟨λi H=>∃xs ys x y,Bj f K H a xs/\Bj j K H b ys/\xs[i]?=J x/\ys[i]?=J y,
   λi H v l=>∃p x y,H p=Y/\v=.ref p/\l=l7 H p (.tup [x,y])/\(∀xs,Bj f K H a xs->xs[i]?=J x)/\∀ys,Bj j K H b ys->ys[i]?=J y,
   λi H=>∃xs ys,Bj f K H a xs/\Bj j K H b ys/\(xs.length<=i\/ys.length<=i)⟩
def Au{P:Program}{w:World}{K:h8}{al:SH}{x1:Nat}{bm:Pos}(t1 t2:Bool)(a b z TI TO M L:Addr)(D:ZipApart z TI TO M L a b):
  Bs P w K (.Tuple al x1 bm) (R8 K t1 t2 a b) [z,TI,TO,M,L] z (λi h=>IsZip h z TI TO .none/\IsPair h TI (.ref M) (.ref L)/\(∃u v,IsPair h TO u v)/\SqI t1 h M a i/\SqI t2 h L b i) where
 mem:=by simp
 obj:=λi h st c l=>by
  obtain⟨G,j,⟨u,v,B⟩,⟨o1,e1,_,d1⟩,⟨o2,e2,_,d2⟩⟩:=st
  have:c=z\/c=TI\/c=TO\/c=M\/c=L:=by simpa using l
  rcases this with rfl|rfl|rfl|rfl|rfl
  .exact⟨_,G,λv z=>nomatch z⟩
  .exact⟨_,j,λv z=>nomatch z⟩
  .exact⟨_,B,λv z=>nomatch z⟩
  .exact⟨o1,e1,λv z=>by rw[d1]at z;cases z⟩
  .exact⟨o2,e2,λv z=>by rw[d2]at z;cases z⟩
 keep:=λi h h' st k=>let⟨G,j,⟨u,v,B⟩,h1,h2⟩:=st
  ⟨k z (by simp) _ G,k TI (by simp) _ j,⟨u,v,k TO (by simp) _ B⟩,h1.at' λo q=>k M (by simp) o q,h2.at' λo q=>k L (by simp) o q⟩
 item:=by
  intro X hP hw hK l i KC s Z H E f hf st hg;subst hP hw hK;obtain⟨G,j,⟨u,v,B⟩,h1,h2⟩:=st;obtain⟨xs,ys,x,y,F,C,hx,hy⟩:=hg;obtain⟨ap,W,O,a9⟩:=eJ f F;obtain⟨ai,S,R,a2⟩:=eJ f C;obtain⟨u1,a6,a3⟩:=W.get hx;obtain⟨u2,a1,a0⟩:=S.get hy;refine zy D G j B h1 h2 O R (x:=u1) (y:=u2) (by simpa using a6) (by simpa using a1) λha a8 ar ay a7 as b0 an=>⟨_,rfl,?_⟩;refine wpAny_letOwnedTupleGo_zip (s:={ s with heap:=ha}) a8 λhb ax sb=>?_;have l1:z<s.heap.objs.size:=n5 G;have l2:TI<s.heap.objs.size:=n5 j;have l3:TO<s.heap.objs.size:=n5 B;have l4:M<s.heap.objs.size:=h1.lt;have l5:L<s.heap.objs.size:=h2.lt;have up:∀c o,c≠z->ha.get? c=J o->hb.get? c=J o:=λc o l q=>(sb.2 c l).trans q;obtain⟨I2,a5,a4⟩:=ul (t':=s.toks) (h':=hb) f (ch:=[z,TI,TO,M,L]) (ys:=[x,y]) (its:=[u1,u2]) hf (.cons a3 (.cons a0 .nil)) (by rw[sizeLine_eq];show 2<=_;decide)
   (by simp only[pu,IT,or_false,not_or];exact⟨A1 l1,A1 l2,A1 l3,A1 l4,A1 l5⟩)
   (up _ _ (A1 l1) as)
   (λc o l q=>up c o (λe=>l (by simp[e])) (an c o (λe=>l (by simp[e])) (λe=>l (by simp[e])) (λe=>l (by simp[e])) (λe=>l (by simp[e])) q))
  refine⟨.ref s.heap.objs.size,_,I2,rfl,⟨_,x,y,a4,rfl,rfl,λzs U=>by rw[ph f U F];exact hx,λzs U=>by rw[ph f U C];exact hy⟩,⟨ax,?_,⟨_,_,up _ _ D.TOz ar⟩,ay.at' λo q=>up _ o D.i1z q,a7.at' λo q=>up _ o D.i2z q⟩,a5⟩;exact up _ _ D.TIz (an _ _ D.TIz D.TITO D.TIi1 D.TIi2 j)
 done:=by
  intro X hP hw hK l i KC s Z H E f hf st hg;subst hP hw hK;obtain⟨G,j,⟨u,v,B⟩,h1,h2⟩:=st;obtain⟨xs,ys,F,C,ab⟩:=hg;obtain⟨ap,W,O,a9⟩:=eJ f F;obtain⟨ai,S,R,a2⟩:=eJ f C;have e1:=W.length;have e2:=S.length;have hT:s.TypeIs (.ref z) "zip":=⟨_,G,rfl⟩;have bv:(X.A.in1).handled=Y:=by have:=f.ok.hd l;simpa using this
  refine De (f.ok.hd l) D G j B h1 h2 O R ?_ λh' hk=>⟨rfl,jN (t':=s.toks) f hf λc o l q=>hk c o (λe=>l (by simp[e])) (λe=>l (by simp[e])) (λe=>l (by simp[e])) (λe=>l (by simp[e])) q⟩;rcases ab with q|q
  .exact .inl (by simp;ext)
  .exact .inr (by simp;ext)
 self:=λA i s Q E st h=>wpAny_pyIter_zip st.1 h
def bK(v:PV)(h:MH):Option (Bool×SM×List (Nat×SM)):=match v with
 |.loc n=>(match h[n]? with
  |some (.lst xs)=>J (T,xs,[(n,xs)])
  |_=>Y)
 |.frl xs=>J (T,xs,[])
 |.tup xs=>J (I,xs,[])
 |_=>Y
def tF{X:Cx}{U:SX}{H:Hp}{h:MH}{x:PV}{y:V}{E:Bool}{xs:SM}{gd:List (Nat×SM)}(O:RH X.K X.mg U H h)(r:RP X.K U H x y)(e:bK x h=J (E,xs,gd)):
  ∃a,y=.ref a/\(∃ys,Bj E X.K H a ys)/\∀i f j,Le U H i f->RH X.K X.mg i f j->(∀p∈gd,j[p.1]?=J (.lst p.2))->∃ys,Bj E X.K f a ys/\RPs X.K i f xs ys:=by
 cases r with
 |frl s r=>cases e;exact⟨_,rfl,⟨_,s.sq⟩,λi f j l _ _=>⟨_,(l.sqf s).sq,r.le l⟩⟩
 |tup s r=>cases e;exact⟨_,rfl,⟨_,s⟩,λi f j l _ _=>⟨_,l.sqt s,r.le l⟩⟩
 |@loc n a F =>
  obtain⟨o,G,M⟩:=O.obj F;unfold bK at e;dsimp only at e;rw[G]at e
  cases o with
  |lst P =>
   cases e;obtain⟨ys,L,Q⟩:=M;refine⟨a,rfl,⟨ys,SqL.of L⟩,λi f j l z ok=>?_⟩;obtain⟨u,B,C⟩:=z.at' n a _ (l.get F) (ok (n,xs) (by simp));exact⟨u,SqL.of B,C⟩
  |_=>cases e
 |_=>cases e
def cV(xs:SM):SM:=xs.zipIdx.map λp=>.tup [.int (p.2:Int),p.1]
def gM(xs ys:SM):SM:=(xs.zip ys).map λp=>.tup [p.1,p.2]
def yH{xs:SM}{i:Nat}{x:PV}(h:xs[i]?=J x):(cV xs)[i]?=J (.tup [.int (i:Int),x]):=by unfold cV;rw[qb,Fd,h];simp
def qg(xs:SM):(cV xs).length=xs.length:=by simp[cV]
def rn(xs ys:SM):(gM xs ys).length=min xs.length ys.length:=by simp[gM]
def za{xs ys:SM}{i:Nat}{x y:PV}(a:xs[i]?=J x)(f:ys[i]?=J y):(gM xs ys)[i]?=J (.tup [x,y]):=by
 unfold gM;rw[qb]
 have:(xs.zip ys)[i]?=J (x,y):=by rw[List.getElem?_zip_eq_some];exact⟨a,f⟩
 rw[this];rfl
def rj(m:Mx (SM)):Mx MIt:=λZ h=>(m Z h).bind λf a=>match f with
 |[x]=>(match bK x a with
  |some (_,xs,gd)=>.ok ⟨cV xs,gd⟩ a
  |none=>.bad)
 |_=>.bad
def O9(m:Mx (SM)):Mx MIt:=λZ h=>(m Z h).bind λj a=>match j with
 |[x,y]=>(match bK x a,bK y a with
  |some (_,xs,f),J (_,ys,i)=>.ok ⟨gM xs ys,f++i⟩ a
  |_,_=>.bad)
 |_=>.bad
section
variable{X:Cx}{N W G:SQ}{k:Nat}
def ua(g:Good X N W G k){ab:SH}{x1:Nat}{tp:Pos}{a:Expr}{m:Mx (SM)}{p ay:Pos}{j:Nat}(hj:G[j]?=J "enumerate")(hm:X.mg "enumerate"=Y)(ha:MA X [a] m)(hs:starEach [a] X.env=[(T,eval a X.env)]:=by rfl):MI X (.Tuple ab x1 tp) (.Call (.Name "enumerate" p) [a] [] ay) (rj m):=by
 have d:=g.dbg _ (se _ (aN hj));intro KC s Z H R ar ⟨U,ax,h,rs,rh,q⟩;refine wpAny_Call_Name_kw (gK ar (g.gl _ (aN hj)) hm PyProof.Rows.Boot.«enumerate» ?_ d.2.2 d.1)
 refine PyProof.Rows.callWith_type1 (j3 (ha ay KC s Z H (λvs B=>∃O P xs,Le U H O B/\RH X.K X.mg O B P/\RPs X.K O B xs vs/\Ful X (pA X) ax O B ((match xs with
   |[x]=>(match bK x P with|some (_,xs,gd)=>.ok ⟨cV xs,gd⟩ P|none=>.bad)
   |_=>.bad:Out MIt)) R) ar ⟨U,ax,h,rs,rh,Ful.bind q λO B v v' P _ l1 L rv M=>⟨O,P,v,l1,L,rv,M⟩⟩) λus E ⟨vs,B,I1,r1,O,P,xs,l1,L,rv,M⟩=>?_) hs rfl
 cases rv with
 |nil=>exact M.elim
 |@cons y y' ys a8 ry t1 =>
  cases t1 with
  |cons _ _=>exact M.elim
  |nil =>
   dsimp only at M
   cases S:bK y P with
   |none=>rw[S]at M;exact M.elim
   |some z =>
    obtain⟨b,zs,gd⟩:=z;rw[S]at M;obtain⟨ad,rfl,⟨ws,a4⟩,a3⟩:=tF L ry S;obtain⟨u,rfl,rx⟩:=f8 r1;cases rx;obtain⟨a6,a7,so,hz⟩:=eJ I1 a4;refine yg so λh' he hi a9 hk=>?_;refine wpAny_pyIter_enum he ?_;have I2:Inv X KC Z B { E with heap:=h',toks:=E.toks}:=I1.kept hk;obtain⟨oa,a1,a5,_⟩:=id so;have as:ad<E.heap.objs.size:=n5 a1;have an:=I1.hok.fresh (jj E.heap.objs.size);have al:=I1.hok.fresh (IW E.heap.objs.size);refine⟨E.heap.objs.size+1,_,_,_,B,rfl,I2,yO b ad _ E.heap.objs.size (A1 (Mz _)) (vK (NW as)) (vK as),⟨⟨_,he⟩,hi⟩,λc hc=>?_,?_⟩
    .have:c=E.heap.objs.size+1\/c=E.heap.objs.size:=by simpa using hc
     rcases this with rfl|rfl
     .have F:=Inv.fpOk I1 (H':=B) (b:=E.heap.objs.size+1) (IW _) al;exact F
     .exact Inv.fpOk I1 (H':=B) (jj _) an
    .refine M O B _ (Le.refl _ _) L ?_;intro U' H' h2 i l ai ok;obtain⟨Q,C,ap⟩:=a3 U' H' h2 l ai ok;refine⟨λf=>?_,λf=>⟨Q,C,by rw[<-ap.length];rw[qg]at f;exact f⟩⟩;rw[qg]at f;have hx:zs[i]?=J (zs[i]'f):=vp f;obtain⟨w',ew,rw'⟩:=ap.get hx;refine⟨⟨Q,w',C,ew⟩,λx' H3 ⟨pp,y2,hp,e1,e2,a0⟩=>?_⟩;subst e1;subst e2;have ey:y2=w':=by
      have:=a0 Q C
      rw[ew]at this;exact(Option.some.inj this).symm
     subst ey;obtain⟨a2,l3⟩:=ai.tup hp [.int i,y2];exact⟨U',_,l3,a2,yH hx,.tup (SqT.of bP) (.cons (.int _) (.cons (rw'.le l3) .nil))⟩
def Ha(g:Good X N W G k){a7:SH}{x1:Nat}{tp:Pos}{a b:Expr}{m:Mx (SM)}{p a4:Pos}{j:Nat}(hj:G[j]?=J "zip")(hm:X.mg "zip"=Y)(ha:MA X [a,b] m)(hs:starEach [a,b] X.env=(T,eval a X.env)::starEach [b] X.env:=by rfl)(cv:(backTo a4 (starEach [b] X.env)).any (·.1)=T:=by rfl):MI X (.Tuple a7 x1 tp) (.Call (.Name "zip" p) [a,b] [] a4) (O9 m):=by
 have d:=g.dbg _ (se _ (aN hj));intro KC s Z H R b3 ⟨U,b9,h,rs,rh,q⟩;refine wpAny_Call_Name_kw (gK b3 (g.gl _ (aN hj)) hm PyProof.Rows.Boot.«zip» ?_ d.2.2 d.1)
 refine PyProof.Rows.callWith_type1 (j3 (ha a4 KC s Z H (λvs Q=>∃U1 h1 xs,Le U H U1 Q/\RH X.K X.mg U1 Q h1/\RPs X.K U1 Q xs vs/\Ful X (pA X) b9 U1 Q ((match xs with
   |[x,y]=>(match bK x h1,bK y h1 with|some (_,xs,g1),J (_,ys,g2)=>.ok ⟨gM xs ys,g1++g2⟩ h1|_,_=>.bad)
   |_=>.bad:Out MIt)) R) b3 ⟨U,b9,h,rs,rh,Ful.bind q λU1 Q v v' h1 _ l1 P rv M=>⟨U1,h1,v,l1,P,rv,M⟩⟩) λus f ⟨vs,Q,I1,r1,U1,h1,xs,l1,P,rv,M⟩=>?_) hs cv
 cases rv with
 |nil=>exact M.elim
 |@cons y y' ys dt ry t1 =>
  cases t1 with
  |nil=>exact M.elim
  |@cons v v' dn df rv t2 =>
   cases t2 with
   |cons _ _=>exact M.elim
   |nil =>
    dsimp only at M
    cases an:bK y h1 with
    |none=>rw[an]at M;exact M.elim
    |some z =>
     obtain⟨b1,cf,dr⟩:=z
     cases O:bK v h1 with
     |none=>rw[an,O]at M;exact M.elim
     |some z2 =>
      obtain⟨b2,cb,dx⟩:=z2;rw[an,O]at M;obtain⟨L,rfl,⟨dV,bv⟩,b4⟩:=tF P ry an;obtain⟨B,rfl,⟨dk,b0⟩,b5⟩:=tF P rv O
      cases r1 with
      |@cons _ u1 _ dF cs ci =>
       cases ci with
       |@cons _ u2 _ d1 ck c7 =>
        cases c7;cases cs;cases ck;obtain⟨di,de,a6,d2⟩:=eJ I1 bv;obtain⟨dc,dj,a9,ds⟩:=eJ I1 b0;refine zt a6 a9 λh' hz c4 c2 db ch d0 hk=>?_;refine wpAny_pyIter_zip hz ?_;have I2:Inv X KC Z Q { f with heap:=h',toks:=f.toks}:=I1.kept hk;obtain⟨dq,a8,_,_⟩:=id a6;obtain⟨dv,b6,_,_⟩:=id a9;have al:L<f.heap.objs.size:=n5 a8;have ai:B<f.heap.objs.size:=n5 b6;have sN:∀(n:Nat),f.heap.objs.size<=f.heap.objs.size+n:=λn=>Nat.le_add_right _ _;have ap:∀(c:Addr)(n:Nat),c<f.heap.objs.size->c≠f.heap.objs.size+n:=λc n hc=>vK (vE hc (sN n));have u:∀(m n:Nat),m≠n->f.heap.objs.size+m≠f.heap.objs.size+n:=λm n da e=>da (Nat.add_left_cancel e);have D:ZipApart (f.heap.objs.size+4) (f.heap.objs.size+2) (f.heap.objs.size+3) f.heap.objs.size (f.heap.objs.size+1) L B :=
         ⟨u 2 4 (by decide),u 3 4 (by decide),u 0 4 (by decide),u 1 4 (by decide),u 2 3 (by decide),u 2 0 (by decide),u 2 1 (by decide),u 3 0 (by decide),u 3 1 (by decide),u 0 1 (by decide),
          ap L 4 al,ap L 3 al,ap L 0 al,ap L 1 al,ap B 4 ai,ap B 3 ai,ap B 0 ai,ap B 1 ai⟩
        refine⟨f.heap.objs.size+4,_,_,_,Q,rfl,I2,Au b1 b2 L B _ _ _ _ _ D,⟨hz,c4,⟨_,_,c2⟩,db,ch⟩,λc hc=>?_,?_⟩
        .have F:∀n:Nat,ie X KC Q (f.heap.objs.size+n):=λn=>Inv.fpOk I1 (H':=Q) (sN n) (I1.hok.fresh (sN n))
         have:c=f.heap.objs.size+4\/c=f.heap.objs.size+2\/c=f.heap.objs.size+3\/c=f.heap.objs.size\/c=f.heap.objs.size+1:=by simpa using hc
         rcases this with rfl|rfl|rfl|rfl|rfl
         .exact F 4
         .exact F 2
         .exact F 3
         .exact F 0
         .exact F 1
        .refine M U1 Q _ (Le.refl _ _) P ?_;intro U' H' h2 i l ay ok;obtain⟨ab,E,as⟩:=b4 U' H' h2 l ay (λp hp=>ok p (AU _ hp));obtain⟨S,C,ar⟩:=b5 U' H' h2 l ay (λp hp=>ok p (se _ hp));refine⟨λa3=>?_,λa3=>⟨ab,S,E,C,?_⟩⟩
         .rw[rn]at a3;have bm:cf[i]?=J (cf[i]'(by ext)):=vp (by ext);have a5:cb[i]?=J (cb[i]'(by ext)):=vp (by ext);obtain⟨w1,ca,c3⟩:=as.get bm;obtain⟨w2,cd,c5⟩:=ar.get a5;refine⟨⟨ab,S,w1,w2,E,C,ca,cd⟩,λx' H3 ⟨pp,y1,y2,hp,e1,e2,a0,ax⟩=>?_⟩;subst e1;subst e2;have c1:y1=w1:=by
           have:=a0 ab E
           rw[ca]at this;exact(Option.some.inj this).symm
          have c6:y2=w2:=by
           have:=ax S C
           rw[cd]at this;exact(Option.some.inj this).symm
          subst c1;subst c6;obtain⟨cn,l3⟩:=ay.tup hp [y1,y2];exact⟨U',_,l3,cn,za bm a5,.tup (SqT.of bP) (.cons (c3.le l3) (.cons (c5.le l3) .nil))⟩
         .rw[rn]at a3;have a1:=as.length;have a2:=ar.length;ext
end
end MM
namespace MM
open PySem.Spec PyProof.Rows L2 SetT SortT
def jS:SM->Option (SS)
 |[]=>J []
 |.int i::r=>(jS r).map (i::·)
 |_=>Y
def fu(l:SS):SS:=l.mergeSort λa b=>decide (a<=b)
def fQ(l:SS):(fu l).Perm l:=List.mergeSort_perm _ _
def m8(l:SS):(fu l).Pairwise (·<=·):=by
 have:=QM (le:=λa b:Int=>decide (a<=b)) (λa b c f i=>by
   simp only[decide_eq_true_eq]at f i ⊢;lia) (λa b=>by
   lia)
 unfold fu
 simp_all
def iM{l m:SS}(f:l.Pairwise (·<=·))(i:m.Pairwise (·<=·))(p:l.Perm m):l=m :=
 List.Perm.eq_of_pairwise (λa b _ _ x y=>by lia) f i p
def u6:∀{xs:SM}{k:SS},jS xs=J k->xs=k.map .int
 |[],k,h=>by cases h;rfl
 |x::r,k,h=>by
  cases x with
  |int i =>
   unfold jS at h
   cases a:jS r with
   |none=>rw[a]at h;cases h
   |some f =>
    rw[a]at h;cases h;rw[u6 a];rfl
  |_=>cases h
def pj(xs:SM)(h:MH):SK:=match xs with
 |[x]=>(match iG h x with
  |some ys=>(match jS ys with
   |some ns=>if ns.length<64 then .ok (.loc h.length) (h++[.lst ((fu ns).map .int)])else .bad
   |none=>(match kB ys with
    |some a=>if(∀k∈a,k≠[])/\a.length<=66 then .ok (.loc h.length) (h++[.lst ((ij a).map kP)])else .bad
    |none=>.bad))
  |none=>.bad)
 |_=>.bad
def sG:∀{ns:SS}{a:SA},aF (ns.map V.int) a->IntsAre a ns
 |[],_,h=>by cases h;exact .nil
 |i::k,_,h=>by
  cases h with
  |cons r t =>
   obtain⟨f,rfl⟩:=r;exact .cons i f (sG t)
def rN:∀{ns:SS}{a:SA},IntsAre a ns->aF (ns.map V.int) a
 |_,_,.nil=>.nil
 |_,_,.cons n t h=>.cons ⟨t,rfl⟩ (rN h)
section
variable{X:Cx}{N W G:SQ}{k:Nat}
def rH:cw X (.builtin "sorted") (λxs H Q=>∃l ns,xs=[.ref l]/\SqL X.K H l (ns.map V.int)/\ns.length<64/\∀z,H z=Y->Q (.ref z) (l7 H z (.lst ((fu ns).map V.int)))):=by
 intro KC s Z H xs us Q f r ⟨l,ns,e,P,hz,q⟩;subst e;obtain⟨u,rfl,U⟩:=f8 r;cases U;obtain⟨a,E,L,R⟩:=f.list P;have j:=E.length;rw[zx]at j;refine sorted_ints L.isList (sG E) ⋯ λy M O h2 h3=>?_;have e:=iM h3 (m8 ns) (h2.trans (fQ ns).symm);subst e;have B:((s.heap.push (seqObj "list" #[] 0)).update s.heap.objs.size (Obj.mapSeq (·++a.toArray))).objs.size=s.heap.objs.size+1:=by rw[Heap.size_update,size_push']
 have C:(((s.heap.push (seqObj "list" #[] 0)).update s.heap.objs.size (Obj.mapSeq (·++a.toArray))).push (seqObj "list" a.toArray 0)).get? (s.heap.objs.size+1)=J (seqObj "list" a.toArray 0):=by rw[<-B];exact wh _ rfl
 obtain⟨c,S⟩:=ir C y;refine⟨.ref (s.heap.objs.size+1),_,f.laid (o:=.lst ((fu ns).map V.int)) (t':=s.toks) (λb o F=>?_) (IW _) (⟨?_,y.toList,c,rN O,?_⟩),rfl,q _ (f.hok.fresh (IW _))⟩
 .have i:=n5 F;refine ii (vK (NW i)) ?_ _;refine mx _ ?_;rw[Jt _ _ _ _ (vK i)];exact mx _ F
 .rw[zx,(fQ ns).length_eq,sizeLine_eq];lia
 .unfold sortedAll;rw[S]
def qh:cr X (.builtin "sorted") pj:=by
 intro P s Z H xs M Q B r ⟨U,h,ps,u,rp,q⟩
 cases rp with
 |nil=>exact q.elim
 |@cons x y _ _ r1 t1 =>
  cases t1 with
  |cons _ _=>exact q.elim
  |nil =>
   unfold pj at q;dsimp only at q
   cases hl:iG h x with
   |none=>rw[hl]at q;exact q.elim
   |some R =>
    rw[hl]at q;dsimp only at q;obtain⟨O,ys,rfl,j,a⟩:=Dd u r1 hl
    cases E:jS R with
    |some ns =>
     rw[E]at q;dsimp only at q;by_cases z:ns.length<64
     .rw[b_ z]at q;rw[u6 E]at a;rw[BW a]at j;refine rH P s Z H _ M Q B r ⟨O,ns,rfl,j,z,λl f=>?_⟩;obtain⟨i,L⟩:=u.new f (o:=.lst ((fu ns).map .int)) ⟨_,rfl,RPs.ints _⟩;exact q _ _ _ L i (.loc (by rw[<-u.len];simp))
     .rw[f_ z]at q;exact q.elim
    |none =>
     rw[E]at q
     cases F:kB R with
     |none=>rw[F]at q;exact q.elim
     |some C =>
      rw[F]at q;dsimp only at q;by_cases z:(∀k∈C,k≠[])/\C.length<=66
      .rw[b_ z]at q;rw[uB F]at a;refine sW P s Z H _ M Q B r ⟨O,ys,C,rfl,j,uT a,z.1,z.2,λl S f tk=>?_⟩;obtain⟨i,L⟩:=u.new f (o:=.lst ((ij C).map kP)) ⟨_,rfl,uQ tk⟩;exact q _ _ _ L i (.loc (by rw[<-u.len];simp))
      .rw[f_ z]at q;exact q.elim
end
def Dg:Aw X b (λ_ _=>.bad):=λl s Z H D a ⟨U,f,h,j,i,q⟩=>q.elim
end MM
namespace MM
open PySem.Spec PyProof.Rows L2
end MM
namespace MM
open PySem.Spec PyProof.Rows L2 SetT SortT
section
variable{h:MH}{i:Int}{xs:SM}{n:Nat}
def pS(e:h[n]?=J (.lst xs)):bW h (.loc n)=J xs:=by simp[bW,e]
def xA(e:h[n]?=J (.lst xs))(hl:xs.length<=1000):u_ [.loc n] h=.ok (.loc h.length) (h++[.lst xs]):=by simp[u_,pS e,jM hl]
def oi(e:h[n]?=J (.lst xs))(hl:xs.length<1000):du n [v] h=.ok .non (h.set n (.lst (xs++[v]))):=by
 have z:1000<=sizeLine:=by decide
 simp only[du,e];rw[b_ ⋯]
def ur(em:m Z h=.ok (.loc n) h1)(e:h1[n]?=J (.lst xs)):Bi f m ma Z h=(ma Z h1).bind λj a=>(f n j a).ne:=by simp_all
def sF:∀(m:Nat),jJ (List.replicate m (.bl I))=J (List.replicate m I)
 |0=>rfl
 |m+1=>by
  rw[Bp];unfold jJ;rw[sF m];rfl
def yv(e:h[n]?=J (.lst (List.replicate m (.bl I)))):Bb [.loc n] h=.ok (.bl I) h:=by simp[Bb,pS e,sF]
end
def itR1'(em:m Z h=.ok [.int j] h1)(z:-(2^62)<=j/\j<2^62):dz m Z h=.ok ⟨bo 0 j.toNat,[]⟩ h1:=by simp_all
def Hb(em:m Z h=.ok [.int (n:Int)] h1)(f:n<=100000):dz m Z h=.ok ⟨bo 0 n,[]⟩ h1:=by
 have z1:-(2^62)<=(n:Int):=Int.le_trans (by decide) (Int.natCast_nonneg n);have a:(n:Int)<2^62:=Int.lt_of_le_of_lt (Int.ofNat_le.mpr f) (by decide)
 have:=itR1' em ⟨z1,a⟩
 rwa [BK]at this
def eW:∀(k:SS),PyData.canLayAll0 (k.map .int)=I/\PyData.depthAll (k.map .int)<=1
 |[]=>⟨rfl,by simp[PyData.depthAll]⟩
 |i::k=>by
  obtain⟨a,b⟩:=eW k;constructor
  .simp[PyData.canLayAll0,PyData.canLay0,a]
  .simp only[n8,PyData.depthAll,PyData.depth];lia
def rC:∀(f:SU),PyData.canLayAll0 (f.map λk=>.tuple (k.map .int))=I/\PyData.depthAll (f.map λk=>.tuple (k.map .int))<=2
 |[]=>⟨rfl,by simp[PyData.depthAll]⟩
 |k::f=>by
  obtain⟨a,b⟩:=rC f;obtain⟨c,d⟩:=eW k;constructor
  .simp[PyData.canLayAll0,PyData.canLay0,a,c]
  .simp only[n8,PyData.depthAll,PyData.depth];lia
end MM
namespace MM
open PySem.Spec PyProof.Rows L2
def mW(h:MH):PV->Option Bool
 |.non=>J T
 |.bl b=>J b
 |.int i=>J (i != 0)
 |.str _=>Y
 |.tup xs=>J (!xs.isEmpty)
 |.frl xs=>J (!xs.isEmpty)
 |.loc n=>match h[n]? with
  |some (.lst xs)=>J (!xs.isEmpty)
  |_=>Y
def Rm(m:Mx PV):Mx Bool:=λZ h=>(m Z h).bind λv a=>match mW a v with
 |some b=>.ok b a
 |none=>.bad
section
variable{X:Cx}{N W G:SQ}{k:Nat}
def kR{K:h8}{U:SX}{H:Hp}{xs:SM}{ys:List V}(r:RPs K U H xs ys):(!xs.isEmpty)=!ys.isEmpty:=by cases r<;>rfl
def Hc{e:Expr}{m:Mx PV}(h:ME X e m)(E:∀l,isTrue e X.env l=(do let v <-l;standAt e.pos;holding [v] (truthy v)):=by intro _;rfl):MT X e (Rm m):=by
 refine PT.imp (zd h E) λZ H Q ⟨U,C,h,L,P,q⟩=>⟨U,C,h,L,P,Ful.bind q λy u x x' S _ l1 f R j=>?_⟩
 cases R with
 |non=>exact⟨T,rfl,j y u _ (Le.refl _ _) f rfl⟩
 |bl b=>exact⟨b,rfl,j y u _ (Le.refl _ _) f rfl⟩
 |int i=>exact⟨_,rfl,j y u _ (Le.refl _ _) f rfl⟩
 |str i=>exact j.elim
 |@tup xs a ys s r=>exact⟨_,.inr (.inl ⟨ys,s,rfl⟩),by rw[<-kR r];exact j y u _ (Le.refl _ _) f rfl⟩
 |@frl xs a ys s r=>exact⟨_,.inl ⟨ys,s.sq,rfl⟩,by rw[<-kR r];exact j y u _ (Le.refl _ _) f rfl⟩
 |@loc n a e =>
  obtain⟨o,B,M⟩:=f.obj e
  cases o with
  |lst xs =>
   obtain⟨ys,F,O⟩:=M;simp only[mW,B]at j;exact⟨_,.inl ⟨ys,.inl (.inl F),rfl⟩,by rw[<-kR O];exact j y u _ (Le.refl _ _) f rfl⟩
  |dic fz ks xs=>simp only[mW,B]at j;exact j.elim
  |exc z=>simp only[mW,B]at j;exact j.elim
end
end MM
namespace MM
open PySem.Spec PyProof.Rows L2 PySem.W
section
variable{X:Cx}
end
end MM
namespace MM
open PySem.Spec PyProof.Rows L2
section
variable{X:Cx}{o e:Expr}{es:SH}{name:Str}{apos cpos:Pos}{id:String}{f:Str->SM->MH->SK}{m:Mx PV}{ma:Mx (SM)}
end
end MM
namespace DcT
open PyProof.Rows
section
variable{prog:Program}{w:World}{A:Around}{E:Sh}{s:Shared}
def vN:typeLookup (.type "tuple") "keys"=pure Y:=by rw[typeLookup_type,builtinLookup_eq_fast];kernel_rfl
def yw(z:s.heap.get? a=J o)(B:o.cls=.type "tuple")(f:o.data=.seq xs k)(hd:o.dict=Y)(G:A.handled=Y)(h:∀l y e,Heap.NewExcOf s.heap l e "AttributeError"->Q Y { s with heap:=l,toks:=y}):wpAny (model prog w) A (getAttr? (.ref a) "keys") Q E s:=by
 obtain⟨c,C,L,M⟩:=o;simp only at B f hd;subst B f hd;obtain⟨H,g,d,y,os⟩:=s;have u:∀i,(⟨H,g,d,i,os⟩:Shared).TypeIs (.ref a) "tuple":=λ_=>⟨_,z,rfl⟩;have O:=sub_AttributeError;have S:=F.slot_tuple_getattribute.lookup;have U:=F.slot_tuple_getattribute.bind (.ref a);have R:=am_tuple_getattr_none;unfold getAttr? getAttrBy? getAttrBy
 repeat (any_goals (first | assumption | exact u _ | ((with_reducible show wpAny _ _ (call (Value.builtin "tuple.__getattribute__") _ _) _ _ _);refine call_meets F.slot_tuple_getattribute (u _) am_entry_tuple_getattribute (F.args_tuple_getattribute_2 _ _) (meets_getattribute_miss_tuple a xs k M "keys" _ vN (by decide +kernel) (by decide)) ⟨z,G,λl i e j=>?_⟩)|wp_step))
 obtain⟨W,X,P⟩:=j.there;show wpAny _ _ (getattributeRaised _ _ _ _ _ _ _) _ _ _;unfold getattributeRaised
 repeat (any_goals (first | assumption | wp_step))
 exact h _ _ _ j.of
def mq:entryFor table "dict.update.loop"=J Builtin.«dict.update.loop»:=entryFor_of_tree (by kernel_rfl)
def fH:plainId "dict.update.loop"=I:=by decide +kernel
def Ext(a h:Heap):Prop:=∀b o,a.get? b=J o->h.get? b=J o
def im{h i:Heap}{d:Addr}{a:List (Int×Value)}(f:h.DictOf (intKind prog w) d a)(hd:∀o,h.get? d=J o->i.get? d=J o):i.DictOf (intKind prog w) d a:=by obtain⟨o,u,l,j,r⟩:=f;exact⟨o,u,l,hd o j,r⟩
def vV{a:List (Int×Value)}{k:Int}{v:Value}(h:k∉a.map (·.1)):stored a k v=a++[(k,v)]:=by unfold stored;rw[f_];intro z;rw[List.any_eq_true]at z;obtain⟨x,f,e⟩:=z;exact h (tx.mpr ⟨x,f,by simpa using e⟩)
def KR{R:Result->Shared->Prop}{B:Addr}{fp L:SX}{G:Array GenState->Array GenState->Prop}{n:Nat}{P:Nat->Value->Prop}{St:Nat->Shared->Prop}(W:WalksS prog w A.in1 B fp L G n P St)(d:Addr)(ap:d∉fp){H0:Heap}(a5:H0.get? d=Y)(a7:∀b∈L,H0.get? b=Y)(f:List (Int×Value))(hn:f.length=n)(b5:n<=sizeLine)(nd:(f.map (·.1)).Nodup)(ay:∀i v u,P i v->f[i]?=J u->∃a t,v=.ref a/\H0.IsTuple a #[.int u.1 t,u.2]):
  ∀(c i:Nat)(s:Shared)(j:Int)(tj:Tok),n-i=c->i<=n->St i s->Ext H0 s.heap->s.heap.DictOf (intKind prog w) d (f.take i) ->
   (∀l,Moved (d::L) G s l->Ext H0 l.heap->l.heap.DictOf (intKind prog w) d f->R (.ok (.ret .none)) l) ->
   codeAny (model prog w) A (.builtin "dict.update.loop" ⟨[.ref d,.ref B,.int j tj,.none],[]⟩) R s:=by
 have a0:d∉L:=λh=>ap (W.sub _ h);have C:∀b∈L,b∈d::L:=λb S=>n_ _ S;have F:∀{s l:Shared},Moved L G s l->Ext H0 s.heap->Ext H0 l.heap:=λ{s l} y x b o e =>
  y.heap b o (λS=>by rw[a7 b S]at e;cases e) (x b o e)
 intro c
 induction c with
 |zero =>
  intro i s j tj hc hi M hx hT O;have e:i=n:=by lia
  subst e;refine codeAny_builtin mq ?_;rw[Around.under_plainId fH _];show wpAny _ A.in1 (pyNext (.ref B) >>= _) _ _ s;refine hH (W.done s _ _ M λl y=>?_);show wpAny _ A.in1 (Builtin.Dict.addKeywords d [] >>= λ_=>ret Value.none) _ _ l;rw[<-hn,List.take_length]at hT;refine hH ?_;show wpAny _ A.in1 (pure ()) _ _ l;exact ln (ln (O l (y.mono C) (F y hx) (im hT λo e=>y.heap d o a0 e)))
 |succ c ih =>
  intro i s j tj hc hi M hx hT O;have as:i<n:=by lia
  refine codeAny_builtin mq ?_;rw[Around.under_plainId fH _];show wpAny _ A.in1 (pyNext (.ref B) >>= _) _ _ s;refine hH (W.item i s _ _ as M λv l hP an y=>?_);obtain⟨u,hk⟩:∃k,f[i]?=J k:=⟨_,vp ⋯⟩;obtain⟨a,t,rfl,ha⟩:=ay i v u hP hk;have ar:=F y hx;have bv:=im hT (λo e=>y.heap d o a0 e);obtain⟨oa,a3,H,na,Z⟩:=ha;have ax:=ar a oa a3;have bm:l.TypeIs (.ref a) "tuple":=⟨oa,ax,H⟩;dsimp only;refine hH (wpAny_holding (hH ?_));have U:∀(Q:SA->Shared->Prop) (E:Sh),Q [.int u.1 t,u.2] l->wpAny (model prog w) A.in1 (Builtin.Dict.pairItems (.ref a)) Q E l:=λQ E q=>by
   unfold Builtin.Dict.pairItems;refine hH (wpAny_typeOf bm ?_);obtain⟨b0,g',d',b3,b4⟩:=l;obtain⟨oc,od,b1,b6⟩:=oa;simp only at H Z;subst H Z;rw[b_ (by decide)]
   repeat (any_goals (first | assumption | wp_step))
  refine wpAny_tryCatch (U _ _ ?_);dsimp only;have al:(f.take i).length<=sizeLine:=by rw[Jz];lia
  have ai:u.1∉(f.take i).map (·.1):=λz=>by
   obtain⟨x,a2,ex⟩:=tx.mp z;obtain⟨q,X⟩:=AT.mp a2;rw[List.getElem?_take]at X
   split at X
   .rename_i b2
    have e1:(f.map (·.1))[q]?=J u.1:=by rw[qb,X];simp[ex]
    have e2:(f.map (·.1))[i]?=J u.1:=by rw[qb,hk];rfl
    have l1:q<(f.map (·.1)).length:=(nw.mp e1).1
    have:=(Fj l1 nd).mp (e1.trans e2.symm)
    lia
   .cases X
  have a4:f.take (i+1)=f.take i++[u]:=by rw[N4,hk];rfl
  refine wpAny_holding (wpAny_dictSet_pairs (knd:=intKind prog w) (k:=u.1) (intKind_is prog w u.1 t) bv (λh' hD sb=>?_) al);rw[vV ai,show f.take i++[(u.1,u.2)]=f.take (i+1)from a4.symm]at hD;have a1:Ext H0 h':=λq o e=>by
   have X:q≠d:=by rintro rfl;rw[a5]at e;cases e
   exact(sb.2 q X).trans (ar q o e)
  refine ln ⟨plainId_quiet fH _,ih (i+1) _ _ _ ⋯ as (W.frame _ l _ _ an (IW _) λb S o e=>(sb.2 b (λq:b=d=>ap (by rw[<-q];exact S))).trans e) a1 hD λa8 ab a6 a9=>?_⟩;refine O a8 (Moved.trans W.gtrans ((y.mono C).then_heap (IW _) λb o S e=>?_) ab) a6 a9;exact(sb.2 b (λq:b=d=>S (by rw[q];exact Bq))).trans e
set_option maxHeartbeats 3200000 in
theorem nk{a:Addr}{items:Array Value}{kvs:List (Int×Value)}{Q:Sh}(hh:A.handled=Y)(ha:∃o k,s.heap.get? a=J o/\o.cls=.type "tuple"/\o.data=.seq items k/\o.dict=Y)(hn:kvs.length=items.size)(ab:items.size<=sizeLine)(nd:(kvs.map (·.1)).Nodup)(O:∀(i:Nat) v kv,items[i]?=J v->kvs[i]?=J kv->∃b t,v=.ref b/\s.heap.IsTuple b #[.int kv.1 t,kv.2])(h:∀(C:Heap) (tk:Nat),C.DictOf (intKind prog w) s.heap.objs.size kvs->Ext s.heap C->Q (.ref s.heap.objs.size) { s with heap:=C,toks:=tk}):
  wpAny (model prog w) A (call (.type "dict") [.ref a]) Q E s:=by
 refine callType_codes (Q₁:=λobj y=>obj=.ref s.heap.objs.size/\y={ s with heap:=s.heap.push { cls:=.type "dict",data:=.dict #[]}}) F.kt_called_dict (F.kt_typeCall_dict_1 _) F.entry_dict_init (kt_code_dict_new _ ⟨rfl,rfl⟩) ?_;rintro obj y ⟨rfl,rfl⟩;have f:(s.heap.push { cls:=.type "dict",data:=.dict #[]}).DictOf (intKind prog w) s.heap.objs.size []:=Heap.DictOf.new s.heap;refine⟨f.typeIs,F.args_dict_init_2 _ _,?_⟩;unfold Builtin.«dict.__init__»;refine hH ?_;unfold Builtin.Dict.selfAndRest;refine hH (wpAny_notOrdered_dict f.typeIs ?_);show wpAny _ _ (pure (s.heap.objs.size,[Value.ref a])) _ _ _;refine ln ?_;show wpAny _ _ (Builtin.Dict.updateFrom "dict.__init__" s.heap.objs.size (.ref a) [] .none) _ _ _;unfold Builtin.Dict.updateFrom;obtain⟨R,ka,l,B,G,as⟩:=ha;have z:(s.heap.push { cls:=.type "dict",data:=.dict #[]}).get? a=J R:=mx _ l;have L:A.in1.in1.handled=Y:=by simp[hh]
 refine hH (wpAny_typeOf (T:="tuple") ⟨R,z,B⟩ ?_);rw[b_ (by decide)];refine hH (yw z B G as L λu al e hx=>?_);rw[b_ (by rfl)];have S:Ext s.heap u:=λb o eb=>hx.keeps b o (mx _ eb);have H:u.DictOf (intKind prog w) s.heap.objs.size []:=im f λo U=>hx.keeps _ o U;have M:u.IsTuple a items:=⟨R,S a R l,B,ka,G⟩;refine hH (wpAny_rule (hH (wpAny_pyIter_tuple (s:={ s with heap:=u,toks:=al}) M ?_)));have P:s.heap.objs.size<u.objs.size:=by obtain⟨o,_,_,ho,_⟩:=H;exact n5 ho
 have Z:a<u.objs.size:=n5 (S a R l);have has:a<s.heap.objs.size:=n5 l;have j:∀b,s.heap.objs.size<=b->s.heap.get? b=Y:=λb W=>by
  cases e:s.heap.get? b with
  |none=>rfl
  |some o=>exact absurd (n5 e) (Nat.not_lt.mpr W)
 refine ln ⟨plainId_quiet fH _,?_⟩
 refine KR (A:=A.in1) (H0:=s.heap) ((Walks.tuple (A:=A.in1.in1) L u.objs.size a (vK Z) items).toS) s.heap.objs.size (by simp only[pu,IT,or_false,not_or];exact⟨vK P,A1 has⟩) (j _ (jj _)) (λb W=>by
   have:b=u.objs.size:=by simpa using W
   rw[this];exact j _ (EF P)) kvs hn ab nd O items.size 0 _ 0 0 ⋯ (zL _) ⟨⟨_,wh _ rfl,rfl,rfl⟩,M.push _⟩ (λb o e=>mx _ (S b o e)) (im H λo e=>mx _ e) ?_
 intro s' X ap ai;obtain⟨C,g',d',an,ar⟩:=s';have eg:g'=s.gens:=X.gens;have ed:d'=s.drawn:=X.drawn;have U:ar=s.os:=X.os;subst eg;subst ed;subst U;exact⟨rfl,h C an ai ap⟩
end
end DcT
namespace MM
open PySem.Spec PyProof.Rows L2 DcT
section
variable{X:Cx}{N W G:SQ}{k:Nat}
local instance inhPV:Inhabited PV:=⟨.non⟩
def g8:SM->Option (List (Int×PV))
 |[]=>J []
 |.tup [.int k,v]::r=>(g8 r).map ((k,v)::·)
 |_=>Y
def KS(x:PV):Option (List (Int×PV)):=match x with
 |.tup f=>(match g8 f with
  |some a=>if(a.map (·.1)).Nodup then J a else Y
  |none=>Y)
 |_=>Y
def vP{K:h8}{U:SX}{H:Hp}:∀{xs:SM}{ys:List V}{y:SA}{a:List (Int×PV)},RPs K U H xs ys->aF ys y->g8 xs=J a ->
  xs.length=a.length/\∀(i:Nat) u j,y[i]?=J u->a[i]?=J j->∃b w,u=.ref b/\SqT K H b [.int j.1,w]/\RP K U H j.2 w:=by
 intro xs
 induction xs with
 |nil =>
  intro ys y a r v e;cases r;cases v;cases e;exact⟨rfl,λi u j h=>by simp at h⟩
 |cons x xs B =>
  intro ys y a r v e
  cases r with
  |cons F O =>
   cases v with
   |cons P C =>
    unfold g8 at e
    split at e
    .rename_i h;cases h
    .rename_i Z R S h
     injection h with f l
     subst f l;rw[vz]at e;obtain⟨z,e1,rfl⟩:=e;obtain⟨hl,hv⟩:=B O C e1;refine⟨by simp[hl],λi u j f l=>?_⟩
     cases i with
     |zero =>
      simp at f l;subst f l
      cases F with
      |tup sq rp =>
       cases rp with
       |cons M L=>cases L with
        |cons E Q =>
         cases Q;cases M;exact⟨_,_,P,sq,E⟩
     |succ i =>
      simp at f l;exact hv i u j f l
    .cases e
def nF(K:h8)(x:Str)(i j:Int):Prop:=∃(a:Addr) (t f:Tok) (n:Nat) (l:Array (SF)),PySem.W.nsIn K mainGlobals x=J (J (.ref a))/\K.lookup a=J ⟨.type "tuple",Y,.seq #[.int i t,.int j f] n,l⟩
def mJ(K:h8)(mg:BN)(x:Str)(i j:Int):Prop:=∃(a:Addr) (t f:Tok) (n:Nat) (l:Array (SF)),mg x=J (.ref a)/\K.lookup a=J ⟨.type "tuple",Y,.seq #[.int i t,.int j f] n,l⟩
def Dh{K:h8}{x:Str}{i j:Int}{a:Addr}{t u:Tok}{n:Nat}{f:Array (SF)}(h:PySem.W.nsIn K mainGlobals x=J (J (.ref a)))(l:K.lookup a=J ⟨.type "tuple",Y,.seq #[.int i t,.int j u] n,f⟩):nF K x i j:=⟨a,t,u,n,f,h,l⟩
def nF.mg{K:h8}{mg:BN}{base:Heap}{x:Str}{i j:Int}(z:nF K x i j)(kin:K.In base)(ns:base.Ns mainGlobals mg):mJ K mg x i j:=by obtain⟨a,t,f,n,u,h,l⟩:=z;exact⟨a,t,f,n,u,PySem.W.mg_of kin ns h,l⟩
def yR(g:Good X N W G k){x:Str}{q:Nat}{i j:Int}{l:Pos}(u:G[q]?=J x)(f:mJ X.K X.mg x i j):ME X (.Name x l) (mC (.tup [.int i,.int j])):=by obtain⟨a,t,B,n,E,f,hl⟩:=f;have d:=g.dbg x (se _ (aN u));exact PE.imp (Cf (v:=.ref a) (g.gl x (aN u)) f rfl d.1) λZ H Q ⟨U,y,h,C,z,q⟩=>q U H _ (Le.refl _ _) z (.tup (ys:=[.int i,.int j]) (.inr ⟨_,_,n,hl,rfl,⟨rfl,rfl⟩,by show 2<=sizeLine;decide,.cons ⟨t,rfl⟩ (.cons ⟨B,rfl⟩ .nil)⟩) (.cons (.int _) (.cons (.int _) .nil)))
end
end MM
namespace L2
open PySem.Spec PyProof.Rows
section
variable{X:Cx}{e st:Expr}{te:TE}{hi:Option Expr}{th ts:TO}{pos p2:Pos}
end
end L2
namespace MM
open PySem.Spec PyProof.Rows L2
section
variable{X:Cx}{pos p2:Pos}
end
section
variable{X:Cx}{k:Nat}
end
end MM
namespace MM
open PySem.Spec PyProof.Rows L2 SetT SortT
section
variable{X:Cx}{N W G:SQ}{k:Nat}
end
end MM
namespace L2
open PySem.Spec PyProof.Rows
section
variable{X:Cx}{a:Expr}{ta:TE}{pos:Pos}
end
end L2
namespace MM
open PySem.Spec PyProof.Rows L2
section
variable{X:Cx}{pos:Pos}
end
section
variable{X:Cx}
end
end MM
namespace MM
open PySem.Spec PyProof.Rows L2 DcT
def Di(a:List (qd×V))(k:qd):Option V:=(a.find? λf=>decide (f.1=k)).map (·.2)
def KV.val{a:List (qd×V)}{f:List (qd×Value)}(r:KV a f)(k:qd):fZ (Di a k) (valueAt f k):=by
 unfold KV at r
 induction r with
 |nil=>exact True.intro
 |@cons p q y u h t i =>
  obtain⟨j,l⟩:=h;unfold Di valueAt at *;rw[MF,MF,<-j];by_cases e:p.1=k
  .simp only[e,decide_true];exact l
  .simp only[e,decide_false];exact i
def Hd{a:List (qd×V)}{f:List (qd×Value)}(r:KV a f):a.length=f.length:=by
 unfold KV at r
 induction r with
 |nil=>rfl
 |cons h t i=>simp[i]
def qx(a:SS)(xs:List α)(i:Int):Option α:=match a,xs with
 |k::a,x::xs=>if k=i then J x else qx a xs i
 |_,_=>Y
def i0(a:SS)(xs:List α)(i:Int)(v:α):SS×List α:=match a,xs with
 |k::a,x::xs=>if k=i then(k::a,v::xs)else(k::(i0 a xs i v).1,x::(i0 a xs i v).2)
 |_,_=>([i],[v])
def zw{a:SS}{xs:List α}{i:Int}{v:α}(h:xs.length=a.length):(i0 a xs i v).2.length=(i0 a xs i v).1.length/\(i0 a xs i v).1.length<=a.length+1:=by
 induction a generalizing xs with
 |nil=>simp[i0]
 |cons k a f =>
  cases xs with
  |nil=>simp at h
  |cons x xs =>
   simp at h;unfold i0;split
   .simp[h]
   .have:=f h
    simp only[A0];lia
def rD{a:SS}{ys:List V}{i:Int}(h:ys.length=a.length):Di (kz a ys) (.inl i)=qx a ys i:=by
 induction a generalizing ys with
 |nil=>cases ys<;>rfl
 |cons k a f =>
  cases ys with
  |nil=>simp at h
  |cons y ys =>
   have:=f (ys:=ys) (by simpa using h)
   unfold kz Di at *;rw[n8,List.zip_cons_cons,MF,qx];by_cases e:k=i
   .simp[e]
   .simp only[show ¬(Sum.inl k:qd)=.inl i from λz=>e (by cases z;rfl),decide_false,f_ e];exact this
def eG{a:List (qd×Value)}{i:qd}:a.any (λf=>decide (f.1=i))=I↔i∈a.map Prod.fst:=by rw[List.any_eq_true,tx];exact⟨λ⟨x,h,e⟩=>⟨x,h,by simpa using e⟩,λ⟨x,h,e⟩=>⟨x,h,by simpa using e⟩⟩
def He{a:SS}{ys:List V}{l:List (qd×Value)}{i:Int}{y:V}{u:Value}(h:ys.length=a.length)(nd:(l.map (·.1)).Nodup)(r:KV (kz a ys) l)(E:aL y u):
  KV (kz (i0 a ys i y).1 (i0 a ys i y).2) (stored l (.inl i) u):=by
 induction a generalizing ys l with
 |nil =>
  have:l=[]:=by unfold KV at r;cases ys<;>cases r<;>rfl
  subst this;exact .cons ⟨rfl,E⟩ .nil
 |cons k a j =>
  cases ys with
  |nil=>simp at h
  |cons z ys =>
   have F:ys.length=a.length:=by simpa using h
   unfold KV at r
   cases r with
   |@cons _ q _ B G t =>
    obtain⟨M,L⟩:=q;obtain⟨e1,e2⟩:=G;cases e1;rw[n8,z_]at nd;have j:=j F nd.2 t;unfold stored at *;unfold i0;by_cases e:k=i
    .subst e;rw[b_ rfl,b_ (eG.mpr (by simp))];refine .cons ⟨by simp,by simp[E]⟩ ?_
     have:(B.map λf=>if f.1=(Sum.inl k:qd)then(f.1,u)else f)=B:=by
      conv=>rhs;rw[<-List.map_id B]
      refine Ff λx H=>?_;rw[f_]
      .rfl
      .intro z;exact nd.1 (tx.mpr ⟨x,H,z⟩)
     show KV _ (B.map λf=>if f.1=(Sum.inl k:qd)then(f.1,u)else f);rw[this];exact t
    .have C:¬(Sum.inl k:qd)=.inl i:=λz=>e (by cases z;rfl);rw[f_ e];by_cases m:(Sum.inl i:qd)∈B.map Prod.fst
     .rw[b_ (eG.mpr m)]at j;rw[b_ (eG.mpr (n_ _ m))];exact .cons ⟨by simp[C],by simp[C,e2]⟩ j
     .rw[f_ (λz=>m (eG.mp z))]at j;rw[f_ (λz=>(pu.mp (eG.mp z)).elim (λz=>C z.symm) m)];exact .cons ⟨rfl,e2⟩ j
section
variable{K:h8}{U:SX}{H:Hp}
def oE{ks:SS}{xs:SM}{ys:List V}(r:RPs K U H xs ys)(i:Int):match qx ks xs i with
  |some x=>∃y,qx ks ys i=J y/\RP K U H x y
  |none=>qx ks ys i=Y:=by
 induction ks generalizing xs ys with
 |nil=>cases xs<;>cases ys<;>rfl
 |cons k ks f =>
  cases r with
  |nil=>rfl
  |cons a t =>
   unfold qx;by_cases e:k=i
   .simp only[b_ e];exact⟨_,rfl,a⟩
   .simp only[f_ e];exact f t
def AM{ks:SS}{xs:SM}{ys:List V}{v:PV}{y:V}(r:RPs K U H xs ys)(q:RP K U H v y)(i:Int):(i0 ks xs i v).1=(i0 ks ys i y).1/\RPs K U H (i0 ks xs i v).2 (i0 ks ys i y).2:=by
 induction ks generalizing xs ys with
 |nil=>exact⟨by simp[i0],by simpa [i0]using .cons q .nil⟩
 |cons k ks j =>
  cases r with
  |nil=>exact⟨rfl,.cons q .nil⟩
  |cons a t =>
   unfold i0;by_cases e:k=i
   .simp only[b_ e];exact⟨trivial,.cons q t⟩
   .simp only[f_ e];obtain⟨l,f⟩:=j t;exact⟨by rw[l],.cons a f⟩
end
def cg(h:MH)(y:PV):Option (Bool×SS×SM):=match y with
 |.loc n=>(match h[n]? with
  |some (.dic fz a xs)=>J (fz,a,xs)
  |_=>Y)
 |_=>Y
def iY{X:Cx}{U:SX}{H:Hp}{h:MH}{x:PV}{y:V}{fz:Bool}{i:SS}{xs:SM}(B:RH X.K X.mg U H h)(r:RP X.K U H x y)(e:cg h x=J (fz,i,xs)):
  ∃n a ys,x=.loc n/\U[n]?=J a/\y=.ref a/\h[n]?=J (.dic fz i xs)/\ys.length=i.length/\RPs X.K U H xs ys/\dO fz (H a) (.dK (kz i ys)):=by
 cases r with
 |@loc n a j =>
  obtain⟨o,l,u⟩:=B.obj j;unfold cg at e;dsimp only at e;rw[l]at e
  cases o with
  |dic f k z =>
   cases e;obtain⟨ys,e1,e2,e3⟩:=u;exact⟨n,a,ys,rfl,j,rfl,l,e1,e2,e3⟩
  |_=>cases e
 |_=>cases e
def qR(neg:Bool)(x y:PV)(h:MH):SK:=match x,cg h y with
 |.int i,J (_,a,xs)=>.ok (.bl (if neg then !(qx a xs i).isSome else(qx a xs i).isSome)) h
 |_,_=>.bad
def ly(x y:PV)(h:MH):SK:=match y,cg h x with
 |.int i,J (_,a,xs)=>Out.ofO (qx a xs i) h
 |_,_=>.bad
section
variable{X:Cx}{N W G:SQ}{k:Nat}
def Ae{K:h8}{U:SX}{H:Hp}{f:SS}{xs:SM}{ys:List V}{l:List (qd×Value)}{i:Int}(hl:ys.length=f.length)(r:RPs K U H xs ys)(j:KV (kz f ys) l):(qx f xs i).isSome=(valueAt l (.inl i)).isSome:=by
 have a:=KV.val j (.inl i);rw[rD hl]at a;have b:=oE (ks:=f) r i
 cases e:qx f xs i with
 |none =>
  rw[e]at b;dsimp only at b;rw[b]at a;rw[fZ.none_of a];rfl
 |some x =>
  rw[e]at b;obtain⟨y,e1,_⟩:=b;rw[e1]at a;obtain⟨u,e2,_⟩:=fZ.some_of a;rw[e2];rfl
def xY(neg:Bool):wj X (compareOp (if neg then .NotIn else .In)) (qR neg):=by
 intro KC s Z H x' y' u v Q f E C ⟨U,h,x,y,B,M,L,q⟩;unfold qR at q
 split at q
 .rename_i i fz R xs F
  obtain⟨n,a,ys,rfl,O,rfl,P,hl,l,d⟩:=iY B L F;cases M;obtain⟨t,rfl⟩:=E;cases C;obtain⟨z,hd,S,j,dd⟩:=lG f.hok d;have e:=Ae (i:=i) hl l j
  cases neg with
  |false =>
   refine wpAny_in_of (dI _ _ i t) hd dd.mapOf ⟨.bl _,H,f.tok _,rfl,?_⟩;rw[<-e];exact q U H _ (Le.refl _ _) B (.bl _)
  |true =>
   refine wpAny_notIn_of (dI _ _ i t) hd dd.mapOf ⟨.bl _,H,f.tok _,rfl,?_⟩;rw[<-e];exact q U H _ (Le.refl _ _) B (.bl _)
 .exact q.elim
def xw{ea b:Expr}{ma mb:Mx PV}{an:Pos}(ha:ME X ea ma)(hb:ME X b mb)(hs:∀ov S,subscripted b T ov S=operate [ov,S] (getItem ov S):=by exact λ_ _=>rfl):ME X (.Subscript ea b an) (au ly ma mb):=by
 intro KC s Z H Q ai ⟨U,f,h,rs,rh,q⟩;refine Subscript_ (j3 (ha KC s Z H (λx' F=>∃B O x,Le U H B F/\RH X.K X.mg B F O/\RP X.K B F x x'/\Ful X (RV' X) f B F ((mb f O).bind λy M=>(ly x y M).ne) Q) ai ⟨U,f,h,rs,rh,Ful.bind q λB F x x' O _ l1 L rx q1=>⟨B,O,x,l1,L,rx,q1⟩⟩) λu s1 ⟨x',F,I1,r1,B,O,x,l1,L,rx,q1⟩=>j3 (hb KC s1 Z F (λy' E=>∃C M y,Le B F C E/\RH X.K X.mg C E M/\RP X.K C E y y'/\Ful X (RV' X) f C E (ly x y M).ne Q) I1 ⟨B,f,O,rs.le l1,L,Ful.bind q1 λC E y y' M _ l2 j P l=>⟨C,M,y,l2,j,P,l⟩⟩) λS s2 ⟨y',E,I2,r2,C,M,y,l2,j,P,l⟩=>?_);unfold ly at l
 split at l
 .rename_i i fz ks xs ed
  obtain⟨n,a,ys,rfl,en,rfl,eo,hl,ab,d⟩:=iY j (rx.le l2) ed;cases P;obtain⟨t,rfl⟩:=r2;cases r1;obtain⟨z,hd,vs,al,dd⟩:=lG I2.hok d
  cases ex:qx ks xs i with
  |none=>rw[ex]at l;exact l.elim
  |some x =>
   rw[ex]at l;have b:=oE (ks:=ks) ab i;rw[ex]at b;obtain⟨y,e1,P⟩:=b;have ra:=KV.val al (.inl i);rw[rD hl,e1]at ra;obtain⟨w',hw,rw'⟩:=fZ.some_of ra;have hT:=dd.typeIs (s:=s2);unfold subscriptTail;refine hH ?_;rw[getitemInPython_of_ne hT.not_modules];refine hH (wpAny_specialOf hT PySem.F.slot_dict_getitem.lookup ?_);have fin:wpAny (model X.prog X.w) X.A (subscripted b T (.ref a) (.int i t)) (λr R=>wpAny (model X.prog X.w) X.A (letTemporaryGo ea (.ref a) r >>= λ_=>pure r) (EP X KC Z Q) X.xe R) X.xe s2:=by rw[hs (.ref a) (.int i t)];exact wpAny_operating (wpAny_getItem_of (dI _ _ i t) dd.mapOf hw (hH (wpAny_letTemporaryGo (ln ⟨y,E,I2.tok _,rw',l C E _ (Le.refl _ _) j P⟩))))
   first
    |exact ln (hH fin)
    |exact hH (ln (hH fin))
    |exact hH fin
 .exact l.elim
def Rn(m:Mx PV)(u:Mx (SM)):Mx PV:=λZ h=>(m Z h).bind λx a=>match x,cg a x with
 |.loc n,J _=>(u Z a).bind λl f=>match l,cg f (.loc n) with
  |[.int i,d],J (_,j,xs)=>.ok ((qx j xs i).getD d) f
  |_,_=>.bad
 |_,_=>.bad
def Dj{l:SD}{Z:L2.St}{H:Hp}{s:Shared}{fz:Bool}{a:Addr}{i:List (qd×V)}(j:Inv X l Z H s)(d:dO fz (H a) (.dK i)):
  s.TypeIs (.ref a) "dict"/\(∀b,Value.ref a=.ref b->∃f,s.heap.get? b=J f/\f.dict=Y)/\(a==sysModules)=T:=by
 obtain⟨_,hd,z,_,dd⟩:=lG j.hok d;refine⟨dd.typeIs,λb q=>?_,hd⟩;cases q;obtain⟨f,_,_,u,y,_⟩:=dd;exact⟨f,u,y.2.1⟩
def KU{o a b:Expr}{m:Mx PV}{ma:Mx (SM)}{O f:Pos}(he:ME X o m)(ha:MA X [a,b] ma)(ab:attributeBase o "get" X.env (eval o X.env)=eval o X.env:=by rfl)(ar:((backTo f (starEach [a,b] X.env)).all (λx=>!x.1)&&(backToKw f (keywordEach [] X.env)).all (λx=>x.1.isSome)
   && decide ([a,b].length+([]:List Keyword).length+(if([]:List Keyword).isEmpty then 0 else 1)<30))=I:=by rfl)(R:(O.endLine==f.line)=I:=by rfl)(hs:starEach [a,b] X.env=(T,eval a X.env)::starEach [b] X.env:=by rfl)(B:(backTo f (starEach [b] X.env)).any (·.1)=T:=by rfl):
  ME X (.Call (.Attribute o "get" O) [a,b] [] f) (Rn m ma):=by
 intro KC s Z H Q as ⟨U,j,h,rs,rh,q⟩
 refine wpAny_Call_method_late ab ar R rfl (j3 (he KC s Z H (λx' P=>∃L h1 x,Le U H L P/\RH X.K X.mg L P h1/\RP X.K L P x x'/\Ful X (RV' X) j L P (match x,cg h1 x with
 |.loc n,J _=>(ma j h1).bind λl M=>match l,cg M (.loc n) with
  |[.int i,d],J (_,ks,xs)=>.ok ((qx ks xs i).getD d) M
  |_,_=>.bad
 |_,_=>.bad) Q) as ⟨U,j,h,rs,rh,Ful.bind q λL P x x' h1 _ l1 u rx q1=>⟨L,h1,x,l1,u,rx,q1⟩⟩) λv s1 ⟨x',P,I1,r1,L,h1,x,l1,u,rx,q1⟩=>?_)
 split at q1
 .rename_i n w ew
  obtain⟨fz,ks,xs⟩:=w;obtain⟨_,ad,ys,e0,en,rfl,eo,hl,bv,d⟩:=iY u rx ew;cases e0;cases r1;obtain⟨t1,t2,_⟩:=Dj I1 d;refine⟨"dict","dict.get",PySem.F.plainAttrs_dict,PySem.F.slot_dict_get,PySem.F.type_dict_get,t1,t2,?_⟩
  have hA:=ha f KC s1 Z P (λai F=>∃E M l,Le L P E F/\RH X.K X.mg E F M/\RPs X.K E F l ai/\Ful X (RV' X) j E F (match l,cg M (.loc n) with
   |[.int i,d],J (_,ks,xs)=>.ok ((qx ks xs i).getD d) M
   |_,_=>.bad) Q) I1 ⟨L,j,h1,rs.le l1,u,Ful.bind q1 λE F l ai M _ l2 C al q2=>⟨E,M,l,l2,C,al,q2⟩⟩
  rw[hs]at hA ⊢;refine Calls.callWith_builtin (by show(T||(backTo f (starEach [b] X.env)).any (·.1))=T;rw[B]<;>rfl) (Calls.evalArgs_plain ?_);refine j3 hA λus s2 ⟨ai,F,I2,r2,E,M,l,l2,C,al,q2⟩=>?_
  split at q2
  .rename_i i dd bm S ap a6
   obtain⟨_,a8,b0,e0,a7,e1,a9,ax,an,d2⟩:=iY C (.loc (l2.get en)) a6;cases e0;cases e1
   cases al with
   |cons a1 a2=>cases a2 with
    |cons a3 a4 =>
     cases a4;cases a1
     cases r2 with
     |cons b1 b2=>cases b2 with
      |@cons _ u3 _ _ b3 b4 =>
       cases b4;obtain⟨t,rfl⟩:=b1;obtain⟨z,hd,l,a0,de⟩:=lG I2.hok d2;have ra:=KV.val a0 (.inl i);rw[rD ax]at ra;have rb:=oE (ks:=S) an i;have fin:∃v',aL v' ((valueAt l (.inl i)).getD u3)/\RP X.K E F ((qx S ap i).getD dd) v':=by
        cases ex:qx S ap i with
        |none =>
         rw[ex]at rb;dsimp only at rb;rw[rb]at ra;rw[fZ.none_of ra];exact⟨_,b3,a3⟩
        |some x =>
         rw[ex]at rb;obtain⟨y,e1,ry⟩:=rb;rw[e1]at ra;obtain⟨w',hw,rw'⟩:=fZ.some_of ra;rw[hw];exact⟨y,rw',ry⟩
       obtain⟨v',a5,ay⟩:=fin;exact call_meetsIn PySem.F.slot_dict_get de.typeIs PySem.F.entry_dict_get (PySem.F.args_dict_get_3 _ _ _) (meets_dict_get_default (d8 X.prog X.w) ad (dI _ _ i t) hd _) ⟨_,de.mapOf,v',F,I2.tok _,a5,q2 E F _ (Le.refl _ _) C ay⟩
  .exact q2.elim
 .exact q1.elim
def jH(mo f mv:Mx PV):mh:=vQ mv λv=>vQ mo λo=>vQ f λi Z h=>match o,i,cg h o with
 |.loc n,.int j,J (T,a,xs)=>if a.length<sizeLine then .nx Z (h.set n (.dic T (i0 a xs j v).1 (i0 a xs j v).2))else .bad
 |_,_,_=>.bad
def Dk{o i y:Expr}{mo mi mv:Mx PV}{ab M:Pos}(ho:ME X o mo)(hi:ME X i mi)(hv:ME X y mv)(hs:swapsWith y (J (.Subscript o i M)) ab.line X.env=pure T:=by rfl):
  MS X (.Assign [.Subscript o i M] y ab) (jH mo mi mv):=by
 intro KC s Z H D ar ⟨U,f,h,rs,rh,q⟩;unfold jH at q
 have kk:tM X (RV' X) mv Z H (λB H1=>tM X (RV' X) mo Z H1 λo' H2=>tM X (RV' X) mi Z H2 λi' C=>∃E L v o i,RH X.K X.mg E C L/\RS X.K E C f Z/\RP X.K E C v B/\RP X.K E C o o'/\RP X.K E C i i'/\bf X E C (match o,i,cg L o with
  |.loc n,.int j,J (T,l,xs)=>if l.length<sizeLine then .nx f (L.set n (.dic T (i0 l xs j v).1 (i0 l xs j v).2))else .bad
  |_,_,_=>.bad) D):=by
  refine⟨U,f,h,rs,rh,?_⟩;unfold vQ at q
  cases e:mv f h with
  |exc x h1=>rw[e]at q;exact q
  |bad=>rw[e]at q;exact q
  |ok v h1 =>
   rw[e]at q;intro U1 H1 B O al rv;dsimp only at q;refine⟨U1,f,h1,rs.le O,al,?_⟩
   cases e2:mo f h1 with
   |exc x h2=>rw[e2]at q;exact XP.le (X:=X) (σp:=f) (x:=x) (h:=h2) O q
   |bad=>rw[e2]at q;exact q
   |ok ov h2 =>
    rw[e2]at q;intro U2 H2 o' P as ro;dsimp only at q;refine⟨U2,f,h2,(rs.le O).le P,as,?_⟩
    cases e3:mi f h2 with
    |exc x L=>rw[e3]at q;exact XP.le (X:=X) (σp:=f) (x:=x) (h:=L) P (XP.le (X:=X) (σp:=f) (x:=x) (h:=L) O q)
    |bad=>rw[e3]at q;exact q
    |ok iv L =>
     rw[e3]at q;intro E C i' l3 F ri;exact⟨E,L,v,ov,iv,F,((rs.le O).le P).le l3,(rv.le P).le l3,ro.le l3,ri,bf.le l3 (bf.le P (bf.le O q))⟩
 refine wpAny_Assign_Subscript (j3 (hv KC s Z H _ ar kk) λr s1 ⟨B,H1,I1,rv,q1⟩=>j3 (ho KC s1 Z H1 _ I1 q1) λu s2 ⟨o',H2,I2,ru,q2⟩=>j3 (hi KC s2 Z H2 _ I2 q2) λiv s3 ⟨i',C,I3,ri,E,L,v,ov,i,F,ax,pv,po,pi,Q⟩=>?_) hs
 split at Q
 .rename_i n j l xs ed
  obtain⟨_,a,ys,e0,en,rfl,eo,hl,ap,d⟩:=iY F po ed;cases e0;cases pi;obtain⟨t,rfl⟩:=ri;cases ru;by_cases hz:l.length<sizeLine
  .rw[b_ hz]at Q;have d':C a=J (.dK (kz l ys)):=d;obtain⟨z,hd,vs,R,dd⟩:=lG I3.hok d;obtain⟨p1,p2⟩:=AM (ks:=l) ap pv j;obtain⟨O,P⟩:=zw (i:=j) (v:=B) hl;have nd:(vs.map (·.1)).Nodup:=by obtain⟨_,_,_,_,_,_,_,_,nd⟩:=dd;exact nd
   have an:(kz (i0 l ys j B).1 (i0 l ys j B).2).length<=sizeLine:=by unfold kz;rw[List.length_zip,zx];lia
   refine wpAny_setItem_pairs (hsz:=by rw[<-Hd R];exact z) (dI _ _ j t) dd λh' S ay=>?_;have he:∃q,h'.get? a=J q:=let⟨q,_,_,hq,_⟩:=S;⟨q,hq⟩;have I4:Inv X KC Z (l7 C a (.dK (kz (i0 l ys j B).1 (i0 l ys j B).2))) { s3 with heap:=h',toks:=s3.toks+1} :=
    I3.write (x:=a) (e:=a) (by rw[d'];exact True.intro) (.inl rfl) (λb q hb z=>(ay.2 b hb).trans z) he ⟨an,hd,_,He hl nd R rv,S⟩
   obtain⟨ai,l4⟩:=F.put en (o:=.dic T (i0 l xs j v).1 (i0 l xs j v).2) (ho:=.dK (kz (i0 l ys j B).1 (i0 l ys j B).2)) ⟨(i0 l ys j B).2,by rw[p1];exact O,p2,by rw[p1];rfl⟩;exact⟨Z,_,I4,Q E _ Z l4 ai (ax.le l4)⟩
  .rw[f_ hz]at Q;exact Q.elim
 .exact Q.elim
end
section
variable{X:Cx}{N W G:SQ}{k:Nat}
local instance inhPV2:Inhabited PV:=⟨.non⟩
def xn{P:Program}{w:World}{j:List DictEntry}{f:List (Int×Value)}(p:Pairs (intKind P w) j f):Pairs (d8 P w) j (f.map λi=>((Sum.inl i.1:qd),i.2)):=by
 induction p with
 |nil=>exact .nil
 |cons a b _ l=>exact .cons a b l
def Hf{P:Program}{w:World}{h:Heap}{a:Addr}{j:List (Int×Value)}(d:h.DictOf (intKind P w) a j):h.DictOf (d8 P w) a (j.map λf=>((Sum.inl f.1:qd),f.2)):=by
 obtain⟨o,C,E,u,F,H,B,l,nd⟩:=d;refine⟨o,C,E,u,F,H,λe y=>?_,xn l,?_⟩
 .obtain⟨i,e1,e2⟩:=B e y;exact⟨.inl i,e1,e2⟩
 .rw[vM];rw[show((λx:qd×Value=>x.1)∘λf:Int×Value=>((Sum.inl f.1:qd),f.2))=(Sum.inl∘λf:Int×Value=>f.1)from rfl,<-vM];exact(List.pairwise_map.mpr (List.Pairwise.imp (λh z=>h (by cases z;rfl)) nd))
def Hg{K:h8}{U:SX}{H:Hp}:∀{kvs:List (Int×PV)}{vals:List (Int×Value)},kvs.length=vals.length->(∀(i:Nat) a b,kvs[i]?=J a->vals[i]?=J b->a.1=b.1/\∃v,aL v b.2/\RP K U H a.2 v) ->
  ∃ys:List V,ys.length=(kvs.map (·.1)).length/\RPs K U H (kvs.map (·.2)) ys/\KV (kz (kvs.map (·.1)) ys) (vals.map λf=>((Sum.inl f.1:qd),f.2)):=by
 intro kvs
 induction kvs with
 |nil =>
  intro vals hl _
  cases vals with
  |nil=>exact⟨[],rfl,.nil,.nil⟩
  |cons _ _=>simp at hl
 |cons a kvs j =>
  intro vals hl h
  cases vals with
  |nil=>simp at hl
  |cons b vals =>
   obtain⟨ys,e1,e2,e3⟩:=j (by simpa using hl) λi a b l y=>h (i+1) a b (by simpa using l) (by simpa using y);obtain⟨e,v,u,rp⟩:=h 0 a b rfl rfl;exact⟨v::ys,by simp at e1 ⊢;exact e1,.cons rp e2,.cons ⟨congrArg Sum.inl e,u⟩ e3⟩
def y_(f:SM)(h:MH):SK:=match f with
 |[x]=>(match KS x with
  |some a=>.ok (.loc h.length) (h++[.dic T (a.map (·.1)) (a.map (·.2))])
  |none=>.bad)
 |_=>.bad
def wE(g:Good X N W G k):cw X (.type "dict") (λxs H Q=>∃U h ps f v,xs=[v]/\RH X.K X.mg U H h/\RP X.K U H (.tup ps) v/\g8 ps=J f/\(f.map (·.1)).Nodup /\
   ∀l ys,H l=Y->ys.length=(f.map (·.1)).length->RPs X.K U H (f.map (·.2)) ys->Q (.ref l) (l7 H l (.dK (kz (f.map (·.1)) ys)))):=by
 intro KC s Z H xs us Q C r ⟨U,h,ps,f,v,e,rh,rp,ep,nd,q⟩;subst e;obtain⟨u,rfl,ru⟩:=r.one
 cases rp with
 |tup sq P =>
  cases ru;obtain⟨j,rv,ht,hz⟩:=C.tupleN sq;obtain⟨hl,hv⟩:=vP P rv ep;have a6:=rv.length;have a7:=P.length;have ab:∀i,i<j.length->∃b t B,j[i]?=J (.ref b)/\s.heap.IsTuple b #[.int (f[i]!).1 t,B]/\∃w,aL w B/\RP X.K U H (f[i]!).2 w:=by
   intro i S;have E:i<f.length:=by lia
   obtain⟨b,w,e1,e2,e3⟩:=hv i j[i] f[i] (by simp[S]) (by simp[E]);obtain⟨a8,as,al,_⟩:=C.tuple e2
   cases as with
   |cons a1 a2=>cases a2 with
    |cons a3 a4 =>
     cases a4;obtain⟨t,rfl⟩:=a1;refine⟨b,t,_,by rw[vp S,e1],?_,w,a3,?_⟩
     .rw[getElem!_pos f i E];exact al
     .rw[getElem!_pos f i E];exact e3
  have a0:∃y:List (Int×Value),y.length=j.length/\∀i,i<j.length->∃b t B,y[i]?=J ((f[i]!).1,B)/\j[i]?=J (.ref b)/\s.heap.IsTuple b #[.int (f[i]!).1 t,B]/\∃w,aL w B/\RP X.K U H (f[i]!).2 w:=by
   have:∀n,n<=j.length->∃y:List (Int×Value),y.length=n/\∀i,i<n->∃b t B,y[i]?=J ((f[i]!).1,B)/\j[i]?=J (.ref b)/\s.heap.IsTuple b #[.int (f[i]!).1 t,B]/\∃w,aL w B/\RP X.K U H (f[i]!).2 w:=by
    intro n
    induction n with
    |zero=>exact λ_=>⟨[],rfl,λi S=>absurd S (Nat.not_lt_zero _)⟩
    |succ n ih =>
     intro hn;obtain⟨vs,e1,e2⟩:=ih ⋯;obtain⟨b,t,B,f1,f2,f3⟩:=ab n ⋯;refine⟨vs++[((f[n]!).1,B)],by simp[e1],λi S=>?_⟩;by_cases z:i<n
     .obtain⟨b,t,B,F,g2⟩:=e2 i z;exact⟨b,t,B,by rw[p_ ⋯];exact F,g2⟩
     .have:i=n:=by lia
      subst this;exact⟨b,t,B,by rw[AR ⋯,e1];simp,f1,f2,f3⟩
   exact this _ (jj _)
  obtain⟨y,ax,L⟩:=a0;have M:y.map (·.1)=f.map (·.1):=by
   apply Fi;intro i;by_cases z:i<j.length
   .obtain⟨_,_,_,F,_⟩:=L i z;have E:i<f.length:=by lia
    rw[qb,qb,F,vp E,getElem!_pos f i E];rfl
   .rw[BC (by simp;lia),BC (by simp;lia)]
  obtain⟨oa,ap,an,⟨na,ai⟩,a5⟩:=ht;refine nk (a:=_) (items:=j.toArray) (kvs:=y) (C.ok.hd g.calm) ⟨oa,na,ap,an,ai,a5⟩ (by simp[ax]) (by simp;lia) (M▸nd) (λi v kv R O=>?_) λh' tk hD hx=>?_
  .have z:i<j.length:=by
    have:=(nw.mp O).1
    lia
   obtain⟨b,t,B,F,g2,g3,_⟩:=L i z;rw[F]at O;cases O
   have:v=.ref b:=by
    have e:j.toArray[i]?=j[i]?:=by simp
    rw[e,g2]at R;exact(Option.some.inj R).symm
   exact⟨b,t,this,g3⟩
  .have hn:H s.heap.objs.size=Y:=C.hok.fresh (jj _);have ay:=Inv.bigM C;obtain⟨ys,y1,y2,y3⟩:=Hg (K:=X.K) (U:=U) (H:=H) (kvs:=f) (vals:=y) ⋯ λi a b R O=>by
    have z:i<j.length:=by
     have:=(nw.mp O).1
     lia
    obtain⟨b',t,B,F,g2,g3,w,g4,g5⟩:=L i z;rw[F]at O;cases O;have E:i<f.length:=by lia
    rw[vp E]at R;cases R;rw[getElem!_pos f i E]at g5 ⊢;exact⟨rfl,w,g4,g5⟩
   have ar:(kz (f.map (·.1)) ys).length<=sizeLine:=by unfold kz;rw[List.length_zip,zx,zx];lia
   exact⟨.ref s.heap.objs.size,_,C.laid (o:=.dK (kz (f.map (·.1)) ys)) hx (jj _) ⟨ar,beq_eq_false_iff_ne.mpr (A1 ay),_,y3,Hf hD⟩,rfl,q _ ys hn y1 y2⟩
 |_=>cases ep
def Dl(g:Good X N W G k):cr X (.type "dict") y_:=by
 intro M s Z H xs E Q j r ⟨U,h,y,i,rp,q⟩;unfold y_ at q
 split at q
 .rename_i x
  cases rp with
  |cons L F =>
   cases F
   cases a:KS x with
   |none=>rw[a]at q;exact q.elim
   |some f =>
    rw[a]at q;unfold KS at a
    split at a
    .rename_i y
     split at a
     .rename_i z P
      split at a
      .rename_i nd
       cases a;refine wE g M s Z H _ E Q j r ⟨U,h,y,f,_,rfl,i,L,P,nd,λl ys hl C R=>?_⟩;have O:RO X.K X.mg U H l (.dic T (f.map Prod.fst) (f.map Prod.snd)) (J (.dK (kz (f.map Prod.fst) ys))):=⟨ys,C,R,rfl⟩;obtain⟨u,B⟩:=i.new hl O;exact q _ _ _ B u (.loc (by rw[<-i.len];simp))
      .cases a
     .cases a
    .cases a
 .exact q.elim
end
end MM
namespace PU
open MM
def ys{α:Type}{a b:α}(h:a=b):a=b:=h
inductive D where
 |non | bl (b:Bool) | int (i:Int) | str (x:Str) | tup (xs:List D) | lst (xs:List D) | dic (fz:Bool) (ks:SS) (ds:List D) | exc (c:Str) | pen
abbrev _root_.SW:=List D
abbrev _root_.Sj:=Option D
abbrev c_:=Int×Int×Int
abbrev am:=List (Sj)
def aX(h:MH)(p:Nat)(s:c_):Prop:=h[p]?=J (.lst [.int s.1,.int s.2.1,.int s.2.2])
inductive O_(P:SM->Prop)(v:PV):Prop
 |mk(xs:SM)(e:v=.tup xs)(r:P xs):O_ P v
inductive Ro(h:MH)(O:SV)(P:SM->Prop)(v:PV):Prop
 |mk(n:Nat)(xs:SM)(e:v=.loc n)(no:n∉O)(g:h[n]?=J (.lst xs))(r:P xs):Ro h O P v
inductive Rq(h:MH)(O:SV)(fz:Bool)(ks:SS)(P:SM->Prop)(v:PV):Prop
 |mk(n:Nat)(xs:SM)(e:v=.loc n)(no:n∉O)(g:h[n]?=J (.dic fz ks xs))(r:P xs):Rq h O fz ks P v
inductive Rr(h:MH)(O:SV)(o:MO)(v:PV):Prop
 |mk(n:Nat)(e:v=.loc n)(no:n∉O)(g:h[n]?=J o):Rr h O o v
inductive Pa(P:PV->Prop)(Q:SM->Prop)(vs:SM):Prop
 |mk(x:PV)(r:SM)(e:vs=x::r)(a:P x)(b:Q r):Pa P Q vs
mutual
def Rp(p:Nat)(h:MH)(O:SV):D->PV->Prop
 |.non,v=>v=.non
 |.bl b,v=>v=.bl b
 |.int i,v=>v=.int i
 |.str x,v=>v=.str x
 |.tup a,v=>O_ (Rps p h O a) v
 |.lst a,v=>Ro h O (Rps p h O a) v
 |.dic fz f a,v=>Rq h O fz f (Rps p h O a) v
 |.exc c,v=>Rr h O (.exc ⟨c,[]⟩) v
 |.pen,v=>v=.loc p
def Rps(p:Nat)(h:MH)(O:SV):SW->SM->Prop
 |[],a=>a=[]
 |d::f,a=>Pa (Rp p h O d) (Rps p h O f) a
end
def ao{h:MH}{n:Nat}{o:MO}(e:h[n]?=J o):n<h.length:=(nw.mp e).1
structure Mv(O:SV)(h:MH)(O':SV)(h':MH):Prop where
 keep:∀n:Nat,n<h.length->n∉O->h'[n]?=h[n]?
 new:∀o∈O',o∈O\/h.length<=o
def Mv.get{O f:SV}{h a:MH}(s:Mv O h f a){n:Nat}{o:MO}(e:h[n]?=J o)(no:n∉O):n∉f/\a[n]?=J o:=by
 have hl:=ao e;refine⟨λz=>?_,(s.keep n hl no).trans e⟩;rcases s.new n z with q|q
 .exact no q
 .lia
section
variable{p:Nat}{O O':SV}{h h':MH}
def Rp.mv(s:Mv O h O' h')(r:Rp p h O d v):Rp p h' O' d v:=by
 refine D.rec (motive_1:=λd=>∀v,Rp p h O d v->Rp p h' O' d v) (motive_2:=λf=>∀l,Rps p h O f l->Rps p h' O' f l)
  (λ_ r=>r) (λ_ _ r=>r) (λ_ _ r=>r) (λ_ _ r=>r) (λf i _ r=>?_) (λf i _ r=>?_) (λ_ _ f i _ r=>?_) (λ_ _ r=>?_) (λ_ r=>r) (λ_ r=>r) (λ_ _ i j _ r=>?_) d v r
 .obtain⟨xs,e,r⟩:=r;exact⟨xs,e,i _ r⟩
 .obtain⟨n,xs,e,no,g,r⟩:=r;exact⟨n,xs,e,(s.get g no).1,(s.get g no).2,i _ r⟩
 .obtain⟨n,xs,e,no,g,r⟩:=r;exact⟨n,xs,e,(s.get g no).1,(s.get g no).2,i _ r⟩
 .obtain⟨n,e,no,g⟩:=r;exact⟨n,e,(s.get g no).1,(s.get g no).2⟩
 .obtain⟨x,t,e,a,b⟩:=r;exact⟨x,t,e,i _ a,j _ b⟩
def Rps.mv(s:Mv O h O' h')(r:Rps p h O f vs):Rps p h' O' f vs:=by
 induction f generalizing vs with
 |nil=>exact r
 |cons d f i=>obtain⟨x,t,e,a,b⟩:=r;exact⟨x,t,e,a.mv s,i b⟩
def Rps.length(r:Rps p h O f vs):vs.length=f.length:=by
 induction f generalizing vs with
 |nil=>rw[show vs=[]from r];rfl
 |cons d f i=>obtain⟨x,t,e,a,b⟩:=r;rw[e,A0,A0,i b]
def Rps.get{f:SW}{j:SM}{i:Nat}{d:D}(r:Rps p h O f j)(g:f[i]?=J d):∃v,j[i]?=J v/\Rp p h O d v:=by
 induction f generalizing j i with
 |nil=>cases g
 |cons d f l =>
  obtain⟨x,t,e,a,b⟩:=r;subst e
  cases i with
  |zero=>cases g;exact⟨x,rfl,a⟩
  |succ i=>have z:=@l t i b g;exact z
def Rps.app(r:Rps p h O f vs)(s:Rps p h O es ws):Rps p h O (f++es) (vs++ws):=by
 induction f generalizing vs with
 |nil=>rw[show vs=[]from r];exact s
 |cons d f i=>obtain⟨x,t,e,a,b⟩:=r;subst e;exact⟨x,t++_,rfl,a,i b⟩
def Rps.take(n:Nat)(r:Rps p h O f vs):Rps p h O (f.take n) (vs.take n):=by
 induction f generalizing vs n with
 |nil=>rw[show vs=[]from r];cases n<;>rfl
 |cons d f i =>
  obtain⟨x,t,e,a,b⟩:=r;subst e
  cases n with
  |zero=>rfl
  |succ n=>exact⟨x,t.take n,rfl,a,i n b⟩
def Rps.drop(n:Nat)(r:Rps p h O f vs):Rps p h O (f.drop n) (vs.drop n):=by
 induction f generalizing vs n with
 |nil=>rw[show vs=[]from r];cases n<;>rfl
 |cons d f i =>
  cases n with
  |zero=>exact r
  |succ n=>obtain⟨x,t,e,a,b⟩:=r;subst e;exact i n b
def Rps.set(i:Nat)(r:Rps p h O f vs)(q:Rp p h O d v):Rps p h O (f.set i d) (vs.set i v):=by
 induction f generalizing vs i with
 |nil=>rw[show vs=[]from r];rfl
 |cons l f j =>
  obtain⟨x,t,e,a,b⟩:=r;subst e
  cases i with
  |zero=>exact⟨v,t,rfl,q,b⟩
  |succ i=>exact⟨x,t.set i v,rfl,a,j i b⟩
end
def dl:Option (SS)->SW->D
 |none,a=>.lst a
 |some f,a=>.dic T f a
def mo:Option (SS)->SM->MO
 |none,xs=>.lst xs
 |some a,xs=>.dic T a xs
def hV(e:D.lst ds=dl k es):k=Y/\ds=es:=by
 cases k with
 |none=>cases e;exact⟨rfl,rfl⟩
 |some _=>cases e
inductive Rs(p:Nat)(h:MH)(L:Nat)(O:SV)(d:D)(v:PV):Prop
 |mk(n:Nat)(k:Option (SS))(xs:SM)(ds:SW)(e:d=dl k ds)(e':v=.loc n)(o:n∈O)(l:L<=n)(g:h[n]?=J (mo k xs))(r:Rps p h O ds xs):Rs p h L O d v
def Vw(p:Nat)(h:MH)(L:Nat)(O:SV)(d:D)(v:PV):Prop:=Rp p h O d v\/Rs p h L O d v
def Hh(p:Nat)(h:MH)(L:Nat)(O:SV):SW->SM->Prop
 |[],a=>a=[]
 |d::f,a=>Pa (Vw p h L O d) (Hh p h L O f) a
inductive KW(p:Nat)(L:Nat)(O:SV)(h:MH)(k:Option (SS))(ds:SW)(v:PV):Prop
 |mk(n:Nat)(xs:SM)(e:v=.loc n)(l:L<=n)(g:h[n]?=J (mo k xs))(r:Rps p h (n::O) ds xs):KW p L O h k ds v
def Frs(p:Nat)(L:Nat)(O:SV)(h:MH)(d:D)(v:PV):Prop:=∀k a,d=dl k a->KW p L O h k a v
structure KB(p:Nat)(h h':MH):Prop where
 len:h.length<=h'.length
 keep:∀n:Nat,n<h.length->n≠p->h'[n]?=h[n]?
def KB.refl(p:Nat)(h:MH):KB p h h:=⟨jj _,λ_ _ _=>rfl⟩
def KB.trans(a:KB p h h1)(b:KB p h1 h2):KB p h h2 :=
 ⟨ql a.len b.len,λn i f=>(b.keep n (vE i a.len) f).trans (a.keep n i f)⟩
def KB.app(p:Nat)(h g:MH):KB p h (h++g):=⟨by simp,λn a _=>p_ a⟩
def KB.mv(k:KB p h h')(f:p∈O):Mv O h O h' :=
 ⟨λn i no=>k.keep n i λz=>no (z▸f),λo a=>.inl a⟩
def aX.app{p:Nat}{h g:MH}{s:c_}(e:aX h p s):aX (h++g) p s:=by unfold aX at *;rw[p_ (ao e)];exact e
def Vw.kb{p L:Nat}{h a:MH}{O:SV}{d:D}{v:PV}(k:KB p h a)(f:p∈O)(hL:p<L)(w:Vw p h L O d v):Vw p a L O d v:=by
 rcases w with r|⟨n,j,xs,u,e1,e2,i,l,g,r⟩
 .exact .inl (r.mv (k.mv f))
 .exact .inr ⟨n,j,xs,u,e1,e2,i,l,(k.keep n (ao g) ⋯).trans g,r.mv (k.mv f)⟩
inductive PR(α:Type) where
 |ok(a:α)(s:c_)
 |exc(c:Str)(s:c_)
 |bad
def PR.bind{α β:Type}(r:PR α)(f:α->c_->PR β):PR β:=match r with
 |.ok a s=>f a s
 |.exc c s=>.exc c s
 |.bad=>.bad
@[simp]theorem Pb(a:α)(s:c_)(f:α->c_->PR β):(PR.ok a s).bind f=f a s:=rfl
@[simp]theorem Pe(c:Str)(s:c_)(f:α->c_->PR β):(PR.exc c s).bind f=.exc c s:=rfl
@[simp]theorem Pd(f:α->c_->PR β):(PR.bad:PR α).bind f=.bad:=rfl
def PR.of{α:Type}(o:Option α)(s:c_):PR α:=match o with
 |some a=>.ok a s
 |none=>.bad
@[simp]theorem Pf(a:α)(s:c_):PR.of (J a) s=.ok a s:=rfl
@[simp]theorem Pn(s:c_):PR.of (Y:Option α) s=.bad:=rfl
inductive Rt{α β:Type}(p:Nat)(h:MH)(o:Out β)(a:α)(s:c_)(R:MH->α->β->Prop):Prop
 |mk(b:β)(h':MH)(e:o=.ok b h')(k:KB p h h')(n:aX h' p s)(r:R h' a b):Rt p h o a s R
inductive Ru{β:Type}(p:Nat)(h:MH)(o:Out β)(c:Str)(s:c_):Prop
 |mk(h':MH)(e:o=.exc ⟨c,[]⟩ h')(k:KB p h h')(n:aX h' p s):Ru p h o c s
def Ok{α β:Type}(p:Nat)(h:MH)(o:Out β)(r:PR α)(R:MH->α->β->Prop):Prop:=match r with
 |.ok a s=>Rt p h o a s R
 |.exc c s=>Ru p h o c s
 |.bad=>True
def Ok.bind{α β γ δ:Type}{p:Nat}{h:MH}{o:Out β}{r:PR α}{R:MH->α->β->Prop}{f:β->MH->Out δ}{g:α->c_->PR γ}{S:MH->γ->δ->Prop}(q:Ok p h o r R)(k:∀a b i s,KB p h i->aX i p s->R i a b->Ok p i (f b i) (g a s) S):Ok p h (o.bind f) (r.bind g) S:=by
 cases r with
 |ok a s =>
  obtain⟨b,i,rfl,kb,pn,y⟩:=q
  have:=k a b i s kb pn y
  rw[Out.bind_ok,Pb]
  cases e:g a s with
  |ok c z =>
   rw[e]at this;obtain⟨d,u,e2,j,l,B⟩:=this;exact⟨d,u,e2,kb.trans j,l,B⟩
  |exc c z =>
   rw[e]at this;obtain⟨u,e2,j,l⟩:=this;exact⟨u,e2,kb.trans j,l⟩
  |bad=>trivial
 |exc c s =>
  obtain⟨i,rfl,kb,pn⟩:=q;exact⟨i,rfl,kb,pn⟩
 |bad=>trivial
def Ok.imp{α β:Type}{p:Nat}{h:MH}{o:Out β}{r:PR α}{R S:MH->α->β->Prop}(q:Ok p h o r R)(k:∀f a b,KB p h f->R f a b->S f a b):Ok p h o r S:=by
 cases r with
 |ok a s=>obtain⟨b,j,e,kb,pn,i⟩:=q;exact⟨b,j,e,kb,pn,k _ _ _ kb i⟩
 |exc c s=>exact q
 |bad=>trivial
structure SR(p:Nat)(h:MH)(L:Nat)(O:SV)(ws:SV)(Z:m_)(env:am):Prop where
 len:Z.length=env.length
 fz:∀i d,env[i]?=J (J d)->i∉ws->∃v,Z[i]?=J (J v)/\Rp p h O d v
 ow:∀i d,env[i]?=J (J d)->i∈ws->∃n k xs ds,d=dl k ds/\Z[i]?=J (J (.loc n))/\n∈O/\L<=n/\h[n]?=J (mo k xs)/\Rps p h O ds xs
structure Cx(p:Nat)(h:MH)(L:Nat)(B O:SV)(ws:SV)(Z:m_)(env:am)(s:c_):Prop where
 bd:∀o∈O,o<h.length
 sub:∀o∈B,o∈O
 bb:∀o∈B,o<L
 pb:p∈B
 hL:L<=h.length
 pen:aX h p s
 sr:SR p h L O ws Z env
section
variable{p L:Nat}{h h':MH}{B O ws:SV}{Z:m_}{env:am}{s s':c_}
def Cx.pO(c:Cx p h L B O ws Z env s):p∈O:=c.sub p c.pb
def Cx.pL(c:Cx p h L B O ws Z env s):p<L:=c.bb p c.pb
def SR.mv{j:SV}(m:Mv O h j h')(u:∀o∈O,o∈j)(l:∀n:Nat,n<h.length->L<=n->n∈O->h'[n]?=h[n]?)(r:SR p h L O ws Z env):SR p h' L j ws Z env :=
 ⟨r.len,λi d e f=>let⟨v,e1,q⟩:=r.fz i d e f;⟨v,e1,q.mv m⟩,λi d e f=>let⟨n,k,xs,y,e1,e2,a,b,g,q⟩:=r.ow i d e f;⟨n,k,xs,y,e1,e2,u n a,b,(l n (ao g) b a).trans g,q.mv m⟩⟩
def Cx.kb(c:Cx p h L B O ws Z env s)(k:KB p h h')(pn:aX h' p s'):Cx p h' L B O ws Z env s' :=
 ⟨λo a=>vE (c.bd o a) k.len,c.sub,c.bb,c.pb,ql c.hL k.len,pn,c.sr.mv (k.mv c.pO) (λ_ h=>h) λn f hl _=>k.keep n f (by have:=c.pL;lia)⟩
def Vw.base(w:Vw p h L O d v)(sub:∀o∈B,o∈O)(bb:∀o∈B,o<L):Rp p h B d v:=by
 have m:Mv O h B h:=⟨λ_ _ _=>rfl,λo a=>.inl (sub o a)⟩;rcases w with r|⟨n,k,xs,i,rfl,rfl,_,f,g,r⟩
 .exact r.mv m
 .cases k<;>exact⟨n,xs,rfl,λz=>by have:=bb n z;lia,g,r.mv m⟩
def Frs.rp(f:Frs p L' O h d v)(bd:∀o∈O,o<L')(e:d=dl k ds):Rp p h O d v:=by obtain⟨n,xs,e1,i,g,r⟩:=f k ds e;subst e;cases k<;>exact⟨n,xs,e1,λz=>by have:=bd n z;lia,g,r.mv ⟨λ_ _ _=>rfl,λo a=>.inl (n_ _ a)⟩⟩
def Frs.le(f:Frs p L2 O h d v)(hl:L1<=L2):Frs p L1 O h d v:=λk i e =>
 let⟨n,xs,e1,a,g,r⟩:=f k i e;⟨n,xs,e1,ql hl a,g,r⟩
end
abbrev Bd(h:MH)(O:SV):Prop:=∀o∈O,o<h.length
inductive Gv(p:Nat)(h:MH)(O:SV)(fr:Bool)(o:SK)(d:D):Prop
 |mk(v:PV)(g:MH)(e:o=.ok v (h++g))(r:Rp p (h++g) O d v)(f:fr=I->Frs p h.length O (h++g) d v):Gv p h O fr o d
structure Nq where
 m:PV->MH->SK
 p:D->Sj
 fr:Bool
 ok:∀{q h L O a x d},Bd h O->Vw q h L O a x->p a=J d->Gv q h O fr (m x h) d
structure vZ where
 m:PV->PV->MH->SK
 p:D->D->Sj
 fr:Bool
 ok:∀{q h L O a x b y d},Bd h O->Vw q h L O a x->Vw q h L O b y->p a b=J d->Gv q h O fr (m x y h) d
structure Bc where
 k:SM->MH->SK
 p:SW->Sj
 fr:Bool
 ok:∀{q h L O as xs d},Bd h O->Hh q h L O as xs->p as=J d->Gv q h O fr (k xs h) d
structure Fn where
 m:SM->MH->SK
 p:SW->c_->PR D
 fr:Bool
 ok:∀{q h O vs ds s},Bd h O->q∈O->aX h q s->Rps q h O ds vs->Ok q h (m vs h) (p ds s) (λh' d v=>Rp q h' O d v/\(fr=I->Frs q h.length O h' d v))
mutual
def flat:D->Bool
 |.lst _ | .dic _ _ _ | .exc _ | .pen=>T
 |.tup a=>e_ a
 |_=>I
def e_:SW->Bool
 |[]=>I
 |d::a=>flat d&&e_ a
end
section
variable{p:Nat}{h h':MH}{O O':SV}
mutual
def Rp.flat:∀{d:D}{v:PV},PU.flat d=I->Rp p h O d v->Rp p h' O' d v
 |.non,_,_,r=>r
 |.bl _,_,_,r=>r
 |.int _,_,_,r=>r
 |.str _,_,_,r=>r
 |.tup a,_,f,⟨xs,e,r⟩=>⟨xs,e,Rps.flat (by simpa [PU.flat]using f) r⟩
 |.lst a,_,f,_=>by simp[PU.flat]at f
 |.dic _ _ _,_,f,_=>by simp[PU.flat]at f
 |.exc _,_,f,_=>by simp[PU.flat]at f
 |.pen,_,f,_=>by simp[PU.flat]at f
def Rps.flat:∀{i:SW}{j:SM},PU.e_ i=I->Rps p h O i j->Rps p h' O' i j
 |[],_,_,r=>r
 |_::_,_,f,⟨x,t,e,a,b⟩=>⟨x,t,e,Rp.flat (by simp[PU.e_]at f;exact f.1) a,Rps.flat (by simp[PU.e_]at f;exact f.2) b⟩
end
end
structure Xe(ws:SV) where
 m:Mx PV
 p:am->c_->PR D
 fz:Bool
 fr:Bool
 ok:∀{q h L B O Z env s},Cx q h L B O ws Z env s->Ok q h (m Z h) (p env s) (λh' d v=>Vw q h' L O d v/\(fz=I->Rp q h' O d v)/\(fr=I->Frs q h.length O h' d v))
structure Xs(ws:SV) where
 m:Mx (SM)
 p:am->c_->PR (SW)
 fz:Bool
 ok:∀{q h L B O Z env s},Cx q h L B O ws Z env s->Ok q h (m Z h) (p env s) (λh' ds vs=>Hh q h' L O ds vs/\(fz=I->Rps q h' O ds vs))
structure Xt(ws:SV) where
 m:Mx Bool
 p:am->c_->PR Bool
 ok:∀{q h L B O Z env s},Cx q h L B O ws Z env s->Ok q h (m Z h) (p env s) (λ_ a b=>a=b)
noncomputable section
variable{ws:SV}
def Bu{q L:Nat}{h a:MH}{O:SV}{o:SK}{d:D}{s:c_}{fr:Bool}(le:h.length<=a.length)(pn:aX a q s)(g:Gv q a O fr o d):
  Ok q a o (.ok d s) (λi d v=>Vw q i L O d v/\(I=I->Rp q i O d v)/\(fr=I->Frs q h.length O i d v)):=by
 obtain⟨v,g,e,r,f⟩:=g;exact⟨v,a++g,e,KB.app _ _ _,pn.app,.inl r,λ_=>r,λz=>(f z).le le⟩
def aa(i:Nat):Xe ws where
 m:=ag i
 p:=λenv s=>match env[i]? with
  |some (J d)=>.ok d s
  |_=>.bad
 fz:=!ws.contains i
 fr:=T
 ok {q h L B O Z env s} c:=by
  show Ok q h _ (match env[i]? with|some (J d)=>PR.ok d s|_=>.bad) _
  cases e:env[i]? with
  |none=>trivial
  |some o =>
   cases o with
   |none=>trivial
   |some d =>
    by_cases z:i∈ws
    .obtain⟨n,k,xs,j,e1,e2,a,b,g,r⟩:=c.sr.ow i d e z;exact⟨.loc n,h,by simp[ag,e2],KB.refl _ _,c.pen,.inr ⟨n,k,xs,j,e1,rfl,a,b,g,r⟩,λf=>by simp[z]at f,λf=>by simp at f⟩
    .obtain⟨v,e1,r⟩:=c.sr.fz i d e z;exact⟨v,h,by simp[ag,e1],KB.refl _ _,c.pen,.inl r,λ_=>r,λf=>by simp at f⟩
inductive Cn where
 |non | bl (b:Bool) | int (i:Int) | str (x:Str)
def Cn.v:Cn->PV
 |.non=>.non
 |.bl b=>.bl b
 |.int i=>.int i
 |.str x=>.str x
def Cn.d:Cn->D
 |.non=>.non
 |.bl b=>.bl b
 |.int i=>.int i
 |.str x=>.str x
def Cn.rp(c:Cn){q:Nat}{h:MH}{O:SV}:Rp q h O c.d c.v:=by cases c<;>rfl
def xC(k:Cn):Xe ws where
 m:=mC k.v
 p:=λ_ s=>.ok k.d s
 fz:=I
 fr:=I
 ok {q h L B O Z env s} c:=⟨k.v,h,rfl,KB.refl _ _,c.pen,.inl k.rp,λ_=>k.rp,λ_ a f e=>by cases k<;>cases a<;>cases e⟩
def ae(o:vZ)(a b:Xe ws):Xe ws where
 m:=au o.m a.m b.m
 p:=λenv s=>(a.p env s).bind λx E=>(b.p env E).bind λy l=>.of (o.p x y) l
 fz:=I
 fr:=o.fr
 ok {q h L B O Z env s} c:=by
  refine(a.ok c).bind λx v M E j z ⟨G,_,_⟩=>?_;refine(b.ok (c.kb j z)).bind λy w P l i C ⟨F,_,_⟩=>?_
  cases e:o.p x y with
  |none=>trivial
  |some d =>
   have H:=(c.kb j z).kb i C;obtain⟨u,g,e1,r,f⟩:=o.ok H.bd (G.kb i c.pO c.pL) F e;exact Bu (ql j.len i.len) C ⟨u,g,by rw[e1];rfl,r,f⟩
def v4(o:Nq)(a:Xe ws):Xe ws where
 m:=Kc o.m a.m
 p:=λenv s=>(a.p env s).bind λx j=>.of (o.p x) j
 fz:=I
 fr:=o.fr
 ok {q h L B O Z env s} c:=by
  refine(a.ok c).bind λx v z j l i ⟨y,_,_⟩=>?_
  cases e:o.p x with
  |none=>trivial
  |some d =>
   obtain⟨u,g,e1,r,f⟩:=o.ok (c.kb l i).bd y e;exact Bu l.len i ⟨u,g,by rw[e1];rfl,r,f⟩
def a_:Xs ws where
 m:=g_
 p:=λ_ s=>.ok [] s
 fz:=I
 ok {q h L B O Z env s} c:=⟨[],h,rfl,KB.refl _ _,c.pen,rfl,λ_=>rfl⟩
def ac(a:Xe ws)(r:Xs ws):Xs ws where
 m:=af a.m r.m
 p:=λenv s=>(a.p env s).bind λx l=>(r.p env l).bind λy i=>.ok (x::y) i
 fz:=a.fz&&r.fz
 ok {q h L B O Z env s} c:=by refine(a.ok c).bind λx v M l E u ⟨F,z1,_⟩=>?_;refine(r.ok (c.kb E u)).bind λy w H i j z ⟨C,G⟩=>?_;refine⟨v::w,H,rfl,KB.refl _ _,z,⟨v,w,rfl,F.kb j c.pO c.pL,C⟩,λf=>?_⟩;rw[AZ]at f;exact⟨v,w,rfl,(z1 f.1).mv (j.mv c.pO),G f.2⟩
def o_(o:Bc)(a:Xs ws):Xe ws where
 m:=λZ h=>(a.m Z h).bind o.k
 p:=λenv s=>(a.p env s).bind λx f=>.of (o.p x) f
 fz:=I
 fr:=o.fr
 ok {q h L B O Z env s} c:=by
  refine(a.ok c).bind λx v u f j i ⟨l,_⟩=>?_
  cases e:o.p x with
  |none=>trivial
  |some d=>exact Bu j.len i (o.ok (c.kb j i).bd l e)
def av(f:Fn)(a:Xs ws)(u:a.fz=I:=by exact ys rfl):Xe ws where
 m:=bI f.m a.m
 p:=λenv s=>(a.p env s).bind f.p
 fz:=I
 fr:=f.fr
 ok {q h L B O Z env s} c:=by refine(a.ok c).bind λx v C E l i ⟨_,z⟩=>?_;have j:=c.kb l i;refine(f.ok j.bd j.pO i (z u)).imp λy d v kb ⟨r,fr⟩=>⟨.inl r,λ_=>r,λz=>(fr z).le l.len⟩
def dg:100000<=sizeLine:=by decide
def lF(bd:Bd h O)(r:Rps q h O ds xs)(hl:ds.length<=100000):Gv q h O I (q_ xs h) (.lst ds):=by
 have l:=r.length;have m:Mv O h O (h++[MO.lst xs]):=⟨λn f _=>p_ f,λo a=>.inl a⟩
 have i:Mv O h (h.length::O) (h++[MO.lst xs]):=⟨λn f _=>p_ f,λo a=>by
  rcases pu.mp a with z|z
  .exact .inr ⋯
  .exact .inl z⟩
 have g:(h++[MO.lst xs])[h.length]?=J (.lst xs):=by simp
 refine⟨.loc h.length,[.lst xs],?_,⟨_,_,rfl,λz=>by have:=bd _ z;lia,g,r.mv m⟩,λ_ k j e=>?_⟩
 .unfold q_;rw[b_];have:=dg;lia
 .obtain⟨rfl,rfl⟩:=hV e;exact⟨_,_,rfl,jj _,g,r.mv i⟩
def vb(r:Rps q h O ds xs)(hl:ds.length<=100000):Gv q h O I (ll xs h) (.tup ds):=by
 have f:=r.length;refine⟨.tup xs,[],?_,?_,λ_ k a e=>by cases k<;>cases e⟩
 .unfold ll;rw[b_ (by have:=dg;lia)];simp
 .simpa using⟨xs,rfl,r⟩
def fb(a:Xs ws)(l:a.fz=I:=by exact ys rfl):Xe ws where
 m:=f7 a.m
 p:=λenv s=>(a.p env s).bind λx f=>if x.length<=100000 then .ok (.lst x) f else .bad
 fz:=I
 fr:=I
 ok {q h L B O Z env s} c:=by
  refine(a.ok c).bind λx v u f j i ⟨_,z⟩=>?_;by_cases hl:x.length<=100000
  .rw[b_ hl];exact Bu j.len i (lF (c.kb j i).bd (z l) hl)
  .rw[f_ hl];trivial
def bn(a:Xs ws)(i:a.fz=I:=by exact ys rfl):Xe ws where
 m:=cT a.m
 p:=λenv s=>(a.p env s).bind λx f=>if x.length<=100000 then .ok (.tup x) f else .bad
 fz:=I
 fr:=I
 ok {q h L B O Z env s} c:=by
  refine(a.ok c).bind λx v u f l j ⟨_,z⟩=>?_;by_cases hl:x.length<=100000
  .rw[b_ hl];exact Bu l.len j (vb (z i) hl)
  .rw[f_ hl];trivial
def Dm:Xe ws where
 m:=Gu
 p:=λ_ s=>.ok (.dic T [] []) s
 fz:=I
 fr:=I
 ok {q h L B O Z env s} c:=by
  have g:(h++[MO.dic T [] []])[h.length]?=J (.dic T [] []):=by simp
  have r:Rp q (h++[MO.dic T [] []]) O (.dic T [] []) (.loc h.length):=⟨_,[],rfl,λz=>by have:=c.bd _ z;lia,g,rfl⟩
  exact⟨.loc h.length,h++[.dic T [] []],rfl,KB.app _ _ _,c.pen.app,.inl r,λ_=>r,λ_ k f e=>by
   cases k with
   |none=>cases e
   |some a=>cases e;exact⟨_,[],rfl,jj _,g,rfl⟩⟩
def Vw.bl(w:Vw q h L O (.bl b) v):v=.bl b:=by
 rcases w with r|⟨n,k,xs,a,e,_⟩
 .exact r
 .cases k<;>cases e
def PR.bl(r:PR D):PR Bool:=r.bind λd s=>match d with
 |.bl b=>.ok b s
 |_=>.bad
@[simp]theorem Pl:(PR.ok (D.bl b) s).bl=.ok b s:=rfl
def xB(a:Xe ws):Xt ws where
 m:=mB a.m
 p:=λenv s=>(a.p env s).bl
 ok {q h L B O Z env s} c:=by
  refine(a.ok c).bind λx v f j l i ⟨w,_,_⟩=>?_
  cases x with
  |bl b=>rw[w.bl];exact⟨b,f,rfl,KB.refl _ _,i,rfl⟩
  |_=>trivial
def eY(a:Xt ws):Xt ws where
 m:=qV a.m
 p:=λenv s=>(a.p env s).bind λb s=>.ok (!b) s
 ok {q h L B O Z env s} c:=(a.ok c).bind λx v f j l i e=>⟨!v,f,rfl,KB.refl _ _,i,by rw[e]⟩
def oD(a b:Xt ws):Xt ws where
 m:=F6 a.m b.m
 p:=λenv s=>(a.p env s).bind λx s=>if x=I then b.p env s else .ok T s
 ok {q h L B O Z env s} c:=(a.ok c).bind λx v i l j f e=>by
  subst e
  cases x with
  |true=>simpa using b.ok (c.kb j f)
  |false=>exact⟨T,i,rfl,KB.refl _ _,f,rfl⟩
def BX(a b:Xt ws):Xt ws where
 m:=Kg a.m b.m
 p:=λenv s=>(a.p env s).bind λx s=>if x=I then .ok I s else b.p env s
 ok {q h L B O Z env s} c:=(a.ok c).bind λx v i l j f e=>by
  subst e
  cases x with
  |false=>simpa using b.ok (c.kb j f)
  |true=>exact⟨I,i,rfl,KB.refl _ _,f,rfl⟩
def ti:Xt ws where
 m:=oF
 p:=λ_ s=>.ok I s
 ok {q h L B O Z env s} c:=⟨I,h,rfl,KB.refl _ _,c.pen,rfl⟩
def Ok.after{α β:Type}{p:Nat}{h l:MH}{o:Out β}{r:PR α}{R:MH->α->β->Prop}(k:KB p h l)(q:Ok p l o r R):Ok p h o r R:=by
 cases r with
 |bad=>trivial
 |exc C z=>obtain⟨i,j,a,f⟩:=q;exact⟨i,j,k.trans a,f⟩
 |ok B z=>obtain⟨y,i,j,a,f,u⟩:=q;exact⟨y,i,j,k.trans a,f,u⟩
def EV(pn:aX h q s):Ok q h (.ok (.bl b) h) (.ok (.bl b) s) (λa d v=>Vw q a L O d v/\(I=I->Rp q a O d v)/\(I=I->Frs q l O a d v)) :=
 ⟨.bl b,h,rfl,KB.refl _ _,pn,.inl rfl,λ_=>rfl,λ_ k f e=>by cases k<;>cases e⟩
def Hi(k:Ok q h o r (λa d v=>Vw q a L O d v/\(fz=I->Rp q a O d v)/\(fr=I->Frs q l' O a d v))):
  Ok q h o (r.bl.bind λb s=>.ok (.bl b) s) (λa d v=>Vw q a L O d v/\(I=I->Rp q a O d v)/\(I=I->Frs q l O a d v)):=by
 cases r with
 |bad=>trivial
 |exc c s=>exact k
 |ok d s =>
  obtain⟨v,a,e,kb,pn,w,_,_⟩:=k
  cases d with
  |bl b=>exact⟨v,a,e,kb,pn,w,λ_=>by rw[w.bl];rfl,λ_ k f e=>by cases k<;>cases e⟩
  |_=>trivial
def iC(a b:Xe ws):Xe ws where
 m:=vB a.m b.m
 p:=λenv s=>(a.p env s).bl.bind λx s=>if x=I then(b.p env s).bl.bind λy s=>.ok (.bl y) s else .ok (.bl T) s
 fz:=I
 fr:=I
 ok {q h L B O Z env s} c:=by
  have k:=a.ok c;show Ok q h ((a.m Z h).bind _) _ _
  cases e:a.p env s with
  |bad=>trivial
  |exc x E =>
   rw[e]at k;obtain⟨j,e1,f,i⟩:=k;rw[e1];exact⟨j,rfl,f,i⟩
  |ok d E =>
   rw[e]at k;obtain⟨v,j,e1,f,i,w,_,_⟩:=k
   cases d with
   |bl x =>
    rw[w.bl]at e1;rw[e1]
    cases x with
    |true =>
     exact Ok.after f (Hi (l:=h.length) (b.ok (c.kb f i)))
    |false =>
     obtain⟨z,G,H,C,F,u⟩:=EV (L:=L) (l:=h.length) (O:=O) (b:=T) i;exact⟨z,G,H,f.trans C,F,u⟩
   |_=>trivial
def nM(a:Xe ws):Xe ws where
 m:=wm a.m
 p:=λenv s=>(a.p env s).bl.bind λx s=>.ok (.bl (!x)) s
 fz:=I
 fr:=I
 ok {q h L B O Z env s} c:=by
  have k:=a.ok c;show Ok q h ((a.m Z h).bind _) _ _
  cases e:a.p env s with
  |bad=>trivial
  |exc x C =>
   rw[e]at k;obtain⟨j,e1,i,f⟩:=k;rw[e1];exact⟨j,rfl,i,f⟩
  |ok d C =>
   rw[e]at k;obtain⟨v,j,e1,i,f,w,_,_⟩:=k
   cases d with
   |bl x =>
    rw[w.bl]at e1;rw[e1];obtain⟨y,F,G,z,E,u⟩:=EV (L:=L) (l:=h.length) (O:=O) (b:=!x) f;exact⟨y,F,G,i.trans z,E,u⟩
   |_=>trivial
def Hj(t:Xt ws)(a b:Xe ws)(fz:Bool)(hf:fz=(a.fz&&b.fz):=by exact ys rfl):Xe ws where
 m:=Ga t.m a.m b.m
 p:=λenv s=>(t.p env s).bind λx s=>if x=I then a.p env s else b.p env s
 fz:=fz
 fr:=T
 ok {q h L B O Z env s} c:=(t.ok c).bind λx v u y j i e=>by
  subst e
  cases x with
  |true=>exact(a.ok (c.kb j i)).imp λl d v kb r=>⟨r.1,λf=>r.2.1 (by rw[hf,AZ]at f;exact f.1),λf=>by simp at f⟩
  |false=>exact(b.ok (c.kb j i)).imp λl d v kb r=>⟨r.1,λf=>r.2.1 (by rw[hf,AZ]at f;exact f.2),λf=>by simp at f⟩
def nI(f g:vZ)(a b e:Xe ws):Xe ws where
 m:=oq f.m g.m a.m b.m e.m
 p:=λenv s=>(a.p env s).bind λx R=>(b.p env R).bind λy C=>match f.p x y with
  |some (.bl t)=>if t=I then(e.p env C).bind λz Q=>.of (g.p y z) Q else .ok (.bl T) C
  |_=>.bad
 fz:=I
 fr:=T
 ok {q h L B O Z env s} c:=by
  refine(a.ok c).bind λx v h1 R W F ⟨w1,_,_⟩=>?_;refine(b.ok (c.kb W F)).bind λy w l C P E ⟨S,_,_⟩=>?_;have X:=(c.kb W F).kb P E
  cases e1:f.p x y with
  |none=>trivial
  |some d =>
   cases d with
   |bl t =>
    obtain⟨u,j,e2,r,_⟩:=f.ok X.bd (w1.kb P c.pO c.pL) S e1;have hu:u=.bl t:=r;subst hu;rw[e2];have i:=KB.app q l j;have G:=X.kb i E.app
    cases t with
    |true =>
     refine Ok.after i ?_;show Ok q (l++j) ((e.m Z (l++j)).bind _) _ _;refine(e.ok G).bind λz u h3 Q H M ⟨w3,_,_⟩=>?_
     cases e4:g.p y z with
     |none=>trivial
     |some d =>
      obtain⟨u2,g2,e5,U,_⟩:=g.ok (G.kb H M).bd ((S.kb i c.pO c.pL).kb H c.pO c.pL) w3 e4;refine⟨u2,h3++g2,by rw[e5];rfl,KB.app _ _ _,M.app,.inl U,λ_=>U,λf=>by simp at f⟩
    |false=>exact⟨.bl T,l++j,rfl,i,E.app,.inl rfl,λ_=>rfl,λf=>by simp at f⟩
   |_=>trivial
end
structure Xi(ws:SV) where
 m:Mx MIt
 p:am->c_->PR (SW)
 fz:Bool
 ok:∀{q h L B O Z env s},Cx q h L B O ws Z env s->Ok q h (m Z h) (p env s) (λh' ds it=>Rps q h' O ds it.xs/\(∀g∈it.gd,h'[g.1]?=J (.lst g.2)/\g.1≠q)/\(fz=I->∀g∈it.gd,g.1∉O))
inductive GI(q:Nat)(h:MH)(O:SV)(ds as:SW)(xs:SM)(o:Out MIt):Prop
 |mk(it:MIt)(e:o=.ok it h)(r:Rps q h O ds it.xs)(g:∀g∈it.gd,h[g.1]?=J (.lst g.2)/\g.1≠q)(z:Rps q h O as xs->∀g∈it.gd,g.1∉O):GI q h O ds as xs o
structure KY where
 k:SM->MH->Out MIt
 p:SW->Option (SW)
 ok:∀{q h L O as xs ds},q<L->q∈O->Bd h O->Hh q h L O as xs->p as=J ds->GI q h O ds as xs (k xs h)
def D.items:D->Option (SW)
 |.lst a=>J a
 |.tup a=>J a
 |_=>Y
@[simp]theorem ya:(D.lst ds).items=J ds:=rfl
@[simp]theorem Jd:(D.tup ds).items=J ds:=rfl
noncomputable section
variable{ws:SV}
def cH(o:KY)(a:Xs ws):Xi ws where
 m:=λZ h=>(a.m Z h).bind o.k
 p:=λenv s=>(a.p env s).bind λx j=>.of (o.p x) j
 fz:=a.fz
 ok {q h L B O Z env s} c:=by
  refine(a.ok c).bind λx v u j E i ⟨w,z⟩=>?_
  cases e:o.p x with
  |none=>trivial
  |some F =>
   obtain⟨C,e1,r,y,l⟩:=o.ok c.pL c.pO (c.kb E i).bd w e;exact⟨C,u,e1,KB.refl _ _,i,r,y,λf=>l (z f)⟩
def Vw.seq(C:q<L)(u:q∈O)(w:Vw q h L O d v)(e:d.items=J ds):∃xs gd,qr v h=.ok ⟨xs,gd⟩ h/\Rps q h O ds xs/\(∀g∈gd,h[g.1]?=J (.lst g.2)/\g.1≠q)/\(Rp q h O d v->∀g∈gd,g.1∉O):=by
 have one:∀n xs,h[n]?=J (MO.lst xs)->n≠q->(∀g∈[(n,xs)],h[g.1]?=J (MO.lst g.2)/\g.1≠q):=λn xs g l y a=>by
  have:y=(n,xs):=by simpa using a
  subst this;exact⟨g,l⟩
 cases d with
 |lst f =>
  have:f=ds:=by simpa [D.items]using e
  subst this;rcases w with⟨n,xs,e1,no,g,r⟩|⟨n,j,xs,i,e0,e1,_,l,g,r⟩
  .subst e1;refine⟨xs,[(n,xs)],by simp only[qr,g],r,one n xs g (λz=>no (z▸u)),λ_ y a=>?_⟩
   have:y=(n,xs):=by simpa using a
   subst this;exact no
  .obtain⟨rfl,rfl⟩:=hV e0;subst e1;replace g:h[n]?=J (.lst xs):=g;refine⟨xs,[(n,xs)],by simp only[qr,g],r,one n xs g ⋯,λ⟨E,B,e1,no,_,_⟩ y a=>?_⟩
   have:y=(n,xs):=by simpa using a
   subst this;cases e1;exact no
 |tup f =>
  have:f=ds:=by simpa [D.items]using e
  subst this;rcases w with⟨xs,e1,r⟩|⟨n,j,xs,i,e0,_⟩
  .subst e1;exact⟨xs,[],rfl,r,(λ_ a=>nomatch a),λ_ _ a=>nomatch a⟩
  .cases j<;>cases e0
 |_=>simp[D.items]at e
def bx(a:Xe ws):Xi ws where
 m:=dB a.m
 p:=λenv s=>(a.p env s).bind λx i=>.of x.items i
 fz:=a.fz
 ok {q h L B O Z env s} c:=by
  refine(a.ok c).bind λx v l i C u ⟨w,z,_⟩=>?_
  cases e:x.items with
  |none=>trivial
  |some E =>
   obtain⟨xs,gd,e1,r,y,j⟩:=w.seq c.pL c.pO e;exact⟨⟨xs,gd⟩,l,e1,KB.refl _ _,u,r,y,λf=>j (z f)⟩
structure Xg(ws:SV) where
 m:Mg
 p:D->am->Option am
 ok:∀{q h L O Z env d v env'},SR q h L O ws Z env->Rp q h O d v->p d env=J env'->∃Z',m v Z h=.nx Z' h/\SR q h L O ws Z' env'/\∀i∈ws,Z'[i]?=Z[i]?/\env'[i]?=env[i]?
structure EW(ws:SV) where
 m:CK
 p:SW->am->Option am
 ok:∀{q h L O Z env ds vs env'},SR q h L O ws Z env->Rps q h O ds vs->p ds env=J env'->∃Z',m vs Z h=.nx Z' h/\SR q h L O ws Z' env'/\∀i∈ws,Z'[i]?=Z[i]?/\env'[i]?=env[i]?
def SR.set(r:SR q h L O ws Z env)(l:i∉ws)(w:Rp q h O d v):SR q h L O ws (Z.set i (J v)) (env.set i (J d))/\∀j∈ws,(Z.set i (J v))[j]?=Z[j]?/\(env.set i (J d))[j]?=env[j]?:=by
 have ne:∀j∈ws,i≠j:=λj a z=>l (z▸a);refine⟨⟨by simp[r.len],λj e a hw=>?_,λj e a hw=>?_⟩,λj a=>⟨pa (ne j a),pa (ne j a)⟩⟩
 .by_cases z:i=j
  .subst z;have hl:i<env.length:=by
    have:=(nw.mp a).1;simpa using this
   rw[wv hl]at a;cases a;exact⟨v,wv (by rw[r.len];exact hl),w⟩
  .rw[pa z]at a;obtain⟨u,e1,B⟩:=r.fz j e a hw;exact⟨u,by rw[pa z];exact e1,B⟩
 .rw[pa (ne j hw)]at a;obtain⟨n,y,xs,C,e1,e2,f⟩:=r.ow j e a hw;exact⟨n,y,xs,C,e1,by rw[pa (ne j hw)];exact e2,f⟩
def j_(i:Nat)(j:ws.contains i=T:=by exact ys rfl):Xg ws where
 m:=mf i
 p:=λd env=>J (env.set i (J d))
 ok {q h L O Z env d v env'} r w e:=by
  cases e;have f:i∉ws:=λz=>by simp[z]at j
  obtain⟨a,b⟩:=r.set f w;exact⟨_,rfl,a,b⟩
def va:EW ws where
 m:=x_
 p:=λa env=>match a with
  |[]=>J env
  |_=>Y
 ok {q h L O Z env a vs env'} r w e:=by
  cases a with
  |nil =>
   cases e
   have:vs=[]:=w
   subst this;exact⟨Z,rfl,r,λ_ _=>⟨rfl,rfl⟩⟩
  |cons _ _=>cases e
def mu(a:Xg ws)(t:EW ws):EW ws where
 m:=pq a.m t.m
 p:=λj env=>match j with
  |d::j=>(a.p d env).bind λf=>t.p j f
  |[]=>Y
 ok {q h L O Z env j vs env'} r w e:=by
  cases j with
  |nil=>cases e
  |cons d j =>
   obtain⟨x,y,rfl,E,G⟩:=w;dsimp only at e
   cases e1:a.p d env with
   |none=>rw[e1]at e;cases e
   |some f =>
    rw[e1]at e;obtain⟨P,C,F,z⟩:=a.ok r E e1;obtain⟨M,H,B,u⟩:=t.ok F G e;exact⟨M,by show(a.m x Z h).then (t.m y)=_;rw[C];exact H,B,λi l=>⟨(u i l).1.trans (z i l).1,(u i l).2.trans (z i l).2⟩⟩
def vg(t:EW ws)(n:Nat):Xg ws where
 m:=yW t.m n
 p:=λd env=>match d with
  |.tup f=>if f.length=n then t.p f env else Y
  |_=>Y
 ok {q h L O Z env d v env'} r w e:=by
  cases d with
  |tup f =>
   obtain⟨xs,rfl,w⟩:=w;dsimp only at e;by_cases z:f.length=n
   .rw[b_ z]at e;obtain⟨i,a,b⟩:=t.ok r w e;exact⟨i,by show(if xs.length=n then t.m xs Z h else .bad)=_;rw[b_ (by rw[w.length];exact z)];exact a,b⟩
   .rw[f_ z]at e;cases e
  |_=>cases e
def Bv(a:Nat)(fm ws:SV):SV:=((List.range fm.length).filter λj=>ws.contains (fm.getD j 0)).map (a+·)
def tt(a:Nat)(fm:SV)(env:am):am:=List.replicate a Y++fm.map λi=>(env[i]?).getD Y
def PR.ne{α:Type}(r:PR α):PR α:=match r with
 |.exc _ _=>.bad
 |r=>r
@[simp]theorem PR.ne_ok(a:α)(s:c_):(PR.ok a s).ne=.ok a s:=rfl
def cU(g:D->am->Option am)(t:am->c_->PR Bool)(e:am->c_->PR D):SW->am->c_->PR (SW)
 |[],_,s=>.ok [] s
 |d::i,env,s=>match g d env with
  |none=>.bad
  |some a=>(t a s).bind λb f=>if b=I then(e a f).bind λx l=>(cU g t e i a l).bind λr j=>.ok (x::r) j else cU g t e i a f
def KZ{a:Nat}{fm:SV}{α:Type}{env:List (Option α)}{i:Nat}{d:α}(e:(List.replicate a Y++fm.map λi=>(env[i]?).getD Y)[i]?=J (J d)):∃j k,i=a+j/\fm[j]?=J k/\env[k]?=J (J d):=by
 by_cases z:i<a
 .rw[p_ (by simpa using z)]at e;simp[z]at e
 .rw[AR (by simp;lia)]at e;simp only[Jr,qb]at e
  cases f:fm[i-a]? with
  |none=>rw[f]at e;cases e
  |some k =>
   rw[f]at e;simp only[EC,Option.some.injEq]at e;refine⟨i-a,k,⋯,f,?_⟩
   cases l:env[k]? with
   |none=>rw[l]at e;cases e
   |some o=>rw[l]at e;simp at e;rw[e]
def K0{a:Nat}{fm:SV}{α:Type}{Z:List (Option α)}{j k:Nat}{v:α}(e1:fm[j]?=J k)(e2:Z[k]?=J (J v)):(List.replicate a Y++fm.map λi=>(Z[i]?).getD Y)[a+j]?=J (J v):=by rw[AR (by simp)];simp[e1,e2]
def ui(e:fm[j]?=J k):nv+j∈Bv nv fm ws↔k∈ws:=by
 have l:=(nw.mp e).1;have i:fm.getD j 0=k:=by simp[List.getD,e]
 unfold Bv;rw[tx];constructor
 .rintro⟨a,f,u⟩
  have:a=j:=by lia
  subst this;rw[Bh]at f
  have:=f.2
  rw[i]at this;simpa using this
 .intro hw;exact⟨j,Bh.mpr ⟨BL.mpr l,by rw[i];simpa using hw⟩,rfl⟩
def SR.comp{q:Nat}{h:MH}{L:Nat}{O:SV}{Z:m_}{env:am}(f:Nat)(fm:SV)(r:SR q h L O ws Z env):SR q h L O (Bv f fm ws) (BV f fm Z) (tt f fm env):=by
 refine⟨by simp[BV,tt],λi d e a=>?_,λi d e a=>?_⟩
 .obtain⟨j,k,rfl,e1,e2⟩:=KZ e;obtain⟨v,e3,w⟩:=r.fz k d e2 λz=>a ((ui e1).mpr z);exact⟨v,K0 e1 e3,w⟩
 .obtain⟨j,k,rfl,e1,e2⟩:=KZ e;obtain⟨n,l,xs,u,e0,e3,w⟩:=r.ow k d e2 ((ui e1).mp a);exact⟨n,l,xs,u,e0,K0 e1 e3,w⟩
def Hk(gt:Xg u)(t:Xt u)(e:Xe u)(hz:e.fz=I)(hq:q<h1.length)(gd:∀g∈it.gd,h1[g.1]?=J (.lst g.2)/\g.1≠q):
  ∀(P:SW)(xs:SM)(env:am)(Z:m_)(h:MH)(j:SW)(f:SM)(s:c_)(r:SW)(s':c_),(∀i∈u,∀d,env[i]?=J (J d)->∀n,Z[i]?=J (J (.loc n))->n<h1.length)->KB q h1 h->Cx q h L B (h1.length::O) u Z env s->Rps q h (h1.length::O) P xs->h[h1.length]?=J (.lst f)->Rps q h (h1.length::O) j f->j.length+P.length<=100000 ->
  cU gt.p t.p e.p P env s=.ok r s'->∃C U,y4 it h1.length gt.m t.m e.m xs Z h=.ok () C/\KB q h1 C/\aX C q s'/\C[h1.length]?=J (.lst U)/\Rps q C (h1.length::O) (j++r) U:=by
 intro P
 induction P with
 |nil =>
  intro xs env Z h j f s r s' on kb c rx ga W hl a
  have:xs=[]:=rx
  subst this;cases a;have ok:it.ok h:=λg R=>(kb.keep _ (ao (gd g R).1) (gd g R).2).trans (gd g R).1;exact⟨h,f,by rw[y4,b_ ok],kb,c.pen,ga,by simpa using W⟩
 |cons d P ih =>
  intro xs env Z h j f s r s' on kb c rx ga W hl a;obtain⟨x,xr,rfl,r1,r2⟩:=rx;have ok:it.ok h:=λg R=>(kb.keep _ (ao (gd g R).1) (gd g R).2).trans (gd g R).1;rw[cU]at a
  cases eg:gt.p d env with
  |none=>rw[eg]at a;cases a
  |some l =>
   rw[eg]at a;dsimp only at a;obtain⟨X,f1,ap,k1⟩:=gt.ok c.sr r1 eg;have Q:∀i∈u,∀d,l[i]?=J (J d)->∀n,X[i]?=J (J (.loc n))->n<h1.length:=λi M d e n z=>on i M d ((k1 i M).2▸e) n ((k1 i M).1▸z);have c1:Cx q h L B (h1.length::O) u X l s:=⟨c.bd,c.sub,c.bb,c.pb,c.hL,c.pen,ap⟩;have kt:=t.ok c1
   cases et:t.p l s with
   |bad=>rw[et]at a;cases a
   |exc _ _=>rw[et]at a;cases a
   |ok b s1 =>
    rw[et]at a kt;obtain⟨b',h2,f2,k2,p2,eb⟩:=kt;subst eb;have c2:=c1.kb k2 p2;have F:Mv (h1.length::O) h (h1.length::O) h2:=k2.mv c.pO;have hn:h1.length<h.length:=ao ga;have S:h2[h1.length]?=J (.lst f):=(k2.keep _ hn ⋯).trans ga;rw[Pb]at a
    cases b with
    |false =>
     rw[f_ (by simp)]at a;obtain⟨C,U,a1,a2⟩:=ih xr l X h2 j f s1 r s' Q (kb.trans k2) c2 (r2.mv F) S (W.mv F) (by simp at hl;lia) a;refine⟨C,U,?_,a2⟩;rw[y4,b_ ok,f1];simp only[f2,Out.ne_ok,Out.bind_ok,qi,if_false];exact a1
    |true =>
     rw[b_ rfl]at a;have ke:=e.ok c2
     cases ee:e.p l s1 with
     |bad=>rw[ee]at a;cases a
     |exc _ _=>rw[ee]at a;cases a
     |ok y s2 =>
      rw[ee]at a ke;obtain⟨v,G,f3,k3,p3,_,rv,_⟩:=ke;have rv:=rv hz;have H:=c2.kb k3 p3;have ai:Mv (h1.length::O) h2 (h1.length::O) G:=k3.mv c.pO;have ab:G[h1.length]?=J (.lst f):=(k3.keep _ (ao S) ⋯).trans S;have E:Mv (h1.length::O) G (h1.length::O) (G.set h1.length (.lst (f++[v]))) :=
       ⟨λn hn no=>pa (λz=>no (by simp[z])),λo ho=>.inl ho⟩
      have an:Rps q G (h1.length::O) (j++[y]) (f++[v]):=((W.mv F).mv ai).app ⟨v,[],rfl,rv,rfl⟩;rw[Pb]at a
      cases er:cU gt.p t.p e.p P l s2 with
      |bad=>rw[er]at a;cases a
      |exc _ _=>rw[er]at a;cases a
      |ok r' s3 =>
       rw[er]at a;cases a;have al:KB q h1 G:=(kb.trans k2).trans k3;have c4:Cx q (G.set h1.length (.lst (f++[v]))) L B (h1.length::O) u X l s2:=by
        refine⟨λo ho=>by simpa using H.bd o ho,H.sub,H.bb,H.pb,by simpa using H.hL,?_,?_⟩
        .unfold aX;rw[pa ⋯];exact p3
        .refine⟨H.sr.len,λi d e M=>let⟨v,e1,q1⟩:=H.sr.fz i d e M;⟨v,e1,q1.mv E⟩,λi d e M=>?_⟩;obtain⟨n,kd,ys,es,b1,b2,b3,b4,b5,b6⟩:=H.sr.ow i d e M;have z:=Q i M d e n b2;exact⟨n,kd,ys,es,b1,b2,b3,b4,by rw[pa ⋯];exact b5,b6.mv E⟩
       obtain⟨C,U,a1,a2,a3,a4,a5⟩:=ih xr l X (G.set h1.length (.lst (f++[v]))) (j++[y]) (f++[v]) s2 r' _ Q ⟨by simpa using al.len,λn hn hp=>by rw[pa ⋯];exact al.keep n hn hp⟩ c4 (((r2.mv F).mv ai).mv E) (wv (ao ab)) (an.mv E) (by simp at hl ⊢;lia) er;refine⟨C,U,?_,a2,a3,a4,by simpa using a5⟩;rw[y4,b_ ok,f1];simp only[f2,Out.ne_ok,Out.bind_ok,if_true,f3,ab];rw[b_ (by have:=dg;have:=W.length;simp at hl;lia)];exact a1
def aV(a:Nat)(fm:SV)(i:Xi ws){ws':SV}(g:Xg ws')(t:Xt ws')(e:Xe ws')(hw:Bv a fm ws=ws':=by exact ys rfl)(hz:e.fz=I:=by exact ys rfl):Xe ws where
 m:=bN a fm i.m g.m t.m e.m
 p:=λenv s=>(i.p env s).bind λu y=>if u.length<=100000 then (match cU g.p t.p e.p u (tt a fm env) y with
  |.ok r E=>.ok (.lst r) E
  |_=>.bad)else .bad
 fz:=I
 fr:=I
 ok {q h L B O Z env s} c:=by
  subst hw;refine(i.ok c).bind λu it j y Q F ⟨rx,gd,_⟩=>?_;have C:=c.kb Q F;by_cases hl:u.length<=100000
  .rw[b_ hl]
   cases er:cU g.p t.p e.p u (tt a fm env) y with
   |bad=>trivial
   |exc _ _=>trivial
   |ok r E =>
    have mv:Mv O j (j.length::O) (j++[MO.lst []]):=⟨λn G _=>p_ G,λo l=>by
     rcases pu.mp l with z|z
     .exact .inr ⋯
     .exact .inl z⟩
    have sr:=(C.sr.comp a fm).mv mv (λo l=>n_ _ l) λn G _ _=>p_ G;have c2:Cx q (j++[MO.lst []]) L B (j.length::O) (Bv a fm ws) (BV a fm Z) (tt a fm env) y:=by
     refine⟨λo l=>?_,λo l=>n_ _ (c.sub o l),c.bb,c.pb,by have:=C.hL;simp;lia,F.app,sr⟩;rcases pu.mp l with z|z
     .subst z;simp
     .have:=C.bd o z;simp;lia
    have W:q<j.length:=ao F
    obtain⟨H,zs,a1,a2,a3,R,a5⟩:=Hk g t e hz (L:=L) (B:=B) (O:=O) W gd u it.xs (tt a fm env) (BV a fm Z) (j++[MO.lst []]) [] [] y r E (λi S d X n M=>by
     obtain⟨n',_,_,_,_,U,_,_,b5,_⟩:=(C.sr.comp a fm).ow i d X S;rw[U]at M;cases M
     exact ao b5) (KB.app _ _ _) c2 (rx.mv mv) (by simp) rfl (by simpa using hl) er
    have f:Frs q h.length O H (.lst r) (.loc j.length):=λk u e=>by
     obtain⟨rfl,rfl⟩:=hV e;exact⟨_,zs,rfl,Q.len,R,by simpa using a5⟩
    have P:=f.rp (k:=Y) c.bd rfl;exact⟨.loc j.length,H,by show(y4 _ _ _ _ _ _ _ _).bind _=_;rw[a1];rfl,a2,a3,.inl P,λ_=>P,λ_=>f⟩
  .rw[f_ hl];trivial
end
inductive PS where
 |nx(e:am)(s:c_)
 |rt(d:D)(s:c_)
 |bk(e:am)(s:c_)
 |ct(e:am)(s:c_)
 |exc(c:Str)(e:am)(s:c_)
 |rse(c:Str)(e:am)(s:c_)
 |bad
structure Stp(q L:Nat)(h:MH)(O:SV)(h':MH)(O':SV):Prop where
 len:h.length<=h'.length
 mv:Mv O h O' h'
 sub:∀o∈O,o∈O'
 base:∀n:Nat,n<L->n≠q->h'[n]?=h[n]?
def Stp.refl(q L:Nat)(h:MH)(O:SV):Stp q L h O h O:=⟨jj _,⟨λ_ _ _=>rfl,λ_ h=>.inl h⟩,λ_ h=>h,λ_ _ _=>rfl⟩
def Stp.trans(a:Stp q L h O h1 O1)(b:Stp q L h1 O1 h2 O2):Stp q L h O h2 O2:=by
 refine⟨ql a.len b.len,⟨λn f no=>?_,λo i=>?_⟩,λo i=>b.sub o (a.sub o i),λn f j=>(b.base n f j).trans (a.base n f j)⟩
 .have l:n∉O1:=λz=>by
   rcases a.mv.new n z with q|q
   .exact no q
   .lia
  exact(b.mv.keep n (vE f a.len) l).trans (a.mv.keep n f no)
 .rcases b.mv.new o i with z|z
  .exact a.mv.new o z
  .exact .inr (ql a.len z)
def Dis(a:SV)(Z:m_)(env:am):Prop:=∀i j,i∈a->j∈a->i≠j->∀d f n,env[i]?=J (J d)->env[j]?=J (J f)->Z[i]?=J (J (.loc n))->Z[j]?≠J (J (.loc n))
inductive Nxt(q L:Nat)(h:MH)(B O ws:SV)(Z':m_)(h':MH)(env:am)(s:c_):Prop
 |mk(O':SV)(a:Stp q L h O h' O')(c:Cx q h' L B O' ws Z' env s)(d:Dis ws Z' env):Nxt q L h B O ws Z' h' env s
inductive Je(q L:Nat)(h:MH)(B O ws:SV)(f:m_->MH->SOut)(o:SOut)(env:am)(s:c_):Prop
 |mk(Z':m_)(h':MH)(e:o=f Z' h')(n:Nxt q L h B O ws Z' h' env s):Je q L h B O ws f o env s
inductive Rv(q L:Nat)(h:MH)(B:SV)(fr:Bool)(o:SOut)(d:D)(s:c_):Prop
 |mk(v:PV)(h':MH)(e:o=.rt v h')(l:h.length<=h'.length)(b:∀n:Nat,n<L->n≠q->h'[n]?=h[n]?)(p:aX h' q s)(r:Rp q h' B d v)(f:fr=I->Frs q L B h' d v):Rv q L h B fr o d s
def SOk(q L:Nat)(h:MH)(B O a:SV)(fr:Bool)(o:SOut)(r:PS):Prop:=match r with
 |.nx env s=>Je q L h B O a .nx o env s
 |.bk env s=>Je q L h B O a .bk o env s
 |.ct env s=>Je q L h B O a .ct o env s
 |.exc c env s=>Je q L h B O a (.exc ⟨c,[]⟩) o env s
 |.rse c env s=>Je q L h B O a (.rse ⟨c,[]⟩) o env s
 |.rt d s=>Rv q L h B fr o d s
 |.bad=>True
structure Xd(ws:SV) where
 m:mh
 p:am->c_->PS
 fr:Bool
 ok:∀{q h L B O Z env s},Cx q h L B O ws Z env s->Dis ws Z env->SOk q L h B O ws fr (m Z h) (p env s)
def Nxt.after(a:Stp q L h O h1 O1)(n:Nxt q L h1 B O1 ws Z' h' env s):Nxt q L h B O ws Z' h' env s :=
 let⟨f,b,c,d⟩:=n;⟨f,a.trans b,c,d⟩
def SOk.after(a:Stp q L h O h1 O1)(k:SOk q L h1 B O1 ws fr o r):SOk q L h B O ws fr o r:=by
 cases r with
 |nx env s=>obtain⟨i,f,e,n⟩:=k;exact⟨i,f,e,n.after a⟩
 |bk env s=>obtain⟨i,f,e,n⟩:=k;exact⟨i,f,e,n.after a⟩
 |ct env s=>obtain⟨i,f,e,n⟩:=k;exact⟨i,f,e,n.after a⟩
 |exc c env s=>obtain⟨i,f,e,n⟩:=k;exact⟨i,f,e,n.after a⟩
 |rse c env s=>obtain⟨i,f,e,n⟩:=k;exact⟨i,f,e,n.after a⟩
 |rt d s=>obtain⟨v,f,e,l,b,y,C,z⟩:=k;exact⟨v,f,e,ql a.len l,λn u j=>(b n u j).trans (a.base n u j),y,C,z⟩
 |bad=>trivial
def SOk.fr(hf:f'=I->f=I)(k:SOk q L h B O ws f o r):SOk q L h B O ws f' o r:=by
 cases r with
 |rt d s=>obtain⟨v,a,e,l,b,p,r,z⟩:=k;exact⟨v,a,e,l,b,p,r,λy=>z (hf y)⟩
 |nx env s=>exact k
 |bk env s=>exact k
 |ct env s=>exact k
 |exc c env s=>exact k
 |rse c env s=>exact k
 |bad=>trivial
def KB.stp(c:Cx q h L B O ws Z env s)(k:KB q h h'):Stp q L h O h' O :=
 ⟨k.len,k.mv c.pO,λ_ h=>h,λn a f=>k.keep n (vE a c.hL) f⟩
def PR.go{α:Type}(r:PR α)(env:am)(k:α->am->c_->PS):PS:=match r with
 |.ok a s=>k a env s
 |.exc c s=>.exc c env s
 |.bad=>.bad
@[simp]theorem Pg(a:α)(s:c_)(env:am)(k:α->am->c_->PS):(PR.ok a s).go env k=k a env s:=rfl
@[simp]theorem PR.go_exc(c:Str)(s:c_)(env:am)(k:α->am->c_->PS):(PR.exc c s:PR α).go env k=.exc c env s:=rfl
@[simp]theorem PR.go_bad(env:am)(k:α->am->c_->PS):(PR.bad:PR α).go env k=.bad:=rfl
theorem SOk.ex{α β:Type}{q L:Nat}{h:MH}{B O j:SV}{fr:Bool}{Z:m_}{env:am}{s:c_}{o:Out β}{r:PR α}{R:MH->α->β->Prop}{f:β->mh}{g:α->am->c_->PS}(c:Cx q h L B O j Z env s)(d:Dis j Z env)(k:Ok q h o r R)(n:∀a b i l,KB q h i->Cx q i L B O j Z env l->R i a b->SOk q L i B O j fr (f b Z i) (g a env l)):
  SOk q L h B O j fr (o.go Z f) (r.go env g):=by
 cases r with
 |ok a l =>
  obtain⟨b,i,rfl,kb,pn,u⟩:=k;exact(n a b i l kb (c.kb kb pn) u).after (kb.stp c)
 |exc x l =>
  obtain⟨i,rfl,kb,pn⟩:=k;exact⟨Z,i,rfl,O,kb.stp c,c.kb kb pn,d⟩
 |bad=>trivial
noncomputable section
variable{ws:SV}
def PS.then(r:PS)(k:am->c_->PS):PS:=match r with
 |.nx env s=>k env s
 |r=>r
@[simp]theorem aB:(PS.nx env s).then k=k env s:=rfl
@[simp]theorem uA:(PS.rt d s).then k=.rt d s:=rfl
@[simp]theorem then_bk:(PS.bk env s).then k=.bk env s:=rfl
@[simp]theorem then_ct:(PS.ct env s).then k=.ct env s:=rfl
@[simp]theorem Ax:(PS.exc c env s).then k=.exc c env s:=rfl
@[simp]theorem Af:(PS.rse c env s).then k=.rse c env s:=rfl
@[simp]theorem Ak:PS.bad.then k=.bad:=rfl
def aM(a b:Xd ws):Xd ws where
 m:=aR a.m b.m
 p:=λenv s=>(a.p env s).then b.p
 fr:=a.fr&&b.fr
 ok {q h L B O Z env s} c d:=by
  have k:=a.ok c d;show SOk q L h B O ws _ ((a.m Z h).then b.m) _
  cases e:a.p env s with
  |nx i u =>
   rw[e]at k;obtain⟨Q,M,e1,P,st,E,H⟩:=k;rw[e1];exact((b.ok E H).fr (by simp)).after st
  |rt x u=>rw[e]at k;obtain⟨v,j,e1,z,G,F,C,y⟩:=k;rw[e1];exact SOk.fr (f:=a.fr) (by simp;exact λh _=>h) (show SOk q L h B O ws a.fr (.rt v j) (.rt x u) from⟨v,j,rfl,z,G,F,C,y⟩)
  |bk i u=>rw[e]at k;obtain⟨l,j,e1,r⟩:=k;rw[e1];exact⟨l,j,rfl,r⟩
  |ct i u=>rw[e]at k;obtain⟨l,j,e1,r⟩:=k;rw[e1];exact⟨l,j,rfl,r⟩
  |exc x i u=>rw[e]at k;obtain⟨l,j,e1,r⟩:=k;rw[e1];exact⟨l,j,rfl,r⟩
  |rse x i u=>rw[e]at k;obtain⟨l,j,e1,r⟩:=k;rw[e1];exact⟨l,j,rfl,r⟩
  |bad=>trivial
def ki:Xd ws where
 m:=n7
 p:=.nx
 fr:=I
 ok {q h L B O Z env s} c d:=⟨Z,h,rfl,O,Stp.refl _ _ _ _,c,d⟩
def Hl{m:Mx PV}{Z:m_}{h:MH}:bQ m Z h=(m Z h).go Z λv _ a=>.rt v a:=by unfold bQ;cases m Z h<;>rfl
def aW(e:Xe ws):Xd ws where
 m:=bQ e.m
 p:=λenv s=>(e.p env s).go env λd _ s=>.rt d s
 fr:=e.fr
 ok {q h L B O Z env s} c d:=by
  rw[Hl];refine SOk.ex (f:=λv _ i=>.rt v i) (g:=λd _ s=>.rt d s) c d (e.ok c) λx v u M kb a ⟨w,z,f⟩=>?_;refine⟨v,u,rfl,jj _,λ_ _ _=>rfl,a.pen,w.base a.sub a.bb,λy=>?_⟩;intro k G C;obtain⟨n,xs,E,H,F,j⟩:=f y k G C
  have:=c.hL
  exact⟨n,xs,E,⋯,F,j.mv ⟨λ_ _ _=>rfl,λo l=>.inl (by
   rcases pu.mp l with z|z
   .subst z;simp
   .exact n_ _ (c.sub o z))⟩⟩
def oA(i:Nat)(C:ws.contains i=I:=by exact ys rfl):Xd ws where
 m:=bQ (ag i)
 p:=λenv s=>match env[i]? with
  |some (J d)=>.rt d s
  |_=>.bad
 fr:=I
 ok {q h L B O Z env s} c d:=by
  show SOk q L h B O ws _ _ (match env[i]? with|some (J d)=>PS.rt d s|_=>.bad)
  cases e:env[i]? with
  |none=>trivial
  |some o =>
   cases o with
   |none=>trivial
   |some x =>
    obtain⟨n,j,xs,y,e1,e2,a,b,g,r⟩:=c.sr.ow i x e (by simpa using C);subst e1
    have F:Mv O h (n::B) h:=⟨λ_ _ _=>rfl,λo E=>.inl (by
     rcases pu.mp E with z|z
     .subst z;exact a
     .exact c.sub o z)⟩
    have f:Frs q L B h (dl j y) (.loc n):=λu l e=>by
     have:u=j/\l=y:=by cases j<;>cases u<;>cases e<;>exact⟨rfl,rfl⟩
     obtain⟨rfl,rfl⟩:=this;exact⟨n,xs,rfl,b,g,r.mv F⟩
    refine⟨.loc n,h,by simp[bQ,ag,e2],jj _,λ_ _ _=>rfl,c.pen,f.rp c.bb rfl,λ_=>f⟩
def qP(e:Xe ws):Xd ws where
 m:=eS e.m
 p:=λenv s=>(e.p env s).go env λ_=>.nx
 fr:=I
 ok {q h L B O Z env s} c d:=SOk.ex (f:=λ_=>n7) (g:=λ_=>.nx) c d (e.ok c) λx v a j kb i _=>⟨Z,a,rfl,O,Stp.refl _ _ _ _,i,d⟩
def wL(t:Xt ws)(a b:Xd ws):Xd ws where
 m:=A9 t.m a.m b.m
 p:=λenv s=>(t.p env s).go env λx env s=>if x=I then a.p env s else b.p env s
 fr:=a.fr&&b.fr
 ok {q h L B O Z env s} c d:=SOk.ex (f:=λx=>if x=I then a.m else b.m) (g:=λx env s=>if x=I then a.p env s else b.p env s) c d (t.ok c) λx v l j kb i e=>by
  subst e
  cases x with
  |true=>exact(a.ok i d).fr (by simp;exact λh _=>h)
  |false=>exact(b.ok i d).fr (by simp)
def Dis.keep(d:Dis ws Z env)(k:∀i∈ws,Z'[i]?=Z[i]?/\env'[i]?=env[i]?):Dis ws Z' env':=λi j f l ne x y n a b e=>by
 rw[(k i f).1]at e;rw[(k i f).2]at a;rw[(k j l).2]at b;rw[(k j l).1];exact d i j f l ne x y n a b e
def bh(i:Nat)(e:Xe ws)(l:ws.contains i=T:=by exact ys rfl)(y:e.fz=I:=by exact ys rfl):Xd ws where
 m:=ba i e.m
 p:=λenv s=>(e.p env s).go env λd env s=>.nx (env.set i (J d)) s
 fr:=I
 ok {q h L B O Z env s} c d:=by refine SOk.ex (f:=λv Z h=>.nx (Z.set i (J v)) h) (g:=λd env s=>.nx (env.set i (J d)) s) c d (e.ok c) λx v u C kb j ⟨_,z,_⟩=>?_;obtain⟨a,b⟩:=j.sr.set (i:=i) (λz=>by simp[z]at l) (z y);exact⟨_,u,rfl,O,Stp.refl _ _ _ _,⟨j.bd,j.sub,j.bb,j.pb,j.hL,j.pen,a⟩,d.keep b⟩
def D.mine:D->Bool
 |.lst _=>I
 |.dic fz _ _=>!fz
 |_=>T
def f9(i:Nat)(e:Xe ws)(hi:ws.contains i=I:=by exact ys rfl)(hz:e.fr=I:=by exact ys rfl):Xd ws where
 m:=ba i e.m
 p:=λenv s=>(e.p env s).go env λd env s=>if d.mine=I then .nx (env.set i (J d)) s else .bad
 fr:=I
 ok {q h L B O Z env s} c d:=by
  show SOk q L h B O ws _ _ _;have k:=e.ok c;show SOk q L h B O ws _ ((e.m Z h).go Z λv Z h=>.nx (Z.set i (J v)) h) _
  cases U:e.p env s with
  |bad=>trivial
  |exc x s1 =>
   rw[U]at k;obtain⟨M,e1,kb,pn⟩:=k;rw[e1];exact⟨Z,M,rfl,O,kb.stp c,c.kb kb pn,d⟩
  |ok x s1 =>
   rw[U]at k;obtain⟨v,M,e1,kb,pn,_,_,f⟩:=k;rw[e1];by_cases u:x.mine=I
   .obtain⟨F,C,rfl⟩:∃F C,x=dl F C:=by
     cases x with
     |lst C=>exact⟨Y,C,rfl⟩
     |dic fz ks C =>
      cases fz with
      |false=>exact⟨J ks,C,rfl⟩
      |true=>cases u
     |_=>cases u
    obtain⟨n,xs,rfl,hn,g,r⟩:=f hz F C rfl;show SOk q L h B O ws _ _ (if(dl F C).mine=I then _ else _);rw[b_ u];have X:=c.kb kb pn;have R:i∈ws:=by simpa using hi
    have mv:Mv O h (n::O) M:=⟨λm u no=>kb.keep m u λz=>no (z▸c.pO),λo E=>by
     rcases pu.mp E with z|z
     .exact .inr ⋯
     .exact .inl z⟩
    have P:n∉O:=λz=>by have:=c.bd n z;lia
    refine⟨Z.set i (J (.loc n)),M,rfl,n::O,⟨kb.len,mv,λo E=>n_ _ E,λm u hq=>kb.keep m (vE u c.hL) hq⟩,⟨λo E=>?_,λo E=>n_ _ (c.sub o E),c.bb,c.pb,X.hL,pn,?_⟩,?_⟩
    .rcases pu.mp E with z|z
     .subst z;exact ao g
     .exact X.bd o z
    .have sr:=c.sr.mv mv (λo E=>n_ _ E) λm u hl _=>kb.keep m u (by have:=c.pL;lia);refine⟨by simp[sr.len],λj x l H=>?_,λj x l H=>?_⟩
     .have ne:i≠j:=λz=>H (z▸R);rw[pa ne]at l;rw[pa ne];exact sr.fz j x l H
     .by_cases z:i=j
      .subst z;have hl:i<env.length:=by have:=(nw.mp l).1;simpa using this
       rw[wv hl]at l;cases l;exact⟨n,F,xs,C,rfl,wv (by rw[sr.len];exact hl),by simp,by have:=c.hL;lia,g,r⟩
      .rw[pa z]at l;rw[pa z];exact sr.ow j x l H
    .have old:∀j d,j∈ws->i≠j->(env.set i (J (dl F C)))[j]?=J (J d)->(Z.set i (J (.loc n)))[j]?≠J (J (.loc n)):=λj d H ne l z=>by
      rw[pa ne]at l z;obtain⟨n',_,_,_,_,W,b3,_⟩:=c.sr.ow j d l H;rw[z]at W;cases W;exact P b3
     intro a b ha hb ne x y m Q S G;by_cases z1:i=a
     .subst z1;have hl:i<Z.length:=by have:=(nw.mp G).1;simpa using this
      rw[wv hl]at G;cases G;exact old b y hb ne S
     .by_cases z2:i=b
      .subst z2;intro z;have hl:i<Z.length:=by have:=(nw.mp z).1;simpa using this
       rw[wv hl]at z;cases z;exact old a x ha z1 Q G
      .rw[pa z1]at Q G;rw[pa z2]at S ⊢;exact d a b ha hb ne x y m Q S G
   .show SOk q L h B O ws _ _ (if x.mine=I then _ else _);rw[f_ u];trivial
end
end PU
namespace PU
open MM
open L2 (vq)
noncomputable section
variable{ws:SV}
def PS.turn(r:PS)(k:am->c_->PS):PS:=match r with
 |.nx e s=>k e s
 |.ct e s=>k e s
 |.bk e s=>.nx e s
 |r=>r
@[simp]theorem turn_nx:(PS.nx e s).turn k=k e s:=rfl
@[simp]theorem turn_ct:(PS.ct e s).turn k=k e s:=rfl
@[simp]theorem turn_bk:(PS.bk e s).turn k=.nx e s:=rfl
@[simp]theorem turn_rt:(PS.rt d s).turn k=.rt d s:=rfl
@[simp]theorem Az:(PS.exc c e s).turn k=.exc c e s:=rfl
@[simp]theorem zk:(PS.rse c e s).turn k=.rse c e s:=rfl
@[simp]theorem K1:PS.bad.turn k=.bad:=rfl
def Bw(g:D->am->Option am)(b:am->c_->PS):SW->am->c_->PS
 |[],env,s=>.nx env s
 |d::f,env,s=>match g d env with
  |none=>.bad
  |some a=>(b a s).turn (Bw g b f)
def Hm(g:Xg ws)(b:Xd ws):∀(G:SW)(xs:SM)(env:am)(Z:m_)(h:MH)(O:SV)(s:c_),Cx q h L B O ws Z env s->Dis ws Z env->Rps q h O G xs->(∀y∈it.gd,h[y.1]?=J (.lst y.2)/\y.1∉O) ->
  SOk q L h B O ws b.fr (vt it g.m b.m xs Z h) (Bw g.p b.p G env s):=by
 intro G
 induction G with
 |nil =>
  intro xs env Z h O s c d r gd
  have:xs=[]:=r
  subst this;have ok:it.ok h:=λy z=>(gd y z).1;refine⟨Z,h,by rw[vt];dsimp only;rw[b_ ok],O,Stp.refl _ _ _ _,c,d⟩
 |cons x G R =>
  intro xs env Z h O s c d r gd;obtain⟨v,E,rfl,M,H⟩:=r;have ok:it.ok h:=λy z=>(gd y z).1;rw[Bw]
  cases X:g.p x env with
  |none=>trivial
  |some j =>
   obtain⟨S,U,sr,k⟩:=g.ok c.sr M X;have c1:Cx q h L B O ws S j s:=⟨c.bd,c.sub,c.bb,c.pb,c.hL,c.pen,sr⟩;have kb:=b.ok c1 (d.keep k)
   have em:vt it g.m b.m (v::E) Z h=(match b.m S h with
    |.nx i f=>vt it g.m b.m E i f
    |.ct i f=>vt it g.m b.m E i f
    |.bk i f=>.nx i f
    |.rt v f=>.rt v f
    |.exc e i f=>.exc e i f
    |.rse e i f=>.rse e i f
    |.bad=>.bad):=by rw[vt];dsimp only;(rw[b_ ok,U])<;>rfl
   rw[em];have F:∀{f:MH}{u:SV},Stp q L h O f u->∀y∈it.gd,f[y.1]?=J (.lst y.2)/\y.1∉u:=λst y z=>by
    obtain⟨a,b⟩:=st.mv.get (gd y z).1 (gd y z).2;exact⟨b,a⟩
   dsimp only
   cases C:b.p j s with
   |bad=>trivial
   |nx e2 l =>
    rw[C]at kb;obtain⟨i,f,e1,u,st,Q,P⟩:=kb;rw[e1];exact(R E e2 i f u l Q P (H.mv st.mv) (F st)).after st
   |ct e2 l =>
    rw[C]at kb;obtain⟨i,f,e1,u,st,Q,P⟩:=kb;rw[e1];exact(R E e2 i f u l Q P (H.mv st.mv) (F st)).after st
   |bk e2 l=>rw[C]at kb;obtain⟨i,f,e1,r⟩:=kb;rw[e1];exact⟨i,f,rfl,r⟩
   |exc x e2 l=>rw[C]at kb;obtain⟨i,f,e1,r⟩:=kb;rw[e1];exact⟨i,f,rfl,r⟩
   |rse x e2 l=>rw[C]at kb;obtain⟨i,f,e1,r⟩:=kb;rw[e1];exact⟨i,f,rfl,r⟩
   |rt x l=>rw[C]at kb;obtain⟨v,f,e1,M,H,r3,r4,W⟩:=kb;rw[e1];exact⟨v,f,rfl,M,H,r3,r4,W⟩
def iI(i:Xi ws)(g:Xg ws)(b:Xd ws)(C:i.fz=I:=by exact ys rfl):Xd ws where
 m:=iP i.m g.m b.m
 p:=λenv s=>(i.p env s).go env λa env s=>Bw g.p b.p a env s
 fr:=b.fr
 ok {q h L B O Z env s} c d:=SOk.ex (f:=λj=>vt j g.m b.m j.xs) (g:=λa env s=>Bw g.p b.p a env s) c d (i.ok c) λa j z u kb E r =>
  Hm g b a j.xs env Z z O u E d r.1 λy l=>⟨(r.2.1 y l).1,r.2.2 C y l⟩
def cp(t:am->c_->PR Bool)(b:am->c_->PS):Nat->am->c_->PS
 |0,_,_=>.bad
 |n+1,env,s=>(t env s).go env λx env s=>if x=I then(b env s).turn (cp t b n)else .nx env s
def oU(t:Xt ws)(b:Xd ws):∀(n:Nat)(env:am)(Z:m_)(h:MH)(O:SV)(s:c_),Cx q h L B O ws Z env s->Dis ws Z env->SOk q L h B O ws b.fr (bF t.m b.m n Z h) (cp t.p b.p n env s)
 |0,env,Z,h,O,s,c,d=>trivial
 |n+1,env,Z,h,O,s,c,d=>by
  refine SOk.ex (f:=λx=>if x=I then (λZ h=>match b.m Z h with
   |.nx i a=>bF t.m b.m n i a
   |.ct i a=>bF t.m b.m n i a
   |.bk i a=>.nx i a
   |.rt v a=>.rt v a
   |.exc e i a=>.exc e i a
   |.rse e i a=>.rse e i a
   |.bad=>.bad)else n7) (g:=λx env s=>if x=I then(b.p env s).turn (cp t.p b.p n)else .nx env s) c d (t.ok c) λx v E P kb C e=>?_
  subst e
  cases x with
  |false=>exact⟨Z,E,rfl,O,Stp.refl _ _ _ _,C,d⟩
  |true =>
   have k:=b.ok C d;rw[b_ rfl,b_ rfl]
   cases l:b.p env P with
   |bad=>trivial
   |nx e2 j =>
    rw[l]at k;obtain⟨i,a,e1,u,st,z,y⟩:=k;rw[e1];exact(oU t b n e2 i a u j z y).after st
   |ct e2 j =>
    rw[l]at k;obtain⟨i,a,e1,u,st,z,y⟩:=k;rw[e1];exact(oU t b n e2 i a u j z y).after st
   |bk e2 j=>rw[l]at k;obtain⟨i,a,e1,r⟩:=k;rw[e1];exact⟨i,a,rfl,r⟩
   |exc x e2 j=>rw[l]at k;obtain⟨i,a,e1,r⟩:=k;rw[e1];exact⟨i,a,rfl,r⟩
   |rse x e2 j=>rw[l]at k;obtain⟨i,a,e1,r⟩:=k;rw[e1];exact⟨i,a,rfl,r⟩
   |rt x j=>rw[l]at k;obtain⟨v,a,e1,G,Q,M,H,F⟩:=k;rw[e1];exact⟨v,a,rfl,G,Q,M,H,F⟩
def Jf(N:Nat)(t:Xt ws)(b:Xd ws)(f:∀{Z h n},bF t.m b.m n Z h≠.bad->Gm t.m b.m Z h=bF t.m b.m n Z h):Xd ws where
 m:=Gm t.m b.m
 p:=cp t.p b.p N
 fr:=b.fr
 ok {q h L B O Z env s} c d:=by
  have k:=oU t b N env Z h O s c d;by_cases z:bF t.m b.m N Z h=.bad
  .rw[z]at k
   cases e:cp t.p b.p N env s with
   |bad=>trivial
   |nx e2 a=>rw[e]at k;obtain⟨_,_,e1,_⟩:=k;cases e1
   |ct e2 a=>rw[e]at k;obtain⟨_,_,e1,_⟩:=k;cases e1
   |bk e2 a=>rw[e]at k;obtain⟨_,_,e1,_⟩:=k;cases e1
   |exc x e2 a=>rw[e]at k;obtain⟨_,_,e1,_⟩:=k;cases e1
   |rse x e2 a=>rw[e]at k;obtain⟨_,_,e1,_⟩:=k;cases e1
   |rt x a=>rw[e]at k;obtain⟨_,_,e1,_⟩:=k;cases e1
  .rw[f z];exact k
structure Dn where
 m:Nat->SM->MH->SK
 p:SW->SW->Option (D×SW)
 ok:∀{q:Nat}{h:MH}{O:SV}{n:Nat}{xs:SM}{ds as:SW}{vs:SM}{d:D}{ds':SW},h[n]?=J (.lst xs)->Rps q h O ds xs->Rps q h O as vs->p ds as=J (d,ds')->∃v xs',m n vs h=.ok v (h.set n (.lst xs'))/\Rps q h O ds' xs'/\Rp q h O d v
def sP{q h L B O Z env s n xs' ds' i d0 kd}(c:Cx q h L B O ws Z env s)(d:Dis ws Z env)(C:i∈ws)(e:env[i]?=J (J d0))(G:Z[i]?=J (J (.loc n)))(r:Rps q h O ds' xs'):
  Nxt q L h B O ws Z (h.set n (mo kd xs')) (env.set i (J (dl kd ds'))) s:=by
 obtain⟨n',k0,xs,Q,e0,e2,a,b,g,r0⟩:=c.sr.ow i _ e C;rw[G]at e2;cases e2;have mv:Mv O h O (h.set n (mo kd xs')):=⟨λm hm no=>pa (λ(z:n=m)=>no (z▸a)),λo E=>.inl E⟩;have hp:=c.pL;have W:i<env.length:=(nw.mp e).1;refine⟨O,⟨by simp,mv,λ_ h=>h,λm hm _=>pa ⋯⟩,⟨λo E=>by simpa using c.bd o E,c.sub,c.bb,c.pb,by simpa using c.hL,?_,⟨by simp[c.sr.len],λj x f l=>?_,λj x f l=>?_⟩⟩,?_⟩
 .unfold aX;rw[pa ⋯];exact c.pen
 .have ne:i≠j:=λz=>l (z▸C);rw[pa ne]at f;obtain⟨v,e1,w⟩:=c.sr.fz j x f l;exact⟨v,e1,w.mv mv⟩
 .by_cases z:i=j
  .subst z;rw[wv W]at f;cases f;exact⟨n,kd,xs',ds',rfl,G,a,b,wv (ao g),r.mv mv⟩
  .rw[pa z]at f;obtain⟨m,k1,ys,H,e1,e3,R,b4,b5,X⟩:=c.sr.ow j x f l
   have:n≠m:=λy=>d i j C l z _ _ n e f G (y▸e3)
   exact⟨m,k1,ys,H,e1,e3,R,b4,by rw[pa this];exact b5,X.mv mv⟩
 .intro j k l S ne x y m f U e1;have P:∀j x,(env.set i (J (dl kd ds')))[j]?=J (J x)->∃M,env[j]?=J (J M):=λj x f=>by
   by_cases z:i=j
   .subst z;exact⟨_,e⟩
   .rw[pa z]at f;exact⟨x,f⟩
  obtain⟨M,F⟩:=P j x f;obtain⟨y',u⟩:=P k y U;exact d j k l S ne M y' m F u e1
def Do{q h L B O Z env s n xs' ds' i ds}(c:Cx q h L B O ws Z env s)(d:Dis ws Z env)(a:i∈ws)(e:env[i]?=J (J (D.lst ds)))(f:Z[i]?=J (J (.loc n)))(r:Rps q h O ds' xs'):
  Nxt q L h B O ws Z (h.set n (.lst xs')) (env.set i (J (.lst ds'))) s:=sP (kd:=Y) c d a e f r
def K2(o:Dn)(i:Nat)(a:Xs ws)(z:i∈ws)(H:a.fz=I){q h L B O Z env s}(c:Cx q h L B O ws Z env s)(d:Dis ws Z env)(C:a.p env s=.ok as s1)(P:env[i]?=J (J (.lst ds)))(y:o.p ds as=J (r,ds')):∃v j n f,KB q h j/\Cx q j L B O ws Z env s1/\Z[i]?=J (J (.loc n))/\Bi o.m (ag i) a.m Z h=.ok v (j.set n (.lst f))/\Rps q j O ds' f/\Rp q j O r v:=by
 obtain⟨n,U,xs,u,e0,e2,W,S,g,R⟩:=c.sr.ow i _ P z;obtain⟨rfl,rfl⟩:=hV e0;replace g:h[n]?=J (.lst xs):=g;have l:=a.ok c;rw[C]at l;obtain⟨X,j,e3,kb,pn,_,F⟩:=l;have M:=c.kb kb pn;have E:j[n]?=J (.lst xs):=(kb.keep n (ao g) (by have:=c.pL;lia)).trans g;obtain⟨v,f,e4,G,Q⟩:=o.ok E (R.mv (kb.mv c.pO)) (F H) y;refine⟨v,j,n,f,kb,M,e2,?_,G,Q⟩;have em:ag i Z h=.ok (.loc n) h:=by simp[ag,e2]
 show(ag i Z h).bind _=_;rw[em];simp only[Out.bind_ok,g,e3,e4,Out.ne_ok]
def BH(o:Dn)(i:Nat)(a:am->c_->PR (SW))(env:am)(s:c_)(k:D->am->c_->PS):PS:=match a env s with
 |.ok j l=>(match env[i]? with
  |some (J (.lst u))=>(match o.p u j with
   |some (r,f)=>k r (env.set i (J (.lst f))) l
   |none=>.bad)
  |_=>.bad)
 |_=>.bad
def yN(e1:a env s=.ok as s1)(e2:env[i]?=J (J (.lst ds)))(e3:o.p ds as=J (r,ds')):BH o i a env s k=k r (env.set i (J (.lst ds'))) s1:=by simp only[BH,e1,e2,e3]
def Dp:BH o i a env s k=.bad\/∃f u l r j,a env s=.ok f u/\env[i]?=J (J (.lst l))/\o.p l f=J (r,j)/\BH o i a env s k=k r (env.set i (J (.lst j))) u:=by
 cases e1:a env s with
 |bad=>left;simp only[BH,e1]
 |exc _ _=>left;simp only[BH,e1]
 |ok f u =>
  cases e2:env[i]? with
  |none=>left;simp only[BH,e1,e2]
  |some x =>
   cases x with
   |none=>left;simp only[BH,e1,e2]
   |some d =>
    cases d with
    |lst l =>
     cases e3:o.p l f with
     |none=>left;simp only[BH,e1,e2,e3]
     |some y=>exact .inr ⟨f,u,l,y.1,y.2,rfl,rfl,e3,yN e1 e2 e3⟩
    |_=>left;simp only[BH,e1,e2]
def BI(o:Dn)(i:Nat)(a:Xs ws)(l:ws.contains i=I:=by exact ys rfl)(F:a.fz=I:=by exact ys rfl):Xd ws where
 m:=eS (Bi o.m (ag i) a.m)
 p:=λenv s=>BH o i a.p env s λ_=>.nx
 fr:=I
 ok {q h L B O Z env s} c d:=by
  rcases Dp (o:=o) (i:=i) (a:=a.p) (env:=env) (s:=s) (k:=λ_=>.nx)with z|⟨P,H,Q,r,C,e1,e2,e3,z⟩
  .rw[z];trivial
  .rw[z];have f:i∈ws:=by simpa using l
   obtain⟨v,u,n,j,kb,G,y,em,E,M⟩:=K2 o i a f F c d e1 e2 e3;refine⟨Z,u.set n (.lst j),?_,(Do G d f e2 y E).after (kb.stp c)⟩;unfold eS vQ;rw[em];rfl
def Vw.int(w:Vw q h L O (.int b) v):v=.int b:=by
 rcases w with r|⟨n,a,xs,f,e,_⟩
 .exact r
 .cases a<;>cases e
def PS.fin(r:PS):PR D:=match r with
 |.nx _ s=>.ok .non s
 |.rt d s=>.ok d s
 |.exc c _ s=>.exc c s
 |.rse c _ s=>.exc c s
 |_=>.bad
@[simp]theorem xu:(PS.nx e s).fin=.ok .non s:=rfl
@[simp]theorem bD:(PS.rt d s).fin=.ok d s:=rfl
@[simp]theorem fin_exc:(PS.exc c e s).fin=.exc c s:=rfl
@[simp]theorem fin_rse:(PS.rse c e s).fin=.exc c s:=rfl
@[simp]theorem Nr:PS.bad.fin=.bad:=rfl
def kx(n:Nat)(a:SW):am:=a.map J++List.replicate (n-a.length) Y
def bC(n B:Nat)(b:Xd ws)(hw:ws.all (λi=>decide (B<=i))=I:=by exact ys rfl):Fn where
 m:=b7 n B b.m
 p:=λu s=>if u.length=B then(b.p (kx n u) s).fin else .bad
 fr:=b.fr
 ok {q h O vs u s} bd H pn r:=by
  by_cases hl:u.length=B
  .rw[b_ hl];have hv:vs.length=B:=by rw[r.length];exact hl
   have low:∀i d,(kx n u)[i]?=J (J d)->i<B/\u[i]?=J d:=λi d e=>by
    by_cases z:i<u.length
    .refine⟨⋯,?_⟩;unfold kx at e;rw[p_ (by simpa using z)]at e;simp at e;simpa using e
    .unfold kx at e;rw[AR (by simpa using z)]at e;by_cases y:i-(u.map J).length<n-u.length
     .simp[Fc,y]at e
     .simp at y e;exact absurd e (by simp[Fc])
   have M:∀i d,(kx n u)[i]?=J (J d)->i∉ws:=λi d e C=>by
    have:=(low i d e).1
    rw[List.all_eq_true]at hw
    have:=hw i C
    simp at this;lia
   have c:Cx q h h.length O O ws (be n vs) (kx n u) s:=by refine⟨bd,λ_ h=>h,bd,H,jj _,pn,⟨by simp[be,kx,r.length],λi d e _=>?_,λi d e C=>absurd C (M i d e)⟩⟩;obtain⟨v,L,R⟩:=r.get (low i d e).2;refine⟨v,?_,R⟩;unfold be;rw[p_ (by simpa using(nw.mp L).1)];simp[L]
   have k:=b.ok c λi j C _ _ d _ _ e=>absurd C (M i d e)
   have em:b7 n B b.m vs h=(match b.m (be n vs) h with
    |.nx _ a=>.ok .non a
    |.rt v a=>.ok v a
    |.exc x _ a=>.exc x a
    |.rse x _ a=>.exc x a
    |_=>.bad):=by unfold b7;(rw[b_ hv])<;>(cases b.m (be n vs) h<;>rfl)
   rw[em];have kb:∀{a G},Stp q h.length h O a G->KB q h a:=λst=>⟨st.len,λm S H=>st.base m S H⟩
   cases e:b.p (kx n u) s with
   |nx e1 F=>rw[e]at k;obtain⟨P,a,f,G,st,E,_⟩:=k;rw[f];exact⟨.non,a,rfl,kb st,E.pen,rfl,λ_ k u e=>by cases k<;>cases e⟩
   |exc x e1 F=>rw[e]at k;obtain⟨P,a,f,G,st,E,_⟩:=k;rw[f];exact⟨a,rfl,kb st,E.pen⟩
   |rse x e1 F=>rw[e]at k;obtain⟨P,a,f,G,st,E,_⟩:=k;rw[f];exact⟨a,rfl,kb st,E.pen⟩
   |rt x F=>rw[e]at k;obtain⟨v,a,f,l,b,p,Q,U⟩:=k;rw[f];exact⟨v,a,rfl,⟨l,b⟩,p,Q,U⟩
   |bk e1 F=>trivial
   |ct e1 F=>trivial
   |bad=>trivial
  .rw[f_ hl];trivial
def EX(m:SM->MH->SK):Fn where
 m:=m
 p:=λ_ _=>.bad
 fr:=I
 ok _ _ _ _:=trivial
end
end PU
namespace PU
open MM SetT SortT
open L2 (vq n3 gQ)
noncomputable section
section
variable{q:Nat}{h:MH}{L:Nat}{O:SV}{v:PV}
def Vw.non(w:Vw q h L O .non v):v=.non:=by
 rcases w with r|⟨n,a,xs,f,e,_⟩
 .exact r
 .cases a<;>cases e
def Vw.str(w:Vw q h L O (.str x) v):v=.str x:=by
 rcases w with r|⟨n,a,xs,f,e,_⟩
 .exact r
 .cases a<;>cases e
inductive Rw(h:MH)(P:SM->Prop)(v:PV):Prop
 |mk(n:Nat)(xs:SM)(e:v=.loc n)(g:h[n]?=J (.lst xs))(r:P xs):Rw h P v
def Vw.lst(w:Vw q h L O (.lst ds) v):Rw h (Rps q h O ds) v:=by
 rcases w with⟨n,xs,e,_,g,r⟩|⟨n,f,xs,a,e,e1,_,_,g,r⟩
 .exact⟨n,xs,e,g,r⟩
 .obtain⟨rfl,rfl⟩:=hV e;exact⟨n,xs,e1,g,r⟩
def Vw.tup(w:Vw q h L O (.tup ds) v):O_ (Rps q h O ds) v:=by
 rcases w with r|⟨n,f,xs,a,e,_⟩
 .exact r
 .cases f<;>cases e
def EY(r:Rp q h O d v)(hf:fr=I->∀k a,d≠dl k a):Gv q h O fr (.ok v h) d :=
 ⟨v,[],by simp,by simpa using r,λz k a e=>absurd e (hf z k a)⟩
def Bx:Gv q h O fr (.ok (.int i) h) (.int i):=EY rfl λ_ k _ e=>by cases k<;>cases e
def w_:Gv q h O fr (.ok (.bl i) h) (.bl i):=EY rfl λ_ k _ e=>by cases k<;>cases e
def eQ(w:Hh q h L O [d] vs):∃x,vs=[x]/\Vw q h L O d x:=by
 obtain⟨x,r,e,a,b⟩:=w
 have:r=[]:=b
 subst this;exact⟨x,e,a⟩
def Hn(w:Hh q h L O [d,d'] vs):∃x y,vs=[x,y]/\Vw q h L O d x/\Vw q h L O d' y:=by obtain⟨x,r,e,a,b⟩:=w;obtain⟨y,rfl,c⟩:=eQ b;exact⟨x,y,e,a,c⟩
end
def re(m:PV->PV->MH->SK)(f:Int->Int->D)(g:Int->Int->PV)(u:∀i j h,m (.int i) (.int j) h=.ok (g i j) h)(l:∀i j q h O fr,Gv q h O fr (.ok (g i j) h) (f i j)):vZ where
 m:=m
 p:=λa b=>match a,b with
  |.int i,.int j=>J (f i j)
  |_,_=>Y
 fr:=I
 ok {q h L O a x b y d} bd wa wb e:=by
  cases a with
  |int i =>
   cases b with
   |int j=>cases e;rw[wa.int,wb.int,u];exact l i j q h O I
   |_=>cases e
  |_=>cases e
def tD:vZ:=re BQ (λi j=>.int (i-j)) (λi j=>.int (i-j)) (λ_ _ _=>rfl) λ_ _ _ _ _ _=>Bx
def Ho:vZ:=re BO (λi j=>.bl (decide (i<j))) (λi j=>.bl (decide (i<j))) (λ_ _ _=>rfl) λ_ _ _ _ _ _=>w_
def Pc:vZ:=re Gn (λi j=>.bl (decide (i<=j))) (λi j=>.bl (decide (i<=j))) (λ_ _ _=>rfl) λ_ _ _ _ _ _=>w_
def K3:vZ:=re BP (λi j=>.bl (decide (j<i))) (λi j=>.bl (decide (j<i))) (λ_ _ _=>rfl) λ_ _ _ _ _ _=>w_
def Ph:vZ:=re Bt (λi j=>.bl (decide (j<=i))) (λi j=>.bl (decide (j<=i))) (λ_ _ _=>rfl) λ_ _ _ _ _ _=>w_
def cc:vZ where
 m:=i_
 p:=λa b=>match a,b with
  |.int i,.int j=>J (.int (i+j))
  |.lst x,.lst y=>if x.length+y.length<=100000 then J (.lst (x++y))else Y
  |.tup (a::x),.tup y=>if x.length+1+y.length<=100000 then J (.tup (a::x++y))else Y
  |_,_=>Y
 fr:=I
 ok {q h L O a x b y d} bd wa wb e:=by
  cases a with
  |int i =>
   cases b with
   |int j=>cases e;rw[wa.int,wb.int];exact Bx
   |_=>cases e
  |lst x =>
   cases b with
   |lst y =>
    dsimp only at e;by_cases z:x.length+y.length<=100000
    .rw[b_ z]at e;cases e;obtain⟨n,xs,rfl,g,r⟩:=wa.lst;obtain⟨u,ys,rfl,l,f⟩:=wb.lst;show Gv q h O I (match h[n]?,h[u]? with|some (.lst xs),J (.lst ys)=>q_ (xs++ys) h|_,_=>.bad) _;rw[g,l];exact lF bd (r.app f) (by simpa using z)
    .rw[f_ z]at e;cases e
   |_=>cases e
  |tup x =>
   cases x with
   |nil=>cases b<;>cases e
   |cons a x =>
    cases b with
    |tup y =>
     dsimp only at e;by_cases z:x.length+1+y.length<=100000
     .rw[b_ z]at e;cases e;obtain⟨xs,rfl,r⟩:=wa.tup;obtain⟨ys,rfl,f⟩:=wb.tup;have ne:xs≠[]:=λz=>by have:=r.length;simp[z]at this
      show Gv q h O I (if xs≠[]then ll (xs++ys) h else .bad) _;rw[b_ ne];exact vb (r.app f) (by simp;lia)
     .rw[f_ z]at e;cases e
    |_=>cases e
  |_=>cases e
def Rps.rep(r:Rps q h O ds xs):∀n,Rps q h O (List.replicate n ds).flatten (List.replicate n xs).flatten
 |0=>rfl
 |n+1=>by
  rw[Bp,Bp,Ez,Ez];exact r.app (Rps.rep r n)
def bp:vZ where
 m:=jn
 p:=λa b=>match a,b with
  |.int i,.int j=>if IntMulOk i j then J (.int (i*j))else Y
  |.lst x,.int j=>if(0<=j/\j<=1000)/\((List.replicate j.toNat x).flatten).length<=100000 then J (.lst (List.replicate j.toNat x).flatten)else Y
  |_,_=>Y
 fr:=I
 ok {q h L O a x b y d} bd wa wb e:=by
  cases a with
  |int i =>
   cases b with
   |int j =>
    dsimp only at e;by_cases z:IntMulOk i j
    .rw[b_ z]at e;cases e;rw[wa.int,wb.int];show Gv q h O I (if IntMulOk i j then .ok (.int (i*j)) h else .bad) _;rw[b_ z];exact Bx
    .rw[f_ z]at e;cases e
   |_=>cases e
  |lst x =>
   cases b with
   |int j =>
    dsimp only at e;by_cases z:(0<=j/\j<=1000)/\((List.replicate j.toNat x).flatten).length<=100000
    .rw[b_ z]at e;cases e;obtain⟨n,xs,rfl,g,r⟩:=wa.lst;rw[wb.int];show Gv q h O I (match h[n]? with|some (.lst xs)=>if -(2^63)<=j/\j<2^63 then q_ (List.flatten (List.replicate j.toNat xs)) h else .bad|_=>.bad) _;rw[g];dsimp only;rw[b_ ⋯];exact lF bd (r.rep _) z.2
    .rw[f_ z]at e;cases e
   |_=>cases e
  |_=>cases e
def Dq:vZ where
 m:=A_
 p:=λa b=>match a,b with
  |.int i,.int j=>if j≠0 then J (.int (i.fdiv j))else Y
  |_,_=>Y
 fr:=I
 ok {q h L O a x b y d} bd wa wb e:=by
  cases a with
  |int i =>
   cases b with
   |int j =>
    dsimp only at e;by_cases z:j≠0
    .rw[b_ z]at e;cases e;rw[wa.int,wb.int];show Gv q h O I (if j≠0 then .ok (.int (i.fdiv j)) h else .bad) _;rw[b_ z];exact Bx
    .rw[f_ z]at e;cases e
   |_=>cases e
  |_=>cases e
def m6:vZ where
 m:=mm
 p:=λa b=>match a,b with
  |.int i,.int j=>if j≠0 then J (.int (i.fmod j))else Y
  |_,_=>Y
 fr:=I
 ok {q h L O a x b y d} bd wa wb e:=by
  cases a with
  |int i =>
   cases b with
   |int j =>
    dsimp only at e;by_cases z:j≠0
    .rw[b_ z]at e;cases e;rw[wa.int,wb.int];show Gv q h O I (if j≠0 then .ok (.int (i.fmod j)) h else .bad) _;rw[b_ z];exact Bx
    .rw[f_ z]at e;cases e
   |_=>cases e
  |_=>cases e
def l_:vZ where
 m:=bc
 p:=λa b=>match a,b with
  |.lst x,.int j=>n3 x j
  |.tup x,.int j=>n3 x j
  |_,_=>Y
 fr:=T
 ok {q h L O a x b y d} bd wa wb e:=by
  have at':∀{f:SW}{xs:SM}{j:Int},Rps q h O f xs->n3 f j=J d->∃v,n3 xs j=J v/\Rp q h O d v:=λ{f xs j} r e=>by
   unfold n3 at e ⊢;rw[r.length]
   cases e1:vq f.length j with
   |none=>rw[e1]at e;cases e
   |some k=>rw[e1]at e;exact r.get e
  cases b with
  |int j =>
   rw[wb.int]
   cases a with
   |lst f =>
    obtain⟨n,xs,rfl,g,r⟩:=wa.lst;obtain⟨v,e1,i⟩:=at' r e;show Gv q h O T (match h[n]? with|some (.lst xs)=>(match n3 xs j with|some v=>.ok v h|none=>.bad)|_=>.bad) _;rw[g];dsimp only;rw[e1];exact EY i λz=>by cases z
   |tup f =>
    obtain⟨xs,rfl,r⟩:=wa.tup;obtain⟨v,e1,i⟩:=at' r e;show Gv q h O T (match n3 xs j with|some v=>.ok v h|none=>.bad) _;rw[e1];exact EY i λz=>by cases z
   |_=>cases e
  |_=>cases a<;>cases e
def Jg(neg:Bool):vZ where
 m:=Kl neg
 p:=λa b=>match b with
  |.non=>(match a with
   |.non=>J (.bl (!neg))
   |_=>J (.bl neg))
  |.bl b=>(match a with
   |.bl c=>J (.bl (if neg then !(c==b)else c==b))
   |.non=>J (.bl neg)
   |.int _=>J (.bl neg)
   |.str _=>J (.bl neg)
   |.tup _=>J (.bl neg)
   |_=>Y)
  |_=>Y
 fr:=I
 ok {q h L O a x b y d} bd wa wb e:=by
  have loc:∀{a:D}{x:PV},Vw q h L O a x->(∃f,a=.lst f)\/(∃fz i f,a=.dic fz i f)\/(∃c,a=.exc c)\/a=.pen->∃n,x=.loc n:=λ{a x} w z=>by
   rcases w with r|⟨n,j,xs,f,e,e1,_⟩
   .rcases z with⟨f,rfl⟩|⟨_,_,_,rfl⟩|⟨c,rfl⟩|rfl
    .obtain⟨n,_,e,_⟩:=r;exact⟨n,e⟩
    .obtain⟨n,_,e,_⟩:=r;exact⟨n,e⟩
    .obtain⟨n,e,_⟩:=r;exact⟨n,e⟩
    .exact⟨q,r⟩
   .exact⟨n,e1⟩
  cases b with
  |non =>
   rw[wb.non]
   cases a with
   |non=>cases e;rw[wa.non];exact w_
   |bl c=>cases e;rw[wa.bl];exact w_
   |int c=>cases e;rw[wa.int];exact w_
   |str c=>cases e;rw[wa.str];exact w_
   |tup c=>cases e;obtain⟨xs,rfl,_⟩:=wa.tup;exact w_
   |lst c=>cases e;obtain⟨n,rfl⟩:=loc wa (.inl ⟨_,rfl⟩);exact w_
   |dic a b c=>cases e;obtain⟨n,rfl⟩:=loc wa (.inr (.inl ⟨_,_,_,rfl⟩));exact w_
   |exc c=>cases e;obtain⟨n,rfl⟩:=loc wa (.inr (.inr (.inl ⟨_,rfl⟩)));exact w_
   |pen=>cases e;obtain⟨n,rfl⟩:=loc wa (.inr (.inr (.inr rfl)));exact w_
  |bl b =>
   rw[wb.bl]
   cases a with
   |non=>cases e;rw[wa.non];exact w_
   |bl c=>cases e;rw[wa.bl];exact w_
   |int c=>cases e;rw[wa.int];exact w_
   |str c=>cases e;rw[wa.str];exact w_
   |tup c=>cases e;obtain⟨xs,rfl,_⟩:=wa.tup;exact w_
   |_=>cases e
  |_=>cases e
mutual
def py:D->Option PyData
 |.non=>J .none
 |.bl b=>J (.bool b)
 |.int i=>J (.int i)
 |.str x=>J (.str x)
 |.tup a=>(Be a).map .tuple
 |.lst a=>(Be a).map .list
 |_=>Y
def Be:SW->Option (List PyData)
 |[]=>J []
 |d::a=>match py d,Be a with
  |some x,J xs=>J (x::xs)
  |_,_=>Y
end
mutual
def vv:D->Nat
 |.tup a=>1+s_ a
 |.lst a=>1+s_ a
 |_=>0
def s_:SW->Nat
 |[]=>0
 |d::a=>max (vv d) (s_ a)
end
def vd(d:D):(∀(v:PV)(e:PyData)(n:Nat),Rp q h O d v->py d=J e->vv d<=n->rd n h v=J e):=by
 refine D.rec (motive_1:=λd=>∀(v:PV)(e:PyData)(n:Nat),Rp q h O d v->py d=J e->vv d<=n->rd n h v=J e)
  (motive_2:=λf=>∀(j:SM)(i:List PyData)(n:Nat),Rps q h O f j->Be f=J i->s_ f<=n->bV (rd n h) j=J i)
  (λv _ n r e _=>?_) (λb v _ n r e _=>?_) (λb v _ n r e _=>?_) (λb v _ n r e _=>?_) (λf u v e n r l hd=>?_) (λf u v e n r l hd=>?_) (λ_ _ _ _ _ _ _ _ e _=>?_) (λ_ _ _ _ _ e _=>?_) (λ_ _ _ _ e _=>?_)
  (λj i n r e _=>?_) (λd f z E j i n r e hd=>?_) d
 .rw[show v=PV.non from r];cases e;cases n<;>rfl
 .rw[show v=PV.bl b from r];cases e;cases n<;>rfl
 .rw[show v=PV.int b from r];cases e;cases n<;>rfl
 .rw[show v=PV.str b from r];cases e;cases n<;>rfl
 .obtain⟨xs,ex,r⟩:=r;subst ex;rw[py,vz]at l;obtain⟨i,e1,rfl⟩:=l;rw[vv]at hd
  cases n with
  |zero=>lia
  |succ n=>simp only[rd];rw[u _ _ n r e1 ⋯];rfl
 .obtain⟨m,xs,ex,_,g,r⟩:=r;subst ex;rw[py,vz]at l;obtain⟨i,e1,rfl⟩:=l;rw[vv]at hd
  cases n with
  |zero=>lia
  |succ n=>simp only[rd,g];rw[u _ _ n r e1 ⋯];rfl
 .simp[py]at e
 .simp[py]at e
 .simp[py]at e
 .rw[show j=[]from r];rw[Be]at e;cases e;rfl
 .obtain⟨x,t,ex,a,b⟩:=r;subst ex;rw[s_]at hd;rw[Be]at e
  cases e1:py d with
  |none=>rw[e1]at e;cases e
  |some y =>
   cases e2:Be f with
   |none=>rw[e1,e2]at e;cases e
   |some ys =>
    rw[e1,e2]at e;cases e;have C:=z _ _ n a e1 ⋯;have B:=E _ _ n b e2 ⋯;simp only[bV,C,B]
def K4(r:Rp q h O d v)(a:py d=J e)(hd:vv d<=n):rd n h v=J e:=vd d v e n r a hd
def yt(r:Rps q h O ds vs)(a:Be ds=J es)(hd:s_ ds<=n):bV (rd n h) vs=J es:=by
 have:=vd (.tup ds) (.tup vs) (.tuple es) (n+1) (show Rp q h O (.tup ds) (.tup vs) from⟨vs,rfl,r⟩) (by rw[py,a];rfl) (by rw[vv];lia)
 simp only[rd]at this
 cases z:bV (rd n h) vs with
 |none=>rw[z]at this;cases this
 |some y=>rw[z]at this;cases this;rfl
def nB(w:Vw q h L O d v)(a:py d=J e)(hd:vv d<=60):rd 60 h v=J e:=by
 rcases w with r|⟨n,i,xs,l,rfl,rfl,_,_,g,r⟩
 .exact K4 r a hd
 .cases i with
  |some _=>simp[dl,py]at a
  |none =>
   replace g:h[n]?=J (.lst xs):=g;unfold dl at a hd;rw[py,vz]at a;obtain⟨j,e1,rfl⟩:=a;rw[vv]at hd;have f:=yt (n:=59) r e1 ⋯;show(match h[n]? with|some (.lst xs)=>(bV (rd 59 h) xs).map PyData.list|_=>Y)=_;rw[g];dsimp only;rw[f];rfl
def AV(neg:Bool)(a b:D):Sj:=match py a,py b with
 |some x,J y=>if(vv a<=60/\vv b<=60)/\SeqAt.shaped x=I/\SeqAt.shaped y=I then J (.bl (if neg then !PyData.eqv x y else PyData.eqv x y))else Y
 |_,_=>Y
def uw(e:AV neg a b=J d):∃x y,py a=J x/\py b=J y/\(vv a<=60/\vv b<=60)/\(SeqAt.shaped x=I/\SeqAt.shaped y=I)/\d=.bl (if neg then !PyData.eqv x y else PyData.eqv x y):=by
 unfold AV at e
 cases e1:py a with
 |none=>rw[e1]at e;cases e
 |some x =>
  cases e2:py b with
  |none=>rw[e1,e2]at e;cases e
  |some y =>
   rw[e1,e2]at e;dsimp only at e;by_cases z:(vv a<=60/\vv b<=60)/\SeqAt.shaped x=I/\SeqAt.shaped y=I
   .rw[b_ z]at e;cases e;exact⟨x,y,rfl,rfl,z.1,z.2,rfl⟩
   .rw[f_ z]at e;cases e
def zb:vZ where
 m:=zM
 p:=AV T
 fr:=I
 ok {q h L O a x b y d} bd wa wb e:=by obtain⟨u,w,e1,e2,hd,f,rfl⟩:=uw e;unfold zM;rw[nB wa e1 hd.1,nB wb e2 hd.2];dsimp only;rw[b_ f];exact w_
def zI:vZ where
 m:=Ay
 p:=AV I
 fr:=I
 ok {q h L O a x b y d} bd wa wb e:=by obtain⟨u,w,e1,e2,hd,f,rfl⟩:=uw e;unfold Ay;rw[nB wa e1 hd.1,nB wb e2 hd.2];dsimp only;rw[b_ f];exact w_
def Vw.seqOf(w:Vw q h L O d v)(e:d.items=J ds):∃xs,MM.bW h v=J xs/\Rps q h O ds xs:=by
 cases d with
 |lst a=>cases e;obtain⟨n,xs,rfl,g,r⟩:=w.lst;exact⟨xs,by simp[MM.bW,g],r⟩
 |tup a=>cases e;obtain⟨xs,rfl,r⟩:=w.tup;exact⟨xs,rfl,r⟩
 |_=>cases e
def EZ(neg:Bool)(a b:D):Sj:=match b.items with
 |some f=>(match py a,Be f with
  |some x,J ys=>if(vv a<=60/\s_ f<=60)/\x.canLay0=I/\PyData.canLayAll0 ys=I then J (.bl (if neg then !ys.any (λe=>PyData.eqv e x)else ys.any (λe=>PyData.eqv e x)))else Y
  |_,_=>Y)
 |none=>Y
def A3(neg:Bool):vZ where
 m:=CY neg
 p:=EZ neg
 fr:=I
 ok {q h L O a x b y d} bd wa wb e:=by
  unfold EZ at e
  cases e0:b.items with
  |none=>rw[e0]at e;cases e
  |some f =>
   rw[e0]at e;dsimp only at e
   cases e1:py a with
   |none=>rw[e1]at e;cases e
   |some u =>
    cases e2:Be f with
    |none=>rw[e1,e2]at e;cases e
    |some i =>
     rw[e1,e2]at e;dsimp only at e;by_cases z:(vv a<=60/\s_ f<=60)/\u.canLay0=I/\PyData.canLayAll0 i=I
     .rw[b_ z]at e;cases e;obtain⟨xs,j,r⟩:=wb.seqOf e0;unfold CY;rw[j,nB wa e1 z.1.1];dsimp only;rw[yt r e2 z.1.2];dsimp only;rw[b_ z.2];exact w_
     .rw[f_ z]at e;cases e
end
noncomputable section
def mH:Nq where
 m:=BR
 p:=λa=>match a with
  |.int i=>J (.int (-i))
  |_=>Y
 fr:=I
 ok {q h L O a x d} bd w e:=by
  cases a with
  |int i=>cases e;rw[w.int];exact Bx
  |_=>cases e
def B9:D->Option String
 |.non=>J "NoneType"
 |.bl _=>J "bool"
 |.int _=>J "int"
 |.str _=>J "str"
 |.tup _=>J "tuple"
 |.lst _=>J "list"
 |.dic _ _ _=>J "dict"
 |_=>Y
def K5(w:Vw q h L O d v)(e:B9 d=J t):CN h v=J t:=by
 cases d with
 |non=>cases e;rw[w.non];rfl
 |bl b=>cases e;rw[w.bl];rfl
 |int b=>cases e;rw[w.int];rfl
 |str b=>cases e;rw[w.str];rfl
 |tup b=>cases e;obtain⟨xs,rfl,_⟩:=w.tup;rfl
 |lst b=>cases e;obtain⟨n,xs,rfl,g,_⟩:=w.lst;simp[CN,g]
 |dic fz i j =>
  cases e;rcases w with⟨n,xs,rfl,_,g,_⟩|⟨n,a,xs,f,e,rfl,_,_,g,_⟩
  .simp[CN,g]
  .cases a with
   |none=>cases e
   |some _=>simp[CN,g,mo]
 |_=>cases e
def b8(f:List String):Nq where
 m:=lg f
 p:=λa=>(B9 a).map λt=>.bl (f.any (cA t))
 fr:=I
 ok {q h L O a x d} bd w e:=by rw[vz]at e;obtain⟨t,e1,rfl⟩:=e;unfold lg;rw[K5 w e1];exact w_
def Rx(f:SM->MH->SK)(g:Int->Int->Int)(hf:∀i j h,f [.int i,.int j] h=.ok (.int (g i j)) h):Bc where
 k:=λxs h=>(f xs h).ne
 p:=λl=>match l with
  |[.int i,.int j]=>J (.int (g i j))
  |_=>Y
 fr:=I
 ok {q h L O l xs d} bd w e:=by
  match l,e with
  |[.int i,.int j],e =>
   cases e;obtain⟨x,y,rfl,a,b⟩:=Hn w;rw[a.int,b.int,hf];exact Bx
def m4:Bc:=Rx wq (λi j=>if j<i then j else i) λ_ _ _=>rfl
def mZ:Bc:=Rx AW (λi j=>if j>i then j else i) λ_ _ _=>rfl
def pe:Bc where
 k:=λxs h=>(AC xs h).ne
 p:=λf=>match f with
  |[.int i]=>J (.int (if i<0 then -i else i))
  |_=>Y
 fr:=I
 ok {q h L O f xs d} bd w e:=by
  match f,e with
  |[.int i],e=>cases e;obtain⟨x,rfl,a⟩:=eQ w;rw[a.int];exact Bx
def mY:Bc where
 k:=λxs h=>(BS xs h).ne
 p:=λf=>match f with
  |[.int i]=>J (.int i)
  |[.bl b]=>J (.int (if b then 1 else 0))
  |_=>Y
 fr:=I
 ok {q h L O f xs d} bd w e:=by
  match f,e with
  |[.int i],e=>cases e;obtain⟨x,rfl,a⟩:=eQ w;rw[a.int];exact Bx
  |[.bl i],e=>cases e;obtain⟨x,rfl,a⟩:=eQ w;rw[a.bl];exact Bx
def hW:Bc where
 k:=λxs h=>(qo xs h).ne
 p:=λi=>match i with
  |[.lst f]=>J (.int f.length)
  |[.tup f]=>J (.int f.length)
  |[.str x]=>if x.length<=sizeLine then J (.int x.length)else Y
  |_=>Y
 fr:=I
 ok {q h L O i xs d} bd w e:=by
  match i,e with
  |[.lst f],e =>
   cases e;obtain⟨x,rfl,a⟩:=eQ w;obtain⟨n,ys,rfl,g,r⟩:=a.lst;simp only[qo,g];rw[r.length];exact Bx
  |[.tup f],e =>
   cases e;obtain⟨x,rfl,a⟩:=eQ w;obtain⟨ys,rfl,r⟩:=a.tup;simp only[qo];rw[r.length];exact Bx
  |[.str x],e =>
   dsimp only at e;by_cases z:x.length<=sizeLine
   .rw[b_ z]at e;cases e;obtain⟨x,rfl,a⟩:=eQ w;rw[a.str];simp only[qo];rw[b_ z];exact Bx
   .rw[f_ z]at e;cases e
def vC:Bc where
 k:=λxs h=>(u_ xs h).ne
 p:=λi=>match i with
  |[d]=>d.items.bind λf=>if f.length<=100000 then J (.lst f)else Y
  |_=>Y
 fr:=I
 ok {q h L O i xs d} bd w e:=by
  match i,e with
  |[a],e =>
   obtain⟨x,rfl,wx⟩:=eQ w;rw[Jp]at e;obtain⟨f,e1,e2⟩:=e;obtain⟨xs,e3,r⟩:=wx.seqOf e1;by_cases z:f.length<=100000
   .rw[b_ z]at e2;cases e2;obtain⟨v,g,e4,l,j⟩:=lF bd r z;exact⟨v,g,by simp only[u_,e3];rw[e4];rfl,l,j⟩
   .rw[f_ z]at e2;cases e2
def cE:Bc where
 k:=λxs h=>(AI xs h).ne
 p:=λf=>match f with
  |[d]=>d.items.map .tup
  |_=>Y
 fr:=I
 ok {q h L O f xs d} bd w e:=by
  match f,e with
  |[a],e =>
   obtain⟨x,rfl,wx⟩:=eQ w;rw[vz]at e;obtain⟨i,e1,rfl⟩:=e;obtain⟨xs,e3,r⟩:=wx.seqOf e1;simp only[AI,e3];exact EY ⟨xs,rfl,r⟩ λ_ k _ e=>by cases k<;>cases e
def iL:SW->Option (List Bool)
 |[]=>J []
 |.bl b::r=>(iL r).map (b::·)
 |_=>Y
def yI:∀{f:SW}{xs:SM}{bs:List Bool},Rps q h O f xs->iL f=J bs->jJ xs=J bs
 |[],_,_,r,e=>by rw[show _=[]from r];cases e;rfl
 |d::f,_,bs,⟨x,t,ex,a,b⟩,e=>by
  subst ex
  cases d with
  |bl c =>
   rw[show x=PV.bl c from a];rw[iL,vz]at e;obtain⟨i,e1,rfl⟩:=e;rw[jJ,yI b e1];rfl
  |_=>cases e
def oN:Bc where
 k:=λxs h=>(Bb xs h).ne
 p:=λf=>match f with
  |[d]=>(d.items.bind iL).map λbs=>.bl (bs.all id)
  |_=>Y
 fr:=I
 ok {q h L O f xs d} bd w e:=by
  match f,e with
  |[a],e =>
   obtain⟨x,rfl,wx⟩:=eQ w;rw[vz]at e;obtain⟨bs,e1,rfl⟩:=e;rw[Jp]at e1;obtain⟨i,e1,e2⟩:=e1;obtain⟨xs,e3,r⟩:=wx.seqOf e1;simp only[Bb,e3,JA,yI r e2];exact w_
def eL:SW->Option (SS)
 |[]=>J []
 |.int b::r=>(eL r).map (b::·)
 |_=>Y
def mU:∀{f:SW}{xs:SM}{bs:SS},Rps q h O f xs->eL f=J bs->xs=bs.map .int
 |[],_,_,r,e=>by rw[show _=[]from r];cases e;rfl
 |d::f,_,bs,⟨x,t,ex,a,b⟩,e=>by
  subst ex
  cases d with
  |int c =>
   rw[show x=PV.int c from a];rw[eL,vz]at e;obtain⟨i,e1,rfl⟩:=e;rw[mU b e1];rfl
  |_=>cases e
def pR:∀(bs:SS),iB (bs.map .int)=J bs
 |[]=>rfl
 |b::bs=>by rw[n8,iB,pR bs];rfl
def pP:∀(bs:SS),jS (bs.map .int)=J bs
 |[]=>rfl
 |b::bs=>by rw[n8,jS,pP bs];rfl
def kD(k:SS):D:=.tup (k.map .int)
def Dr:D->Option (SS)
 |.tup a=>eL a
 |_=>Y
def iz:SW->Option (SU)
 |[]=>J []
 |d::f=>match Dr d,iz f with
  |some k,J a=>J (k::a)
  |_,_=>Y
def Hr(r:Rp q h O d v)(e:Dr d=J k):v=kP k:=by
 cases d with
 |tup a=>obtain⟨xs,rfl,r⟩:=r;rw[mU r e];rfl
 |_=>cases e
def q0:∀{f:SW}{xs:SM}{i:SU},Rps q h O f xs->iz f=J i->xs=i.map kP
 |[],_,_,r,e=>by rw[show _=[]from r];cases e;rfl
 |d::f,_,i,⟨x,t,ex,a,b⟩,e=>by
  subst ex;rw[iz]at e
  cases e1:Dr d with
  |none=>rw[e1]at e;cases e
  |some k =>
   cases e2:iz f with
   |none=>rw[e1,e2]at e;cases e
   |some j =>
    rw[e1,e2]at e;cases e;rw[Hr a e1,q0 b e2];rfl
def Hs(k:SS):Np (kP k)=J k:=pR k
def qm:∀(a:SU),kB (a.map kP)=J a
 |[]=>rfl
 |k::a=>by rw[n8,kB,Hs,qm a]
def j4:∀(bs:SS),Rps q h O (bs.map .int) (bs.map .int)
 |[]=>rfl
 |b::bs=>⟨_,_,rfl,rfl,j4 bs⟩
def tH:∀(a:SU),Rps q h O (a.map kD) (a.map kP)
 |[]=>rfl
 |b::bs=>⟨_,_,rfl,⟨_,rfl,j4 b⟩,tH bs⟩
def Vw.lstOf(w:Vw q h L O (.lst ds) v):∃xs,MM.iG h v=J xs/\Rps q h O ds xs:=by obtain⟨n,xs,rfl,g,r⟩:=w.lst;exact⟨xs,by simp[MM.iG,g],r⟩
def Pj(bd:Bd h O)(r:∀h O,Rps q h O ds xs):Gv q h O I (.ok (.loc h.length) (h++[.lst xs])) (.lst ds):=by
 have g:(h++[MO.lst xs])[h.length]?=J (.lst xs):=by simp
 exact⟨_,_,rfl,⟨_,_,rfl,λz=>by have:=bd _ z;ext,g,r _ _⟩,λ_ k a e=>by obtain⟨rfl,rfl⟩:=hV e;exact⟨_,_,rfl,jj _,g,r _ _⟩⟩
def lu(f:SW):Option (SW):=match eL f with
 |some ns=>if ns.length<64 then J ((fu ns).map .int)else Y
 |none=>(match iz f with
  |some a=>if(∀k∈a,k≠[])/\a.length<=66 then J ((ij a).map kD)else Y
  |none=>Y)
def cQ:Bc where
 k:=λxs h=>(pj xs h).ne
 p:=λi=>match i with
  |[.lst f]=>(lu f).map .lst
  |_=>Y
 fr:=I
 ok {q h L O i xs d} bd w e:=by
  match i,e with
  |[.lst f],e =>
   obtain⟨x,rfl,wx⟩:=eQ w;obtain⟨ys,e0,r⟩:=wx.lstOf;rw[vz]at e;obtain⟨u,e1,rfl⟩:=e;unfold lu at e1
   cases e2:eL f with
   |some ns =>
    rw[e2]at e1;dsimp only at e1;by_cases z:ns.length<64
    .rw[b_ z]at e1;cases e1
     have:pj [x] h=.ok (.loc h.length) (h++[.lst ((fu ns).map .int)]):=by simp only[pj,e0,mU r e2,pP];rw[b_ z]
     show Gv q h O I (pj [x] h).ne _;rw[this];exact Pj bd λ_ _=>j4 _
    .rw[f_ z]at e1;cases e1
   |none =>
    rw[e2]at e1;dsimp only at e1
    cases e3:iz f with
    |none=>rw[e3]at e1;cases e1
    |some a =>
     rw[e3]at e1;dsimp only at e1;by_cases z:(∀k∈a,k≠[])/\a.length<=66
     .rw[b_ z]at e1;cases e1;have j:=q0 r e3
      cases a with
      |nil =>
       have:f=[]:=by have:=r.length;rw[j]at this;simpa using this.symm
       subst this;cases e2
      |cons k a =>
       have:pj [x] h=.ok (.loc h.length) (h++[.lst ((ij (k::a)).map kP)]):=by have l:jS ((k::a).map kP)=Y:=rfl;simp only[pj,e0,j,l,qm];rw[b_ z]
       show Gv q h O I (pj [x] h).ne _;rw[this];exact Pj bd λ_ _=>tH _
     .rw[f_ z]at e1;cases e1
def gT(lo:Int)(n:Nat):SW:=(List.range n).map λ(i:Nat)=>D.int (lo+(i:Int))
def uZ:Rps q h O (gT lo n) (bo lo n):=by
 have:=j4 (q:=q) (h:=h) (O:=O) ((List.range n).map λ(i:Nat)=>lo+(i:Int))
 rw[vM,vM]at this;exact this
def Nt:Bc where
 k:=λi f=>match i with
  |[.int j]=>if -(2^62)<=j/\j<2^62/\j.toNat<=sizeLine then .ok (.loc f.length) (f++[.lst (bo 0 j.toNat)])else .bad
  |_=>.bad
 p:=λa=>match a with
  |[.int j]=>if -100000<=j/\j<=100000 then J (.lst (gT 0 j.toNat))else Y
  |_=>Y
 fr:=I
 ok {q h L O a xs d} bd w e:=by
  match a,e with
  |[.int j],e =>
   obtain⟨x,rfl,wx⟩:=eQ w;rw[wx.int];dsimp only at e;by_cases z:-100000<=j/\j<=100000
   .rw[b_ z]at e;cases e;dsimp only
    have:=dg
    rw[b_ ⟨by ext,by ext,by ext⟩];exact Pj bd λ_ _=>uZ
   .rw[f_ z]at e;cases e
def Pk:KY where
 k:=λl i=>match l with
  |[.int j]=>if -(2^62)<=j/\j<2^62 then .ok ⟨bo 0 j.toNat,[]⟩ i else .bad
  |_=>.bad
 p:=λf=>match f with
  |[.int j]=>if -100000<=j/\j<=100000 then J (gT 0 j.toNat)else Y
  |_=>Y
 ok {q h L O f xs d} hq hO bd w e:=by
  match f,e with
  |[.int j],e =>
   obtain⟨x,rfl,wx⟩:=eQ w;rw[wx.int];dsimp only at e;by_cases z:-100000<=j/\j<=100000
   .rw[b_ z]at e;cases e;dsimp only;rw[b_ ⟨by ext,by ext⟩];exact⟨_,rfl,uZ,(λ_ a=>nomatch a),λ_ _ a=>nomatch a⟩
   .rw[f_ z]at e;cases e
def Vw.sqAny(j:q<L)(u:q∈O)(w:Vw q h L O d v)(e:d.items=J ds):∃t xs gd,MM.bK v h=J (t,xs,gd)/\Rps q h O ds xs/\(∀g∈gd,h[g.1]?=J (.lst g.2)/\g.1≠q)/\(Rp q h O d v->∀g∈gd,g.1∉O):=by
 obtain⟨xs,gd,e1,r,i,f⟩:=w.seq j u e
 cases d with
 |lst l =>
  cases e;obtain⟨n,ys,rfl,g,a⟩:=w.lst;simp only[qr,g]at e1;cases e1;exact⟨T,xs,[(n,xs)],by simp[MM.bK,g],a,i,f⟩
 |tup l =>
  cases e;obtain⟨ys,rfl,a⟩:=w.tup;simp only[qr]at e1;cases e1;exact⟨I,_,[],rfl,a,i,f⟩
 |_=>cases e
def aT(a:SW):SW:=a.zipIdx.map λp=>.tup [.int (p.2:Int),p.1]
def gR(xs ys:SW):SW:=(xs.zip ys).map λp=>.tup [p.1,p.2]
def rc:∀{f:SW}{xs:SM}(n:Nat),Rps q h O f xs->Rps q h O ((f.zipIdx n).map λp=>.tup [.int (p.2:Int),p.1]) ((xs.zipIdx n).map λp=>.tup [.int (p.2:Int),p.1])
 |[],_,_,r=>by rw[show _=[]from r];rfl
 |d::f,_,n,⟨x,t,e,a,b⟩=>by
  subst e;exact⟨_,_,rfl,⟨_,rfl,⟨_,_,rfl,rfl,⟨_,_,rfl,a,rfl⟩⟩⟩,rc (n+1) b⟩
def uf:∀{i j:SW}{xs ys:SM},Rps q h O i xs->Rps q h O j ys->Rps q h O (gR i j) (gM xs ys)
 |[],_,_,_,r,_=>by rw[show _=[]from r];simp[gR,gM];rfl
 |_::_,[],_,_,r,y=>by rw[show _=[]from y];simp[gR,gM];rfl
 |d::i,e::j,_,_,⟨x,t,e1,a,b⟩,⟨z,B,f,l,u⟩=>by
  subst e1 f;exact⟨_,_,rfl,⟨_,rfl,⟨_,_,rfl,a,⟨_,_,rfl,l,rfl⟩⟩⟩,uf b u⟩
def iE:KY where
 k:=λu i=>match u with
  |[x]=>(match bK x i with
   |some (_,xs,gd)=>.ok ⟨cV xs,gd⟩ i
   |none=>.bad)
  |_=>.bad
 p:=λf=>match f with
  |[d]=>d.items.map aT
  |_=>Y
 ok {q h L O f xs d} hq hO bd w e:=by
  match f,e with
  |[a],e =>
   obtain⟨x,rfl,wx⟩:=eQ w;rw[vz]at e;obtain⟨C,e1,rfl⟩:=e;obtain⟨t,ys,gd,e2,r,l,j⟩:=wx.sqAny hq hO e1;refine⟨⟨cV ys,gd⟩,by simp only[e2],rc 0 r,l,λz=>j ?_⟩;obtain⟨B,y,e3,a,_⟩:=z;cases e3;exact a
def iZ:KY where
 k:=λP l=>match P with
  |[x,y]=>(match bK x l,bK y l with
   |some (_,xs,u),J (_,ys,j)=>.ok ⟨gM xs ys,u++j⟩ l
   |_,_=>.bad)
  |_=>.bad
 p:=λF=>match F with
  |[d,e]=>d.items.bind λxs=>e.items.map λys=>gR xs ys
  |_=>Y
 ok {q h L O F xs d} hq hO bd w e:=by
  match F,e with
  |[a,b],e =>
   obtain⟨x,y,rfl,wx,S⟩:=Hn w;rw[Jp]at e;obtain⟨ds,e1,e⟩:=e;rw[vz]at e;obtain⟨U,e2,rfl⟩:=e;obtain⟨t,ys,gd,R,r,u,j⟩:=wx.sqAny hq hO e1;obtain⟨t',f,E,C,H,i,G⟩:=S.sqAny hq hO e2;refine⟨⟨gM ys f,gd++E⟩,by simp only[R,C],uf r H,λg B=>?_,λz g B=>?_⟩
   .rcases tr.mp B with z|z
    .exact u g z
    .exact i g z
   .obtain⟨Z,H,e3,M,X,W,e4,Q,_⟩:=z;cases e3;cases e4;rcases tr.mp B with z|z
    .exact j M g z
    .exact G Q g z
def eK(xs:SW)(lo a:SG):SW:=(xs.drop (HT.li xs.length 0 lo)).take (HT.li xs.length xs.length a-HT.li xs.length 0 lo)
def ud(lo a:SG)(r:Rps q h O ds xs):Rps q h O (eK ds lo a) (eX xs lo a):=by unfold eK eX;rw[r.length];exact(r.drop _).take _
structure Xo(ws:SV) where
 m:Mx (SG)
 p:am->c_->PR (SG)
 ok:∀{q h L B O Z env s},Cx q h L B O ws Z env s->Ok q h (m Z h) (p env s) (λ_ a b=>a=b)
section
variable{ws:SV}
def Bk:Xo ws where
 m:=Q9
 p:=λ_ s=>.ok Y s
 ok {q h L B O Z env s} c:=⟨Y,h,rfl,KB.refl _ _,c.pen,rfl⟩
def Bl(e:Xe ws):Xo ws where
 m:=Q_ e.m
 p:=λenv s=>(e.p env s).bind λd s=>match d with
  |.int i=>.ok (J i) s
  |_=>.bad
 ok {q h L B O Z env s} c:=by
  refine(e.ok c).bind λx v a j l f ⟨w,_,_⟩=>?_
  cases x with
  |int i=>rw[w.int];exact⟨J i,a,rfl,KB.refl _ _,f,rfl⟩
  |_=>trivial
def Jh(d:D)(lo f:SG):Sj:=match d with
 |.lst a=>J (.lst (eK a lo f))
 |.tup a=>if HT.li a.length 0 lo=0/\HT.li a.length a.length f=a.length then Y else J (.tup (eK a lo f))
 |_=>Y
def K6(bd:Bd h O)(w:Vw q h L O a x)(e:Jh a lo hi=J d):Gv q h O I (GF x lo hi h) d:=by
 cases a with
 |lst f =>
  cases e;obtain⟨n,xs,rfl,g,r⟩:=w.lst;simp only[GF,g];have r:=ud lo hi r;have m:Mv O h O (h++[MO.lst (eX xs lo hi)]):=⟨λn j _=>p_ j,λo i=>.inl i⟩
  have l:Mv O h (h.length::O) (h++[MO.lst (eX xs lo hi)]):=⟨λn j _=>p_ j,λo i=>by
   rcases pu.mp i with z|z
   .exact .inr (by ext)
   .exact .inl z⟩
  have g:(h++[MO.lst (eX xs lo hi)])[h.length]?=J (.lst (eX xs lo hi)):=by simp
  exact⟨_,_,rfl,⟨_,_,rfl,λz=>by have:=bd _ z;ext,g,r.mv m⟩,λ_ k u e=>by obtain⟨rfl,rfl⟩:=hV e;exact⟨_,_,rfl,jj _,g,r.mv l⟩⟩
 |tup f =>
  unfold Jh at e;dsimp only at e;by_cases z:HT.li f.length 0 lo=0/\HT.li f.length f.length hi=f.length
  .rw[b_ z]at e;cases e
  .rw[f_ z]at e;cases e;obtain⟨xs,rfl,r⟩:=w.tup;simp only[GF];rw[r.length,f_ z];exact EY ⟨_,rfl,ud lo hi r⟩ λ_ k _ e=>by cases k<;>cases e
 |_=>cases e
def Bm(a:Xe ws)(lo f:Xo ws):Xe ws where
 m:=Ra a.m lo.m f.m
 p:=λenv s=>(a.p env s).bind λx s=>(lo.p env s).bind λl s=>(f.p env s).bind λu s=>.of (Jh x l u) s
 fz:=I
 fr:=I
 ok {q h L B O Z env s} c:=by
  refine(a.ok c).bind λx v R W E G ⟨w,_,_⟩=>?_;have C:=c.kb E G;refine(lo.ok C).bind λl S X Q j M e=>?_;subst e;have F:=C.kb j M;refine(f.ok F).bind λu u' h3 U i z e=>?_;subst e;have H:=F.kb i z
  cases e:Jh x l u with
  |none=>trivial
  |some d =>
   obtain⟨y,g,e1,r,P⟩:=K6 H.bd ((w.kb j c.pO c.pL).kb i c.pO c.pL) e;exact Bu (ql (ql E.len j.len) i.len) z ⟨y,g,by rw[e1];rfl,r,P⟩
end
def r_:Dn where
 m:=du
 p:=λf i=>match i with
  |[a]=>if f.length<100000 then J (.non,f++[a])else Y
  |_=>Y
 ok {q h O n xs f i vs d ds'} g r ra e:=by
  match i,e with
  |[a],e =>
   obtain⟨x,t,rfl,a,b⟩:=ra
   have:t=[]:=b
   subst this;dsimp only at e;by_cases z:f.length<100000
   .rw[b_ z]at e;cases e;refine⟨.non,xs++[x],?_,r.app ⟨x,[],rfl,a,rfl⟩,rfl⟩;simp only[du,g];rw[b_ (by have:=dg;rw[r.length];ext)]
   .rw[f_ z]at e;cases e
def xg:Dn where
 m:=i5
 p:=λj u=>match u with
  |[a]=>a.items.bind λi=>if j.length+i.length<=100000 then J (.non,j++i)else Y
  |_=>Y
 ok {q h O n xs j u vs d ds'} g r ra e:=by
  match u,e with
  |[a],e =>
   obtain⟨x,t,rfl,w,b⟩:=ra
   have:t=[]:=b
   subst this;rw[Jp]at e;obtain⟨i,e1,e2⟩:=e;by_cases z:j.length+i.length<=100000
   .rw[b_ z]at e2;cases e2;have B:=dg
    cases a with
    |lst l =>
     cases e1;obtain⟨m,ys,rfl,_,y,f⟩:=w;refine⟨.non,xs++ys,?_,r.app f,rfl⟩;simp only[i5,g,y];rw[b_ (by rw[r.length,f.length];ext)]
    |tup l =>
     cases e1;obtain⟨ys,rfl,f⟩:=w;refine⟨.non,xs++ys,?_,r.app f,rfl⟩;simp only[i5,g];rw[b_ (by rw[r.length,f.length];ext)]
    |_=>cases e1
   .rw[f_ z]at e2;cases e2
def x3:Dn where
 m:=lR
 p:=λf j=>match j with
  |[.int i,a]=>if(0<=i/\i<=100000)/\f.length<100000 then J (.non,f.take (min i.toNat f.length)++a::f.drop (min i.toNat f.length))else Y
  |_=>Y
 ok {q h O n xs f j vs d ds'} g r ra e:=by
  match j,e with
  |[.int i,a],e =>
   obtain⟨x,t,rfl,l,y,u,rfl,w,b⟩:=ra
   have:u=[]:=b
   subst this;rw[show x=PV.int i from l];dsimp only at e;by_cases z:(0<=i/\i<=100000)/\f.length<100000
   .rw[b_ z]at e;cases e;refine⟨.non,j9 xs i y,?_,?_,rfl⟩
    .simp only[lR,g];rw[b_ ⟨by ext,by have:=dg;rw[r.length];ext⟩]
    .unfold j9;rw[f_ (by ext),r.length];exact(r.take _).app ⟨y,_,rfl,w,r.drop _⟩
   .rw[f_ z]at e;cases e
end
section
variable{ws:SV}{env:am}{s:c_}
@[simp]theorem aq{d:D}{r:am}:(aa 0:Xe ws).p (J d::r) s=.ok d s:=rfl
@[simp]theorem aD{i:Nat}{o:Sj}{r:am}:(aa (i+1):Xe ws).p (o::r) s=(aa i:Xe ws).p r s:=by simp[aa]
theorem Ds(e:env[i]?=J (J d)):(aa i:Xe ws).p env s=.ok d s:=by show(match env[i]? with|some (J d)=>PR.ok d s|_=>.bad)=_;rw[e]
@[simp]theorem bL:(xC k:Xe ws).p env s=.ok k.d s:=rfl
@[simp]theorem Pm:Cn.non.d=.non:=rfl
@[simp]theorem Ry:(Cn.bl b).d=.bl b:=rfl
@[simp]theorem aY:(Cn.int b).d=.int b:=rfl
@[simp]theorem Po:(Cn.str b).d=.str b:=rfl
@[simp]theorem aJ:(ae o a b).p env s=(a.p env s).bind λx s1=>(b.p env s1).bind λy s2=>.of (o.p x y) s2:=rfl
@[simp]theorem vW:(v4 o a).p env s=(a.p env s).bind λx s1=>.of (o.p x) s1:=rfl
@[simp]theorem aA:(a_:Xs ws).p env s=.ok [] s:=rfl
@[simp]theorem aj:(ac a r).p env s=(a.p env s).bind λx s1=>(r.p env s1).bind λy s2=>.ok (x::y) s2:=rfl
@[simp]theorem cx:(o_ o a).p env s=(a.p env s).bind λx s1=>.of (o.p x) s1:=rfl
@[simp]theorem aG:(av f a h).p env s=(a.p env s).bind f.p:=rfl
@[simp]theorem lb:(fb a h).p env s=(a.p env s).bind λx s1=>if x.length<=100000 then .ok (.lst x) s1 else .bad:=rfl
@[simp]theorem c9:(bn a h).p env s=(a.p env s).bind λx s1=>if x.length<=100000 then .ok (.tup x) s1 else .bad:=rfl
@[simp]theorem Ht:(Dm:Xe ws).p env s=.ok (.dic T [] []) s:=rfl
@[simp]theorem dD:(xB a).p env s=(a.p env s).bl:=rfl
@[simp]theorem jf:(eY a).p env s=(a.p env s).bind λb s=>.ok (!b) s:=rfl
@[simp]theorem Pp:(oD a b).p env s=(a.p env s).bind λx s=>if x=I then b.p env s else .ok T s:=rfl
@[simp]theorem qQ:(BX a b).p env s=(a.p env s).bind λx s=>if x=I then .ok I s else b.p env s:=rfl
@[simp]theorem Nu:(ti:Xt ws).p env s=.ok I s:=rfl
@[simp]theorem oO:(iC a b).p env s=(a.p env s).bl.bind λx s=>if x=I then(b.p env s).bl.bind λy s=>.ok (.bl y) s else .ok (.bl T) s:=rfl
@[simp]theorem Dt:(nM a).p env s=(a.p env s).bl.bind λx s=>.ok (.bl (!x)) s:=rfl
@[simp]theorem Hu:(Hj t a b z h).p env s=(t.p env s).bind λx s=>if x=I then a.p env s else b.p env s:=rfl
@[simp]theorem K7:(nI f g a b e).p env s=(a.p env s).bind λx s1=>(b.p env s1).bind λy s2=>match f.p x y with
  |some (.bl t)=>if t=I then(e.p env s2).bind λz s3=>.of (g.p y z) s3 else .ok (.bl T) s2
  |_=>.bad:=rfl
@[simp]theorem kG:(cH o a).p env s=(a.p env s).bind λx s1=>.of (o.p x) s1:=rfl
@[simp]theorem fO:(bx a).p env s=(a.p env s).bind λx s1=>.of x.items s1:=rfl
@[simp]theorem Rz{i:Nat}{h:ws.contains i=T}{d:D}:(j_ i h).p d env=J (env.set i (J d)):=rfl
@[simp]theorem RB:(va:EW ws).p [] env=J env:=rfl
@[simp]theorem RC:(mu a t).p (d::ds) env=(a.p d env).bind λenv1=>t.p ds env1:=rfl
@[simp]theorem RD:(vg t n).p (.tup ds) env=if ds.length=n then t.p ds env else Y:=rfl
@[simp]theorem lQ{nv:Nat}{fm:SV}{i:Xi ws}{ws':SV}{g:Xg ws'}{t:Xt ws'}{e:Xe ws'}{hw:Bv nv fm ws=ws'}{hz:e.fz=I}:(aV nv fm i g t e hw hz).p env s=(i.p env s).bind λds s1=>if ds.length<=100000 then (match cU g.p t.p e.p ds (tt nv fm env) s1 with
  |.ok r s2=>.ok (.lst r) s2
  |_=>.bad)else .bad:=rfl
@[simp]theorem qL:(Bk:Xo ws).p env s=.ok Y s:=rfl
@[simp]theorem qS:(Bl e).p env s=(e.p env s).bind λd s=>match d with
  |.int i=>.ok (J i) s
  |_=>.bad:=rfl
@[simp]theorem qM:(Bm a lo hi).p env s=(a.p env s).bind λx s=>(lo.p env s).bind λl s=>(hi.p env s).bind λu s=>.of (Jh x l u) s:=rfl
@[simp]theorem aI:(aM a b).p env s=(a.p env s).then b.p:=rfl
@[simp]theorem bH:(ki:Xd ws).p env s=.nx env s:=rfl
@[simp]theorem bu:(aW e).p env s=(e.p env s).go env λd _ s=>.rt d s:=rfl
theorem u0{i:Nat}{h:ws.contains i=I}{d:D}(e:env[i]?=J (J d)):(oA i h).p env s=.rt d s:=by show(match env[i]? with|some (J d)=>PS.rt d s|_=>.bad)=_;rw[e]
@[simp]theorem Du:(qP e).p env s=(e.p env s).go env λ_=>.nx:=rfl
@[simp]theorem cj:(wL t a b).p env s=(t.p env s).go env λx env s=>if x=I then a.p env s else b.p env s:=rfl
@[simp]theorem bM:(bh i e hi hz).p env s=(e.p env s).go env λd env s=>.nx (env.set i (J d)) s:=rfl
@[simp]theorem oj:(D.lst ds).mine=I:=rfl
@[simp]theorem Pq:(D.dic T ks ds).mine=I:=rfl
@[simp]theorem vf{hi hz}:(f9 i e hi hz:Xd ws).p env s=(e.p env s).go env λd env s=>if d.mine=I then .nx (env.set i (J d)) s else .bad:=rfl
@[simp]theorem iU:(iI i g b hz).p env s=(i.p env s).go env λds env s=>Bw g.p b.p ds env s:=rfl
@[simp]theorem K8:(BI o i a hi hz).p env s=BH o i a.p env s λ_=>.nx:=rfl
theorem aU{hw}(hl:ds.length=np):(bC n np b hw).p ds s=(b.p (kx n ds) s).fin:=by show(if ds.length=np then _ else _)=_;rw[b_ hl]
variable{i j:Int}{b:Bool}{x y:SW}
@[simp]theorem d7:cc.p (.int i) (.int j)=J (.int (i+j)):=rfl
theorem Dv(h:x.length+y.length<=100000):cc.p (.lst x) (.lst y)=J (.lst (x++y)):=by show(if x.length+y.length<=100000 then _ else _)=_;rw[b_ h]
@[simp]theorem oK:tD.p (.int i) (.int j)=J (.int (i-j)):=rfl
@[simp]theorem Hv:Ho.p (.int i) (.int j)=J (.bl (decide (i<j))):=rfl
@[simp]theorem Pr:Pc.p (.int i) (.int j)=J (.bl (decide (i<=j))):=rfl
@[simp]theorem Hw:K3.p (.int i) (.int j)=J (.bl (decide (j<i))):=rfl
@[simp]theorem Hx:Ph.p (.int i) (.int j)=J (.bl (decide (j<=i))):=rfl
@[simp]theorem lB:l_.p (.lst x) (.int j)=n3 x j:=rfl
@[simp]theorem lU:l_.p (.tup x) (.int j)=n3 x j:=rfl
theorem Dw(h:j≠0):m6.p (.int i) (.int j)=J (.int (i.fmod j)):=by show(if j≠0 then _ else _)=_;rw[b_ h]
@[simp]theorem Ps:(b8 Ts).p d=(B9 d).map λt=>.bl (Ts.any (cA t)):=rfl
@[simp]theorem Pu:B9 .non=J "NoneType":=rfl
@[simp]theorem RE:B9 (.bl b)=J "bool":=rfl
@[simp]theorem Pw:B9 (.int i)=J "int":=rfl
@[simp]theorem Px:B9 (.str z)=J "str":=rfl
@[simp]theorem Py:B9 (.tup x)=J "tuple":=rfl
@[simp]theorem Pz:B9 (.lst x)=J "list":=rfl
@[simp]theorem PB:B9 (.dic fz ks es)=J "dict":=rfl
@[simp]theorem Dx:m4.p [.int i,.int j]=J (.int (if j<i then j else i)):=rfl
@[simp]theorem Dy:mZ.p [.int i,.int j]=J (.int (if j>i then j else i)):=rfl
@[simp]theorem yn:mY.p [.bl b]=J (.int (if b then 1 else 0)):=rfl
@[simp]theorem PC:mY.p [.int i]=J (.int i):=rfl
@[simp]theorem PD:hW.p [.lst x]=J (.int x.length):=rfl
@[simp]theorem PF:hW.p [.tup x]=J (.int x.length):=rfl
theorem Dz(h:x.length<=100000):vC.p [.lst x]=J (.lst x):=by show(if x.length<=100000 then _ else _)=_;rw[b_ h]
@[simp]theorem ig:cE.p [.lst x]=J (.tup x):=rfl
@[simp]theorem K9:cE.p [.tup x]=J (.tup x):=rfl
theorem K_(h:-100000<=i/\i<=100000):Nt.p [.int i]=J (.lst (gT 0 i.toNat)):=by show(if _ then _ else _)=_;rw[b_ h]
def La(h:-100000<=i/\i<=100000):Pk.p [.int i]=J (gT 0 i.toNat):=by show(if _ then _ else _)=_;rw[b_ h]
@[simp]theorem Lb:iE.p [.lst x]=J (aT x):=rfl
@[simp]theorem RF:iZ.p [.lst x,.lst y]=J (gR x y):=rfl
@[simp]theorem RG:iZ.p [.tup x,.tup y]=J (gR x y):=rfl
@[simp]theorem qO:Jh (.lst x) lo hi=J (.lst (eK x lo hi)):=rfl
theorem qv(h:x.length<100000):r_.p x [a]=J (.non,x++[a]):=by show(if _ then _ else _)=_;rw[b_ h]
def wV(h:x.length+y.length<=100000):xg.p x [.lst y]=J (.non,x++y):=by show(if _ then _ else _)=_;rw[b_ h]
def w8{a:D}{i:Nat}(h:i<=x.length)(hl:x.length<100000):x3.p x [.int i,a]=J (.non,x.take i++a::x.drop i):=by show(if _ then _ else _)=_;rw[b_ ⟨by ext,hl⟩,BK,MK h]
end
section
variable{i j:Int}{b c:Bool}
def pN(a:x.canLay0=I)(f:x.depth<=64):SeqAt.shaped x=I:=by simp[SeqAt.shaped,a,f]
@[simp]theorem kH:AV neg (.int i) (.int j)=J (.bl (if neg then !decide (i=j)else decide (i=j))):=by simp[AV,py,vv,SeqAt.shaped,PyData.canLay0,PyData.depth,PyData.eqv,Js]
@[simp]theorem PH:AV neg (.bl b) (.bl c)=J (.bl (if neg then !(b==c)else b==c)):=by simp[AV,py,vv,SeqAt.shaped,PyData.canLay0,PyData.depth,PyData.eqv]
@[simp]theorem jI:zb.p a d=AV T a d:=rfl
@[simp]theorem nZ:zI.p a d=AV I a d:=rfl
@[simp]theorem Lc:(A3 neg).p a d=EZ neg a d:=rfl
theorem fy:∀(k:SS),Be (k.map .int)=J (k.map .int)/\s_ (k.map .int)=0
 |[]=>⟨rfl,rfl⟩
 |i::k=>by
  obtain⟨a,b⟩:=fy k;simp[Be,py,a,s_,vv,b]
def qX:∀(f:SU),Be (f.map kD)=J (f.map λk=>.tuple (k.map .int))/\s_ (f.map kD)<=1
 |[]=>⟨rfl,by simp[s_]⟩
 |k::f=>by
  obtain⟨a,b⟩:=qX f;obtain⟨c,d⟩:=fy k;constructor
  .simp[Be,kD,py,a,c]
  .simp only[n8,s_,kD,vv,d];lia
def p7:∀(xs:SS),(xs.map PyData.int).any (λe=>PyData.eqv e (.int x))=decide (x∈xs)
 |[]=>by simp
 |y::ys=>by
  rw[n8,MP,p7 ys]
  have:PyData.eqv (.int y) (.int x)=decide (x=y):=by simp[PyData.eqv,Js,eq_comm]
  rw[this];by_cases z:x=y<;>simp[z]
def fJ:∀(k f:SS),PyData.eqvAll (k.map .int) (f.map .int)=decide (k=f)
 |[],[]=>by simp[PyData.eqvAll]
 |[],_::_=>by simp[PyData.eqvAll]
 |_::_,[]=>by simp[PyData.eqvAll]
 |a::k,b::f=>by
  simp only[n8,PyData.eqvAll,PyData.eqv,fJ k f,Js];by_cases z:a=b<;>simp[z]
def p9:∀(a:SU),(a.map λk=>PyData.tuple (k.map .int)).any (λe=>PyData.eqv e (.tuple (k.map .int)))=decide (k∈a)
 |[]=>by simp
 |y::ys=>by
  rw[n8,MP,p9 ys]
  have:PyData.eqv (.tuple (y.map .int)) (.tuple (k.map .int))=decide (y=k):=by simp only[PyData.eqv,fJ]
  rw[this];by_cases z:y=k
  .simp[z]
  .simp[z,show ¬k=y from λq=>z q.symm]
def nP{neg:Bool}{x:Int}{d:D}{xs:SS}(e:d.items=J (xs.map .int)):EZ neg (.int x) d=J (.bl (if neg then !decide (x∈xs)else decide (x∈xs))):=by obtain⟨a,b⟩:=fy xs;simp only[EZ,e,py,a];rw[b_ ⟨⟨by simp[vv],⋯⟩,rfl,(eW xs).1⟩,p7]
def DA{neg:Bool}{k:SS}{d:D}{ks:SU}(e:d.items=J (ks.map kD)):EZ neg (kD k) d=J (.bl (if neg then !decide (k∈ks)else decide (k∈ks))):=by
 obtain⟨a,b⟩:=qX ks;obtain⟨c,f⟩:=fy k;have u:py (kD k)=J (.tuple (k.map .int)):=by simp[kD,py,c]
 have l:(vv (kD k)<=60/\s_ (ks.map kD)<=60)/\(PyData.tuple (k.map .int)).canLay0=I/\PyData.canLayAll0 (ks.map λk=>.tuple (k.map .int))=I:=⟨⟨by simp[kD,vv,f],⋯⟩,by simpa [PyData.canLay0]using(eW k).1,(rC ks).1⟩;unfold EZ;rw[e];dsimp only;rw[u,a];dsimp only;rw[b_ l,p9]
def ng{neg:Bool}{xs ys:SS}:AV neg (.lst (xs.map .int)) (.lst (ys.map .int))=J (.bl (if neg then !decide (xs=ys)else decide (xs=ys))):=by obtain⟨a,b⟩:=fy xs;obtain⟨c,d⟩:=fy ys;obtain⟨l,u⟩:=eW xs;obtain⟨f,y⟩:=eW ys;simp only[AV,py,a,c,EC];rw[b_ ⟨⟨by simp[vv,b],by simp[vv,d]⟩,pN (by simpa [PyData.canLay0]using l) (by simp only[PyData.depth];lia),pN (by simpa [PyData.canLay0]using f) (by simp only[PyData.depth];lia)⟩];simp only[PyData.eqv,fJ]
end
@[simp]theorem Nv:Bw g b [] env s=.nx env s:=rfl
theorem mN(e:g d env=J env1):Bw g b (d::ds) env s=(b env1 s).turn (Bw g b ds):=by rw[Bw,e]
def iR(f:Nat->am->c_->Prop):∀(u:SW)(j:Nat)(env:am)(s:c_),f j env s ->
  (∀m env s d,f (j+m) env s->u[m]?=J d->∃i a l,g d env=J i/\b i s=.nx a l/\f (j+m+1) a l)->∃a l,Bw g b u env s=.nx a l/\f (j+u.length) a l
 |[],j,env,s,C,_=>⟨env,s,rfl,C⟩
 |d::u,j,env,s,C,st=>by
  obtain⟨i,B,E,e1,e2,H⟩:=st 0 env s d C rfl;obtain⟨y,F,e3,G⟩:=iR f u (j+1) B E H λm a l x q z=>by
   have:=st (m+1) a l x (by rw[show j+(m+1)=j+1+m by lia];exact q) (by simpa using z)
   rw[show j+(m+1)+1=j+1+m+1 by lia]at this;exact this
  refine⟨y,F,?_,by rw[A0,show j+(u.length+1)=j+1+u.length by lia];exact G⟩;rw[mN e1,e2];exact e3
def nT(p:D->Bool)(f:D->D):∀(l:SW)(j:am),j.length=nv ->
  (∀x∈l,∀j:am,j.length=nv->∃a:am,a.length=nv/\g x (j++fr)=J (a++fr)/\t (a++fr) s=.ok (p x) s/\(p x=I->e (a++fr) s=.ok (f x) s))->cU g t e l (j++fr) s=.ok ((l.filter p).map f) s
 |[],j,hv,i=>rfl
 |x::l,j,hv,i=>by
  obtain⟨a,z,e1,e2,e3⟩:=i x (by simp) j hv;have B:=nT p f l a z λy C=>i y (n_ _ C);rw[cU,e1];dsimp only;rw[e2]
  cases u:p x with
  |true=>simp only[Pb,if_true,e3 u,B,QO u,n8]
  |false=>simp only[Pb,qi,if_false,B,QP (show ¬p x=I by simp[u])]
def nN{z j:SV}{env:am}{s:c_}{y:Nat}{fm:SV}{i:Xi z}{g:Xg j}{t:Xt j}{e:Xe j}{hw:Bv y fm z=j}{C:e.fz=I}{u:SW}(p:D->Bool)(f:D->D)(E:i.p env s=.ok u s)(hl:u.length<=100000)(l:∀x∈u,∀B:am,B.length=y->∃a:am,a.length=y/\g.p x (B++fm.map λi=>(env[i]?).getD Y)=J (a++fm.map λi=>(env[i]?).getD Y)/\t.p (a++fm.map λi=>(env[i]?).getD Y) s=.ok (p x) s/\(p x=I->e.p (a++fm.map λi=>(env[i]?).getD Y) s=.ok (f x) s)):
  (aV y fm i g t e hw C).p env s=.ok (.lst ((u.filter p).map f)) s:=by
 rw[lQ,E,Pb,b_ hl];unfold tt;rw[nT p f u _ (by simp) l]
def E0{ws ws':SV}{env:am}{s:c_}{fm:SV}{i:Xi ws}{t:Xt ws'}{e:Xe ws'}{ds:SW}(p:D->Bool)(f:D->D)(y:i.p env s=.ok ds s)(hl:ds.length<=100000)(a:∀x∈ds,t.p (J x::fm.map λi=>(env[i]?).getD Y) s=.ok (p x) s/\(p x=I->e.p (J x::fm.map λi=>(env[i]?).getD Y) s=.ok (f x) s))(z:ws'.contains 0=T:=by exact ys rfl)(hw:Bv 1 fm ws=ws':=by exact ys rfl)(u:e.fz=I:=by exact ys rfl):
  (aV 1 fm i (j_ 0 z) t e hw u).p env s=.ok (.lst ((ds.filter p).map f)) s :=
 nN p f y hl λx j l hv=>match l,hv with
  |[_],_=>⟨[J x],rfl,rfl,a x j⟩
def vO{ws ws':SV}{env:am}{s:c_}{fm:SV}{i:Xi ws}{t:Xt ws'}{e:Xe ws'}{ds:SW}(p:D->Bool)(f:D->D)(B:i.p env s=.ok ds s)(hl:ds.length<=100000)(j:∀x∈ds,∃a b,x=.tup [a,b]/\t.p (J a::J b::fm.map λi=>(env[i]?).getD Y) s=.ok (p x) s/\(p x=I->e.p (J a::J b::fm.map λi=>(env[i]?).getD Y) s=.ok (f x) s))(C:ws'.contains 0=T:=by exact ys rfl)(l:ws'.contains 1=T:=by exact ys rfl)(hw:Bv 2 fm ws=ws':=by exact ys rfl)(z:e.fz=I:=by exact ys rfl):
  (aV 2 fm i (vg (mu (j_ 0 C) (mu (j_ 1 l) va)) 2) t e hw z).p env s=.ok (.lst ((ds.filter p).map f)) s :=
 nN p f B hl λx u y hv=>match y,hv with
  |[_,_],_=>let⟨a,b,e,q⟩:=j x u;⟨[J a,J b],rfl,by subst e;rfl,q⟩
def xq{α:Type}(l:List α):(l.filter λ_=>I)=l:=List.filter_eq_self.mpr (by simp)
structure zS(n:Int)(ks:SU):Prop where
 n0:0<=n
 n12:n<=12
 tie:∀k∈ks,∃a b:Int,k=[a,b]/\0<=a/\a<b/\b<n
 ris:SortT.C_ ks
 nd:ks.Nodup
def Hy:SU:=(List.range 12).flatMap λb=>(List.range b).map λ(a:Nat)=>[(a:Int),(b:Int)]
def Ao:Hy.length=66:=by decide
def Al(l:n<=12)(i:0<=a)(f:a<b)(j:b<n):[a,b]∈Hy:=by
 unfold Hy;rw[List.mem_flatMap];refine⟨b.toNat,by simp;lia,?_⟩;rw[tx];refine⟨a.toNat,by simp;lia,?_⟩;congr 1
 .lia
 .lia
def wM{n:Int}{f:SU}(j:n<=12)(y:∀k∈f,∃a b:Int,k=[a,b]/\0<=a/\a<b/\b<n)(nd:f.Nodup):f.length<=66:=by rw[<-Ao];refine List.Nodup.length_le_of_subset nd λk i=>?_;obtain⟨a,b,rfl,l,u,z⟩:=y k i;exact Al j l u z
def below(v:Int)(f:SU):SS:=f.filterMap λk=>match k with|[a,b]=>if b=v then J a else Y|_=>Y
def above(v:Int)(f:SU):SS:=f.filterMap λk=>match k with|[a,b]=>if a=v then J b else Y|_=>Y
def By(n:Nat):SS:=(List.range n).map λ(i:Nat)=>(i:Int)
def sk:i∈By n↔0<=i/\i<n:=by
 unfold By;rw[tx];constructor
 .rintro⟨k,f,rfl⟩;rw[BL]at f;lia
 .intro ⟨a,b⟩;exact⟨i.toNat,by rw[BL];lia,⋯⟩
def iT(h:0<=i):∃n:Nat,i=(n:Int):=⟨i.toNat,⋯⟩
def Hz(w:zS n C):(below v C++above v C).Nodup/\∀x∈below v C++above v C,0<=x/\x<n:=by
 have F:∀x,x∈below v C->0<=x/\x<v/\x<n:=λx f=>by
  obtain⟨k,u,e⟩:=Fh.mp f;obtain⟨a,b,rfl,_,lt,_⟩:=w.tie k u;by_cases z:b=v
  .simp[z]at e;subst e;lia
  .simp[z]at e
 have G:∀x,x∈above v C->0<=x/\v<x/\x<n:=λx f=>by
  obtain⟨k,u,e⟩:=Fh.mp f;obtain⟨a,b,rfl,_,lt,_⟩:=w.tie k u;by_cases z:a=v
  .simp[z]at e;subst e;lia
  .simp[z]at e
 refine⟨?_,λx f=>?_⟩
 .rw[IS];refine⟨?_,?_,λx f y i=>?_⟩
  .unfold below List.Nodup;rw[QQ];refine List.Pairwise.imp_of_mem (λ{k E} u l j x f y i=>?_) w.nd;obtain⟨a,b,rfl,_⟩:=w.tie k u;obtain⟨c,d,rfl,_⟩:=w.tie E l;by_cases z1:b=v
   .by_cases B:d=v
    .simp[z1]at f;simp[B]at i;subst f i;rintro rfl;exact j (by rw[z1,B])
    .simp[B]at i
   .simp[z1]at f
  .unfold above List.Nodup;rw[QQ];refine List.Pairwise.imp_of_mem (λ{k E} u l j x f y i=>?_) w.nd;obtain⟨a,b,rfl,_⟩:=w.tie k u;obtain⟨c,d,rfl,_⟩:=w.tie E l;by_cases z1:a=v
   .by_cases B:c=v
    .simp[z1]at f;simp[B]at i;subst f i;rintro rfl;exact j (by rw[z1,B])
    .simp[B]at i
   .simp[z1]at f
  .have:=F x f
   have:=G y i
   lia
 .rcases tr.mp f with q|q
  .have:=F x q;lia
  .have:=G x q;lia
noncomputable section
def DB:D->Option Bool
 |.non=>J T
 |.bl b=>J b
 |.int i=>J (i != 0)
 |.tup xs=>J (!xs.isEmpty)
 |.lst xs=>J (!xs.isEmpty)
 |_=>Y
def Rps.empty(r:Rps p h O a vs):vs.isEmpty=a.isEmpty:=by
 cases a with
 |nil=>rw[show vs=[]from r];rfl
 |cons d a=>obtain⟨x,t,e,_⟩:=r;rw[e];rfl
def ss(w:Vw q h L O d v)(e:DB d=J b):mW h v=J b:=by
 cases d with
 |non=>cases e;rw[w.non];rfl
 |bl c=>cases e;rw[w.bl];rfl
 |int c=>cases e;rw[w.int];rfl
 |tup c=>cases e;obtain⟨xs,rfl,r⟩:=w.tup;rw[mW,r.empty]
 |lst c=>cases e;obtain⟨n,xs,rfl,g,r⟩:=w.lst;simp only[mW,g];rw[r.empty]
 |_=>cases e
section
variable{ws:SV}
def Ld(a:Xe ws):Xt ws where
 m:=Rm a.m
 p:=λenv s=>(a.p env s).bind λd s=>.of (DB d) s
 ok {q h L B O Z env s} c:=by
  refine(a.ok c).bind λx v f j l i ⟨w,_,_⟩=>?_
  cases e:DB x with
  |none=>trivial
  |some b=>rw[ss w e];exact⟨b,f,rfl,KB.refl _ _,i,rfl⟩
structure OpR where
 m:Nat->SM->MH->SK
 p:SW->SW->Sj
 ok:∀{q:Nat}{h:MH}{L:Nat}{O:SV}{n:Nat}{xs:SM}{ds as:SW}{vs:SM}{d:D},h[n]?=J (.lst xs)->Rps q h O ds xs->Hh q h L O as vs->p ds as=J d->∃v,m n vs h=.ok v h/\Rp q h O d v/\∀k es,d≠dl k es
end
section
variable{ws:SV}{env:am}{s:c_}
@[simp]theorem RI:(Ld a).p env s=(a.p env s).bind λd s=>.of (DB d) s:=rfl
end
end
noncomputable section
section
variable{ws:SV}
def oY(i j:Nat)(a:Xs ws)(E:ws.contains i=T:=by exact ys rfl)(Q:ws.contains j=T:=by exact ys rfl)(S:a.fz=I:=by exact ys rfl):Xd ws where
 m:=Gh i j a.m
 p:=λenv s=>(a.p env s).go env λu env s=>match u with
  |[x,y]=>.nx ((env.set i (J x)).set j (J y)) s
  |_=>.bad
 fr:=I
 ok {q h L B O Z env s} c d:=by
  refine SOk.ex (f:=λC Z h=>match C with|[v,w]=>.nx ((Z.set i (J v)).set j (J w)) h|_=>.bad) (g:=λu env s=>match u with|[x,y]=>.nx ((env.set i (J x)).set j (J y)) s|_=>.bad) c d (a.ok c) λxs C H W kb l ⟨_,z⟩=>?_;have z:=z S
  match xs,z with
  |[],_=>trivial
  |[_],_=>trivial
  |[x,y],z =>
   obtain⟨v,t,rfl,P,G⟩:=z;obtain⟨w,X,rfl,rw',rfl⟩:=G;obtain⟨R,M⟩:=l.sr.set (i:=i) (λz=>by simp[z]at E) P;obtain⟨U,F⟩:=R.set (i:=j) (λz=>by simp[z]at Q) rw';exact⟨_,H,rfl,O,Stp.refl _ _ _ _,⟨l.bd,l.sub,l.bb,l.pb,l.hL,l.pen,U⟩,(d.keep M).keep F⟩
  |_::_::_::_,_=>trivial
variable{env:am}{s:c_}
@[simp]theorem HA:(oY i j a hi hj hz).p env s=(a.p env s).go env λds env s=>match ds with
  |[x,y]=>.nx ((env.set i (J x)).set j (J y)) s
  |_=>.bad:=rfl
end
end
noncomputable section
def jb:SW->Option (List (Int×D))
 |[]=>J []
 |.tup [.int k,v]::r=>(jb r).map ((k,v)::·)
 |_=>Y
def Lf(x:D):Option (List (Int×D)):=match x with
 |.tup f=>(match jb f with
  |some a=>if(a.map (·.1)).Nodup then J a else Y
  |none=>Y)
 |_=>Y
def Rkv(q:Nat)(h:MH)(O:SV):List (Int×D)->List (Int×PV)->Prop
 |[],r=>r=[]
 |a::t,r=>∃b u,r=b::u/\a.1=b.1/\Rp q h O a.2 b.2/\Rkv q h O t u
def yi:∀{i:SW}{xs:SM}{f:List (Int×D)},Rps q h O i xs->jb i=J f->∃j,g8 xs=J j/\Rkv q h O f j:=by
 intro i
 induction i with
 |nil=>intro xs f r e;rw[show xs=[]from r];cases e;exact⟨[],rfl,rfl⟩
 |cons d i B =>
  intro xs f r e;obtain⟨x,t,rfl,C,G⟩:=r;unfold jb at e
  split at e
  .rename_i z;cases z
  .rename_i u M P z
   injection z with z1 z2
   subst z1 z2;rw[vz]at e;obtain⟨l,e1,rfl⟩:=e;obtain⟨j,e2,e3⟩:=B G e1;obtain⟨L,rfl,a,E,rfl,y,b,F,rfl,H,rfl⟩:=C;rw[show a=PV.int u from y];exact⟨(u,b)::j,by unfold g8;rw[e2];rfl,_,_,rfl,rfl,H,e3⟩
  .cases e
def Rkv.keys:∀{f:List (Int×D)}{i:List (Int×PV)},Rkv q h O f i->i.map (·.1)=f.map (·.1)
 |[],_,r=>by rw[show _=[]from r];rfl
 |a::t,_,⟨b,u,e,e1,_,r⟩=>by rw[e,n8,n8,e1,Rkv.keys r]
def HD(r:Rp q h O x v)(e:Lf x=J kvs):∃a,KS v=J a/\Rkv q h O kvs a:=by
 unfold Lf at e
 split at e
 .rename_i j
  split at e
  .rename_i f i
   split at e
   .rename_i nd
    cases e;obtain⟨xs,rfl,r⟩:=r;obtain⟨a,e1,e2⟩:=yi r i;refine⟨a,?_,e2⟩;simp only[KS,e1];rw[b_ (by rw[e2.keys];exact nd)]
   .cases e
  .cases e
 .cases e
section
variable{ws:SV}
def ze(i j:Int):Xe ws where
 m:=mC (.tup [.int i,.int j])
 p:=λ_ s=>.ok (.tup [.int i,.int j]) s
 fz:=I
 fr:=I
 ok {q h L B O Z env s} c:=by have r:Rp q h O (.tup [.int i,.int j]) (.tup [.int i,.int j]):=⟨_,rfl,_,_,rfl,rfl,_,_,rfl,rfl,rfl⟩;exact⟨_,h,rfl,KB.refl _ _,c.pen,.inl r,λ_=>r,λ_ k a e=>by cases k<;>cases e⟩
end
end
noncomputable section
variable{ws:SV}
end
end PU
namespace MM
open PySem.Spec PyProof.Rows L2
def Lg:mh:=λ_ _=>.bad
def HE{X:Cx}{st:Stmt}:MS X st Lg:=λl s Z H D a ⟨U,f,h,j,i,q⟩=>q.elim
end MM
namespace PU
open MM
def oT{ws:SV}:Xd ws where
 m:=Lg
 p:=λ_ _=>.bad
 fr:=I
 ok _ _:=trivial
end PU
namespace MM
open PySem.Spec PyProof.Rows L2
abbrev Ji(scope sc:Scope)(vars frees:SQ):Prop:=(∀y∈scope.names,y.2=.cell->scope.names.lookup y.1=J .cell)/\(∀y∈scope.names,y.2=.local->scope.names.lookup y.1=J .local)/\(∀x∈vars,scope.names.lookup x=J .local\/scope.names.lookup x=J .cell)/\(∀x∈frees,scope.names.lookup x=J .free)/\(∀y∈scope.names,y.2=.free->y.1∈frees)/\(∀x∈frees,sc.names.lookup x=J .cell)
def HG(a f:Scope):Scope:={ a with names:=a.names.map λ(n,k)=>if(k == .free&&f.kind == .function&&f.names.lookup n==J .cell)then(n,.cell)else(n,k)}
def oB{a f:Scope}{env:Env}(h:env.scope=f):relabel a env=HG a f:=by subst h;rfl
def gA{X:Cx}{N:SQ}{a l:Scope}{f frees:SQ}{fm:SV}(j:X.env.scope=l)(y:a.kind=.function)(u:fm.map (λi=>N[i]?)=frees.map J)(h:Ji a l f frees):yZ X N a f frees fm :=
 GB j y h.1 h.2.1 h.2.2.1 h.2.2.2.1 h.2.2.2.2.1 u h.2.2.2.2.2
def Lh{Q:SA->Prop}(h:∀f,Q [f]):∀a,a.length=1->Q a
 |[_],_=>h _
def Nw{Q:SA->Prop}(h:∀f i,Q [f,i]):∀a,a.length=2->Q a
 |[_,_],_=>h _ _
def Nx{Q:SA->Prop}(h:∀f i j,Q [f,i,j]):∀a,a.length=3->Q a
 |[_,_,_],_=>h _ _ _
def Ny{Q:SA->Prop}(h:∀i j l f,Q [i,j,l,f]):∀a,a.length=4->Q a
 |[_,_,_,_],_=>h _ _ _ _
abbrev Zn(K:h8)(x:Str):Prop:=PySem.W.nsIn K mainGlobals x=J Y
abbrev Nn(X:Cx)(x:Str):Prop:=X.mg x=Y
abbrev Sc(X:Cx)(s:Stmt):Prop:=X.env.scope=ah s
abbrev Gd(X:Cx)(N G:SQ)(k:Nat):Prop:=Good X N N G k
structure Ba(P:Program)(w:World)(K:h8)(mg:Si)(base:Heap):Prop where
 kin:K.In base
 ns:base.Ns mainGlobals mg
structure EE(X:Cx)(P:Program)(w:World)(K:h8)(mg:Si)(base:Heap):Prop where
 e1:X.prog=P
 e2:X.w=w
 e3:X.K=K
 e4:X.mg=mg
 e5:X.base=base
 b:Ba P w K mg base
section
variable{P:Program}{w:World}{K:h8}{mg:Si}{base:Heap}{X:Cx}
def EE.n(e:EE X P w K mg base){x:Str}(z:Zn K x):Nn X x:=by show X.mg x=Y;rw[e.e4];exact PySem.W.mg_none_of e.b.kin e.b.ns z
def FnAt.c{x:Str}{f:SQ}{F:SM->MH->SK}{i j:Nat}(a:FnAt P w K mg base x f F i)(e:EE X P w K mg base)(h:i<=j:=by decide):Cal X x f F j :=
 (a.mono h).cal e.e1 e.e2 e.e3 e.e4 e.e5
def Jj{x:Str}{st:Stmt}{N G ps:SQ}{m:mh}{k:Nat}(b:Ba P w K mg base)(D:d_ K x st)(j:∀X:Cx,EE X P w K mg base->Sc X st->Gd X N G k->io X->Aw X (aE st) m)(B:eU x st ps:=by first | exact λ_ _ _ _ _ _=>Lh λ_=>rfl | exact λ_ _ _ _ _ _=>Nw λ_ _=>rfl | exact λ_ _ _ _ _ _=>Nx λ_ _ _=>rfl | exact λ_ _ _ _ _ _=>Ny λ_ _ _ _=>rfl | exact λ_ _ _ _ _ _=>ar5 λ_ _ _ _ _=>rfl)(S:p0 N ps (ah st):=by exact⟨rfl,rfl,rfl,by decide +kernel,rfl,by decide +kernel,by decide +kernel⟩)(hl:∀y∈N,(ah st).names.lookup y=J .local\/(ah st).names.lookup y=J .cell:=by decide +kernel)(a:∀y∈G,(ah st).names.lookup y=J .globalImplicit:=by decide +kernel)(dbg:∀x∈N++G,(x==("__debug__":Str))=T/\(x==("__classdict__":Str))=T/\x≠"__name__":=by decide +kernel):
  FnAt P w K mg base x ps (b7 N.length ps.length m) (k+1) :=
 nJ b.kin b.ns D S B hl a dbg λX e1 e2 e3 e4 e5 f g i=>j X ⟨e1,e2,e3,e4,e5,b⟩ f g i
end
structure YE(Y X:Cx):Prop where
 e1:Y.prog=X.prog
 e2:Y.w=X.w
 e3:Y.K=X.K
 e4:Y.mg=X.mg
 e5:Y.base=X.base
section
variable{X Y:Cx}{N W G:SQ}{k:Nat}{x:Str}{p pos:Pos}{e:Expr}{es:SH}{m:Mx (SM)}{f:SM->MH->SK}
def YE.n(y:YE Y X)(h:X.mg x=none):Y.mg x=none:=y.e4.symm▸h
def YE.c(y:YE Y X){a:SQ}{F:SM->MH->SK}{i:Nat}(c:Cal X x a F i):Cal Y x a F i:=c.at y.e1 y.e2 y.e3 y.e4 y.e5
def kV(g:Good X N W G k)(i:Nat)(a:N[i]?=J x:=by rfl):ME X (.Name x pos) (ag i):=xk g i a
def AJ(g:Good X N W G k)(i:Nat)(a:N[i]?=J x:=by rfl)(hw:W[i]?=J x:=by rfl):MG X (.Name x pos) (mf i):=t5 g i a hw
def A4{a b:Expr}{j i:Mx PV}(l:ME X a j)(u:ME X b i)(y:jo b:=by exact λ_ _=>rfl):ME X (.Subscript a b pos) (au bc j i):=EN l u y
def R9{i:CmpOp}{f:PV->PV->MH->SK}{a b:Expr}{l j:Mx PV}(y:wj X (compareOp i) f)(u:ME X a l)(B:ME X b j)(z:behindInMarks i b=T:=by first | exact A7 _ | rfl):ME X (.Compare a [i] [b] pos) (au f l j):=yB y u B z
def E1{i:CmpOp}{f:PV->PV->MH->SK}{a b:Expr}{l j:Mx PV}(y:wj X (compareOp i) f)(u:ME X a l)(B:ME X b j)(z:behindInMarks i b=T:=by first | exact A7 _ | rfl):MT X (.Compare a [i] [b] pos) (mB (au f l j)):=xv y u B z
def AX(g:Good X N W G k)(j:Nat){l:SQ}{F:SM->MH->SK}(C:Cal X x l F k)(i:MA X (e::es) m)(u:G[j]?=J x:=by rfl)(y:starEach (e::es) X.env=(T,eval e X.env)::starEach es X.env:=by rfl)(a:(backTo pos (starEach es X.env)).any (·.1)=T:=by rfl):ME X (.Call (.Name x p) (e::es) [] pos) (bI F m):=ue g u C i y a
def BJ{id:String}(g:Good X N W G k)(j:Nat)(l:cr X (.builtin id) f)(y:X.mg x=none)(hv:bootBuiltins x=J (.builtin id))(i:MA X (e::es) m)(u:G[j]?=J x:=by rfl)(z:starEach (e::es) X.env=(T,eval e X.env)::starEach es X.env:=by rfl)(a:(backTo pos (starEach es X.env)).any (·.1)=T:=by rfl):ME X (.Call (.Name x p) (e::es) [] pos) (p6 f m):=tE g j u l y hv i z a
def Jk{a:String}(g:Good X N W G k)(j:Nat)(u:cr X (.type a) f)(z:X.mg x=none)(hv:bootBuiltins x=J (.type a))(l:MA X (e::es) m)(y:G[j]?=J x:=by rfl)(B:starEach (e::es) X.env=(T,eval e X.env)::starEach es X.env:=by rfl)(i:(backTo pos (starEach es X.env)).any (·.1)=T:=by rfl):ME X (.Call (.Name x p) (e::es) [] pos) (p6 f m):=pK g j y u z hv l B i
def PJ{u a:Expr}(g:Good X N W G k)(j:Nat)(y:X.mg "range"=none)(i:MA X [a] m)(l:G[j]?=J "range":=by rfl)(z:starEach [a] X.env=[(T,eval a X.env)]:=by rfl):MI X u (.Call (.Name "range" p) [a] [] pos) (dz m):=pQ (g.gl _ (aN l)) y i z
def RJ{i:SH}{u:Nat}{C:Pos}{a:Expr}(g:Good X N W G k)(j:Nat)(y:X.mg "enumerate"=none)(l:MA X [a] m)(z:G[j]?=J (("enumerate":String):Str):=by rfl)(B:starEach [a] X.env=[(T,eval a X.env)]:=by rfl):MI X (.Tuple i u C) (.Call (.Name "enumerate" p) [a] [] pos) (rj m):=ua g z y l B
section
variable{tg iter elt:Expr}{ifs:SH}{scope sc:Scope}{mi:Mx MIt}{gt:Mg}{mt:Mx Bool}{me:Mx PV}
def PK(g:Good X N W G k)(u:X.env.scope=sc)(a frees j:SQ)(fm:SV)(B:MI X tg iter mi)(M:∀Y:Cx,YE Y X->Good Y (a++frees) a j k->MG Y tg gt/\B7 Y ifs mt/\ME Y elt me)(C:scope.kind=.function:=by rfl)(E:fm.map (λi=>N[i]?)=frees.map J:=by rfl)(h:Ji scope sc a frees:=by decide +kernel)(nd:(a++frees).Nodup:=by decide +kernel)(l:∀x∈j,scope.names.lookup x=J .globalImplicit:=by decide +kernel)(dbg:∀x∈(a++frees)++j,(x==("__debug__":Str))=T/\(x==("__classdict__":Str))=T/\x≠"__name__":=by decide +kernel)(L:∀x,foldedSetIterable iter X.env x=pure x:=by exact λ_=>rfl):ME X (.ListComp elt [⟨tg,iter,ifs,0⟩] scope pos) (bN a.length fm mi gt mt me) :=
 pf g (gA u C E h) nd l dbg B (λY z y F O H _ g=>M Y ⟨z,y,F,O,H⟩ g) L
def R_{j py:Pos}{y:Str}(g:Good X N W G k)(l:X.env.scope=sc)(i:Nat)(a frees u:SQ)(fm:SV)(H:MI X tg iter mi)(R:∀Y:Cx,YE Y X->Good Y (a++frees) a u k->MG Y tg gt/\B7 Y ifs mt/\ME Y elt me)(C:∀env:Env,env.scope=sc->swapsWith (.ListComp elt [⟨tg,iter,ifs,0⟩] scope pos) (J (.Name y py)) j.line env=pure I:=by(intro env h;cases env;cases h;rfl))(z:N[i]?=J y:=by rfl)(hw:W[i]?=J y:=by rfl)(L:scope.kind=.function:=by rfl)(M:fm.map (λi=>N[i]?)=frees.map J:=by rfl)(h:Ji scope sc a frees:=by decide +kernel)(nd:(a++frees).Nodup:=by decide +kernel)(B:∀x∈u,scope.names.lookup x=J .globalImplicit:=by decide +kernel)(dbg:∀x∈(a++frees)++u,(x==("__debug__":Str))=T/\(x==("__classdict__":Str))=T/\x≠"__name__":=by decide +kernel)(Q:∀x,foldedSetIterable iter X.env x=pure x:=by exact λ_=>rfl):MS X (.Assign [.Name y py] (.ListComp elt [⟨tg,iter,ifs,0⟩] scope pos) j) (ba i (bN a.length fm mi gt mt me)) :=
 oV g i z hw (C X.env l) (gA l L M h) nd B dbg H (λY F E O S P _ g=>R Y ⟨F,E,O,S,P⟩ g) Q
def Sa(g:Good X N W G k)(j:X.env.scope=sc)(a frees l:SQ)(fm:SV)(B:MI X tg iter mi)(O:∀Y:Cx,YE Y X->Y.env.scope=HG scope sc->Good Y (a++frees) a l k->MG Y tg gt/\B7 Y ifs mt/\ME Y elt me)(E:scope.kind=.function:=by rfl)(F:fm.map (λi=>N[i]?)=frees.map J:=by rfl)(h:Ji scope sc a frees:=by decide +kernel)(nd:(a++frees).Nodup:=by decide +kernel)(u:∀x∈l,scope.names.lookup x=J .globalImplicit:=by decide +kernel)(dbg:∀x∈(a++frees)++l,(x==("__debug__":Str))=T/\(x==("__classdict__":Str))=T/\x≠"__name__":=by decide +kernel)(M:∀x,foldedSetIterable iter X.env x=pure x:=by exact λ_=>rfl):ME X (.ListComp elt [⟨tg,iter,ifs,0⟩] scope pos) (bN a.length fm mi gt mt me) :=
 pf g (gA j E F h) nd u dbg B (λY z y H P L C g=>O Y ⟨z,y,H,P,L⟩ (C.trans (oB j)) g) M
def Sb{j py:Pos}{y:Str}(g:Good X N W G k)(l:X.env.scope=sc)(i:Nat)(a frees u:SQ)(fm:SV)(H:MI X tg iter mi)(S:∀Y:Cx,YE Y X->Y.env.scope=HG scope sc->Good Y (a++frees) a u k->MG Y tg gt/\B7 Y ifs mt/\ME Y elt me)(C:∀env:Env,env.scope=sc->swapsWith (.ListComp elt [⟨tg,iter,ifs,0⟩] scope pos) (J (.Name y py)) j.line env=pure I:=by(intro env h;cases env;cases h;rfl))(z:N[i]?=J y:=by rfl)(hw:W[i]?=J y:=by rfl)(M:scope.kind=.function:=by rfl)(O:fm.map (λi=>N[i]?)=frees.map J:=by rfl)(h:Ji scope sc a frees:=by decide +kernel)(nd:(a++frees).Nodup:=by decide +kernel)(B:∀x∈u,scope.names.lookup x=J .globalImplicit:=by decide +kernel)(dbg:∀x∈(a++frees)++u,(x==("__debug__":Str))=T/\(x==("__classdict__":Str))=T/\x≠"__name__":=by decide +kernel)(R:∀x,foldedSetIterable iter X.env x=pure x:=by exact λ_=>rfl):MS X (.Assign [.Name y py] (.ListComp elt [⟨tg,iter,ifs,0⟩] scope pos) j) (ba i (bN a.length fm mi gt mt me)) :=
 oV g i z hw (C X.env l) (gA l M O h) nd B dbg H (λY F E P U Q L g=>S Y ⟨F,E,P,U,Q⟩ (L.trans (oB l)) g) R
end
end
abbrev rR:=@PyProof.Rows.Boot.«abs»
abbrev nX:=@PyProof.Rows.Boot.«min»
abbrev wN:=@PyProof.Rows.Boot.«max»
abbrev sR:=@PyProof.Rows.Boot.«int»
abbrev kM:=@PyProof.Rows.Boot.«len»
abbrev oZ:=@PyProof.Rows.Boot.«list»
abbrev jV:=@PyProof.Rows.Boot.«tuple»
abbrev w9:=@PyProof.Rows.Boot.«all»
abbrev qy:=@PyProof.Rows.Boot.«sorted»
abbrev DC:=@PyProof.Rows.Boot.«bool»
abbrev DD:=@PyProof.Rows.Boot.«dict»
abbrev kh:=@PySem.F.slot_list_append
abbrev ko:=@PySem.F.type_list_append
abbrev yh:=@PySem.F.slot_list_extend
abbrev ye:=@PySem.F.type_list_extend
abbrev vj:=@PySem.F.slot_list_reverse
abbrev vF:=@PySem.F.type_list_reverse
abbrev wY:=@PySem.F.slot_list_insert
abbrev xh:=@PySem.F.type_list_insert
end MM
namespace PU
open MM
open L2 (vq n3 gQ)
noncomputable section
section
variable{ws:SV}
end
end
noncomputable section
end
noncomputable section
end
section
variable{ws:SV}
end
end PU
namespace PU
open MM L2
noncomputable section
inductive VwD(h:MH)(fz:Bool)(ks:SS)(P:SM->Prop)(v:PV):Prop
 |mk(n:Nat)(xs:SM)(e:v=.loc n)(g:h[n]?=J (.dic fz ks xs))(r:P xs):VwD h fz ks P v
def Vw.dic{q:Nat}{h:MH}{L:Nat}{O:SV}{v:PV}{fz:Bool}{a:SS}{f:SW}(w:Vw q h L O (.dic fz a f) v):VwD h fz a (Rps q h O f) v:=by
 rcases w with⟨n,xs,e,_,g,r⟩|⟨n,i,xs,j,e,e1,_,_,g,r⟩
 .exact⟨n,xs,e,g,r⟩
 .cases i with
  |none=>cases e
  |some _=>cases e;exact⟨n,xs,e1,g,r⟩
def VwD.of{h:MH}{fz:Bool}{a:SS}{P:SM->Prop}{v:PV}(w:VwD h fz a P v):∃xs,cg h v=J (fz,a,xs)/\P xs:=by obtain⟨n,xs,rfl,g,r⟩:=w;exact⟨xs,by simp only[cg,g],r⟩
def sZ{q:Nat}{h:MH}{O:SV}{f:SW}{xs:SM}{ks:SS}(r:Rps q h O f xs)(i:Int):match qx ks f i with
  |some d=>∃v,qx ks xs i=J v/\Rp q h O d v
  |none=>qx ks xs i=Y:=by
 induction ks generalizing f xs with
 |nil=>cases f<;>cases xs<;>rfl
 |cons k ks j =>
  cases f with
  |nil=>rw[show xs=[]from r];rfl
  |cons d f =>
   obtain⟨x,t,rfl,a,b⟩:=r;unfold qx;by_cases e:k=i
   .simp only[b_ e];exact⟨_,rfl,a⟩
   .simp only[f_ e];exact j b
def DE{q:Nat}{h:MH}{O:SV}{f:SW}{xs:SM}{ks:SS}{d:D}{v:PV}(r:Rps q h O f xs)(w:Rp q h O d v)(i:Int):(i0 ks f i d).1=(i0 ks xs i v).1/\Rps q h O (i0 ks f i d).2 (i0 ks xs i v).2:=by
 induction ks generalizing f xs with
 |nil=>exact⟨by simp[i0],by simpa [i0]using⟨v,[],rfl,w,rfl⟩⟩
 |cons k ks j =>
  cases f with
  |nil=>rw[show xs=[]from r];exact⟨rfl,v,[],rfl,w,rfl⟩
  |cons y f =>
   obtain⟨x,t,rfl,a,b⟩:=r;unfold i0;by_cases e:k=i
   .simp only[b_ e];exact⟨trivial,v,t,rfl,w,b⟩
   .simp only[f_ e];obtain⟨l,u⟩:=j b;exact⟨by rw[l],x,_,rfl,a,u⟩
def HH(neg:Bool):vZ where
 m:=qR neg
 p:=λa b=>match a,b with
  |.int i,.dic _ f j=>J (.bl (if neg then !(qx f j i).isSome else(qx f j i).isSome))
  |_,_=>Y
 fr:=I
 ok {q h L O a x b y d} bd wa wb e:=by
  cases a with
  |int i =>
   cases b with
   |dic fz f j =>
    cases e;rw[wa.int];obtain⟨xs,e1,r⟩:=wb.dic.of;have z:(qx f j i).isSome=(qx f xs i).isSome:=by
     have:=sZ (ks:=f) r i
     cases e2:qx f j i with
     |none=>rw[e2]at this;rw[this];rfl
     |some d=>rw[e2]at this;obtain⟨v,e3,_⟩:=this;rw[e3];rfl
    simp only[qR,e1];rw[z];exact w_
   |_=>cases e
  |_=>cases e
def kE:vZ where
 m:=ly
 p:=λa b=>match a,b with
  |.dic _ f j,.int i=>qx f j i
  |_,_=>Y
 fr:=T
 ok {q h L O a x b y d} bd wa wb e:=by
  cases a with
  |dic fz f j =>
   cases b with
   |int i =>
    rw[wb.int];obtain⟨xs,e1,r⟩:=wa.dic.of;have z:=sZ (ks:=f) r i;rw[show qx f j i=J d from e]at z;obtain⟨v,e3,l⟩:=z;simp only[ly,e1,e3];exact EY l λz=>by cases z
   |_=>cases e
  |_=>cases e
def pW{q:Nat}{h:MH}{O:SV}:∀{f:List (Int×D)}{i:List (Int×PV)},Rkv q h O f i->i.map (·.1)=f.map (·.1)/\Rps q h O (f.map (·.2)) (i.map (·.2))
 |[],i,r=>by rw[show i=[]from r];exact⟨rfl,rfl⟩
 |kv::f,i,r=>by
  obtain⟨y,l,rfl,e,a,b⟩:=r;obtain⟨u,j⟩:=pW b;exact⟨by simp[u,<-e],_,_,rfl,a,j⟩
variable{ws:SV}
def Bf(a:Xe ws)(j:Xs ws):Xe ws where
 m:=Rn a.m j.m
 p:=λenv s=>(a.p env s).bind λx P=>match x with
  |.dic _ f u=>(j.p env P).bind λy C=>match y with
   |[.int i,d]=>.ok ((qx f u i).getD d) C
   |_=>.bad
  |_=>.bad
 fz:=j.fz
 fr:=T
 ok {q h L B O Z env s} c:=by
  refine(a.ok c).bind λx v R P k1 S ⟨w,_,_⟩=>?_
  cases x with
  |dic fz f u =>
   have c1:=c.kb k1 S;obtain⟨n,xs,rfl,g,r⟩:=w.dic;have nq:n≠q:=by
    rcases w with⟨n',E,e,no,_⟩|⟨n',kd,E,ab,_,e,_,hn,_⟩
    .cases e;exact λz=>no (z▸c.pO)
    .cases e;have:=c.pL;lia
   have e1:cg R (.loc n)=J (fz,f,xs):=by simp only[cg,g]
   dsimp only;rw[e1];dsimp only;refine(j.ok c1).bind λy vs l C G M ⟨w2,z2⟩=>?_;have Q:l[n]?=J (.dic fz f xs):=(G.keep n (ao g) nq).trans g;have e2:cg l (.loc n)=J (fz,f,xs):=by simp only[cg,Q]
   have r2:=r.mv (G.mv c.pO);by_cases H:∃i d,y=[.int i,d]
   .obtain⟨i,d,rfl⟩:=H;obtain⟨v1,v2,rfl,U,u2⟩:=Hn w2;rw[U.int,e2];dsimp only;have z:=sZ (ks:=f) r2 i
    cases e3:qx f u i with
    |none =>
     rw[e3]at z;dsimp only at z;rw[z];refine⟨_,l,rfl,KB.refl _ _,M,u2,λW=>?_,λz=>by cases z⟩;obtain⟨_,_,e5,_,_,_,X,r6,_⟩:=z2 W;cases e5;cases X;exact r6
    |some d' =>
     rw[e3]at z;obtain⟨v',e4,F⟩:=z;rw[e4];exact⟨_,l,rfl,KB.refl _ _,M,.inl F,λ_=>F,λz=>by cases z⟩
   .have:(match y with|[.int i,d]=>PR.ok ((qx f u i).getD d) C|_=>.bad)=PR.bad:=by
     split
     .exact absurd ⟨_,_,rfl⟩ H
     .rfl
    rw[this];trivial
  |_=>trivial
@[simp]theorem qN{a:Xe ws}{as:Xs ws}{env:am}{s:c_}:(Bf a as).p env s=(a.p env s).bind λx s1=>match x with
  |.dic _ ks ds=>(as.p env s1).bind λy s2=>match y with
   |[.int i,d]=>.ok ((qx ks ds i).getD d) s2
   |_=>.bad
  |_=>.bad:=rfl
def js(i:Nat)(y e:am->c_->PR D)(env:am)(s:c_):PS:=match e env s with
 |.ok v l=>(match y env l with
  |.ok (.int j) u=>(match env[i]? with
   |some (J (.dic T a f))=>if a.length<100000 then .nx (env.set i (J (.dic T (i0 a f j v).1 (i0 a f j v).2))) u else .bad
   |_=>.bad)
  |_=>.bad)
 |_=>.bad
def y7{i:Nat}{a e:am->c_->PR D}{env:am}{s s1 s2:c_}{v:D}{j:Int}{ks:SS}{ds:SW}(e1:e env s=.ok v s1)(e2:a env s1=.ok (.int j) s2)(e3:env[i]?=J (J (.dic T ks ds)))(e4:ks.length<100000):
  js i a e env s=.nx (env.set i (J (.dic T (i0 ks ds j v).1 (i0 ks ds j v).2))) s2:=by
 simp only[js,e1,e2,e3];rw[b_ e4]
def xI{i:Nat}{ix e:am->c_->PR D}{env:am}{s:c_}:js i ix e env s=.bad\/∃v l j u a f,e env s=.ok v l/\ix env l=.ok (.int j) u/\env[i]?=J (J (.dic T a f))/\a.length<100000/\js i ix e env s=.nx (env.set i (J (.dic T (i0 a f j v).1 (i0 a f j v).2))) u:=by
 unfold js;split
 .rename_i v l e1
  split
  .rename_i j u e2
   split
   .rename_i a f e3
    by_cases h:a.length<100000
    .rw[b_ h];exact .inr ⟨v,l,j,u,a,f,e1,e2,e3,h,rfl⟩
    .rw[f_ h];exact .inl rfl
   .exact .inl rfl
  .exact .inl rfl
 .exact .inl rfl
def jY(i:Nat)(C e:Xe ws)(hi:ws.contains i=I:=by exact ys rfl)(hz:e.fz=I:=by exact ys rfl):Xd ws where
 m:=jH (ag i) C.m e.m
 p:=js i C.p e.p
 fr:=I
 ok {q h L B O Z env s} c d:=by
  rcases xI (i:=i) (e:=e.p) (ix:=C.p) (env:=env) (s:=s)with z|⟨v,s1,j,s2,f,X,e1,e2,e3,e4,z⟩
  .rw[z];trivial
  .rw[z];have l:i∈ws:=by simpa using hi
   have R:=e.ok c;rw[e1]at R;obtain⟨x,M,f1,u,E,_,rx,_⟩:=R;have S:=c.kb u E;have P:=C.ok S;rw[e2]at P;obtain⟨y,W,f2,a,F,w,_,_⟩:=P;have U:=S.kb a F;obtain⟨H,kd,xs,ab,e0,Q,b1,b2,g,r0⟩:=U.sr.ow i _ e3 l
   cases kd with
   |none=>cases e0
   |some ai =>
    cases e0;replace g:W[H]?=J (.dic T f xs):=g;have hy:=w.int;subst hy;have em:ag i Z M=.ok (.loc H) M:=by simp[ag,Q]
    obtain⟨p1,p2⟩:=DE (ks:=f) r0 ((rx hz).mv (a.mv c.pO)) j;have nx:=sP (kd:=J (i0 f X j v).1) U d l e3 Q p2;refine⟨Z,W.set H (.dic T (i0 f X j v).1 (i0 f xs j x).2),?_,nx.after ((u.trans a).stp c)⟩;have G:f.length<sizeLine:=by have:=dg;lia
    unfold jH vQ;rw[f1];simp only[em,f2,cg,g];rw[b_ G,p1]
def DF{i:Nat}{a e:Xe ws}{hi hz}{env:am}{s:c_}:(jY i a e hi hz).p env s=js i a.p e.p env s:=rfl
end
end PU
namespace MM
open PySem.Spec PyProof.Rows L2
section
variable{X:Cx}{a b:Expr}{pos:Pos}{k:Nat}
def bE:Expr->Bool
 |.Starred _ _=>T
 |_=>I
def bi(h:bE e=I):starEach (e::es) env=(T,eval e env)::starEach es env:=by cases e<;>first | rfl | cases h
def HJ(f:ME X e m)(i:MA X es ms)(j:bE e=I:=by rfl):MA X (e::es) (af m ms):=ak f i (bi j)
structure kc(X:Cx)(e:Expr)(m:Mx PV):Prop where
 h:ME X e m
structure AN(X:Cx)(es:SH)(ms:Mx (SM)):Prop where
 h:MA X es ms
structure zX(X:Cx)(st:Stmt)(m:mh):Prop where
 h:MS X st m
structure nr(X:Cx)(st:Sk)(m:mh):Prop where
 h:Aw X st m
section
variable{e:Expr}{es:SH}{m ma mb:Mx PV}{ms:Mx (SM)}{st:Stmt}{rest:Sk}{u v:mh}{f:PV->PV->MH->SK}{N W G:SQ}{x:Str}
def cK:AN X [] g_:=⟨aH⟩
def bg(i:kc X e m)(j:AN X es ms)(l:bE e=I:=by rfl):AN X (e::es) (af m ms):=⟨HJ i.h j.h l⟩
def qp(h:ME X e m):kc X e m:=⟨h⟩
def PL(h:AN X es ms):kc X (.List es pos) (f7 ms):=⟨wZ h.h⟩
def B_(h:AN X es ms):kc X (.Tuple es j pos) (cT ms):=⟨Gf h.h⟩
def Aj(h:MS X st u):zX X st u:=⟨h⟩
def Bn(g:Good X N W G k)(i:Nat){j:Pos}(z:kc X e m)(l:N[i]?=J x:=by rfl)(hw:W[i]?=J x:=by rfl)(y:swapsWith e (J (.Name x j)) pos.line X.env=pure T:=by rfl):
  zX X (.Assign [.Name x j] e pos) (ba i m):=⟨rA g i l hw z.h y⟩
def BY(i:kc X e m):zX X (.Return (J e) pos) (bQ m):=⟨Gg i.h⟩
def AO(h:zX X st u):nr X [st] u:=⟨CJ h.h⟩
def v_(i:zX X st u)(j:nr X rest v):nr X (st::rest) (aR u v):=⟨yY i.h j.h⟩
end
end
end MM
namespace MM
open PySem.SeqAt PySem.MeetsSeq PySem.MeetsSeq2 PySem.MeetsSeq3 PySem.SeqRoads2
end MM
namespace MM
open PySem.Spec PyProof.Rows L2
section
variable{X:Cx}{k:Nat}
end
end MM
namespace PU
open MM
noncomputable section
end
end PU
namespace SetT
open PySem.SetTable PyProof.Rows
section
variable{prog:Program}{w:World}{A:Around}{E:Sh}{s:Shared}
end
end SetT
namespace MM
open PySem.Spec PyProof.Rows L2 SetT SortT
section
variable{X:Cx}{N W G:SQ}{k:Nat}
end
end MM
namespace PU
open MM SetT
noncomputable section
end
end PU
namespace MM
open PySem.Spec PyProof.Rows L2
open PU (Xe Xs Xt Xi Xg EW Xo Xd Nq vZ Bc KY Dn OpR Fn aa xC ae v4 a_ ac o_ av fb bn Dm xB eY oD BX ti iC nM Hj nI aV cH bx j_ va mu vg aM ki aW oA qP wL bh f9 iI Jf BI bC EX Bk Bl Bm Ld oY oT Bf jY ze)
structure Bz(X:Cx)(e:Expr)(m:Mx Bool):Prop where
 h:MT X e m
structure HK(X:Cx)(e:Expr)(m:Mx Bool):Prop where
 h:MW X e m
structure HL(X:Cx)(tg e:Expr)(m:Mx MIt):Prop where
 h:MI X tg e m
structure Li(X:Cx)(e:Expr)(m:Mg):Prop where
 h:MG X e m
structure Nz(X:Cx)(e:SH)(m:CK):Prop where
 h:Kh X e m
structure PM(X:Cx)(e:SH)(m:Mx Bool):Prop where
 h:B7 X e m
structure NA(X:Cx)(e:Option Expr)(m:Mx (SG)):Prop where
 h:MO' X e m
structure OJ(X:Cx)(r:Value->Value->Sem Value)(o:vZ):Prop where
 h:wj X r o.m
def DG(a:Scope):SQ:=(a.names.filter λy=>match y.2 with|.globalImplicit=>I|_=>T).map (·.1)
abbrev gm(sc:Scope)(x:Str):Prop:=x∈DG sc
def E2:Expr->SQ
 |.Name x _=>[x]
 |.Tuple a _ _=>a.flatMap λe=>match e with
  |.Name x _=>[x]
  |.Tuple a _ _=>a.flatMap λe=>match e with
   |.Name x _=>[x]
   |_=>[]
  |_=>[]
 |_=>[]
def Jl(N:SQ)(fm:SV):SQ:=fm.filterMap (N[·]?)
structure Wc(X:Cx)(P:Program)(w:World)(K:h8)(mg:Si)(base:Heap)(N W:SQ)(k:Nat)(sc:Scope):Prop where
 g:Good X N W (DG sc) k
 e:EE X P w K mg base
 s:X.env.scope=sc
section
variable{X Y:Cx}{P:Program}{w:World}{K:h8}{mg:Si}{base:Heap}{N W:SQ}{k:Nat}{sc:Scope}{ws:SV}{x y:Str}{p p' pos spos:Pos}{e a b d tg:Expr}{es:SH}{i j:Nat}{st:Stmt}{rest body:Sk}{xa xb xd:Xe ws}{ta tb:Xt ws}{sa:Xs ws}{da db:Xd ws}
def Wc.gj(c:Wc X P w K mg base N W k sc)(h:gm sc x):∃j:Nat,(DG sc)[j]?=J x:=List.getElem?_of_mem h
def Wc.n(c:Wc X P w K mg base N W k sc)(z:Zn K x):X.mg x=none:=c.e.n z
def Lj{i:Int}:kc X (.Constant (.int i) j pos) (xC (ws:=ws) (.int i)).m:=⟨aC⟩
def PN{i:Bool}:kc X (.Constant (.bool i) j pos) (xC (ws:=ws) (.bl i)).m:=⟨EI⟩
def Lk:kc X (.Constant .none j pos) (xC (ws:=ws) .non).m:=⟨yA⟩
def Ll{f:Operator}{o:vZ}(u:OJ X (binaryOp f) o)(l:kc X a xa.m)(z:kc X b xb.m):kc X (.BinOp a f b pos) (ae o xa xb).m:=⟨aK u.h l.h z.h⟩
def Lm{f:CmpOp}{o:vZ}(u:OJ X (compareOp f) o)(l:kc X a xa.m)(B:kc X b xb.m)(z:behindInMarks f b=T):kc X (.Compare a [f] [b] pos) (ae o xa xb).m:=⟨yB u.h l.h B.h z⟩
def PP(f:kc X a xa.m)(l:kc X b xb.m)(u:jo b):kc X (.Subscript a b pos) (ae PU.l_ xa xb).m:=⟨EN f.h l.h u⟩
def Ln(f:kc X a xa.m):kc X (.UnaryOp .USub a pos) (v4 PU.mH xa).m:=⟨Kd Gp f.h⟩
def HM(f:kc X a xa.m):kc X (.UnaryOp .Not a pos) (nM xa).m:=⟨F_ f.h⟩
def DH{l f:CmpOp}{o z:vZ}(C:OJ X (compareOp l) o)(u:OJ X (compareOp f) z)(B:kc X a xa.m)(F:kc X b xb.m)(hd:kc X d xd.m)(E:lastMarks [l,f] [b,d]=T):kc X (.Compare a [l,f] [b,d] pos) (nI o z xa xb xd).m:=⟨zu C.h u.h B.h F.h hd.h E⟩
def Lo{f:BoolOp}(l:kc X a xa.m):kc X (.BoolOp f [a] pos) xa.m:=⟨F8 l.h⟩
def HN(f:kc X a xa.m)(l:kc X (.BoolOp .And (b::es) pos) xb.m):kc X (.BoolOp .And (a::b::es) pos) (iC xa xb).m:=⟨F9 f.h l.h⟩
def Lp{hz}(h:AN X es sa.m):kc X (.Tuple es j pos) (bn sa hz).m:=B_ h
def Lq{hz}(h:AN X es sa.m):kc X (.List es pos) (fb sa hz).m:=PL h
def Lr:kc X (.Dict [] [] pos) (Dm (ws:=ws)).m:=⟨CQ⟩
def PQ{lo l:Option Expr}{u f:Xo ws}(B:kc X a xa.m)(hl:NA X lo u.m)(z:NA X l f.m):kc X (.Subscript a (.Slice lo l none p) pos) (Bm xa u f).m:=⟨EU B.h hl.h z.h⟩
def PX:NA X none (Bk (ws:=ws)).m:=⟨t7⟩
def PY(f:kc X a xa.m):NA X (J a) (Bl xa).m:=⟨u7 f.h⟩
def Ls:AN X [] (a_ (ws:=ws)).m:=cK
def HP(f:kc X e xa.m)(l:AN X es sa.m)(u:bE e=I):AN X (e::es) (ac xa sa).m:=bg f l u
def Lu:OJ X (binaryOp .Add) PU.cc:=⟨bT⟩
def Lv:OJ X (binaryOp .Sub) PU.tD:=⟨Go⟩
def Lw:OJ X (binaryOp .Mult) PU.bp:=⟨eI⟩
def Lx(f:kc X a xa.m)(l:kc X b xb.m)(u:jo b):kc X (.Subscript a b pos) (ae PU.kE xa xb).m:=⟨xw f.h l.h u⟩
def Ly:OJ X (binaryOp .Mod) PU.m6:=⟨cW⟩
def PZ:OJ X (compareOp .Lt) PU.Ho:=⟨EK⟩
def P0:OJ X (compareOp .LtE) PU.Pc:=⟨Kk⟩
def P1:OJ X (compareOp .Gt) PU.K3:=⟨EL⟩
def P2:OJ X (compareOp .GtE) PU.Ph:=⟨EM⟩
def P4:OJ X (compareOp .Is) (PU.Jg T):=⟨Km⟩
section
variable(c:Wc X P w K mg base N W k sc)
include c
def w_var(f:N[i]?=J x):kc X (.Name x pos) (aa (ws:=ws) i).m:=⟨xk c.g i f⟩
def P5:OJ X (binaryOp .FloorDiv) PU.Dq:=⟨vI c.g.room⟩
def Lz{i j:Int}(v:mJ K mg x i j)(l:gm sc x):kc X (.Name x pos) (ze (ws:=ws) i j).m :=
 let⟨_,f⟩:=c.gj l
 ⟨yR c.g f (by rw[c.e.e3,c.e.e4];exact v)⟩
def P6:OJ X (compareOp .Eq) PU.zb:=⟨wz c.g.room⟩
def P7:OJ X (compareOp .NotEq) PU.zI:=⟨wu c.g.room⟩
def P8:OJ X (compareOp .In) (PU.A3 T):=⟨ET c.g.room T⟩
def LA:OJ X (compareOp .NotIn) (PU.A3 I):=⟨ET c.g.room I⟩
end
def gn{env:Env}:∀{es:SH},es.all bE=I->(backTo pos (starEach es env)).any (·.1)=T
 |[],_=>rfl
 |e::es,h=>by
  have f:bE e=I/\es.all bE=I:=by simpa using h
  have:=gn (env:=env) f.2
  rw[bi f.1];simpa [backTo]using this
section
variable(c:Wc X P w K mg base N W k sc)
include c
def HQ{F:Fn}{z:SQ}{hz}(u:AN X (e::es) sa.m)(f:FnAt P w K mg base x z F.m i)(h:i<=k)(E:gm sc x)(B:(e::es).all bE=I):kc X (.Call (.Name x p) (e::es) [] pos) (av F sa hz).m :=
 let⟨_,C⟩:=c.gj E
 have l:bE e=I/\es.all bE=I:=by simpa using B
 ⟨ue c.g C (f.c c.e h) u.h (bi l.1) (gn l.2)⟩
end
inductive BB(X:Cx)(x:Str)(o:Bc):Prop
 |fn(id:String)(f:SM->MH->SK)(h:bootBuiltins x=J (.builtin id))(c:cr X (.builtin id) f)(e:o.k=λxs h=>(f xs h).ne:=by rfl):BB X x o
 |ty(T:String)(f:SM->MH->SK)(h:bootBuiltins x=J (.type T))(c:cr X (.type T) f)(e:o.k=λxs h=>(f xs h).ne:=by rfl):BB X x o
def LC:BB X "abs" PU.pe:=.fn _ _ rR sC
def LD:BB X "int" PU.mY:=.ty _ _ sR yQ
def LF:BB X "len" PU.hW:=.fn _ _ kM kY
def DI:BB X "tuple" PU.cE:=.ty _ _ jV mT
def zZ:BB X "sorted" PU.cQ:=.fn _ _ qy qh
section
variable(c:Wc X P w K mg base N W k sc)
include c
def LG{o:Bc}(B:BB X x o)(u:AN X (e::es) sa.m)(z:Zn K x)(G:gm sc x)(F:(e::es).all bE=I):kc X (.Call (.Name x p) (e::es) [] pos) (o_ o sa).m:=by
 obtain⟨j,C⟩:=c.gj G;have l:bE e=I/\es.all bE=I:=by simpa using F
 refine⟨?_⟩;show ME X _ (λZ h=>(sa.m Z h).bind o.k)
 cases B with
 |fn id f h d q=>rw[q];exact tE c.g j C d (c.n z) h u.h (bi l.1) (gn l.2)
 |ty E f h d q=>rw[q];exact pK c.g j C d (c.n z) h u.h (bi l.1) (gn l.2)
def LH:BB X "min" PU.m4:=.fn _ _ nX (nV c.g)
def LJ:BB X "max" PU.mZ:=.fn _ _ wN (xX c.g)
def LK:BB X "all" PU.oN:=.fn _ _ w9 (xz c.g)
def P9(f:AN X [a] sa.m)(z1:Zn K "list")(l:Zn K "range")(z:gm sc "list")(B:gm sc "range")(u:bE a=I):kc X (.Call (.Name "list" p) [.Call (.Name "range" p') [a] [] spos] [] pos) (o_ PU.Nt sa).m :=
 let⟨_,i⟩:=c.gj z;let⟨_,j⟩:=c.gj B
 ⟨Ab c.g i (c.n z1) j (c.n l) f.h (bi u)⟩
end
structure BT(x:Str)(T:String):Prop where
 h:bootBuiltins x=J (.type T)
 o:CO T
def LL:BT "int" "int":=⟨sR,CP⟩
def HR:BT "bool" "bool":=⟨DC,AF⟩
def DJ:BT "tuple" "tuple":=⟨jV,yq⟩
def HU:BT "list" "list":=⟨oZ,AA⟩
section
variable(c:Wc X P w K mg base N W k sc)
include c
def LM{f:String}(B:BT x f)(l:kc X a xa.m)(z1:Zn K "isinstance")(u:Zn K x)(C:gm sc "isinstance")(E:gm sc x)(z:bE a=I):kc X (.Call (.Name "isinstance" p) [a,.Name x p'] [] pos) (v4 (PU.b8 [f]) xa).m :=
 let⟨_,i⟩:=c.gj C;let⟨_,j⟩:=c.gj E
 ⟨Gq c.g i (c.n z1) j (c.n u) B.h B.o l.h (bi z)⟩
def HV{f u:String}{kt}{q H pt:Pos}(B:BT x f)(z:BT y u)(F:kc X a xa.m)(z1:Zn K "isinstance")(L:Zn K x)(G:Zn K y)(E:gm sc "isinstance")(M:gm sc x)(O:gm sc y)(C:bE a=I):kc X (.Call (.Name "isinstance" p) [a,.Tuple [.Name x q,.Name y H] kt pt] [] pos) (v4 (PU.b8 [f,u]) xa).m :=
 let⟨_,i⟩:=c.gj E;let⟨_,j⟩:=c.gj M;let⟨_,l⟩:=c.gj O
 ⟨C0 c.g i (c.n z1) j (c.n L) B.h B.o l (c.n G) z.h z.o F.h (bi C)⟩
end
abbrev MJ(X:Cx)(name:Str)(f:Nat->SM->MH->SK):Prop:=∃id,Slot "list" name id/\typeOf (.builtin id)=pure (.type "method_descriptor")/\CA X id (EQ X f)
section
variable{name:Str}{f:Nat->SM->MH->SK}{o:Dn}{m:Mx PV}
def P_{l:Mx (SM)}(M:MJ X name f)(B:kc X a m)(u:AN X (e::es) l)(h:(((backTo pos (starEach (e::es) X.env)).all (λx=>!x.1)&&(backToKw pos (keywordEach [] X.env)).all (λx=>x.1.isSome)&&decide ((e::es).length+([]:List Keyword).length+(if([]:List Keyword).isEmpty then 0 else 1)<30))=I/\(p.endLine==pos.line)=I)/\attributeBase a name X.env (eval a X.env)=eval a X.env/\starEach (e::es) X.env=(T,eval e X.env)::starEach es X.env/\(backTo pos (starEach es X.env)).any (·.1)=T):kc X (.Call (.Attribute a name p) (e::es) [] pos) (Bi f m l) :=
 let⟨_,x,y,z⟩:=M
 ⟨wC x y z B.h u.h h.2.1 h.1.1 h.1.2 h.2.2.1 h.2.2.2⟩
def Qa{hi hz}(h:kc X e (Bi o.m (aa (ws:=ws) i).m sa.m))(l:swapsWith e none pos.line X.env=pure T):zX X (.Expr e pos) (BI o i sa hi hz).m:=⟨gG h.h l⟩
end
def AE:MJ X "append" PU.r_.m:=⟨_,kh,ko,km⟩
def zP:MJ X "extend" PU.xg.m:=⟨_,yh,ye,xW⟩
def yV:MJ X "insert" PU.x3.m:=⟨_,wY,xh,xL⟩
def Qb(l:kc X a xa.m)(f:AN X [b,d] sa.m)(h:(((backTo pos (starEach [b,d] X.env)).all (λx=>!x.1)&&(backToKw pos (keywordEach [] X.env)).all (λx=>x.1.isSome)&&decide ([b,d].length+([]:List Keyword).length+(if([]:List Keyword).isEmpty then 0 else 1)<30))=I/\(p.endLine==pos.line)=I)/\attributeBase a "get" X.env (eval a X.env)=eval a X.env/\starEach [b,d] X.env=(T,eval b X.env)::starEach [d] X.env/\(backTo pos (starEach [d] X.env)).any (·.1)=T):kc X (.Call (.Attribute a "get" p) [b,d] [] pos) (Bf xa sa).m:=⟨KU l.h f.h h.2.1 h.1.1 h.1.2 h.2.2.1 h.2.2.2⟩
def HW{f:CmpOp}{o:vZ}(u:OJ X (compareOp f) o)(l:kc X a xa.m)(B:kc X b xb.m)(z:behindInMarks f b=T):Bz X (.Compare a [f] [b] pos) (xB (ae o xa xb)).m:=⟨xv u.h l.h B.h z⟩
def HX(h:Bz X a ta.m):Bz X (.UnaryOp .Not a pos) (eY ta).m:=⟨rF h.h⟩
def Qc{f:BoolOp}(h:HK X (.BoolOp f es pos) ta.m):Bz X (.BoolOp f es pos) ta.m:=⟨MW.mt h.h⟩
def HY(h:Bz X a ta.m):HK X (.BoolOp .And [a] pos) ta.m:=⟨CH h.h⟩
def LN(h:Bz X a ta.m):HK X (.BoolOp .Or [a] pos) ta.m:=⟨wS h.h⟩
def w_and(h:Bz X a ta.m)(f:HK X (.BoolOp .And (b::es) pos) tb.m):HK X (.BoolOp .And (a::b::es) pos) (oD ta tb).m:=⟨F7 h.h f.h⟩
def w_or(h:Bz X a ta.m)(f:HK X (.BoolOp .Or (b::es) pos) tb.m):HK X (.BoolOp .Or (a::b::es) pos) (BX ta tb).m:=⟨vT h.h f.h⟩
def LO(h:kc X e xa.m)(l:∀f,isTrue e X.env f=(do let v <-f;standAt e.pos;holding [v] (truthy v))):Bz X e (Ld xa).m:=⟨Hc h.h l⟩
def LP(h:kc X e xa.m)(l:∀f,isTrue e X.env f=(do let v <-f;standAt e.pos;holding [v] (truthy v))):Bz X e (xB xa).m:=⟨rf h.h l⟩
def LQ:PM X [] (ti (ws:=ws)).m:=⟨gE⟩
def LR(h:Bz X a ta.m):PM X [a] ta.m:=⟨uF h.h⟩
def Qd:Nz X [] (va (ws:=ws)).m:=⟨fi⟩
def Qe{ga:Xg ws}{f:EW ws}(l:Li X e ga.m)(u:Nz X es f.m)(z:(assignEach (e::es) X.env).map (·.2)=assign e X.env::(assignEach es X.env).map (·.2)):Nz X (e::es) (mu ga f).m:=⟨bz l.h u.h z⟩
def LU(h:kc X a xa.m):HL X tg a (bx xa).m:=⟨hU h.h⟩
section
variable(c:Wc X P w K mg base N W k sc)
include c
def Qf{hi}(h:N[i]?=J x)(hw:W[i]?=J x):Li X (.Name x pos) (j_ (ws:=ws) i hi).m:=⟨t5 c.g i h hw⟩
def Qg{l:EW ws}{n:Nat}(h:Nz X es l.m)(u:(assignEach es X.env).length=n)(f:(assignEach es X.env).findIdx? (·.1)=none):Li X (.Tuple es j pos) (vg l n).m:=⟨gL c.g h.h u f⟩
def Qh{n:Nat}(h:AN X [a] sa.m)(z:Zn K "enumerate")(u:gm sc "enumerate")(f:bE a=I):HL X (.Tuple es n p) (.Call (.Name "enumerate" p') [a] [] pos) (cH PU.iE sa).m:=let⟨_,l⟩:=c.gj u;⟨ua c.g l (c.n z) h.h (bi f)⟩
def Qi{n:Nat}(h:AN X [a,b] sa.m)(z:Zn K "zip")(u:gm sc "zip")(B:starEach [a,b] X.env=(T,eval a X.env)::starEach [b] X.env)(f:(backTo pos (starEach [b] X.env)).any (·.1)=T):HL X (.Tuple es n p) (.Call (.Name "zip" p') [a,b] [] pos) (cH PU.iZ sa).m:=let⟨_,l⟩:=c.gj u;⟨Ha c.g l (c.n z) h.h B f⟩
def LV(h:AN X [a] sa.m)(z:Zn K "range")(f:gm sc "range")(l:bE a=I):HL X tg (.Call (.Name "range" p) [a] [] pos) (cH PU.Pk sa).m:=⟨pQ (c.g.gl _ f) (c.n z) h.h (bi l)⟩
end
structure CB(Y:Cx)(tg elt:Expr)(ifs:SH)(gt:Mg)(mt:Mx Bool)(me:Mx PV):Prop where
 g:Li Y tg gt
 t:PM Y ifs mt
 e:kc Y elt me
section
variable{iter elt:Expr}{ifs:SH}{scope:Scope}{nv:Nat}{fm ws':SV}{xi:Xi ws}{gt:Xg ws'}{xt:Xt ws'}{xe:Xe ws'}
abbrev RK(N:SQ)(tg:Expr)(nv:Nat)(fm:SV)(scope sc:Scope):Prop:=Ji scope sc (E2 tg) (Jl N fm)/\(E2 tg++Jl N fm).Nodup/\(∀x∈DG (HG scope sc),scope.names.lookup x=J .globalImplicit)/\(∀x∈(E2 tg++Jl N fm)++DG (HG scope sc),(x==("__debug__":Str))=T/\(x==("__classdict__":Str))=T/\x≠"__name__")/\fm.map (λi=>N[i]?)=(Jl N fm).map J/\(E2 tg).length=nv
section
variable(c:Wc X P w K mg base N W k sc)
include c
def HZ{hw:PU.Bv nv fm ws=ws'}{G:xe.fz=I}(u:HL X tg iter xi.m)(M:∀Y:Cx,Wc Y P w K mg base (E2 tg++Jl N fm) (E2 tg) k (HG scope sc)->CB Y tg elt ifs gt.m xt.m xe.m)(B:scope.kind=.function)(h:RK N tg nv fm scope sc)(H:∀x,foldedSetIterable iter X.env x=pure x):kc X (.ListComp elt [⟨tg,iter,ifs,0⟩] scope pos) (aV nv fm xi gt xt xe hw G).m:=by
 obtain⟨Q,nd,L,dbg,C,rfl⟩:=h;exact⟨pf c.g (gA c.s B C Q) nd L dbg u.h (λY l f E O F z g=>let q:=M Y ⟨g,⟨l.trans c.e.e1,f.trans c.e.e2,E.trans c.e.e3,O.trans c.e.e4,F.trans c.e.e5,c.e.b⟩,z.trans (oB c.s)⟩;⟨q.g.h,q.t.h,q.e.h⟩) H⟩
end
section
variable(c:Wc X P w K mg base N W k sc)(hsw:∀env:Env,env.scope=sc->swapsWith (.ListComp elt [⟨tg,iter,ifs,0⟩] scope pos) (some (.Name y p)) spos.line env=pure true)(hi:HL X tg iter xi.m)(hY:∀Y:Cx,Wc Y P w K mg base (E2 tg++Jl N fm) (E2 tg) k (HG scope sc)->CB Y tg elt ifs gt.m xt.m xe.m)(hyi:N[i]?=some y)(hyw:W[i]?=some y)(h1:scope.kind=.function)(h:RK N tg nv fm scope sc)(hs:∀x,foldedSetIterable iter X.env x=pure x)
include hsw hi hY c hyi hyw h1 h hs
def DK:zX X (.Assign [.Name y p] (.ListComp elt [⟨tg,iter,ifs,0⟩] scope pos) spos) (ba i (bN nv fm xi.m gt.m xt.m xe.m)):=by obtain⟨E,nd,f,dbg,F,rfl⟩:=h;exact⟨oV c.g i hyi hyw (hsw X.env c.s) (gA c.s h1 F E) nd f dbg hi.h (λY u l G z B C g=>let q:=hY Y ⟨g,⟨u.trans c.e.e1,l.trans c.e.e2,G.trans c.e.e3,z.trans c.e.e4,B.trans c.e.e5,c.e.b⟩,C.trans (oB c.s)⟩;⟨q.g.h,q.t.h,q.e.h⟩) hs⟩
def H_{hw:PU.Bv nv fm ws=ws'}{f:xe.fz=I}{hi' hz'}:zX X (.Assign [.Name y p] (.ListComp elt [⟨tg,iter,ifs,0⟩] scope pos) spos) (bh i (aV nv fm xi gt xt xe hw f) hi' hz').m:=DK c hsw hi hY hyi hyw h1 h hs
end
end
def Qj:nr X [] (ki (ws:=ws)).m:=⟨gH⟩
def eZ(h:zX X st da.m):nr X [st] da.m:=AO h
def dR(f:zX X st da.m)(l:nr X rest db.m):nr X (st::rest) (aM da db).m:=v_ f l
def Ia{hi hz}(u:kc X e xa.m)(z:kc X a (aa (ws:=ws) i).m)(l:kc X b xb.m)(f:swapsWith e (J (.Subscript a b p)) pos.line X.env=pure T):zX X (.Assign [.Subscript a b p] e pos) (jY i xb xa hi hz).m:=⟨Dk z.h l.h u.h f⟩
def LW(h:kc X e xa.m):zX X (.Return (J e) pos) (aW xa).m:=BY h
def Ib{hi}(h:kc X e (aa (ws:=ws) i).m):zX X (.Return (J e) pos) (oA (ws:=ws) i hi).m:=BY h
def Ic(h:kc X e xa.m)(f:swapsWith e none pos.line X.env=pure T):zX X (.Expr e pos) (qP xa).m:=⟨gG h.h f⟩
def Qk(f:Bz X e ta.m)(l:nr X body da.m)(u:nr X rest db.m):zX X (.If e body rest pos) (wL ta da db).m:=⟨jv f.h l.h u.h⟩
def LX:zX X st (oT (ws:=ws)).m:=⟨HE⟩
section
variable(c:Wc X P w K mg base N W k sc)
include c
def LY{l:Xi ws}{f:Xg ws}{hz}(z:HL X tg e l.m)(u:Li X tg f.m)(B:nr X body da.m)(C:∀x,foldedSetIterable e X.env x=pure x):zX X (.For tg e body [] pos) (iI l f da hz).m:=⟨jd c.g z.h u.h B.h C⟩
def Ql{n hm}(f:Bz X e ta.m)(l:nr X body da.m):zX X (.While e body [] pos) (Jf n ta da hm).m:=⟨An c.g f.h l.h⟩
def Ie{hi' hz}(l:kc X e xa.m)(f:swapsWith e (J (.Name x p)) pos.line X.env=pure T)(u:N[i]?=J x)(hw:W[i]?=J x):zX X (.Assign [.Name x p] e pos) (f9 i xa hi' hz).m:=⟨rA c.g i u hw l.h f⟩
def Ig{hi' hz}(l:∀env:Env,env.scope=sc->swapsWith e (J (.Name x p)) pos.line env=pure T)(u:kc X e xa.m)(f:N[i]?=J x)(hw:W[i]?=J x):zX X (.Assign [.Name x p] e pos) (bh i xa hi' hz).m:=⟨rA c.g i f hw u.h (l _ c.s)⟩
def LZ{x y:Str}{u py pt f:Pos}{kt k2}{hi' hj' hz}(hw:∀env:Env,env.scope=sc->swappedStores [.Tuple [.Name x u,.Name y py] kt pt] (.Tuple [a,b] k2 f) env=pure (J [x,y]))(z:AN X [a,b] sa.m)(C:N[i]?=J x)(E:N[j]?=J y)(l:i≠j)(F:sc.names.lookup x=J .local)(B:sc.names.lookup y=J .local)(G:swapsWithSole [.Tuple [.Name x u,.Name y py] kt pt] (.Tuple [a,b] k2 f) pos.line X.env=pure T):zX X (.Assign [.Tuple [.Name x u,.Name y py] kt pt] (.Tuple [a,b] k2 f) pos) (oY i j sa hi' hj' hz).m:=⟨Gi c.g i j C E l z.h (by rw[c.s];exact F) (by rw[c.s];exact B) (hw _ c.s) G⟩
end
def Qm{np:Nat}{F:SM->MH->SK}(N:SQ)(b:Ba P w K mg base)(D:d_ K x st)(f:eU x st (N.take np):=by first | exact λ_ _ _ _ _ _=>Lh λ_=>rfl | exact λ_ _ _ _ _ _=>Nw λ_ _=>rfl | exact λ_ _ _ _ _ _=>Nx λ_ _ _=>rfl | exact λ_ _ _ _ _ _=>Ny λ_ _ _ _=>rfl | exact λ_ _ _ _ _ _=>ar5 λ_ _ _ _ _=>rfl)(S:p0 N (N.take np) (ah st):=by exact⟨rfl,rfl,rfl,by decide +kernel,rfl,by decide +kernel,by decide +kernel⟩)(hl:∀y∈N,(ah st).names.lookup y=J .local\/(ah st).names.lookup y=J .cell:=by decide +kernel)(dbg:∀x∈N++[],(x==("__debug__":Str))=T/\(x==("__classdict__":Str))=T/\x≠"__name__":=by decide +kernel)(l:F=b7 N.length (N.take np).length λ_ _=>.bad:=by rfl):FnAt P w K mg base x (N.take np) F (k+1):=by
 subst l;exact nJ (G:=[]) b.kin b.ns D S f hl (λ_ h=>nomatch h) dbg λX e1 e2 e3 e4 e5 u g z=>Dg
def wr{F:Fn}{f:Nat}{ws:SV}{B:Xd ws}{hw}(N:SQ)(b:Ba P w K mg base)(D:d_ K x st)(H:∀X:Cx,Wc X P w K mg base N N k (ah st)->io X->nr X (aE st) B.m)(E:F=bC N.length f B hw:=by rfl)(z:eU x st (N.take f):=by first | exact λ_ _ _ _ _ _=>Lh λ_=>rfl | exact λ_ _ _ _ _ _=>Nw λ_ _=>rfl | exact λ_ _ _ _ _ _=>Nx λ_ _ _=>rfl | exact λ_ _ _ _ _ _=>Ny λ_ _ _ _=>rfl | exact λ_ _ _ _ _ _=>ar5 λ_ _ _ _ _=>rfl)(S:p0 N (N.take f) (ah st):=by exact⟨rfl,rfl,rfl,by decide +kernel,rfl,by decide +kernel,by decide +kernel⟩)(hl:∀y∈N,(ah st).names.lookup y=J .local\/(ah st).names.lookup y=J .cell:=by decide +kernel)(l:∀y∈DG (ah st),(ah st).names.lookup y=J .globalImplicit:=by decide +kernel)(dbg:∀x∈N++DG (ah st),(x==("__debug__":Str))=T/\(x==("__classdict__":Str))=T/\x≠"__name__":=by decide +kernel)(u:(N.take f).length=f:=by rfl):
  FnAt P w K mg base x (N.take f) F.m (k+1):=by
 have q:=nJ b.kin b.ns D S z hl l dbg λX e1 e2 e3 e4 e5 C g G=>(H X ⟨g,⟨e1,e2,e3,e4,e5,b⟩,C⟩ G).h;rw[u]at q;subst E;exact q
end
end MM
namespace SortT
open PyProof.Rows PySem.W
section
variable{prog:Program}{w:World}{A:Around}{E:Sh}{s:Shared}{rk:Value->Int}{vs:SA}
end
end SortT
namespace SortT
end SortT
namespace MM
open PySem.Spec PyProof.Rows L2
section
variable{α β:Type}
end
inductive T3(K:h8)(U:SX)(H:Hp):SM->List V->SA->List (PV×V×Value)->Prop
 |nil:T3 K U H [] [] [] []
 |cons{x:PV}{y:V}{u:Value}{xs:SM}{ys:List V}{us:SA}{ts:List (PV×V×Value)}(r:RP K U H x y)(v:aL y u)(t:T3 K U H xs ys us ts):T3 K U H (x::xs) (y::ys) (u::us) ((x,y,u)::ts)
section
variable{K:h8}{U:SX}{H:Hp}
end
section
variable{X:Cx}
end
end MM
namespace PU
open MM
section
variable{q:Nat}{h:MH}{O:SV}
end
end PU
namespace MM
open L2
end MM
namespace TupM
open PySem.Builtin
section
open PyProof.Rows
variable{prog:Program}{w:World}{A:Around}{E:Sh}{s:Shared}
def zc{t b:Addr}{z:SA}{Q:Sh}(F:IsTup s.heap t ([]:SA).toArray)(L:IsTup s.heap b z.toArray)(h:Q (.ref b) s):wpAny (model prog w) A (binaryOp .Add (.ref t) (.ref b)) Q E s:=by
 obtain⟨⟨cls,dd,C,G⟩,u,B,n,hd⟩:=id F;obtain⟨⟨y,j,data2,l⟩,f,i,H,a⟩:=id L;simp only at B hd i a;subst B hd i a;exact concat_meets ⟨_,u,rfl⟩ ⟨_,f,rfl⟩ noFill_tuple_add seq_tuple_add PySem.F.slot_tuple_add PySem.F.entry_tuple_add (PySem.F.args_tuple_add_2 _ _)
   (tuple_addW0 t b ([]:SA).toArray z.toArray n H dd j G l (by simp)) ⟨u,f,h⟩
end
end TupM
namespace L2
open PySem.Spec PyProof.Rows TupM
section
variable{X:Cx}
def L0(K:h8):R2:=λx y H Q=>∃a b ys,x=.ref a/\y=.ref b/\SqT K H a []/\SqT K H b ys/\Q (.ref b) H
def DL:OpR X (binaryOp .Add) (L0 X.K):=by intro L s Z H x y v u Q f F E h;obtain⟨a,b,ys,rfl,rfl,B,G,q⟩:=h;cases F;cases E;obtain⟨j,z,l,_⟩:=f.tuple B;obtain⟨i,M,C,_⟩:=f.tuple G;cases z;exact zc l C ⟨.ref b,H,f,rfl,q⟩
end
end L2
namespace MM
open PySem.Spec PyProof.Rows L2
def vH(x y:PV)(h:MH):SK:=match x,y with
 |.tup [],.tup ys=>.ok (.tup ys) h
 |x,y=>i_ x y h
section
variable{X:Cx}{U:SX}{H:Hp}
def DM:wj X (binaryOp .Add) vH:=by
 intro l s Z H L M u v Q a i f ⟨U,h,x,y,B,C,z,q⟩;unfold vH at q
 split at q
 .cases C with
  |tup F E =>
   cases z with
   |tup j G =>
    cases E;exact DL l s Z H _ _ u v Q a i f ⟨_,_,_,rfl,rfl,F,j,q U H _ (Le.refl _ _) B (.tup j G)⟩
 .exact bT l s Z H L M u v Q a i f ⟨U,h,x,y,B,C,z,q⟩
end
end MM
namespace PU
open MM
noncomputable section
def oo:vZ where
 m:=vH
 p:=λa b=>match a,b with
  |.tup [],.tup y=>J (.tup y)
  |a,b=>cc.p a b
 fr:=I
 ok {q h L O a x b y d} bd wa wb e:=by
  by_cases z:(∃j,b=.tup j)/\a=.tup []
  .obtain⟨⟨j,rfl⟩,rfl⟩:=z;cases e;obtain⟨xs,rfl,r⟩:=wa.tup;obtain⟨ys,rfl,B⟩:=wb.tup
   have:xs=[]:=r
   subst this;exact EY ⟨_,rfl,B⟩ λ_ k _ e=>by cases k<;>cases e
  .have f:cc.p a b=J d:=by
    revert e;split
    .exact absurd ⟨⟨_,rfl⟩,rfl⟩ z
    .exact id
   have:vH x y h=i_ x y h:=by
    unfold vH;split
    .exfalso
     cases a with
     |tup u =>
      obtain⟨xs,ex,r⟩:=wa.tup;cases ex
      have:=r.length
      cases u with
      |nil =>
       cases b with
       |tup bs=>exact z ⟨⟨_,rfl⟩,rfl⟩
       |_=>cases f
      |cons _ _=>simp at this
     |int i=>have:=wa.int;cases this
     |lst l=>obtain⟨n,xs,ex,_⟩:=wa.lst;cases ex
     |_=>cases f
    .rfl
   show Gv q h O I (vH x y h) d;rw[this];exact cc.ok bd wa wb f
end
end PU
namespace MM
open L2
def Ih{X:L2.Cx}:OJ X (binaryOp .Add) PU.oo:=⟨DM⟩
end MM
namespace PU
open MM
open L2 (vq n3 gQ)
noncomputable section
abbrev Rd:=Option (SS)×SW
def eM(rd:List Rd):D:=.lst (rd.map λr=>dl r.1 r.2)
structure Gr(h:MH)(L a:Nat)(ms:SV)(rd:List Rd):Prop where
 top:h[a]?=J (.lst (ms.map .loc))
 len:ms.length=rd.length
 nd:(a::ms).Nodup
 ge:∀m∈a::ms,L<=m
 row:∀(i:Nat)(r:Rd),rd[i]?=J r->e_ r.2=I/\∃m xs,ms[i]?=J m/\h[m]?=J (mo r.1 xs)/\Rps 0 [] [] r.2 xs
def sL{q:Nat}{h:MH}{O:SV}:∀{f:SW}{a:SM},a.length=f.length->(∀(i:Nat) d v,f[i]?=J d->a[i]?=J v->Rp q h O d v)->Rps q h O f a
 |[],[],_,_=>rfl
 |[],_::_,hl,_=>by simp at hl
 |_::_,[],hl,_=>by simp at hl
 |d::f,v::a,hl,r=>⟨v,a,rfl,r 0 d v rfl rfl,sL (by simpa using hl) λi d v e1 e2=>r (i+1) d v (by simpa using e1) (by simpa using e2)⟩
def Rp.dl{q:Nat}{h:MH}{O:SV}{k:Option (SS)}{a:SW}{xs:SM}{m:Nat}(no:m∉O)(e:h[m]?=J (mo k xs))(r:Rps q h O a xs):Rp q h O (dl k a) (.loc m):=by
 cases k with
 |none=>exact⟨m,xs,rfl,no,e,r⟩
 |some f=>exact⟨m,xs,rfl,no,e,r⟩
mutual
def Rp.fq{p j:Nat}{h a:MH}{O i:SV}:∀{d:D}{v:PV},PU.flat d=I->Rp p h O d v->Rp j a i d v
 |.non,_,_,r=>r
 |.bl _,_,_,r=>r
 |.int _,_,_,r=>r
 |.str _,_,_,r=>r
 |.tup l,_,f,⟨xs,e,r⟩=>⟨xs,e,Rps.fq (by simpa [PU.flat]using f) r⟩
 |.lst l,_,f,_=>by simp[PU.flat]at f
 |.dic _ _ _,_,f,_=>by simp[PU.flat]at f
 |.exc _,_,f,_=>by simp[PU.flat]at f
 |.pen,_,f,_=>by simp[PU.flat]at f
def Rps.fq{p y:Nat}{h l:MH}{O u:SV}:∀{i:SW}{j:SM},PU.e_ i=I->Rps p h O i j->Rps y l u i j
 |[],_,_,r=>r
 |_::_,_,f,⟨x,t,e,a,b⟩=>⟨x,t,e,Rp.fq (by simp[PU.e_]at f;exact f.1) a,Rps.fq (by simp[PU.e_]at f;exact f.2) b⟩
end
section
variable{h h':MH}{L a:Nat}{ms:SV}{rd:List Rd}{O:SV}{q:Nat}
def Gr.lt(g:Gr h L a ms rd):∀m∈a::ms,m<h.length:=λm f=>by
 rcases pu.mp f with rfl|f
 .exact ao g.top
 .obtain⟨i,j,rfl⟩:=Ms f;have hl:=g.len;obtain⟨_,m,xs,e1,e2,_⟩:=g.row i (rd[i]'⋯) (vp ⋯);rw[vp j]at e1;cases e1;exact ao e2
def Gr.rp(g:Gr h L a ms rd)(no:∀m∈a::ms,m∉O):Rp q h O (eM rd) (.loc a):=by refine⟨a,ms.map .loc,rfl,no a (by simp),g.top,sL (by simp[g.len]) λi d v e1 e2=>?_⟩;rw[qb,vz]at e1 e2;obtain⟨r,j,rfl⟩:=e1;obtain⟨m,em,rfl⟩:=e2;obtain⟨l,u,xs,e3,e4,f⟩:=g.row i r j;rw[em]at e3;cases e3;exact Rp.dl (no m (n_ _ (Ap em))) e4 (Rps.fq l f)
def Gr.keep(g:Gr h L a ms rd)(k:∀m∈a::ms,h'[m]?=h[m]?):Gr h' L a ms rd :=
 ⟨(k a (by simp)).trans g.top,g.len,g.nd,g.ge,λi r e=>let⟨f,m,xs,e1,e2,e3⟩:=g.row i r e;⟨f,m,xs,e1,(k m (n_ _ (Ap e1))).trans e2,e3⟩⟩
def Gr.put(g:Gr h L a ms rd){i m:Nat}{r':Rd}{l:SM}(u:ms[i]?=J m)(H:e_ r'.2=I)(e:h'[m]?=J (mo r'.1 l))(E:Rps 0 [] [] r'.2 l)(k:∀n∈a::ms,n≠m->h'[n]?=h[n]?):Gr h' L a ms (rd.set i r'):=by
 have G:=Ap u;have nd:=g.nd;rw[z_]at nd;have ne:a≠m:=λz=>nd.1 (z▸G);refine⟨(k a (by simp) ne).trans g.top,by simp[g.len],g.nd,g.ge,λj r B=>?_⟩;have F:i<rd.length:=by have:=(nw.mp u).1;rw[g.len]at this;exact this
 by_cases z:i=j
 .subst z;rw[wv F]at B;cases B;exact⟨H,m,l,u,e,E⟩
 .rw[pa z]at B;obtain⟨f,C,xs,e1,e2,e3⟩:=g.row j r B
  have:C≠m:=λy=>z ((Fj (i:=i) (j:=j) (nw.mp u).1 nd.2).mp (by rw[u,e1,y]))
  exact⟨f,C,xs,e1,(k C (n_ _ (Ap e1)) this).trans e2,e3⟩
end
def Kp(i:Nat)(o:SOut)(Z:m_):Prop:=match o with
 |.nx a _=>a[i]?=Z[i]?
 |.bk a _=>a[i]?=Z[i]?
 |.ct a _=>a[i]?=Z[i]?
 |_=>True
def uP{n:Nat}{a:SW}{i:Nat}{d:D}(e:(kx n a)[i]?=J (J d)):a[i]?=J d:=by
 unfold kx at e;by_cases z:i<a.length
 .rw[p_ (by simpa using z),qb,vz]at e;obtain⟨x,e1,e2⟩:=e;cases e2;exact e1
 .rw[AR (by simp;lia),Fc]at e
  split at e<;>cases e
def kO:∀{a:SW}{d:D},e_ a=I->d∈a->flat d=I
 |[],_,_,h=>nomatch h
 |x::a,d,f,h=>by
  simp[e_]at f;rcases pu.mp h with rfl|h
  .exact f.1
  .exact kO f.2 h
def zO{q:Nat}{h:MH}{O:SV}{s P:c_}{B:Xd [0]}{n np m:Nat}{k k':Option (SS)}{ds ds' as:SW}{vs xs:SM}{u:am}(bd:∀o∈O,o<m)(hq:q∈O)(pn:aX h q s)(g:h[m]?=J (mo k xs))(fl:e_ ds=I)(r:Rps 0 [] [] ds xs)(fa:e_ as=I)(L:Rps 0 [] [] as vs)(X:as.length+1=np)(hn:np<=n)(kp:∀Z h,Kp 0 (B.m Z h) Z)(e:B.p (kx n (dl k ds::as)) s=.nx u P)(e0:u[0]?=J (J (dl k' ds'))):
  ∃l,b7 n np B.m (.loc m::vs) h=.ok .non l/\h.length<=l.length/\(∀j,j<h.length->j≠m->j≠q->l[j]?=h[j]?)/\aX l q P/\∃H f,l[m]?=J (mo k' f)/\Rps q l H ds' f:=by
 have hm:=ao g;have vl:vs.length=as.length:=L.length;have c:Cx q h m O (m::O) [0] (be n (.loc m::vs)) (kx n (dl k ds::as)) s:=by
  refine⟨λo C=>?_,λo C=>n_ _ C,bd,hq,⋯,pn,?_,λi d a y=>?_,λi d a y=>?_⟩
  .rcases pu.mp C with rfl|C
   .exact hm
   .have:=bd o C;lia
  .simp[be,kx,vl]
  .have a:=uP a
   cases i with
   |zero=>simp at y
   |succ i =>
    have a:as[i]?=J d:=a;obtain⟨v,U,rv⟩:=L.get a;have fd:flat d=I:=by exact kO fa (Ap a)
    exact⟨v,by obtain⟨l1,W⟩:=nw.mp U;simp[be,List.getElem?_append,l1,W],Rp.fq fd rv⟩
  .have:i=0:=by simpa using y
   subst this;have a:=uP a;cases a;exact⟨m,k,xs,ds,rfl,rfl,by simp,jj _,g,Rps.fq fl r⟩
 have kk:=B.ok c λi j y G ne=>absurd (by simp at y G;lia) ne;rw[e]at kk;obtain⟨Z',l,M,H,st,Q,_⟩:=kk;have E:=kp (be n (.loc m::vs)) h;rw[M]at E;have E:Z'[0]?=J (J (.loc m)):=E;obtain⟨n',S,f,F,e2,R,_,_,g',r'⟩:=Q.sr.ow 0 _ e0 (by simp);rw[E]at R;cases R
 have:k'=S/\ds'=F:=by cases k'<;>cases S<;>cases e2<;>exact⟨rfl,rfl⟩
 obtain⟨rfl,rfl⟩:=this;refine⟨l,?_,st.len,λj G n1 n2=>?_,Q.pen,H,f,g',r'⟩
 .rw[d3 (by simp[vl];lia),M];rfl
 .by_cases z:j∈m::O
  .rcases pu.mp z with rfl|z
   .exact absurd rfl n1
   .exact st.base j (bd j z) n2
  .exact st.mv.keep j G z
end
end PU
namespace MM
open PySem.Spec PyProof.Rows L2
def Qn{P:Program}{w:World}{K:h8}{mg:Si}{base:Heap}{x:Str}{st:Stmt}{k:Nat}{np:Nat}{j:SV}{B:PU.Xd j}(N:SQ)(b:Ba P w K mg base)(D:d_ K x st)(z:∀X:Cx,Wc X P w K mg base N N k (ah st)->io X->nr X (aE st) B.m)(i:eU x st (N.take np):=by first | exact λ_ _ _ _ _ _=>Lh λ_=>rfl | exact λ_ _ _ _ _ _=>Nw λ_ _=>rfl | exact λ_ _ _ _ _ _=>Nx λ_ _ _=>rfl | exact λ_ _ _ _ _ _=>Ny λ_ _ _ _=>rfl | exact λ_ _ _ _ _ _=>ar5 λ_ _ _ _ _=>rfl)(S:p0 N (N.take np) (ah st):=by exact⟨rfl,rfl,rfl,by decide +kernel,rfl,by decide +kernel,by decide +kernel⟩)(hl:∀y∈N,(ah st).names.lookup y=J .local\/(ah st).names.lookup y=J .cell:=by decide +kernel)(a:∀y∈DG (ah st),(ah st).names.lookup y=J .globalImplicit:=by decide +kernel)(dbg:∀x∈N++DG (ah st),(x==("__debug__":Str))=T/\(x==("__classdict__":Str))=T/\x≠"__name__":=by decide +kernel)(f:(N.take np).length=np:=by rfl):
  FnAt P w K mg base x (N.take np) (b7 N.length np B.m) (k+1):=by
 have q:=nJ b.kin b.ns D S i hl a dbg λX e1 e2 e3 e4 e5 l g u=>(z X ⟨g,⟨e1,e2,e3,e4,e5,b⟩,l⟩ u).h;rw[f]at q;exact q
end MM
namespace Law
open PySem.Spec PyProof.Rows L2 MM
set_option maxHeartbeats 4000000
noncomputable section
def x4:mh:=(aR (ba 2 (au i_ (au jn (mC (.int 7919)) (ag 1)) (mC (.int 11))))
 (aR (A9 (mB (au BO (ag 1) (p6 wq (af (p6 qo (af (ag 0) g_)) (af (mC (.int 63)) g_))))) (ba 2 (au bc (ag 0) (ag 1))) (A9 (mB (au BP (p6 qo (af (ag 0) g_)) (mC (.int 0)))) (ba 2 (au i_ (au mm (au bc (ag 0) (au mm (ag 1) (p6 wq (af (p6 qo (af (ag 0) g_)) (af (mC (.int 63)) g_))))) (au rg (mC (.int 10)) (mC (.int 15)))) (au jn (mC (.int 48271)) (ag 1)))) n7))
 (aR (A9 (mB (au Bt (p6 AC (af (ag 2) g_)) (au rg (mC (.int 10)) (mC (.int 18))))) (bQ (f7 (af (mC (.int 1)) (af (p6 AC (af (ag 2) g_)) (af (mC (.int 0)) g_))))) n7)
 (bQ (f7 (af (mC (.int 0)) (af (au i_ (au mm (ag 2) (mC (.int 2147483587))) (au jn (mC (.int 40009)) (ag 1))) (af (mC (.int 0)) g_))))))))
def gF:SM->MH->SK:=b7 3 2 x4
def vn:mh:=(aR (oX (au i_ (au bc (ag 0) (mC (.int 2))) (mC (.int 1))) (Gj (ag 0) (mC (.int 2))))
 (aR (A9 (mB (au zM (au bc (ag 0) (mC (.int 0))) (mC (.int 1)))) (aR (ba 3 (au mm (au bc (ag 0) (mC (.int 1))) (ag 1)))
 (aR (oX (au A_ (au bc (ag 0) (mC (.int 1))) (ag 1)) (Gj (ag 0) (mC (.int 1))))
 (bQ (ag 3)))) n7)
 (aR (ba 2 (au mm (au jn (au i_ (au i_ (au bc (ag 0) (mC (.int 1))) (au jn (mC (.int 40503)) (au bc (ag 0) (mC (.int 2))))) (mC (.int 1))) (mC (.int 48271))) (mC (.int 2147483647))))
 (aR (ba 2 (au mm (au jn (ag 2) (au i_ (au i_ (au mm (ag 2) (mC (.int 65521))) (au bc (ag 0) (mC (.int 2)))) (mC (.int 3)))) (mC (.int 2147483629))))
 (bQ (au mm (au A_ (au mm (au jn (ag 2) (au i_ (au mm (ag 2) (mC (.int 8191))) (mC (.int 7)))) (mC (.int 2147483563))) (mC (.int 64))) (ag 1)))))))
def cz:SM->MH->SK:=b7 4 2 vn
end
end Law
namespace Law
open MM PU
open L2 (vq n3 gQ)
set_option maxHeartbeats 4000000
noncomputable section
def eN:Xd []:=(aW (iC (v4 (b8 ["int"]) (aa 0)) (nM (v4 (b8 ["bool"]) (aa 0)))))
def cu:Fn:=bC 1 1 eN
def tW{a:SW}{s:c_}(h:a.length=1):cu.p a s=(eN.p (kx 1 a) s).fin:=aU h
def bR:Xd []:=(aM (Jf 2000000 (xB (ae zI (aa 1) (xC (.int 0)))) (aM (bh 2 (ae m6 (aa 0) (aa 1)))
 (aM (bh 0 (aa 1))
 (bh 1 (aa 2)))) i9)
 (aW (aa 0)))
def bU:Fn:=bC 3 2 bR
def kW{a:SW}{s:c_}(h:a.length=2):bU.p a s=(bR.p (kx 3 a) s).fin:=aU h
def dJ:Xd []:=(aM (wL (BX (eY (xB (av cu (ac (aa 0) a_)))) (eY (xB (av cu (ac (aa 1) a_))))) oT ki)
 (aM (wL (xB (ae zb (aa 1) (xC (.int 0)))) oT ki)
 (aM (bh 2 (av bU (ac (o_ pe (ac (aa 0) a_)) (ac (o_ pe (ac (aa 1) a_)) a_))))
 (aM (wL (xB (ae Ho (aa 1) (xC (.int 0)))) (bh 2 (v4 mH (aa 2))) ki)
 (aW (bn (ac (ae Dq (aa 0) (aa 2)) (ac (ae Dq (aa 1) (aa 2)) a_))))))))
def bt:Fn:=bC 3 2 dJ
def rL{a:SW}{s:c_}(h:a.length=2):bt.p a s=(dJ.p (kx 3 a) s).fin:=aU h
def kJ:Xd []:=(aW (av bt (ac (ae cc (ae bp (ae l_ (aa 0) (xC (.int 0))) (ae l_ (aa 1) (xC (.int 1)))) (ae bp (ae l_ (aa 1) (xC (.int 0))) (ae l_ (aa 0) (xC (.int 1))))) (ac (ae bp (ae l_ (aa 0) (xC (.int 1))) (ae l_ (aa 1) (xC (.int 1)))) a_))))
def dG:Fn:=bC 2 2 kJ
def DN{a:SW}{s:c_}(h:a.length=2):dG.p a s=(kJ.p (kx 2 a) s).fin:=aU h
def iW:Xd []:=(aW (av bt (ac (ae tD (ae bp (ae l_ (aa 0) (xC (.int 0))) (ae l_ (aa 1) (xC (.int 1)))) (ae bp (ae l_ (aa 1) (xC (.int 0))) (ae l_ (aa 0) (xC (.int 1))))) (ac (ae bp (ae l_ (aa 0) (xC (.int 1))) (ae l_ (aa 1) (xC (.int 1)))) a_))))
def jc:Fn:=bC 2 2 iW
def yT{a:SW}{s:c_}(h:a.length=2):jc.p a s=(iW.p (kx 2 a) s).fin:=aU h
def iX:Xd []:=(aW (av bt (ac (ae bp (ae l_ (aa 0) (xC (.int 0))) (ae l_ (aa 1) (xC (.int 0)))) (ac (ae bp (ae l_ (aa 0) (xC (.int 1))) (ae l_ (aa 1) (xC (.int 1)))) a_))))
def cP:Fn:=bC 2 2 iX
def zm{a:SW}{s:c_}(h:a.length=2):cP.p a s=(iX.p (kx 2 a) s).fin:=aU h
def lf:Xd []:=(aW (av bt (ac (ae bp (ae l_ (aa 0) (xC (.int 0))) (ae l_ (aa 1) (xC (.int 1)))) (ac (ae bp (ae l_ (aa 0) (xC (.int 1))) (ae l_ (aa 1) (xC (.int 0)))) a_))))
def ic:Fn:=bC 2 2 lf
def DO{a:SW}{s:c_}(h:a.length=2):ic.p a s=(lf.p (kx 2 a) s).fin:=aU h
def eP:Xd []:=(aW (iC (av cu (ac (aa 1) a_)) (nI Pc Ho (xC (.int 0)) (aa 1) (aa 0))))
def dA:Fn:=bC 2 2 eP
def tX{a:SW}{s:c_}(h:a.length=2):dA.p a s=(eP.p (kx 2 a) s).fin:=aU h
def eD:Xd []:=(aM (wL (eY (xB (v4 (b8 ["list"]) (aa 1)))) (aW (xC (.bl T))) ki)
 (aM (wL (eY (xB (o_ oN (ac (aV 1 [0] (bx (aa 1)) (ws':=[]) (j_ 0) ti (av dA (ac (ae l_ (aa 1) (xC (.int 0))) (ac (aa 0) a_)))) a_)))) (aW (xC (.bl T))) ki)
 (aW (ae zb (o_ cQ (ac (aa 1) a_)) (o_ Nt (ac (ae l_ (aa 0) (xC (.int 0))) a_))))))
def eR:Fn:=bC 2 2 eD
def tP{a:SW}{s:c_}(h:a.length=2):eR.p a s=(eD.p (kx 2 a) s).fin:=aU h
def cL:Xd []:=(wL (eY (xB (av eR (ac (aa 0) (ac (aa 1) a_))))) oT ki)
def cM:Fn:=bC 2 2 cL
def pc{a:SW}{s:c_}(h:a.length=2):cM.p a s=(cL.p (kx 2 a) s).fin:=aU h
def bj:Xd [0]:=(iI (bx (aa 2)) (vg (mu (j_ 3) (mu (j_ 4) va)) 2) (jY 0 (aa 3) (av dG (ac (Bf (aa 0) (ac (aa 3) (ac (ze 0 1) a_))) (ac (av cP (ac (aa 1) (ac (aa 4) a_))) a_)))))
def iO:SM->MH->SK:=b7 5 3 bj.m
def eB:Xd []:=(aW (o_ cE (ac (aV 1 [0] (bx (aa 1)) (ws':=[]) (j_ 0) (xB (ae zI (Bf (aa 1) (ac (aa 0) (ac (ze 0 1) a_))) (ze 0 1))) (bn (ac (aa 0) (ac (ae kE (aa 1) (aa 0)) a_)))) a_)))
def eE:Fn:=bC 2 2 eB
def tR{a:SW}{s:c_}(h:a.length=2):eE.p a s=(eB.p (kx 2 a) s).fin:=aU h
def fL:Xd []:=(aM (bh 3 (Bf (ae l_ (aa 0) (aa 1)) (ac (aa 1) (ac (ze 0 1) a_))))
 (aM (wL (xB (ae zb (aa 3) (ze 0 1))) oT ki)
 (aM (bh 4 (aV 1 [3,1,0] (bx (aa 2)) (ws':=[]) (j_ 0) (xB (ae zI (Bf (ae l_ (aa 3) (aa 0)) (ac (aa 2) (ac (ze 0 1) a_))) (ze 0 1))) (bn (ac (aa 0) (ac (av ic (ac (ae kE (ae l_ (aa 3) (aa 0)) (aa 2)) (ac (aa 1) a_))) a_)))))
 (aW (bn (ac (aa 1) (ac (aa 3) (ac (av eE (ac (ae l_ (aa 0) (aa 1)) (ac (aa 2) a_))) (ac (o_ cE (ac (aa 4) a_)) a_)))))))))
def fY:Fn:=bC 5 3 fL
def vY{a:SW}{s:c_}(h:a.length=3):fY.p a s=(fL.p (kx 5 a) s).fin:=aU h
def lO:Xe []:=(Hj (xB (ae (HH T) (aa 6) (aa 2))) (ae kE (aa 2) (aa 6)) (av fY (ac (aa 3) (ac (aa 6) (ac (o_ cQ (ac (Bm (aa 1) (Bl (ae cc (aa 5) (xC (.int 1)))) Bk) a_)) a_)))) I)
def qT:Xt []:=(xB (ae (HH I) (aa 8) (aa 2)))
def lp:Xe []:=(av jc (ac (ze 0 1) (ac (aa 9) a_)))
def Jm:mh:=A9 qT.m (eS (bI iO (af (au bc (ag 3) (ag 8)) (af lp.m (af (au bc (ag 7) (mC (.int 2))) g_))))) n7
def NB:mh:=aR (ba 7 lO.m) (aR (iP (dB (au bc (ag 7) (mC (.int 3)))) (yW (pq (mf 8) (pq (mf 9) x_)) 2) Jm) (eS (Bi du (ag 4) (af (ag 7) g_))))
def p4:mh:=aR (ba 3 (bN 1 [] (dB (au bc (ag 0) (mC (.int 1)))) (mf 0) oF (p6 y_ (af (ag 0) g_))))
 (aR (ba 4 (f7 g_))
 (aR (iP (rj (af (ag 1) g_)) (yW (pq (mf 5) (pq (mf 6) x_)) 2) NB)
 (bQ (ag 4))))
def dP:SM->MH->SK:=b7 10 3 p4
def g9(rd:List Rd)(j l a:D)(k v st i f:Sj):am:=[J j,J l,J a,J (eM rd),Y,k,v,st,i,f]
def lE(rd:List Rd)(n:Nat)(g f:D)(s:c_):Option (List Rd×c_):=match rd[n]? with
 |some r=>(match bj.p (kx 5 [dl r.1 r.2,g,f]) s with
  |.nx a l=>(match a[0]? with
   |some (J (D.dic T j i))=>if e_ i=I/\flat g=I/\flat f=I then J (rd.set n (J j,i),l)else Y
   |_=>Y)
  |_=>Y)
 |none=>Y
def gP(a y u:D)(k v:Sj)(st z:D):SW->List Rd->Sj->Sj->c_->Option (List Rd×Sj×Sj×c_)
 |[],rd,i,f,s=>J (rd,i,f,s)
 |.tup [.int j,l]::r,rd,_,_,s=>(match qT.p (g9 rd a y u k v (J st) (J (.int j)) (J l)) s with
  |.ok I B=>(match lp.p (g9 rd a y u k v (J st) (J (.int j)) (J l)) B,vq rd.length j with
   |.ok g E,J n=>(match lE rd n g z E with
    |some (C,F)=>gP a y u k v st z r C (J (.int j)) (J l) F
    |none=>Y)
   |_,_=>Y)
  |.ok T B=>gP a y u k v st z r rd (J (.int j)) (J l) B
  |_=>Y)
 |_,_,_,_,_=>Y
def ia(u E C:D):SW->List Rd->SW->Sj->Sj->Sj->c_->Option (SW×c_)
 |[],_,l,_,_,_,s=>J (l,s)
 |.tup [B,z]::r,rd,l,st,i,f,s=>(match lO.p (g9 rd u E C (J B) (J z) st i f) s with
  |.ok (.tup [x,y,a,.tup j]) L=>if flat (.tup [x,y,a,.tup j])=I/\l.length<1000/\flat B=I/\flat z=I then (match gP u E C (J B) (J z) (.tup [x,y,a,.tup j]) a j rd i f L with
   |some (F,M,G,H)=>ia u E C r F (l++[.tup [x,y,a,.tup j]]) (J (.tup [x,y,a,.tup j])) M G H
   |none=>Y)else Y
  |_=>Y)
 |_,_,_,_,_,_,_=>Y
def fR:SW->Option (List Rd)
 |[]=>J []
 |d::r=>(match Lf d,fR r with
  |some a,J t=>if e_ (a.map (·.2))=I then J ((J (a.map (·.1)),a.map (·.2))::t)else Y
  |_,_=>Y)
def NC(l:SW)(s:c_):PR D:=match l with
 |[.tup [n,.tup a],.lst f,i]=>(match fR a with
  |some rd=>if a.length<900 then (match ia (.tup [n,.tup a]) (.lst f) i (aT f) rd [] Y Y Y s with
   |some (u,j)=>.ok (.lst u) j
   |none=>.bad)else .bad
  |none=>.bad)
 |_=>.bad
structure SwI(q:Nat)(h0 h:MH)(s:c_)(a:Nat)(ms:SV)(rd:List Rd)(w:Nat)(wk:SW):Prop where
 len:h0.length<=h.length
 mv:∀n:Nat,n<h0.length->n≠q->h[n]?=h0[n]?
 pen:aX h q s
 gr:Gr h h0.length a ms rd
 wx:∃xs,h[w]?=J (.lst xs)/\Rps 0 [] [] wk xs
 wf:e_ wk=I
 wge:h0.length<=w
 wno:w∉a::ms
def OR(d:Sj)(v:Sl):Prop:=∀x,d=J x->flat x=I/\∃y,v=J y/\Rp 0 [] [] x y
section
variable{q:Nat}{h0 h h':MH}{s s':c_}{a:Nat}{ms:SV}{rd:List Rd}{w:Nat}{wk:SW}{O:SV}{sh od kn:D}{v0 v1 v2:PV}{dk dv dst di df:Sj}{ck cv cst ci cf:Sl}
def SwI.kb(f:SwI q h0 h s a ms rd w wk)(y:q<h0.length)(k:KB q h h')(pn:aX h' q s'):SwI q h0 h' s' a ms rd w wk:=by obtain⟨xs,e,r⟩:=f.wx;have l:=f.len;refine⟨ql f.len k.len,λn u j=>(k.keep n (by ext) j).trans (f.mv n u j),pn,f.gr.keep λm i=>k.keep m (f.gr.lt m i) (by have:=f.gr.ge m i;ext),⟨xs,(k.keep w (ao e) (by have:=f.wge;ext)).trans e,r⟩,f.wf,f.wge,f.wno⟩
def we(j:SwI q h0 h s a ms rd w wk)(bd:∀o∈O,o<h0.length)(C:q∈O)(r:Rps q h0 O [sh,od,kn] [v0,v1,v2])(Q:OR dk ck)(P:OR dv cv)(M:OR dst cst)(G:OR di ci)(E:OR df cf):
  PU.Cx q h h.length O O [] [J v0,J v1,J v2,J (.loc a),J (.loc w),ck,cv,cst,ci,cf] (g9 rd sh od kn dk dv dst di df) s:=by
 have l:=j.len;have mv:Mv O h0 O h:=⟨λn H no=>j.mv n H λz=>no (z▸C),λo u=>.inl u⟩;have B:=r.mv mv;have one:∀{x:Sj}{y:Sl}{d:D},OR x y->x=J d->∃v,J y=J (J v)/\Rp q h O d v:=λ{x y d} o e=>by
  obtain⟨f,v,e2,r⟩:=o d e;exact⟨v,by rw[e2],Rp.fq f r⟩
 refine⟨λo u=>by have:=bd o u;ext,λo u=>u,λo u=>by have:=bd o u;ext,C,jj _,j.pen,rfl,λi d e _=>?_,λi d e F=>by cases F⟩
 match i,e with
 |0,e=>cases e;obtain⟨v,e,q⟩:=B.get (i:=0) rfl;cases e;exact⟨_,rfl,q⟩
 |1,e=>cases e;obtain⟨v,e,q⟩:=B.get (i:=1) rfl;cases e;exact⟨_,rfl,q⟩
 |2,e=>cases e;obtain⟨v,e,q⟩:=B.get (i:=2) rfl;cases e;exact⟨_,rfl,q⟩
 |3,e=>cases e;exact⟨_,rfl,j.gr.rp λm L no=>by have:=j.gr.ge m L;have:=bd m no;ext⟩
 |4,e=>cases e
 |5,e=>exact one Q (by injection e)
 |6,e=>exact one P (by injection e)
 |7,e=>exact one M (by injection e)
 |8,e=>exact one G (by injection e)
 |9,e=>exact one E (by injection e)
 |n+10,e=>simp[g9]at e
def Ii:∀Z h,Kp 0 (bj.m Z h) Z:=by
 have P:∀v Z h,Kp 0 (yW (pq (mf 3) (pq (mf 4) x_)) 2 v Z h) Z:=λv Z h=>by
  unfold yW;split
  .rename_i xs
   split
   .match xs with
    |[]=>trivial
    |[_]=>trivial
    |x::y::r =>
     show Kp 0 (x_ r ((Z.set 3 (J x)).set 4 (J y)) h) Z;unfold x_;split
     .show _=_;rw[pa (by decide),pa (by decide)]
     .trivial
   .trivial
  .trivial
 have H:∀{mo F mv:Mx PV} Z h,Kp 0 (jH mo F mv Z h) Z:=λ{mo F mv} Z h=>by
  simp only[jH,vQ]
  repeat' split
  all_goals first | trivial | rfl
 intro Z h;unfold bj;show Kp 0 (iP _ _ _ Z h) Z;unfold iP vQ;split
 .rename_i G f _
  have:∀(xs:SM) i f,i[0]?=Z[0]?->Kp 0 (vt G (yW (pq (mf 3) (pq (mf 4) x_)) 2) (jY (ws:=[0]) 0 (aa 3) (av dG (ac (Bf (aa 0) (ac (aa 3) (ac (ze 0 1) a_))) (ac (av cP (ac (aa 1) (ac (aa 4) a_))) a_)))).m xs i f) Z:=λxs=>by
   induction xs with
   |nil =>
    intro i f e;unfold vt;split
    .exact e
    .trivial
   |cons x r E =>
    intro i f e;unfold vt;split
    .have k:=P x i f
     cases L:yW (pq (mf 3) (pq (mf 4) x_)) 2 x i f with
     |nx l C =>
      rw[L]at k;have j:=@H (ag 0) (ag 3) ((av dG (ac (Bf (aa 0) (ac (aa 3) (ac (ze 0 1) a_))) (ac (av cP (ac (aa 1) (ac (aa 4) a_))) a_)):Xe [0]).m) l C;dsimp only;generalize M:(jY (ws:=[0]) 0 (aa 3) (av dG (ac (Bf (aa 0) (ac (aa 3) (ac (ze 0 1) a_))) (ac (av cP (ac (aa 1) (ac (aa 4) a_))) a_)))).m l C=o;have B:jH (ag 0) (ag 3) (av dG (ac (Bf (aa 0) (ac (aa 3) (ac (ze 0 1) a_))) (ac (av cP (ac (aa 1) (ac (aa 4) a_))) a_)):Xe [0]).m l C=o:=M;rw[B]at j;have k:l[0]?=i[0]?:=k
      cases o with
      |nx u z=>exact E u z (j.trans (k.trans e))
      |ct u z=>exact E u z (j.trans (k.trans e))
      |bk u z=>exact j.trans (k.trans e)
      |_=>trivial
     |_=>trivial
    .trivial
  exact this G.xs Z f rfl
 all_goals trivial
def Ar{n m:Nat}{g C:D}{F y:PV}{l:List Rd}(f:SwI q h0 h s a ms rd w wk)(bd:∀o∈O,o<h0.length)(L:q∈O)(em:ms[n]?=J m)(U:Rp 0 [] [] g F)(rp:Rp 0 [] [] C y)(e:lE rd n g C s=J (l,s')):
  ∃h',iO [.loc m,F,y] h=.ok .non h'/\SwI q h0 h' s' a ms l w wk:=by
 unfold lE at e
 split at e
 .rename_i r er
  split at e
  .rename_i H s1 eb
   split at e
   .rename_i X ds e0
    split at e
    .rename_i fl
     obtain⟨fd,fg,fp⟩:=fl;cases e;obtain⟨fr,m',xs,i,R,rx⟩:=f.gr.row n r er;rw[em]at i;cases i;have P:=n_ a (Ap em);have al:=f.gr.ge m P;obtain⟨h',e1,W,kp,pn,O',ai,E,G⟩:=zO (B:=bj) (n:=5) (np:=3) (m:=m) (k:=r.1) (k':=J X) (ds:=r.2) (ds':=ds) (as:=[g,C]) (vs:=[F,y]) (λo S=>by have:=bd o S;ext) L f.pen R fr rx (by simp[e_,fg,fp]) ⟨_,_,rfl,U,_,_,rfl,rp,rfl⟩ rfl (by decide) Ii eb e0;have ab:=bd q L;refine⟨h',e1,ql f.len W,λj u Q=>(kp j (by have:=f.len;ext) (by ext) Q).trans (f.mv j u Q),pn,f.gr.put em fd E (Rps.fq fd G) λj u ne=>kp j (f.gr.lt j u) ne (by have:=f.gr.ge j u;ext),?_,f.wf,f.wge,f.wno⟩;obtain⟨Z,M,rw'⟩:=f.wx;exact⟨Z,(kp w (ao M) (λz=>f.wno (z▸P)) (by have:=f.wge;ext)).trans M,rw'⟩
    .cases e
   .cases e
  .cases e
 .cases e
def AB{st i c:D}{l:SW}{z:List Rd×Sj×Sj×c_}(e:gP sh od kn dk dv st i (c::l) rd di df s=J z):∃j x,c=.tup [.int j,x]:=by
 unfold gP at e
 split at e
 .rename_i f;cases f
 .rename_i f;cases f;exact⟨_,_,rfl⟩
 .cases e
def oM{st ps:D}{i:SM}{pv:PV}{S:List Rd}{P Q:Sj}{it:MIt}(C:∀h,it.ok h)(bd:∀o∈O,o<h0.length)(L:q∈O)(r:Rps q h0 O [sh,od,kn] [v0,v1,v2])(k1:OR dk ck)(k2:OR dv cv)(fst:flat st=I)(F:Rp 0 [] [] st (.tup i))(u2:n3 i 2=J pv)(rp:Rp 0 [] [] ps pv):
  ∀(H:SW)(xs:SM)(rd:List Rd)(di df:Sj)(ci cf:Sl)(h:MH)(s:c_),e_ H=I->Rps 0 [] [] H xs->OR di ci->OR df cf->SwI q h0 h s a ms rd w wk->gP sh od kn dk dv st ps H rd di df s=J (S,P,Q,s') ->
  ∃h' u l,vt it (yW (pq (mf 8) (pq (mf 9) x_)) 2) Jm xs [J v0,J v1,J v2,J (.loc a),J (.loc w),ck,cv,J (.tup i),ci,cf] h=.nx [J v0,J v1,J v2,J (.loc a),J (.loc w),ck,cv,J (.tup i),u,l] h'/\SwI q h0 h' s' a ms S w wk/\OR P u/\OR Q l
 |[],xs,rd,di,df,ci,cf,h,s,X,rx,k4,k5,f,e=>by
  unfold gP at e;cases e;rw[show xs=[]from rx];exact⟨h,ci,cf,iS (C h),f,k4,k5⟩
 |c::H,xs,rd,di,df,ci,cf,h,s,X,rx,k4,k5,f,e=>by
  have G:=bd q L;simp only[e_,AZ]at X;obtain⟨j,x,rfl⟩:=AB e;unfold gP at e
  .obtain⟨vx,xr,rfl,ap,rr⟩:=rx;obtain⟨ys,rfl,ry⟩:=ap;obtain⟨y1,yr,rfl,a0,y,as,rfl,ay,R⟩:=ry;rw[show as=[]from R];rw[show y1=PV.int j from a0];have fx:flat x=I:=by simpa [flat,e_]using X.1
   have o4:OR (J (.int j)) (J (.int j)):=λz W=>by cases W;exact⟨rfl,_,rfl,rfl⟩
   have o5:OR (J x) (J y):=λz W=>by cases W;exact⟨fx,_,rfl,ay⟩
   have o3:OR (J st) (J (.tup i)):=λz W=>by cases W;exact⟨fst,_,rfl,F⟩
   have c1:=we f bd L r k1 k2 o3 o4 o5;have Z:=qT.ok c1;rw[gO (C h) (show yW (pq (mf 8) (pq (mf 9) x_)) 2 (.tup [.int j,y]) [J v0,J v1,J v2,J (.loc a),J (.loc w),ck,cv,J (.tup i),ci,cf] h=.nx [J v0,J v1,J v2,J (.loc a),J (.loc w),ck,cv,J (.tup i),J (.int j),J y] h from rfl)]
   split at e
   .rename_i s1 ec
    rw[ec]at Z;obtain⟨b,M,em,kb,pn,rfl⟩:=Z;have U:=f.kb G kb pn
    split at e
    .rename_i gg s2 n eg en
     split at e
     .rename_i al s3 B
      have c2:=we U bd L r k1 k2 o3 o4 o5;have kg:=lp.ok c2;rw[eg]at kg;obtain⟨gv,h2,ab,ax,an,_,rz,_⟩:=kg;have I2:=U.kb G ax an;have fg:flat gg=I:=by
       unfold lE at B
       split at B
       .split at B
        .split at B
         .split at B
          .rename_i z;exact z.2.1
          .cases B
         .cases B
        .cases B
       .cases B
      have nl:n<rd.length:=by exact(L2.lA en).2.1
      obtain⟨m,hm⟩:∃m,ms[n]?=J m:=⟨ms[n]'(by rw[f.gr.len];exact nl),vp _⟩;obtain⟨h3,e3,I3⟩:=Ar I2 bd L hm (Rp.fq fg (rz rfl)) rp B;obtain⟨h4,u,l,e4,I4,q4,q5⟩:=oM C bd L r k1 k2 fst F u2 rp H xr al _ _ _ _ h3 s3 X.2 rr o4 o5 I3 e;refine⟨h4,u,l,?_,I4,q4,q5⟩;have ai:n3 (ms.map PV.loc) j=J (.loc m):=by unfold n3;rw[zx,f.gr.len,en,JA,qb,hm];rfl
      have E:Jm [J v0,J v1,J v2,J (.loc a),J (.loc w),ck,cv,J (.tup i),J (.int j),J y] h=.nx [J v0,J v1,J v2,J (.loc a),J (.loc w),ck,cv,J (.tup i),J (.int j),J y] h3:=by
       have ar:af (au bc (ag 3) (ag 8)) (af lp.m (af (au bc (ag 7) (mC (.int 2))) g_)) [J v0,J v1,J v2,J (.loc a),J (.loc w),ck,cv,J (.tup i),J (.int j),J y] M=.ok [.loc m,gv,pv] h2:=by
        have b1:au bc (ag 3) (ag 8) [J v0,J v1,J v2,J (.loc a),J (.loc w),ck,cv,J (.tup i),J (.int j),J y] M=.ok (.loc m) M:=by simp[fe U.gr.top,ai]
        have b2:au bc (ag 7) (mC (.int 2)) [J v0,J v1,J v2,J (.loc a),J (.loc w),ck,cv,J (.tup i),J (.int j),J y] h2=.ok pv h2:=by simp[u2]
        rw[dQ,b1,Out.bind_ok,dQ,ab,Out.bind_ok,dQ,b2];rfl
       unfold Jm;rw[yd,em,az,b_ rfl,jA,zR,ar,Out.bind_ok,e3];rfl
      rw[E];exact e4
     .cases e
    .cases e
   .rename_i s1 ec
    rw[ec]at Z;obtain⟨b,M,em,kb,pn,rfl⟩:=Z;have U:=f.kb G kb pn;obtain⟨h4,u,l,e4,I4,q4,q5⟩:=oM C bd L r k1 k2 fst F u2 rp H xr rd _ _ _ _ M s1 X.2 rr o4 o5 U e;refine⟨h4,u,l,?_,I4,q4,q5⟩;have E:Jm [J v0,J v1,J v2,J (.loc a),J (.loc w),ck,cv,J (.tup i),J (.int j),J y] h=.nx [J v0,J v1,J v2,J (.loc a),J (.loc w),ck,cv,J (.tup i),J (.int j),J y] M:=by unfold Jm;rw[yd,em,az];rfl
    rw[E];exact e4
   .cases e
def nu:∀{wk:SW}{d:D},e_ wk=I->flat d=I->e_ (wk++[d])=I
 |[],d,_,f=>by simp[e_,f]
 |x::wk,d,g,f=>by
  simp only[e_,AZ,MB]at g ⊢;exact⟨g.1,nu g.2 f⟩
def zQ{c:D}{i wk:SW}{z:SW×c_}(e:ia sh od kn (c::i) rd wk dst di df s=J z):∃x y,c=.tup [x,y]:=by
 unfold ia at e
 split at e
 .rename_i f;cases f
 .rename_i f;cases f;exact⟨_,_,rfl⟩
 .cases e
def t6{it:MIt}{wk':SW}(H:∀h s rd wk,SwI q h0 h s a ms rd w wk->it.ok h)(bd:∀o∈O,o<h0.length)(hq:q∈O)(r:Rps q h0 O [sh,od,kn] [v0,v1,v2]):
  ∀(ds:SW)(xs:SM)(rd:List Rd)(wk:SW)(dst di df:Sj)(ck cv cst ci cf:Sl)(h:MH)(s:c_),e_ ds=I->Rps 0 [] [] ds xs->OR dst cst->OR di ci->OR df cf->SwI q h0 h s a ms rd w wk->ia sh od kn ds rd wk dst di df s=J (wk',s') ->
  ∃h' a1 ab as W L G,vt it (yW (pq (mf 5) (pq (mf 6) x_)) 2) NB xs [J v0,J v1,J v2,J (.loc a),J (.loc w),ck,cv,cst,ci,cf] h=.nx [J v0,J v1,J v2,J (.loc a),J (.loc w),ab,as,W,L,G] h'/\SwI q h0 h' s' a ms a1 w wk'
 |[],xs,rd,wk,dst,di,df,ck,cv,cst,ci,cf,h,s,fd,rx,k3,k4,k5,i,e=>by
  unfold ia at e;cases e;rw[show xs=[]from rx];exact⟨h,rd,ck,cv,cst,ci,cf,iS (H h _ _ _ i),i⟩
 |c::cs,xs,rd,wk,dst,di,df,ck,cv,cst,ci,cf,h,s,fd,rx,k3,k4,k5,i,e=>by
  have a6:=bd q hq;simp only[e_,AZ]at fd;obtain⟨dk,dv,rfl⟩:=zQ e;unfold ia at e;obtain⟨vx,xr,rfl,ay,rr⟩:=rx;obtain⟨ys,rfl,ry⟩:=ay;obtain⟨F,yr,rfl,a9,E,a4,rfl,a7,Q⟩:=ry;rw[show a4=[]from Q];have fk:flat dk=I/\flat dv=I:=by simpa [flat,e_]using fd.1
  have o1:OR (J dk) (J F):=λz Z=>by cases Z;exact⟨fk.1,_,rfl,a9⟩
  have o2:OR (J dv) (J E):=λz Z=>by cases Z;exact⟨fk.2,_,rfl,a7⟩
  have c1:=we i bd hq r o1 o2 k3 k4 k5;have ke:=lO.ok c1;rw[gO (H h _ _ _ i) (show yW (pq (mf 5) (pq (mf 6) x_)) 2 (.tup [F,E]) [J v0,J v1,J v2,J (.loc a),J (.loc w),ck,cv,cst,ci,cf] h=.nx [J v0,J v1,J v2,J (.loc a),J (.loc w),J F,J E,cst,ci,cf] h from rfl)]
  split at e
  .rename_i x y ps l s1 ee
   rw[ee]at ke;obtain⟨v,h1,em,kb,pn,_,rz,_⟩:=ke;have I1:=i.kb a6 kb pn
   split at e
   .rename_i ax
    obtain⟨X,wl,_,_⟩:=ax
    split at e
    .rename_i P i2 f2 s2 ei
     have rv:Rp 0 [] [] (.tup [x,y,ps,.tup l]) v:=Rp.fq X (rz rfl);have a2:flat x=I/\flat y=I/\flat ps=I/\e_ l=I:=by simpa [flat,e_]using X
     have u:=rv;obtain⟨us,rfl,ru⟩:=rv;obtain⟨S,t1,rfl,b0,R,t2,rfl,bm,M,t3,rfl,ai,u4,t4,rfl,a5,ar⟩:=ru;rw[show t4=[]from ar]at u em;obtain⟨f,rfl,r4⟩:=a5;obtain⟨h2,L,G,e2,C,q4,q5⟩:=oM (it:=⟨f,[]⟩) (λ_=>fB.mpr trivial) bd hq r o1 o2 X u (pv:=M) rfl ai l f rd _ _ _ _ h1 s1 a2.2.2.2 r4 k4 k5 I1 ei;obtain⟨B,ew,rw'⟩:=C.wx;have bv:B.length=wk.length:=rw'.length;have a3:=ao ew;have I3:SwI q h0 (h2.set w (.lst (B++[.tup [S,R,M,.tup f]]))) s2 a ms P w (wk++[.tup [x,y,ps,.tup l]]):=by
      have wge:=C.wge;refine⟨by rw[N0];exact C.len,λj hj nq=>(pa (by ext)).trans (C.mv j hj nq),?_,C.gr.keep λj hj=>pa λz=>C.wno (by rw[z];exact hj),⟨_,wv a3,rw'.app ⟨_,_,rfl,u,rfl⟩⟩,?_,wge,C.wno⟩
      .have:=C.pen
       unfold aX at this ⊢;rw[pa (by ext)];exact this
      .exact nu C.wf X
     have o3:OR (J (.tup [x,y,ps,.tup l])) (J (.tup [S,R,M,.tup f])):=λz Z=>by cases Z;exact⟨X,_,rfl,u⟩
     obtain⟨h4,ap,a8,an,U,al,a0,e4,I4⟩:=t6 H bd hq r cs xr P _ _ _ _ (J F) (J E) _ _ _ _ s2 fd.2 rr o3 q4 q5 I3 e;refine⟨h4,ap,a8,an,U,al,a0,?_,I4⟩;have b:NB [J v0,J v1,J v2,J (.loc a),J (.loc w),J F,J E,cst,ci,cf] h=.nx [J v0,J v1,J v2,J (.loc a),J (.loc w),J F,J E,J (.tup [S,R,M,.tup f]),L,G] (h2.set w (.lst (B++[.tup [S,R,M,.tup f]]))):=by unfold NB;rw[br,lH,em,az,MM.aB,br,jm];have i3:dB (au bc (ag 7) (mC (.int 3))) ([J v0,J v1,J v2,J (.loc a),J (.loc w),J F,J E,cst,ci,cf].set 7 (J (.tup [S,R,M,.tup f]))) h1=.ok ⟨f,[]⟩ h1:=rfl;rw[i3,az];refine(congrArg (λz:SOut=>z.then _) e2).trans ?_;rw[MM.aB,jA,GD];simp only[xU,xQ,Out.bind_ok,dQ,gJ,ew,oi ew (show B.length<1000 by ext)];rfl
     rw[b];exact e4
    .cases e
   .cases e
  .cases e
def uL{L:Nat}{r:Rd}{xs:SM}(g:Gr h L a ms rd)(hL:L<=h.length)(E:e_ r.2=I)(u:Rps 0 [] [] r.2 xs):Gr ((h++[mo r.1 xs]).set a (.lst (ms.map .loc++[.loc h.length]))) L a (ms++[h.length]) (rd++[r]):=by
 have F:=ao g.top;have nd:=g.nd;have lt:=g.lt;rw[z_]at nd;refine⟨by rw[wv (by simp;ext),ML];rfl,by simp[g.len],?_,λm j=>?_,λi x ex=>?_⟩
 .rw[<-MB,IS];refine⟨g.nd,by simp,λx B y C=>?_⟩
  have:=lt x B
  have:y=h.length:=by simpa using C
  ext
 .rw[<-MB]at j;rcases tr.mp j with z|z
  .exact g.ge m z
  .have:m=h.length:=by simpa using z
   ext
 .have gl:=g.len;by_cases z:i<rd.length
  .rw[p_ z]at ex;obtain⟨f,m,ys,e1,e2,e3⟩:=g.row i x ex;have ne:a≠m:=λy=>nd.1 (y▸Ap e1);exact⟨f,m,ys,by rw[p_ (by ext)];exact e1,by rw[pa ne,p_ (ao e2)];exact e2,e3⟩
  .rw[AR (by ext)]at ex;have l:i-rd.length=0:=by
    have:=(nw.mp ex).1
    simp at this;ext
   rw[l]at ex;cases ex;refine⟨E,h.length,xs,?_,?_,u⟩
   .rw[AR (by ext),show i-ms.length=0 by ext];rfl
   .rw[pa (by ext)];simp
def uu{it:MIt}(y:∀h,it.ok h):∀(f:SW)(i:SM)(rd l:List Rd)(ms:SV)(z:Sl)(h:MH),fR f=J rd->Rps q h0 O f i->Gr h h0.length a ms l->h0.length<=h.length->(∀n:Nat,n<h0.length->h[n]?=h0[n]?)->ms.length+f.length<1000 ->
  ∃h' u,y4 it a (mf 0) oF (p6 y_ (af (ag 0) g_)) i [z] h=.ok () h'/\Gr h' h0.length a u (l++rd)/\h0.length<=h'.length/\∀n:Nat,n<h0.length->h'[n]?=h0[n]?
 |[],i,rd,l,ms,z,h,e,r,g,hl,kp,C=>by
  unfold fR at e;cases e;rw[show i=[]from r,IV];exact⟨h,ms,lI (y h),g,hl,kp⟩
 |d::f,i,rd,l,ms,z,h,e,r,g,hl,kp,C=>by
  unfold fR at e
  split at e
  .rename_i j t Q S
   split at e
   .rename_i F
    cases e;obtain⟨v,G,rfl,R,rs⟩:=r;obtain⟨B,U,rk⟩:=HD R Q;obtain⟨s1,L⟩:=pW rk;have H:=uL g (r:=(J (j.map (·.1)),j.map (·.2))) (xs:=B.map (·.2)) hl F (Rps.fq F L);have Z:=g.ge a (by simp);obtain⟨h',u,X,E,M,k'⟩:=uu y f G t _ _ (J v) _ S rs H (by simp;ext) (λn W=>by rw[pa (by ext),p_ (by ext)];exact kp n W) (by simp at C ⊢;ext);refine⟨h',u,?_,by rw[Cd]at E;exact E,M,k'⟩;have P:y_ [v] h=.ok (.loc h.length) (h++[mo (J (j.map (·.1))) (B.map (·.2))]):=by simp only[y_,U,s1];rfl
    rw[lJ (Z1:=[J v]) (h1:=h) (h2:=h) (v:=.loc h.length) (h3:=h++[mo (J (j.map (·.1))) (B.map (·.2))]) (ys:=ms.map .loc) (y h) rfl rfl (by simp[P]) (by rw[p_ (ao g.top)];exact g.top) (by simp at C ⊢;ext)];exact X
   .cases e
  .cases e
end
def zq{q:Nat}{h:MH}{O:SV}{f:SW}{xs:SM}(r:Rps q h O f xs):Rps q h O (aT f) (cV xs):=by
 refine sL (by simp[aT,cV,r.length]) λi d v e1 e2=>?_;unfold aT at e1;unfold cV at e2;rw[qb,Fd]at e1 e2
 cases a:f[i]? with
 |none=>rw[a]at e1;cases e1
 |some x =>
  obtain⟨y,j,l⟩:=r.get a;rw[a]at e1;rw[j]at e2;simp at e1 e2;subst e1 e2;exact⟨_,rfl,_,_,rfl,rfl,_,_,rfl,l,rfl⟩
def nL{i:SW}(f:e_ i=I):e_ (aT i)=I:=by
 have:∀(a:SW),(∀d∈a,flat d=I)->e_ a=I:=λa=>by
  induction a with
  |nil=>intro;rfl
  |cons z a j=>intro h;simp only[e_,AZ];exact⟨h z (by simp),j λd hd=>h d (n_ _ hd)⟩
 refine this _ λd hd=>?_;unfold aT at hd;obtain⟨p,l,rfl⟩:=tx.mp hd
 have:=kO f (List.fst_mem_of_mem_zipIdx l)
 simp[flat,e_,this]
def j7:Fn where
 m:=dP
 p:=λds s=>match ds with
  |[sh,.lst H,kn]=>if e_ H=I then NC [sh,.lst H,kn] s else .bad
  |_=>.bad
 fr:=I
 ok {q h O vs ds s} bd hq pn r:=by
  split
  .rename_i sh H kn
   split
   .rename_i fo
    unfold NC;split
    .rename_i n E ax as M
     cases M;split
     .rename_i rd er
      split
      .rename_i lr
       split
       .rename_i wk s' eg
        have U:=r;obtain⟨v0,t0,rfl,S,v1,t1,rfl,an,B,t2,rfl,a3,X⟩:=r;rw[show t2=[]from X]at U ⊢;obtain⟨ys,rfl,ry⟩:=S;obtain⟨y,u1,rfl,a7,y2,u2,rfl,ai,al⟩:=ry;rw[show u2=[]from al]at U ⊢;obtain⟨f,rfl,rr⟩:=ai;obtain⟨no,u,rfl,nO,G,ro⟩:=an;have W:q<h.length:=bd q hq;obtain⟨l,L,e1,P,l1,k1⟩:=uu (q:=q) (h0:=h) (O:=O) (a:=h.length) (it:=⟨f,[]⟩) (λ_=>fB.mpr trivial) E f rd [] [] Y (h++[.lst []]) er rr ⟨by simp,rfl,by simp,λm R=>by simp at R;ext,λi r e=>by simp at e⟩ (by simp) (λn X=>p_ X) (by simp;ext);have c3:ba 3 (bN 1 [] (dB (au bc (ag 0) (mC (.int 1)))) (mf 0) oF (p6 y_ (af (ag 0) g_))) [J (.tup [y,.tup f]),J (.loc no),J B,Y,Y,Y,Y,Y,Y,Y] h=.nx [J (.tup [y,.tup f]),J (.loc no),J B,J (.loc h.length),Y,Y,Y,Y,Y,Y] l:=by rw[lH,jE];have i1:dB (au bc (ag 0) (mC (.int 1))) [J (.tup [y,.tup f]),J (.loc no),J B,Y,Y,Y,Y,Y,Y,Y] h=.ok ⟨f,[]⟩ h:=rfl;rw[i1,Out.bind_ok];refine(congrArg (λz:Out Unit=>(z.bind _).go _ _) e1).trans ?_;rfl
        have I0:SwI q h (l++[.lst []]) s h.length L rd l.length []:=by
         have l0:h.length<=l.length:=l1;refine⟨by simp;ext,λj Q nq=>by rw[p_ (by ext)];exact k1 j Q,?_,(by simpa using P:Gr l h.length h.length L rd).keep λm R=>p_ ((by simpa using P:Gr l h.length h.length L rd).lt m R),⟨[],by simp,rfl⟩,rfl,l0,λz=>?_⟩
         .unfold aX;rw[p_ (by ext),k1 q W];exact pn
         .have:=(by simpa using P:Gr l h.length h.length L rd).lt _ z
          ext
        obtain⟨h2,ay,a5,a0,ap,a1,a4,e2,C⟩:=t6 (it:=⟨cV u,[(no,u)]⟩) (wk':=wk) (s':=s') (λh' s' a2 a6 ab=>by
         intro p hp
         have:p=(no,u):=by simpa using hp
         subst this
         exact(ab.mv no (ao G) λz=>nO (z▸hq)).trans G) bd hq U (aT H) (cV u) rd [] Y Y Y Y Y Y Y Y (l++[.lst []]) s (nL fo) (Rps.fq (nL fo) (zq ro)) (λ_ z=>by cases z) (λ_ z=>by cases z) (λ_ z=>by cases z) I0 eg
        obtain⟨F,ew,rw'⟩:=C.wx;have wge:=C.wge;have run:dP [.tup [y,.tup f],.loc no,B] h=.ok (.loc l.length) h2:=by
         unfold dP;rw[d3 (by rfl)]
         unfold p4;rw[show be 10 [.tup [y,.tup f],.loc no,B]=[J (.tup [y,.tup f]),J (.loc no),J B,Y,Y,Y,Y,Y,Y,Y]from rfl];rw[br,c3,MM.aB,br];have c4:ba 4 (f7 g_) [J (.tup [y,.tup f]),J (.loc no),J B,J (.loc h.length),Y,Y,Y,Y,Y,Y] l=.nx [J (.tup [y,.tup f]),J (.loc no),J B,J (.loc h.length),J (.loc l.length),Y,Y,Y,Y,Y] (l++[.lst []]):=by rw[lH,CU,gJ,Out.bind_ok,jM (by simp)];rfl
         rw[c4,MM.aB,br,jm];have c5:rj (af (ag 1) g_) [J (.tup [y,.tup f]),J (.loc no),J B,J (.loc h.length),J (.loc l.length),Y,Y,Y,Y,Y] (l++[.lst []])=.ok ⟨cV u,[(no,u)]⟩ (l++[.lst []]):=by have e9:(l++[MO.lst []])[no]?=J (.lst u):=(I0.mv no (ao G) λz=>nO (z▸hq)).trans G;unfold rj;simp only[dQ,xU,xQ,Out.bind_ok,gJ,bK,e9]
         rw[c5,az];refine(congrArg (λz:SOut=>(z.then _).fin) e2).trans ?_;rfl
        have Z:Rps q h2 O wk F:=Rps.fq C.wf rw';refine⟨.loc l.length,h2,run,⟨C.len,λj Q nq=>C.mv j Q nq⟩,C.pen,⟨l.length,F,rfl,λz=>by have:=bd _ z;ext,ew,Z⟩,λ_ k ar e=>?_⟩
        cases k with
        |none=>cases e;exact⟨_,_,rfl,wge,ew,Rps.fq C.wf rw'⟩
        |some _=>cases e
       .trivial
      .trivial
     .trivial
    .trivial
   .trivial
  .trivial
def hJ:Xd []:=(aM (qP (av cM (ac (bn (ac (ae l_ (aa 0) (xC (.int 0))) (ac (bn a_) a_))) (ac (aa 1) a_))))
 (aW (av j7 (ac (aa 0) (ac (aa 1) (ac Dm a_))))))
def cY:Fn:=bC 2 2 hJ
def yL{a:SW}{s:c_}(h:a.length=2):cY.p a s=(hJ.p (kx 2 a) s).fin:=aU h
def oR{h:MH}{p:Nat}{o:MO}(a:p<h.length):(h.set p o)[p]?=J o:=wv a
def RL:vq 3 2=J 2:=jh (n:=3) (m:=2) (by decide)
def Sd:vq 3 1=J 1:=jh (n:=3) (m:=1) (by decide)
def i6(s:c_)(size:Int)(H:0<size)(hl:size.natAbs.log2<9000):∃x:Int×Int,(0<=x.1/\x.1<size)/\∀(h:MH)(p:Nat),aX h p s->cz [.loc p,.int size] h=.ok (.int x.1) (h.set p (.lst [.int s.1,.int x.2,.int (s.2.2+1)])):=by
 obtain⟨m,c,t⟩:=s;have a:size≠0:=by ext
 have st:∀n:Int,0<=n.fmod size/\n.fmod size<size:=λn=>by
  rw[Mn n (by ext)];exact⟨JC n a,Jv n H⟩
 by_cases u:m=1
 .subst u;refine⟨(c.fmod size,c.fdiv size),st c,λh p e=>?_⟩;have e:h[p]?=J (.lst [.int 1,.int c,.int t]):=e;have j:p<h.length:=(nw.mp e).1;have e2:(h.set p (.lst [.int 1,.int c,.int (t+1)]))[p]?=J (.lst [.int 1,.int c,.int (t+1)]):=oR j;unfold cz;refine(d3 (by rfl)).trans ?_;unfold vn;simp[be,List.replicate,fe e,jL e,RL,fe e2,ff a,uv a,jL e2,Sd]
 .have f:∀n k:Int,0<k->0<=n.fmod k/\n.fmod k<k:=λn k B=>by
   rw[Mn n (by ext)];exact⟨JC n (by ext),Jv n B⟩
  generalize l:((c+40503*(t+1)+1)*48271).fmod 2147483647=A;have E:=f ((c+40503*(t+1)+1)*48271) 2147483647 (by decide);rw[l]at E;generalize y:(A*(A.fmod 65521+(t+1)+3)).fmod 2147483629=C;have z:=f (A*(A.fmod 65521+(t+1)+3)) 2147483629 (by decide);rw[y]at z;refine⟨((((C*(C.fmod 8191+7)).fmod 2147483563).fdiv 64).fmod size,c),st _,λh p e=>?_⟩;have e:h[p]?=J (.lst [.int m,.int c,.int t]):=e;have j:p<h.length:=(nw.mp e).1;have e2:(h.set p (.lst [.int m,.int c,.int (t+1)]))[p]?=J (.lst [.int m,.int c,.int (t+1)]):=oR j;have F:-(2^64)<A/\A<2^64:=by ext
  have M:-(2^64)<C/\C<2^64:=by ext
  have L:∀{i:Int}{h:MH},jn (.int 40503) (.int i) h=.ok (.int (40503*i)) h:=gC (by decide);have G:∀{i:Int}{h:MH},jn (.int i) (.int 48271) h=.ok (.int (i*48271)) h:=CW (by decide);unfold cz;refine(d3 (by rfl)).trans ?_;unfold vn;simp[be,List.replicate,fe e,jL e,RL,fe e2,u,L,G,ff,l,gC F,y,gC M,uv (show(64:Int)≠0 by decide),ff a]
open Classical in
def lT(s:c_)(size:Int):Int×Int:=if z:0<size/\size.natAbs.log2<9000 then(i6 s size z.1 z.2).choose else(0,0)
def og(a:SW):SG:=match a with
 |[.pen,.int i]=>J i
 |_=>Y
def wJ{a:SW}{i:Int}(e:og a=J i):a=[.pen,.int i]:=by
 unfold og at e
 split at e
 .cases e;rfl
 .cases e
open Classical in
def bw:Fn where
 m:=cz
 p:=λa s=>match og a with
  |some size=>if 0<size/\size.natAbs.log2<9000 then .ok (.int (lT s size).1) (s.1,(lT s size).2,s.2.2+1)else .bad
  |none=>.bad
 fr:=I
 ok {q h O vs a s} bd hq pn r:=by
  cases e:og a with
  |none=>trivial
  |some size =>
   have:=wJ e
   subst this;dsimp only;by_cases z:0<size/\size.natAbs.log2<9000
   .rw[b_ z];obtain⟨x,t,rfl,l,y,B,rfl,u,f⟩:=r;rw[show x=PV.loc q from l,show y=PV.int size from u,show B=[]from f];have k:=(i6 s size z.1 z.2).choose_spec.2 h q pn;have j:lT s size=(i6 s size z.1 z.2).choose:=by unfold lT;rw[dif_pos z]
    rw[<-j]at k;refine⟨_,_,k,⟨by simp,λn C i=>pa (Ne.symm i)⟩,oR (ao pn),rfl,λ_ k a e=>by cases k<;>cases e⟩
   .rw[f_ z];trivial
open Classical in
theorem dH{s:c_}{size:Int}(j:0<size)(hl:size<=2000000000):∃d i,0<=d/\d<size/\bw.p [.pen,.int size] s=.ok (.int d) i:=by
 have a:size.natAbs.log2<9000:=by
  have l:size.natAbs<=2000000000:=by ext
  have u:size.natAbs.log2<31:=(Nat.log2_lt (by ext)).mpr (by ext);ext
 have z:0<size/\size.natAbs.log2<9000:=⟨j,a⟩;have f:lT s size=(i6 s size z.1 z.2).choose:=by unfold lT;rw[dif_pos z]
 have k:=(i6 s size z.1 z.2).choose_spec.1;rw[<-f]at k;exact⟨_,_,k.1,k.2,by show(if 0<size/\size.natAbs.log2<9000 then _ else _)=_;rw[b_ z]⟩
def eT:Xd []:=(aM (oY 2 3 (ac (o_ pe (ac (aa 0) a_)) (ac (o_ pe (ac (aa 1) a_)) a_)))
 (aM (Jf 2000000 (xB (ae K3 (aa 3) (xC (.int 0)))) (oY 2 3 (ac (aa 3) (ac (ae m6 (aa 2) (aa 3)) a_))) i9)
 (aM (wL (xB (ae Ho (aa 1) (xC (.int 0)))) (bh 2 (v4 mH (aa 2))) ki)
 (aW (bn (ac (ae Dq (aa 0) (aa 2)) (ac (ae Dq (aa 1) (aa 2)) a_)))))))
def bX:Fn:=bC 4 2 eT
def tN{a:SW}{s:c_}(h:a.length=2):bX.p a s=(eT.p (kx 4 a) s).fin:=aU h
def dW(F:Fn):Xd []:=(aM (wL (xB (ae (Jg T) (aa 1) (xC .non))) (aW (ae (Jg T) (aa 0) (xC .non))) ki)
 (aM (wL (xB (v4 (b8 ["list","tuple"]) (aa 1))) (aM (wL (BX (eY (xB (v4 (b8 ["list","tuple"]) (aa 0)))) (xB (ae zI (v4 (b8 ["list"]) (aa 0)) (v4 (b8 ["list"]) (aa 1))))) (aW (xC (.bl T))) ki)
 (aW (iC (ae zb (o_ hW (ac (aa 0) a_)) (o_ hW (ac (aa 1) a_))) (o_ oN (ac (aV 2 [] (cH iZ (ac (aa 0) (ac (aa 1) a_))) (ws':=[]) (vg (mu (j_ 0) (mu (j_ 1) va)) 2) ti (av F (ac (aa 0) (ac (aa 1) a_)))) a_))))) ki)
 (aW (iC (v4 (b8 ["int"]) (aa 0)) (iC (nM (v4 (b8 ["bool"]) (aa 0))) (ae zb (aa 0) (aa 1)))))))
def cC:Nat->Fn
 |0=>EX (b7 2 2 λ_ _=>.bad)
 |n+1=>bC 2 2 (dW (cC n))
def kI{n:Nat}{a:SW}{s:c_}(h:a.length=2):(cC (n+1)).p a s=((dW (cC n)).p (kx 2 a) s).fin:=aU h
def dU:Fn:=cC 8
def gZ:Xd []:=(aM (wL (xB (ae zb (av bw (ac (aa 0) (ac (xC (.int 16)) a_))) (xC (.int 15)))) (aW (xC (.int 12))) ki)
 (aW (ae l_ (fb (ac (xC (.int 4)) (ac (xC (.int 3)) (ac (xC (.int 5)) (ac (xC (.int 2)) (ac (xC (.int 6)) (ac (xC (.int 1)) (ac (xC (.int 0)) (ac (xC (.int 3)) a_))))))))) (av bw (ac (aa 0) (ac (xC (.int 8)) a_))))))
def fA:Fn:=bC 1 1 gZ
def xm{a:SW}{s:c_}(h:a.length=1):fA.p a s=(gZ.p (kx 1 a) s).fin:=aU h
def fX:Xd [2]:=(aM (f9 2 (fb a_))
 (aM (iI (cH Pk (ac (aa 1) a_)) (j_ 3) (BI x3 2 (ac (av bw (ac (aa 0) (ac (ae cc (aa 3) (xC (.int 1))) a_))) (ac (aa 3) a_))))
 (oA 2)))
def dY:Fn:=bC 4 2 fX
def vA{a:SW}{s:c_}(h:a.length=2):dY.p a s=(fX.p (kx 4 a) s).fin:=aU h
def gX:Xd []:=(aW (av bX (ac (ae cc (ae bp (ae l_ (aa 0) (xC (.int 0))) (ae l_ (aa 1) (xC (.int 1)))) (ae bp (ae l_ (aa 1) (xC (.int 0))) (ae l_ (aa 0) (xC (.int 1))))) (ac (ae bp (ae l_ (aa 0) (xC (.int 1))) (ae l_ (aa 1) (xC (.int 1)))) a_))))
def hZ:Fn:=bC 2 2 gX
def xR{a:SW}{s:c_}(h:a.length=2):hZ.p a s=(gX.p (kx 2 a) s).fin:=aU h
def fU:Xd []:=(aW (av bX (ac (ae bp (ae l_ (aa 0) (xC (.int 0))) (ae l_ (aa 1) (xC (.int 0)))) (ac (ae bp (ae l_ (aa 0) (xC (.int 1))) (ae l_ (aa 1) (xC (.int 1)))) a_))))
def fW:Fn:=bC 2 2 fU
def wg{a:SW}{s:c_}(h:a.length=2):fW.p a s=(fU.p (kx 2 a) s).fin:=aU h
def fT:Xd []:=(aM (wL (Ld (aa 1)) (aW (bn (ac (ae bp (ae cc (xC (.int 1)) (av bw (ac (aa 0) (ac (xC (.int 255)) a_)))) (ae tD (xC (.int 1)) (ae bp (xC (.int 2)) (av bw (ac (aa 0) (ac (xC (.int 2)) a_)))))) (ac (xC (.int 1)) a_)))) ki)
 (aM (bh 2 (ae tD (av bw (ac (aa 0) (ac (xC (.int 12)) a_))) (xC (.int 6))))
 (aW (av bX (ac (ae cc (aa 2) (o_ mY (ac (ae Ph (aa 2) (xC (.int 0))) a_))) (ac (ae cc (xC (.int 1)) (av bw (ac (aa 0) (ac (xC (.int 4)) a_)))) a_))))))
def bZ:Fn:=bC 3 2 fT
def wD{a:SW}{s:c_}(h:a.length=2):bZ.p a s=(fT.p (kx 3 a) s).fin:=aU h
def fV:Xd [6]:=(aM (bh 4 (ae zb (av bw (ac (aa 0) (ac (xC (.int 8)) a_))) (xC (.int 7))))
 (aM (bh 5 (ae l_ (fb (ac (aa 1) (ac (xC (.int 3)) a_))) (o_ mY (ac (ae K3 (aa 1) (xC (.int 6))) a_))))
 (aM (f9 6 (fb a_))
 (aM (iI (cH iE (ac (aa 2) a_)) (vg (mu (j_ 7) (mu (j_ 8) va)) 2) (aM (bh 9 (o_ cQ (ac (Bm (aa 2) (Bl (ae cc (aa 7) (xC (.int 1)))) Bk) a_)))
 (aM (bh 10 (aV 1 [0,4,3] (bx (aa 9)) (ws':=[]) (j_ 0) (xB (ae zb (av bw (ac (aa 1) (ac (aa 3) a_))) (xC (.int 0)))) (bn (ac (aa 0) (ac (av bZ (ac (aa 1) (ac (aa 2) a_))) a_)))))
 (aM (bh 11 (aV 1 [0,4,3] (bx (aa 9)) (ws':=[]) (j_ 0) (xB (ae zb (av bw (ac (aa 1) (ac (aa 3) a_))) (xC (.int 0)))) (bn (ac (aa 0) (ac (av bZ (ac (aa 1) (ac (aa 2) a_))) a_)))))
 (BI r_ 6 (ac (bn (ac (aa 8) (ac (av bZ (ac (aa 0) (ac (aa 4) a_))) (ac (o_ cE (ac (Bm (aa 10) (Bl (v4 mH (aa 5))) Bk) a_)) (ac (o_ cE (ac (Bm (aa 11) Bk (Bl (aa 5))) a_)) a_))))) a_))))))
 (oA 6)))))
def dZ:Fn:=bC 12 4 fV
def vm{a:SW}{s:c_}(h:a.length=4):dZ.p a s=(fV.p (kx 12 a) s).fin:=aU h
def tK:Xe []:=(av hZ (ac (ae l_ (ae l_ (aa 2) (aa 7)) (aa 9)) (ac (av fW (ac (aa 8) (ac (aa 10) a_))) a_)))
def sS:Xe []:=(bn (ac (aa 0) (ac (o_ cE (ac (aV 1 [] (bx (aa 2)) (ws':=[]) (j_ 0) ti (o_ cE (ac (aV 2 [] (cH iE (ac (aa 0) a_)) (ws':=[]) (vg (mu (j_ 0) (mu (j_ 1) va)) 2) (xB (ae zI (aa 1) (bn (ac (xC (.int 0)) (ac (xC (.int 1)) a_))))) (bn (ac (aa 0) (ac (aa 1) a_)))) a_))) a_)) a_)))
def DP:mh:=oX tK.m (Gj (au bc (ag 2) (ag 7)) (ag 9))
def DQ:mh:=iP (dB (au i_ (cT (af (cT (af (ag 3) (af (ag 4) g_))) g_)) (ag 5))) (yW (pq (mf 9) (pq (mf 10) x_)) 2) DP
def DR:mh:=iP (dB (au i_ (cT (af (cT (af (ag 3) (af (cT (af (mC (.int 1)) (af (mC (.int 1)) g_))) g_))) g_)) (ag 6))) (yW (pq (mf 7) (pq (mf 8) x_)) 2) DQ
def Ij:Mx PV:=cT (af (mC (.int 0)) (af (mC (.int 1)) g_))
def pk:mh:=aR (ba 2 (bN 1 [0] (dz (af (ag 0) g_)) (mf 0) oF (bN 1 [] (dz (af (ag 1) g_)) (mf 0) oF Ij)))
 (aR (iP (dB (ag 1)) (yW (pq (mf 3) (pq (mf 4) (pq (mf 5) (pq (mf 6) x_)))) 4) DR)
 (bQ sS.m))
def cF:SM->MH->SK:=b7 11 2 pk
structure C8 where
 (c0 c1 c2 c3 c4 c5 c6 c7:Sj)
def mE(rd:List Rd)(n a:D)(c:C8):am:=[J n,J a,J (eM rd),c.c0,c.c1,c.c2,c.c3,c.c4,c.c5,c.c6,c.c7]
def nC(n l:D)(rd:List Rd)(c:C8)(s:c_):Option (List Rd×c_):=match tK.p (mE rd n l c) s,c.c4,c.c6 with
 |.ok d f,J (.int i),J (.int j)=>(match vq rd.length i with
  |some x=>(match rd[x]? with
   |some (Y,a)=>(match vq a.length j with
    |some y=>if flat d=I then J (rd.set x (Y,a.set y d),f)else Y
    |none=>Y)
   |_=>Y)
  |none=>Y)
 |_,_,_=>Y
def Ca(n j:D):SW->List Rd->C8->c_->Option (List Rd×C8×c_)
 |[],rd,c,s=>J (rd,c,s)
 |.tup [f,i]::r,rd,c,s=>(match nC n j rd { c with c6:=J f,c7:=J i} s with
  |some (a,l)=>Ca n j r a { c with c6:=J f,c7:=J i} l
  |none=>Y)
 |_,_,_,_=>Y
def Cb(n i v p:D)(f:SW):SW->List Rd->C8->c_->Option (List Rd×C8×c_)
 |[],rd,c,s=>J (rd,c,s)
 |.tup [y,l]::r,rd,c,s=>(match Ca n i (.tup [v,p]::f) rd { c with c4:=J y,c5:=J l} s with
  |some (a,u,j)=>Cb n i v p f r a u j
  |none=>Y)
 |_,_,_,_=>Y
def DT(n j:D):SW->List Rd->C8->c_->Option (List Rd×C8×c_)
 |[],rd,c,s=>J (rd,c,s)
 |.tup [v,p,.tup a,.tup i]::r,rd,c,s=>if a.length<900/\i.length<900 then (match Cb n j v p a (.tup [v,.tup [.int 1,.int 1]]::i) rd { c with c0:=J v,c1:=J p,c2:=J (.tup a),c3:=J (.tup i)} s with
  |some (f,u,l)=>DT n j r f u l
  |none=>Y)else Y
 |_,_,_,_=>Y
def ND(i:SW)(s:c_):PR D:=match i with
 |[.int n,.lst a]=>if e_ a=I/\0<=n/\n<900 then (match DT (.int n) (.lst a) a (List.replicate n.toNat (Y,List.replicate n.toNat (.tup [.int 0,.int 1]))) ⟨Y,Y,Y,Y,Y,Y,Y,Y⟩ s with
  |some (rd,c,f)=>(match sS.p (mE rd (.int n) (.lst a) c) f with
   |.ok d j=>if flat d=I then .ok d j else .bad
   |_=>.bad)
  |none=>.bad)else .bad
 |_=>.bad
structure MuI(q:Nat)(h0 h:MH)(s:c_)(a:Nat)(ms:SV)(rd:List Rd):Prop where
 len:h0.length<=h.length
 mv:∀n:Nat,n<h0.length->n≠q->h[n]?=h0[n]?
 pen:aX h q s
 gr:Gr h h0.length a ms rd
structure E8 where
 (e0 e1 e2 e3 e4 e5 e6 e7:Sl)
def sE(f i:PV)(a:Nat)(e:E8):m_:=[J f,J i,J (.loc a),e.e0,e.e1,e.e2,e.e3,e.e4,e.e5,e.e6,e.e7]
structure O8(c:C8)(e:E8):Prop where
 (o0:OR c.c0 e.e0) (o1:OR c.c1 e.e1) (o2:OR c.c2 e.e2) (o3:OR c.c3 e.e3) (o4:OR c.c4 e.e4) (o5:OR c.c5 e.e5) (o6:OR c.c6 e.e6) (o7:OR c.c7 e.e7)
def pH:∀{a:SW}{d:D}{i:Nat},e_ a=I->flat d=I->e_ (a.set i d)=I
 |[],_,_,f,_=>f
 |x::a,d,0,f,g=>by
  simp only[e_,AZ,x5]at f ⊢;exact⟨g,f.2⟩
 |x::a,d,i+1,f,g=>by
  simp only[e_,AZ,zK]at f ⊢;exact⟨f.1,pH f.2 g⟩
def OR.of{d:D}{v:PV}(f:flat d=I)(r:Rp 0 [] [] d v):OR (J d) (J v):=λz a=>by cases a;exact⟨f,_,rfl,r⟩
section
variable{q:Nat}{h0 h h':MH}{s s':c_}{a:Nat}{ms:SV}{rd rd':List Rd}{O:SV}{n wk:D}{v0 v1:PV}{c c':C8}{e e':E8}
def MuI.kb(f:MuI q h0 h s a ms rd)(y:q<h0.length)(k:KB q h h')(pn:aX h' q s'):MuI q h0 h' s' a ms rd:=by have l:=f.len;exact⟨ql f.len k.len,λn u j=>(k.keep n (by ext) j).trans (f.mv n u j),pn,f.gr.keep λm i=>k.keep m (f.gr.lt m i) (by have:=f.gr.ge m i;ext)⟩
def E3(j:MuI q h0 h s a ms rd)(bd:∀o∈O,o<h0.length)(B:q∈O)(r:Rps q h0 O [n,wk] [v0,v1])(o:O8 c e):PU.Cx q h h.length O O [] (sE v0 v1 a e) (mE rd n wk c) s:=by
 have l:=j.len;have mv:Mv O h0 O h:=⟨λn F no=>j.mv n F λz=>no (z▸B),λo u=>.inl u⟩;have C:=r.mv mv;have one:∀{x:Sj}{y:Sl}{d:D},OR x y->x=J d->∃v,J y=J (J v)/\Rp q h O d v:=λ{x y d} o e=>by
  obtain⟨f,v,e2,r⟩:=o d e;exact⟨v,by rw[e2],Rp.fq f r⟩
 refine⟨λo u=>by have:=bd o u;ext,λo u=>u,λo u=>by have:=bd o u;ext,B,jj _,j.pen,rfl,λi d e _=>?_,λi d e E=>by cases E⟩
 match i,e with
 |0,e=>cases e;obtain⟨v,e,q⟩:=C.get (i:=0) rfl;cases e;exact⟨_,rfl,q⟩
 |1,e=>cases e;obtain⟨v,e,q⟩:=C.get (i:=1) rfl;cases e;exact⟨_,rfl,q⟩
 |2,e=>cases e;exact⟨_,rfl,j.gr.rp λm G no=>by have:=j.gr.ge m G;have:=bd m no;ext⟩
 |3,e=>exact one o.o0 (by injection e)
 |4,e=>exact one o.o1 (by injection e)
 |5,e=>exact one o.o2 (by injection e)
 |6,e=>exact one o.o3 (by injection e)
 |7,e=>exact one o.o4 (by injection e)
 |8,e=>exact one o.o5 (by injection e)
 |9,e=>exact one o.o6 (by injection e)
 |10,e=>exact one o.o7 (by injection e)
 |n+11,e=>simp[mE]at e
def yU(z:MuI q h0 h s a ms rd)(bd:∀o∈O,o<h0.length)(E:q∈O)(r:Rps q h0 O [n,wk] [v0,v1])(o:O8 c e)(l:nC n wk rd c s=J (rd',s')):∃h',DP (sE v0 v1 a e) h=.nx (sE v0 v1 a e) h'/\MuI q h0 h' s' a ms rd':=by
 have B:=bd q E;unfold nC at l
 split at l
 .rename_i d s1 i j L W ej
  split at l
  .rename_i x ex
   split at l
   .rename_i C U
    split at l
    .rename_i y F
     split at l
     .rename_i fd
      cases l;have k:=tK.ok (E3 z bd E r o);rw[L]at k;obtain⟨v,f,em,kb,pn,_,G,_⟩:=k;have u:=z.kb B kb pn;obtain⟨fl,m,xs,e1,e2,e3⟩:=u.gr.row x _ U;have e2:f[m]?=J (.lst xs):=e2;obtain⟨_,_,e4,S⟩:=o.o4 _ W;obtain⟨_,_,Q,r6⟩:=o.o6 _ ej;have M:=ao e2;have X:=n_ a (Ap e1);have ab:=u.gr.ge m X;have xl:xs.length=C.length:=e3.length;have yl:y<C.length:=(L2.lA F).2.1;have P:Rp 0 [] [] d v:=Rp.fq fd (G rfl);have ai:n3 (ms.map PV.loc) i=J (.loc m):=by unfold n3;rw[zx,u.gr.len,ex,JA,qb,e1];rfl
      refine⟨f.set m (.lst (xs.set y v)),?_,by rw[N0];exact u.len,λj R nq=>(pa (by ext)).trans (u.mv j R nq),?_,u.gr.put (r':=(Y,C.set y d)) e1 ?_ (wv M) (e3.set y P) λj _ ne=>pa (Ne.symm ne)⟩
      .unfold DP oX vQ;rw[em];have g:Gj (au bc (ag 2) (ag 7)) (ag 9) v (sE v0 v1 a e) f=.nx (sE v0 v1 a e) (f.set m (.lst (xs.set y v))):=by
        rw[GA];have H:au bc (ag 2) (ag 7) (sE v0 v1 a e) f=.ok (.loc m) f:=by
         rw[CT];have z1:ag 2 (sE v0 v1 a e) f=.ok (.loc a) f:=rfl;have z2:ag 7 (sE v0 v1 a e) f=.ok (.int i) f:=by show ag 7 [J v0,J v1,J (.loc a),e.e0,e.e1,e.e2,e.e3,e.e4,e.e5,e.e6,e.e7] f=_;rw[e4,show _=PV.int i from S];rfl
         rw[z1,Out.bind_ok,z2,Out.bind_ok,fe u.gr.top,ai];rfl
        have Z:ag 9 (sE v0 v1 a e) f=.ok (.int j) f:=by show ag 9 [J v0,J v1,J (.loc a),e.e0,e.e1,e.e2,e.e3,e.e4,e.e5,e.e6,e.e7] f=_;rw[Q,show _=PV.int j from r6];rfl
        rw[H,az,Gz,Z,az,jL e2,xl,F];rfl
       dsimp only;rw[g]
      .have:=u.pen
       unfold aX at this ⊢;rw[pa (by ext)];exact this
      .exact pH fl fd
     .cases l
    .cases l
   .cases l
  .cases l
 .cases l
def DU{x:D}{xs:SW}{z:List Rd×C8×c_}(i:Ca n wk (x::xs) rd c s=J z):∃y w,x=.tup [y,w]:=by
 unfold Ca at i
 split at i
 .rename_i f;cases f
 .rename_i f;cases f;exact⟨_,_,rfl⟩
 .cases i
def DV{v p x:D}{j xs:SW}{z:List Rd×C8×c_}(i:Cb n wk v p j (x::xs) rd c s=J z):∃y w,x=.tup [y,w]:=by
 unfold Cb at i
 split at i
 .rename_i f;cases f
 .rename_i f;cases f;exact⟨_,_,rfl⟩
 .cases i
def DW{x:D}{xs:SW}{z:List Rd×C8×c_}(i:DT n wk (x::xs) rd c s=J z):∃v p j l,x=.tup [v,p,.tup j,.tup l]:=by
 unfold DT at i
 split at i
 .rename_i f;cases f
 .rename_i f;cases f;exact⟨_,_,_,_,rfl⟩
 .cases i
def uG{x y:D}{v:PV}(r:Rp 0 [] [] (.tup [x,y]) v):∃a b,v=.tup [a,b]/\Rp 0 [] [] x a/\Rp 0 [] [] y b:=by obtain⟨ys,rfl,u⟩:=r;obtain⟨B,C,rfl,i,z,j,rfl,l,f⟩:=u;rw[show j=[]from f];exact⟨_,_,rfl,i,l⟩
def xJ{it:MIt}(i:∀h,it.ok h)(bd:∀o∈O,o<h0.length)(M:q∈O)(r:Rps q h0 O [n,wk] [v0,v1]):∀(l:SW)(xs:SM)(rd:List Rd)(c:C8)(e:E8)(h:MH)(s:c_),e_ l=I->Rps 0 [] [] l xs->O8 c e->MuI q h0 h s a ms rd->Ca n wk l rd c s=J (rd',c',s') ->
  ∃h' u y,vt it (yW (pq (mf 9) (pq (mf 10) x_)) 2) DP xs (sE v0 v1 a e) h=.nx (sE v0 v1 a { e with e6:=u,e7:=y}) h'/\MuI q h0 h' s' a ms rd'/\O8 c' { e with e6:=u,e7:=y}/\c'.c0=c.c0/\c'.c1=c.c1/\c'.c2=c.c2/\c'.c3=c.c3
 |[],xs,rd,c,e,h,s,fd,G,o,j,f=>by
  unfold Ca at f;cases f;rw[show xs=[]from G];exact⟨h,e.e6,e.e7,iS (i h),j,o,rfl,rfl,rfl,rfl⟩
 |x::l,xs,rd,c,e,h,s,fd,G,o,j,f=>by
  obtain⟨P,R,rfl⟩:=DU f;simp only[e_,AZ]at fd;have Q:flat P=I/\flat R=I:=by simpa [flat,e_]using fd.1
  unfold Ca at f;obtain⟨vx,X,rfl,E,S⟩:=G;obtain⟨B,z,rfl,H,F⟩:=uG E
  split at f
  .rename_i C U e2
   have L:O8 { c with c6:=J P,c7:=J R} { e with e6:=J B,e7:=J z}:=⟨o.o0,o.o1,o.o2,o.o3,o.o4,o.o5,OR.of Q.1 H,OR.of Q.2 F⟩;obtain⟨W,e1,Z⟩:=yU j bd M r L e2;obtain⟨h2,u,y,e3,I2,o3,k⟩:=xJ i bd M r l X C _ _ W U fd.2 S L Z f;refine⟨h2,u,y,?_,I2,o3,k⟩;rw[gO (i h) (show yW (pq (mf 9) (pq (mf 10) x_)) 2 (.tup [B,z]) (sE v0 v1 a e) h=.nx (sE v0 v1 a { e with e6:=J B,e7:=J z}) h from rfl),e1];exact e3
  .cases f
def yy{it:MIt}{v p:D}{E:SW}{i j:PV}{f:SM}(u:∀h,it.ok h)(bd:∀o∈O,o<h0.length)(hq:q∈O)(r:Rps q h0 O [n,wk] [v0,v1])(fv:flat v=I)(fp:flat p=I)(fr:e_ E=I)(rv:Rp 0 [] [] v i)(rp:Rp 0 [] [] p j)(y:Rps 0 [] [] E f)(lr:E.length<900):
  ∀(F:SW)(xs:SM)(rd:List Rd)(c:C8)(e:E8)(h:MH)(s:c_),e_ F=I->Rps 0 [] [] F xs->O8 c e->MuI q h0 h s a ms rd->e.e0=J i->e.e1=J j->e.e2=J (.tup f)->Cb n wk v p E F rd c s=J (rd',c',s') ->
  ∃h' e4 e5 G H,vt it (yW (pq (mf 7) (pq (mf 8) x_)) 2) DQ xs (sE v0 v1 a e) h=.nx (sE v0 v1 a { e with e4:=e4,e5:=e5,e6:=G,e7:=H}) h'/\MuI q h0 h' s' a ms rd'/\O8 c' { e with e4:=e4,e5:=e5,e6:=G,e7:=H}
 |[],xs,rd,c,e,h,s,fd,Z,o,z,z0,z1,S,l=>by
  unfold Cb at l;cases l;rw[show xs=[]from Z];exact⟨h,e.e4,e.e5,e.e6,e.e7,iS (u h),z,o⟩
 |x::F,xs,rd,c,e,h,s,fd,Z,o,z,z0,z1,S,l=>by
  obtain⟨di,df,rfl⟩:=DV l;simp only[e_,AZ]at fd;have fk:flat di=I/\flat df=I:=by simpa [flat,e_]using fd.1
  unfold Cb at l;obtain⟨vx,xr,rfl,Q,rr⟩:=Z;obtain⟨C,B,rfl,ab,R⟩:=uG Q
  split at l
  .rename_i P c2 s2 e2
   have o2:O8 { c with c4:=J di,c5:=J df} { e with e4:=J C,e5:=J B}:=⟨o.o0,o.o1,o.o2,o.o3,OR.of fk.1 ab,OR.of fk.2 R,o.o6,o.o7⟩;have rl:f.length=E.length:=y.length;obtain⟨h1,G,H,e1,I1,o3,_⟩:=xJ (it:=⟨.tup [i,j]::f,[]⟩) (λ_=>fB.mpr trivial) bd hq r (.tup [v,p]::E) (.tup [i,j]::f) rd _ _ h s (by simp[e_,flat,fv,fp,fr]) ⟨_,_,rfl,⟨_,rfl,_,_,rfl,rv,_,_,rfl,rp,rfl⟩,y⟩ o2 z e2;obtain⟨h2,M,U,W,L,e3,I2,o4⟩:=yy u bd hq r fv fp fr rv rp y lr F xr P _ _ h1 s2 fd.2 rr o3 I1 z0 z1 S l;refine⟨h2,M,U,W,L,?_,I2,o4⟩;rw[gO (u h) (show yW (pq (mf 7) (pq (mf 8) x_)) 2 (.tup [C,B]) (sE v0 v1 a e) h=.nx (sE v0 v1 a { e with e4:=J C,e5:=J B}) h from rfl)];have X:dB (au i_ (cT (af (cT (af (ag 3) (af (ag 4) g_))) g_)) (ag 5)) (sE v0 v1 a { e with e4:=J C,e5:=J B}) h=.ok ⟨.tup [i,j]::f,[]⟩ h:=by
    unfold sE;dsimp only;rw[z0,z1,S];have t1:ll [PV.tup [i,j]] h=.ok (.tup [.tup [i,j]]) h:=by unfold ll;rw[b_ (ql (show _<=1000 by simp) (by decide))]
    have t2:ll [i,j] h=.ok (.tup [i,j]) h:=by unfold ll;rw[b_ (ql (show _<=1000 by simp) (by decide))]
    have t3:i_ (.tup [.tup [i,j]]) (.tup f) h=.ok (.tup (.tup [i,j]::f)) h:=by show(if [PV.tup [i,j]]≠[]then ll ([PV.tup [i,j]]++f) h else .bad)=_;rw[b_ (by simp)];unfold ll;rw[b_ (ql (show _<=1000 by simp;ext) (by decide))];rfl
    simp[cT,t1,t2,t3]
   have b:DQ (sE v0 v1 a { e with e4:=J C,e5:=J B}) h=.nx (sE v0 v1 a { e with e4:=J C,e5:=J B,e6:=G,e7:=H}) h1:=by unfold DQ;rw[jm,X,az];exact e1
   rw[b];exact e3
  .cases l
def yf{it:MIt}(z:∀h s rd,MuI q h0 h s a ms rd->it.ok h)(bd:∀o∈O,o<h0.length)(hq:q∈O)(r:Rps q h0 O [n,wk] [v0,v1]):
  ∀(M:SW)(xs:SM)(rd:List Rd)(c:C8)(e:E8)(h:MH)(s:c_),e_ M=I->Rps 0 [] [] M xs->O8 c e->MuI q h0 h s a ms rd->DT n wk M rd c s=J (rd',c',s') ->
  ∃h' e',vt it (yW (pq (mf 3) (pq (mf 4) (pq (mf 5) (pq (mf 6) x_)))) 4) DR xs (sE v0 v1 a e) h=.nx (sE v0 v1 a e') h'/\MuI q h0 h' s' a ms rd'/\O8 c' e'
 |[],xs,rd,c,e,h,s,fd,W,o,l,u=>by
  unfold DT at u;cases u;rw[show xs=[]from W];exact⟨h,e,iS (z h _ _ l),l,o⟩
 |x::M,xs,rd,c,e,h,s,fd,W,o,l,u=>by
  obtain⟨v,p,rs,P,rfl⟩:=DW u;simp only[e_,AZ]at fd;have y:flat v=I/\flat p=I/\e_ rs=I/\e_ P=I:=by simpa [flat,e_]using fd.1
  unfold DT at u;obtain⟨vx,xr,rfl,R,rr⟩:=W;obtain⟨us,rfl,ru⟩:=R;obtain⟨i,t1,rfl,B,C,X,rfl,E,u3,t3,rfl,F,u4,t4,rfl,G,S⟩:=ru;rw[show t4=[]from S];have L:=F;have H:=G;obtain⟨j,rfl,r3⟩:=F;obtain⟨f,rfl,r4⟩:=G
  split at u
  .rename_i lc
   split at u
   .rename_i Q c2 s2 e2
    have o2:O8 { c with c0:=J v,c1:=J p,c2:=J (.tup rs),c3:=J (.tup P)} { e with e0:=J i,e1:=J C,e2:=J (.tup j),e3:=J (.tup f)}:=⟨OR.of y.1 B,OR.of y.2.1 E,OR.of (by simp[flat,y.2.2.1]) L,OR.of (by simp[flat,y.2.2.2]) H,o.o4,o.o5,o.o6,o.o7⟩;have cl:f.length=P.length:=r4.length;obtain⟨Z,e4,e5,e6,e7,e1,I1,o3⟩:=yy (it:=⟨.tup [i,.tup [.int 1,.int 1]]::f,[]⟩) (λ_=>fB.mpr trivial) bd hq r y.1 y.2.1 y.2.2.1 B E r3 lc.1 (.tup [v,.tup [.int 1,.int 1]]::P) (.tup [i,.tup [.int 1,.int 1]]::f) rd _ _ h s (by simp[e_,flat,y.1,y.2.2.2]) ⟨_,_,rfl,⟨_,rfl,_,_,rfl,B,_,_,rfl,⟨_,rfl,_,_,rfl,rfl,_,_,rfl,rfl,rfl⟩,rfl⟩,r4⟩ o2 l rfl rfl rfl e2;obtain⟨h2,e',e3,I2,o4⟩:=yf z bd hq r M xr Q _ _ Z s2 fd.2 rr o3 I1 u;refine⟨h2,e',?_,I2,o4⟩;rw[gO (z h _ _ l) (show yW (pq (mf 3) (pq (mf 4) (pq (mf 5) (pq (mf 6) x_)))) 4 (.tup [i,C,.tup j,.tup f]) (sE v0 v1 a e) h=.nx (sE v0 v1 a { e with e0:=J i,e1:=J C,e2:=J (.tup j),e3:=J (.tup f)}) h from rfl)];have U:dB (au i_ (cT (af (cT (af (ag 3) (af (cT (af (mC (.int 1)) (af (mC (.int 1)) g_))) g_))) g_)) (ag 6)) (sE v0 v1 a { e with e0:=J i,e1:=J C,e2:=J (.tup j),e3:=J (.tup f)}) h=.ok ⟨.tup [i,.tup [.int 1,.int 1]]::f,[]⟩ h:=by
     unfold sE;dsimp only;have t0:ll [PV.int 1,.int 1] h=.ok (.tup [.int 1,.int 1]) h:=by unfold ll;rw[b_ (ql (show _<=1000 by simp) (by decide))]
     have t1:ll [PV.tup [i,.tup [.int 1,.int 1]]] h=.ok (.tup [.tup [i,.tup [.int 1,.int 1]]]) h:=by unfold ll;rw[b_ (ql (show _<=1000 by simp) (by decide))]
     have X:ll [i,.tup [.int 1,.int 1]] h=.ok (.tup [i,.tup [.int 1,.int 1]]) h:=by unfold ll;rw[b_ (ql (show _<=1000 by simp) (by decide))]
     have t3:i_ (.tup [.tup [i,.tup [.int 1,.int 1]]]) (.tup f) h=.ok (.tup (.tup [i,.tup [.int 1,.int 1]]::f)) h:=by show(if [PV.tup [i,.tup [.int 1,.int 1]]]≠[]then ll ([PV.tup [i,.tup [.int 1,.int 1]]]++f) h else .bad)=_;rw[b_ (by simp)];unfold ll;rw[b_ (ql (show _<=1000 by simp;ext) (by decide))];rfl
     simp[cT,t0,t1,X,t3]
    have b:DR (sE v0 v1 a { e with e0:=J i,e1:=J C,e2:=J (.tup j),e3:=J (.tup f)}) h=.nx (sE v0 v1 a { e with e0:=J i,e1:=J C,e2:=J (.tup j),e3:=J (.tup f),e4:=e4,e5:=e5,e6:=e6,e7:=e7}) Z:=by unfold DR;rw[jm,U,az];exact e1
    rw[b];exact e3
   .cases u
  .cases u
def yG{it:MIt}(f:∀h,it.ok h):∀(xs ys:SM)(z:Sl)(h:MH)(m:Nat),m=h.length->ys.length+xs.length<1000->y4 it m (mf 0) oF Ij xs [z] (h++[.lst ys])=.ok () (h++[.lst (ys++List.replicate xs.length (.tup [.int 0,.int 1]))])
 |[],ys,z,h,m,i,hl=>by rw[lI (f _)];simp
 |x::xs,ys,z,h,m,i,hl=>by
  subst i;have j:Ij [J x] (h++[.lst ys])=.ok (.tup [.int 0,.int 1]) (h++[.lst ys]):=by unfold Ij cT;simp[ll,sizeLine]
  rw[lJ (Z1:=[J x]) (h1:=h++[.lst ys]) (h2:=h++[.lst ys]) (h3:=h++[.lst ys]) (f _) rfl rfl j wn (by simp at hl;ext)];have l:(h++[MO.lst ys]).set h.length (.lst (ys++[.tup [.int 0,.int 1]]))=h++[.lst (ys++[.tup [.int 0,.int 1]])]:=by simp
  rw[l,yG f xs _ (J x) h _ rfl (by simp at hl ⊢;ext),A0,Bp,Cd];rfl
def uU{it:MIt}{n:Nat}(G:n<900)(l:∀h,it.ok h):∀(xs:SM)(f:List Rd)(ms:SV)(z:Sl)(h:MH),Gr h h0.length a ms f->h0.length<=h.length->(∀j:Nat,j<h0.length->h[j]?=h0[j]?)->ms.length+xs.length<1000 ->
  ∃h' i,y4 it a (mf 0) oF (bN 1 [] (dz (af (ag 1) g_)) (mf 0) oF Ij) xs [z,J (.int (n:Int))] h=.ok () h'/\Gr h' h0.length a i (f++List.replicate xs.length (Y,List.replicate n (.tup [.int 0,.int 1])))/\h0.length<=h'.length/\∀j:Nat,j<h0.length->h'[j]?=h0[j]?
 |[],f,ms,z,h,g,hl,kp,u=>⟨h,ms,lI (l h),by simpa using g,hl,kp⟩
 |x::xs,f,ms,z,h,g,hl,kp,u=>by
  have rep:∀k:Nat,e_ (List.replicate k (D.tup [.int 0,.int 1]))=I/\Rps 0 [] [] (List.replicate k (D.tup [.int 0,.int 1])) (List.replicate k (.tup [.int 0,.int 1])):=λk=>by
   induction k with
   |zero=>exact⟨rfl,rfl⟩
   |succ k y=>exact⟨by simp[Bp,e_,flat,y.1],_,_,rfl,⟨_,rfl,_,_,rfl,rfl,_,_,rfl,rfl,rfl⟩,y.2⟩
  have B:=uL g (r:=(Y,List.replicate n (.tup [.int 0,.int 1]))) (xs:=List.replicate n (.tup [.int 0,.int 1])) hl (rep n).1 (rep n).2;have H:=g.ge a (by simp);obtain⟨h',i,e',C,E,M⟩:=uU G l xs _ _ (J x) _ B (by simp;ext) (λj F=>by rw[pa (by ext),p_ (by ext)];exact kp j F) (by simp at u ⊢;ext);refine⟨h',i,?_,by rw[A0,Bp,List.append_cons];exact C,E,M⟩;have L:bN 1 [] (dz (af (ag 1) g_)) (mf 0) oF Ij [J x,J (.int (n:Int))] h=.ok (.loc h.length) (h++[.lst (List.replicate n (.tup [.int 0,.int 1]))]):=by rw[jE,Hb (n:=n) (h1:=h) rfl (by ext),Out.bind_ok];refine(congrArg (λz:Out Unit=>z.bind _) (yG (it:=⟨bo 0 n,[]⟩) (λ_=>fB.mpr trivial) (bo 0 n) [] Y h h.length rfl (by rw[MM.dy];simp;ext))).trans ?_;rw[MM.dy,MD];rfl
  rw[lJ (Z1:=[J x,J (.int (n:Int))]) (h1:=h) (h2:=h) (v:=.loc h.length) (h3:=h++[mo Y (List.replicate n (.tup [.int 0,.int 1]))]) (ys:=ms.map .loc) (l h) rfl rfl L (by rw[p_ (ao g.top)];exact g.top) (by simp at u ⊢;ext)];exact e'
end
def ja:Fn where
 m:=cF
 p:=ND
 fr:=I
 ok {q h O vs ds s} bd hq pn r:=by
  unfold ND;split
  .rename_i n wk
   split
   .rename_i cn
    obtain⟨P,n0,n9⟩:=cn;split
    .rename_i rd c s1 R
     split
     .rename_i d s2 ed
      split
      .rename_i fd
       have C:=r;obtain⟨v0,t0,rfl,H,v1,t1,rfl,L,G⟩:=r;rw[show t1=[]from G]at C ⊢;rw[show v0=PV.int n from H]at C ⊢;obtain⟨no,f,rfl,W,B,ro⟩:=L;obtain⟨k,rfl⟩:∃k:Nat,n=(k:Int):=⟨n.toNat,by ext⟩;rw[BK]at R;have u:q<h.length:=bd q hq;obtain⟨l,ms,e1,Q,l1,U⟩:=uU (h0:=h) (a:=h.length) (n:=k) (it:=⟨bo 0 k,[]⟩) (by ext) (λ_=>fB.mpr trivial) (bo 0 k) [] [] Y (h++[.lst []]) ⟨by simp,rfl,by simp,λm hm=>by simp at hm;ext,λi r e=>by simp at e⟩ (by simp) (λn G=>p_ G) (by rw[MM.dy];simp;ext);rw[MM.dy,MD]at Q;have M:MuI q h l s h.length ms (List.replicate k (Y,List.replicate k (.tup [.int 0,.int 1]))):=⟨l1,λj F _=>U j F,by unfold aX;rw[U q u];exact pn,Q⟩;have o0:O8 ⟨Y,Y,Y,Y,Y,Y,Y,Y⟩ ⟨Y,Y,Y,Y,Y,Y,Y,Y⟩:=⟨λ_ z=>(by cases z),λ_ z=>(by cases z),λ_ z=>(by cases z),λ_ z=>(by cases z),λ_ z=>(by cases z),λ_ z=>(by cases z),λ_ z=>(by cases z),λ_ z=>(by cases z)⟩
       obtain⟨h2,e2,em,X,o2⟩:=yf (it:=⟨f,[(no,f)]⟩) (λh' s' ai E=>by
        intro p hp
        have:p=(no,f):=by simpa using hp
        subst this
        exact(E.mv no (ao B) λz=>W (z▸hq)).trans B) bd hq C wk f _ _ _ l s P (Rps.fq P ro) o0 M R
       have Z:=sS.ok (E3 X bd hq C o2);rw[ed]at Z;obtain⟨v,h3,e3,kb,y,_,rz,_⟩:=Z;have S:=X.kb u kb y;have run:cF [.int (k:Int),.loc no] h=.ok v h3:=by
        unfold cF;rw[d3 (by rfl)];unfold pk;rw[show be 11 [.int (k:Int),.loc no]=[J (.int (k:Int)),J (.loc no),Y,Y,Y,Y,Y,Y,Y,Y,Y]from rfl];have c2:ba 2 (bN 1 [0] (dz (af (ag 0) g_)) (mf 0) oF (bN 1 [] (dz (af (ag 1) g_)) (mf 0) oF Ij)) [J (.int (k:Int)),J (.loc no),Y,Y,Y,Y,Y,Y,Y,Y,Y] h=.nx (sE (.int (k:Int)) (.loc no) h.length ⟨Y,Y,Y,Y,Y,Y,Y,Y⟩) l:=by rw[lH,jE,Hb (n:=k) (h1:=h) rfl (by ext),Out.bind_ok];refine(congrArg (λz:Out Unit=>(z.bind _).go _ _) e1).trans ?_;rfl
        rw[br,c2,MM.aB,br,jm];have c3:dB (ag 1) (sE (.int (k:Int)) (.loc no) h.length ⟨Y,Y,Y,Y,Y,Y,Y,Y⟩) l=.ok ⟨f,[(no,f)]⟩ l:=by rw[CV];show qr (.loc no) l=_;exact xH ((M.mv no (ao B) λz=>W (z▸hq)).trans B)
        rw[c3,az];refine(congrArg (λz:SOut=>(z.then _).fin) em).trans ?_;rw[MM.aB,uY,e3];rfl
       refine⟨v,h3,run,⟨S.len,λj F nq=>S.mv j F nq⟩,y,Rp.fq fd (rz rfl),λ_ kk ab e=>?_⟩;rw[e]at fd;cases kk<;>simp[dl,flat]at fd
      .trivial
     .trivial
    .trivial
   .trivial
  .trivial
def dL:Xd [1]:=(aM (f9 1 (fb a_))
 (aM (iI (cH iE (ac (ae l_ (aa 0) (xC (.int 1))) a_)) (vg (mu (j_ 2) (mu (j_ 3) va)) 2) (iI (bx (aa 3)) (vg (mu (j_ 4) (mu (j_ 5) va)) 2) (wL (oD (xB (ae zI (aa 2) (aa 4))) (xB (ae (A3 I) (bn (ac (o_ m4 (ac (aa 2) (ac (aa 4) a_))) (ac (o_ mZ (ac (aa 2) (ac (aa 4) a_))) a_))) (aa 1)))) (BI r_ 1 (ac (bn (ac (o_ m4 (ac (aa 2) (ac (aa 4) a_))) (ac (o_ mZ (ac (aa 2) (ac (aa 4) a_))) a_))) a_)) ki)))
 (aW (o_ cQ (ac (aa 1) a_)))))
def dE:Fn:=bC 6 1 dL
def rB{a:SW}{s:c_}(h:a.length=1):dE.p a s=(dL.p (kx 6 a) s).fin:=aU h
def gS:Xd []:=(aW (ae cc (aV 2 [1] (bx (aa 0)) (ws':=[]) (vg (mu (j_ 0) (mu (j_ 1) va)) 2) (xB (ae zb (aa 0) (aa 2))) (aa 1)) (aV 2 [1] (bx (aa 0)) (ws':=[]) (vg (mu (j_ 0) (mu (j_ 1) va)) 2) (xB (ae zb (aa 1) (aa 2))) (aa 0))))
def dS:Fn:=bC 2 2 gS
def xx{a:SW}{s:c_}(h:a.length=2):dS.p a s=(gS.p (kx 2 a) s).fin:=aU h
def fP:Xd [3]:=(aM (f9 3 (fb (ac (ae l_ (aa 1) (aa 2)) a_)))
 (aM (bh 4 (xC (.int 0)))
 (aM (Jf 2000000 (xB (ae Ho (aa 4) (o_ hW (ac (aa 3) a_)))) (aM (wL (BX (xB (ae zb (aa 4) (xC (.int 0)))) (xB (ae (A3 T) (ae l_ (aa 3) (aa 4)) (Bm (aa 1) Bk (Bl (aa 2)))))) (BI xg 3 (ac (aV 1 [3] (bx (av dS (ac (aa 0) (ac (ae l_ (aa 3) (aa 4)) a_)))) (ws':=[1]) (j_ 0) (xB (ae (A3 I) (aa 0) (aa 1))) (aa 0)) a_)) ki)
 (bh 4 (ae cc (aa 4) (xC (.int 1))))) i9)
 (aW (aV 1 [3] (bx (Bm (aa 1) (Bl (ae cc (aa 2) (xC (.int 1)))) Bk)) (ws':=[1]) (j_ 0) (xB (ae (A3 T) (aa 0) (aa 1))) (aa 0))))))
def d5:Fn:=bC 5 3 fP
def vi{a:SW}{s:c_}(h:a.length=3):d5.p a s=(fP.p (kx 5 a) s).fin:=aU h
def gN:Xd []:=(aM (bh 3 (av dE (ac (aa 0) a_)))
 (aM (iI (cH iE (ac (aa 1) a_)) (vg (mu (j_ 4) (mu (vg (mu (j_ 6) (mu (j_ 7) (mu (j_ 8) (mu (j_ 9) va)))) 4) va)) 2) (aM (bh 5 (av d5 (ac (aa 3) (ac (aa 2) (ac (aa 4) a_)))))
 (wL (xB (ae zI (aV 2 [5] (bx (ae oo (aa 8) (aa 9))) (ws':=[]) (vg (mu (j_ 0) (mu (j_ 1) va)) 2) (xB (ae (A3 I) (aa 0) (aa 2))) (aa 0)) (fb a_))) (aW (xC (.bl T))) ki)))
 (aW (xC (.bl I)))))
def fj:Fn:=bC 10 3 gN
def wU{a:SW}{s:c_}(h:a.length=3):fj.p a s=(gN.p (kx 10 a) s).fin:=aU h
def vJ:mh:=(aR (ba 1 (bI fA.m (af (ag 0) g_)))
 (aR (ba 2 (bI dY.m (af (ag 0) (af (ag 1) g_))))
 (aR (ba 3 (bI dZ.m (af (ag 0) (af (ag 1) (af (ag 2) (af (au i_ (au i_ (mC (.int 1)) (bI cz (af (ag 0) (af (mC (.int 4)) g_)))) (au jn (mC (.int 2)) (p6 BS (af (au zM (ag 1) (mC (.int 12))) g_)))) g_))))))
 (aR (ba 4 (bI cF (af (ag 1) (af (ag 3) g_))))
 (aR (ba 5 (p6 u_ (af (ag 2) g_)))
 (aR (ba 6 (bI cY.m (af (ag 4) (af (ag 5) g_))))
 (aR (A9 (Kg (mB (au Ay (ag 5) (ag 2))) (Kg (qV (mB (bI dU.m (af (ag 6) (af (ag 3) g_))))) (qV (mB (bI fj.m (af (ag 4) (af (ag 6) (af (ag 2) g_)))))))) (bQ (mC (.bl T))) n7)
 (aR (eS (Bi du (ag 6) (af (mC .non) g_)))
 (aR (eS (Bi fC (ag 5) g_))
 (bQ (bI dU.m (af (bI cY.m (af (ag 4) (af (p6 u_ (af (ag 2) g_)) g_))) (af (ag 3) g_)))))))))))))
def d6:SM->MH->SK:=b7 7 1 vJ
def BZ:mh:=(bQ (p6 Bb (af (bN 1 [0] (dz (af (p6 AW (af (mC (.int 1)) (af (p6 wq (af (p6 qo (af (ag 0) g_)) (af (mC (.int 10)) g_))) g_))) g_)) (mf 0) oF (bI d6 (af (bI gF (af (ag 1) (af (ag 0) g_))) g_))) g_)))
def Bo:SM->MH->SK:=b7 1 1 BZ
end
end Law
namespace Law
open MM PU SetT SortT
open L2 (vq n3 gQ)
set_option maxHeartbeats 1000000
def AH{lo:Int}{c:Nat}:(gT lo c).length=c:=by simp[gT]
def Av{c i:Nat}{x:D}(h:(gT 0 c)[i]?=J x):x=.int (i:Int)/\i<c:=by unfold gT at h;rw[qb,vz]at h;obtain⟨k,f,rfl⟩:=h;obtain⟨a,b⟩:=nw.mp f;simp at a b;subst b;exact⟨by simp,a⟩
def lx{f:SV}{env:am}{s s1:c_}{o:Dn}{i:Nat}{a:Xs f}{j:f.contains i=I}{l:a.fz=I}{as ds ds':SW}{r:D}(e1:a.p env s=.ok as s1)(e2:env[i]?=J (J (.lst ds)))(e3:o.p ds as=J (r,ds')):(BI o i a j l).p env s=.nx (env.set i (J (.lst ds'))) s1:=by rw[K8,yN e1 e2 e3]
abbrev nD(t b:Int):D:=.tup [.int t,.int b]
def jR{a b:Int}(f:0<=a)(i:0<=b):Int.gcd b (a % b)=Int.gcd a b:=by obtain⟨m,rfl⟩:=QR f;obtain⟨n,rfl⟩:=QR i;show Nat.gcd n (m % n)=Nat.gcd m n;rw[Nat.gcd_comm m n,Nat.gcd_rec n m,Nat.gcd_comm]
def sX{a b:Int}(f:0<b):m6.p (.int a) (.int b)=J (.int (a % b)):=by rw[Dw (by ext),Mn _ (by ext)]
def tJ{a b:Int}(f:b≠0):Dq.p (.int a) (.int b)=J (.int (a.fdiv b)):=b_ f
def lP{a b:Int}(f:0<b):Dq.p (.int a) (.int b)=J (.int (a/b)):=by rw[tJ (by ext),Int.fdiv_eq_ediv_of_nonneg _ (by ext)]
def Ik{a:Int}:(if a<0 then -a else a)=(a.natAbs:Int):=by split<;>ext
def wW{a:Int}:pe.p [.int a]=J (.int (a.natAbs:Int)):=by show J (D.int (if a<0 then -a else a))=_;rw[Ik]
def vw{a:SV}{N:Nat}{t:Xt a}{b:Xd a}(f:∀{Z h n},bF t.m b.m n Z h≠.bad->Gm t.m b.m Z h=bF t.m b.m n Z h){env:am}{s:c_}:(Jf N t b f).p env s=cp t.p b.p N env s:=rfl
def rm{b r:Int}(a:0<r)(l:r<b):0<=b % r/\b % r<r/\2*(b % r)<b:=by
 have u:=JC b (show r≠0 by ext);have y:=Jv b a;have j:=Int.mul_ediv_add_emod b r;have f:1<=b/r:=by rw[Int.le_ediv_iff_mul_le a];ext
 have i:r*1<=r*(b/r):=Int.mul_le_mul_of_nonneg_left f (by ext);ext
def d9{a:Int}(h:0<=a):((Int.gcd a 0:Nat):Int)=a:=by rw[Int.gcd_zero_right];ext
abbrev DX:Xt []:=xB (ae K3 (aa 3) (xC (.int 0)))
abbrev DY:Xd []:=oY 2 3 (ac (aa 3) (ac (ae m6 (aa 2) (aa 3)) a_))
def L3{x y:Sj}{a b:Int}{n:Nat}{s:c_}(f:0<b):cp DX.p DY.p (n+1) [x,y,J (.int a),J (.int b)] s=cp DX.p DY.p n [x,y,J (.int b),J (.int (a % b))] s:=by rw[cp];simp[sX f,f,PR.bl]
def Il{x y:Sj}{a:Int}{n:Nat}{s:c_}:cp DX.p DY.p (n+1) [x,y,J (.int a),J (.int 0)] s=.nx [x,y,J (.int a),J (.int 0)] s:=by rw[cp];simp[PR.bl]
def DZ{x y:Sj}{s:c_}:∀(k n:Nat)(a b:Int),0<=a->0<=b->b<2^k->2*k+1<=n->cp DX.p DY.p n [x,y,J (.int a),J (.int b)] s=.nx [x,y,J (.int (Int.gcd a b)),J (.int 0)] s:=by
 intro k
 induction k with
 |zero =>
  intro n a b i j l C;obtain⟨m,rfl⟩:∃m,n=m+1:=⟨n-1,by ext⟩
  have:b=0:=by simp at l;ext
  subst this;rw[Il,d9 i]
 |succ k B =>
  intro n a b i j l C;obtain⟨m,rfl⟩:∃m,n=m+1+1:=⟨n-2,by ext⟩;by_cases e:b=0
  .subst e;rw[Il,d9 i]
  .have f:0<b:=by ext
   rw[L3 f,<-jR i j];have u:=JC a e;have z:=Jv a f;generalize a % b=r at u z ⊢;by_cases E:r=0
   .subst E;rw[Il,d9 j]
   .obtain⟨F,G,H⟩:=rm (b:=b) (r:=r) (by ext) z;rw[L3 (by ext),<-jR j u];refine B m r (b % r) u F ?_ (by ext);rw[Int.pow_succ]at l;ext
abbrev qD(q:Rat):D:=nD q.num (q.den:Int)
def sz(q:Rat):Nat:=max (q.num.natAbs.log2+1) (q.den.log2+1)
def xM(n:Nat):n<2^(n.log2+1):=Nat.lt_log2_self
def cN(q:Rat):q.num.natAbs<2^sz q:=vE (xM _) (NP (by decide) (Nat.le_max_left _ _))
def bS(q:Rat):q.den<2^sz q:=vE (xM _) (NP (by decide) (Nat.le_max_right _ _))
def rP{n k:Nat}(a:0<k)(h:n<2^k):n.log2+1<=k:=by
 rcases NR n with e|e
 .subst e;simp only[Nat.log2_zero];ext
 .exact (Nat.log2_lt (by ext)).mpr h
def L4{q:Rat}{k:Nat}(a:0<k)(f:q.num.natAbs<2^k)(i:q.den<2^k):sz q<=k:=Nat.max_le.mpr ⟨rP a f,rP a i⟩
def Im(q:Rat):0<sz q:=vE (Nat.succ_pos _) (Nat.le_max_left _ _)
def o8(t:Int)(b:Nat)(a:b≠0):(Rat.divInt t b).num=t/(Nat.gcd t.natAbs b:Int)/\(Rat.divInt t b).den=b/Nat.gcd t.natAbs b:=by rw[Rat.divInt_ofNat];unfold mkRat;rw[dif_neg a,Rat.normalize_eq];exact⟨rfl,rfl⟩
def D_{t:Int}{g:Nat}:(t/(g:Int)).natAbs<=t.natAbs:=Int.natAbs_ediv_le_natAbs t g
def wT{t:Int}{b k:Nat}(i:b≠0)(j:0<k)(a:t.natAbs<2^k)(f:b<2^k):sz (Rat.divInt t b)<=k:=by
 obtain⟨e1,e2⟩:=o8 t b i;refine L4 j ?_ ?_
 .rw[e1];exact Nat.lt_of_le_of_lt D_ a
 .rw[e2];exact Nat.lt_of_le_of_lt (Nat.div_le_self _ _) f
def oH(p q:Rat):p+q=Rat.divInt (p.num*q.den+q.num*p.den) ((p.den*q.den:Nat):Int):=by
 have:=Rat.divInt_add_divInt p.num q.num (d₁:=p.den) (d₂:=q.den) (by have:=p.den_nz;ext) (by have:=q.den_nz;ext)
 rw[Rat.num_divInt_den,Rat.num_divInt_den]at this;rw[this];push_cast;rfl
def lj(p q:Rat):p*q=Rat.divInt (p.num*q.num) ((p.den*q.den:Nat):Int):=by
 have:=Rat.divInt_mul_divInt p.num q.num (d₁:=p.den) (d₂:=q.den)
 rw[Rat.num_divInt_den,Rat.num_divInt_den]at this;rw[this];push_cast;rfl
def gD{a b j k:Nat}(f:a<2^j)(i:b<2^k):a*b<2^(j+k):=by rw[Nat.pow_add];exact Nat.mul_lt_mul'' f i
local macro_rules | `(tactic| simp! [$a,*]) => `(tactic| simp only [$a,*, Pb, aA, aD, aj, aq])
local macro_rules | `(tactic| dsimp! [$a,*]) => `(tactic| simp only [$a,*, Pb, Pf])
def mL{t:Int}{b k:Nat}{s:c_}(l:b≠0)(j:b<2^k)(C:k<=950000):bX.p [.int t,.int (b:Int)] s=.ok (qD (Rat.divInt t b)) s:=by
 obtain⟨e1,e2⟩:=o8 t b l;have f:((b:Nat):Int)<2^k:=by
  have:=MV.mpr j
  simpa using this
 have i:0<(Nat.gcd t.natAbs b:Int):=by
  have:0<Nat.gcd t.natAbs b:=QL _ (by ext)
  ext
 rw[tN (by rfl)];unfold eT;have e0:kx 4 [D.int t,.int (b:Int)]=[J (.int t),J (.int (b:Int)),Y,Y]:=rfl;have q:=DZ (x:=J (.int t)) (y:=J (.int (b:Int))) (s:=s) k 2000000 (t.natAbs:Int) ((b:Int).natAbs:Int) (by ext) (by ext) (by simpa using f) (by ext);rw[e0];simp![aI,HA,cx,wW,Pf,Pg,zK,x5,PU.aB];rw[vw i9];refine(congrArg (λz:PS=>(z.then _).fin) q).trans ?_;rw[Int.gcd_natCast_natCast,Int.natAbs_natCast];have u:=lP (a:=t) i;have B:=lP (a:=(b:Int)) i;rw[qD,e1,e2];simp[PR.bl,show ¬(b:Int)<0 by ext,u,B]
def uj{a:Int}{k:Nat}(h:a.natAbs<2^k)(f:k<=1000000):Builtin.Int.intBits a<=2^20:=by
 unfold Builtin.Int.intBits;rcases NR k with e|e
 .subst e
  have:a.natAbs=0:=by simpa using h
  rw[this];split<;>simp
 .have:=rP e h
  split<;>ext
def bA{a b:Int}{j k:Nat}(i:a.natAbs<2^j)(l:b.natAbs<2^k)(f:j<=1000000:=by ext)(u:k<=1000000:=by ext):bp.p (.int a) (.int b)=J (.int (a*b)):=b_ (IntMulOk.of_bits (uj i f) (uj l u))
def z0{x y:D}:n3 [x,y] 0=J x:=rfl
def z1{x y:D}:n3 [x,y] 1=J y:=rfl
def Io{p q:Rat}{s:c_}(h:sz p+sz q<=900000):hZ.p [qD p,qD q] s=.ok (qD (p+q)) s:=by
 have y:=cN p;have i:=bS p;have u:=cN q;have f:=bS q;rw[xR (by rfl)];unfold gX;rw[show kx 2 [qD p,qD q]=[J (qD p),J (qD q)]from rfl];have l:=mL (t:=p.num*q.den+q.num*p.den) (b:=p.den*q.den) (s:=s) (Nat.mul_ne_zero p.den_nz q.den_nz) (gD (bS p) (bS q)) (by ext);rw[<-oH,JD]at l
 simp![bu,aG,aJ,bL,aY,lU,z0,z1,Pf,bA (b:=(q.den:Int)) (k:=sz q) y (by simpa using f),bA (b:=(p.den:Int)) (k:=sz p) u (by simpa using i),d7,l,Pg,PU.bD,bA (a:=(p.den:Int)) (b:=(q.den:Int)) (j:=sz p) (k:=sz q) (by simpa using i) (by simpa using f)]
def Ea{p q:Rat}{s:c_}(h:sz p+sz q<=900000):fW.p [qD p,qD q] s=.ok (qD (p*q)) s:=by have u:=cN p;have y:=bS p;have i:=cN q;have f:=bS q;rw[wg (by rfl)];unfold fU;rw[show kx 2 [qD p,qD q]=[J (qD p),J (qD q)]from rfl];have l:=mL (t:=p.num*q.num) (b:=p.den*q.den) (s:=s) (Nat.mul_ne_zero p.den_nz q.den_nz) (gD (bS p) (bS q)) (by ext);rw[<-lj,JD]at l;simp![bu,aG,aJ,bL,aY,lU,z0,z1,Pf,bA u i,bA (a:=(p.den:Int)) (b:=(q.den:Int)) (j:=sz p) (k:=sz q) (by simpa using y) (by simpa using f),l,Pg,PU.bD]
abbrev NE:Xt []:=xB (ae zI (aa 1) (xC (.int 0)))
abbrev NF:Xd []:=(aM (bh 2 (ae m6 (aa 0) (aa 1))) (aM (bh 0 (aa 1)) (bh 1 (aa 2))))
def RM{x:Sj}{a b:Int}{n:Nat}{s:c_}(f:0<b):cp NE.p NF.p (n+1) [J (.int a),J (.int b),x] s=cp NE.p NF.p n [J (.int b),J (.int (a % b)),J (.int (a % b))] s:=by rw[cp];simp[sX f,PR.bl,show ¬b=0 by ext]
def Qo{x:Sj}{a:Int}{n:Nat}{s:c_}:cp NE.p NF.p (n+1) [J (.int a),J (.int 0),x] s=.nx [J (.int a),J (.int 0),x] s:=by rw[cp];simp[PR.bl]
def Ip{s:c_}:∀(k n:Nat)(a b:Int)(x:Sj),0<=a->0<=b->b<2^k->2*k+1<=n->∃E,cp NE.p NF.p n [J (.int a),J (.int b),x] s=.nx [J (.int (Int.gcd a b)),J (.int 0),E] s:=by
 intro k
 induction k with
 |zero =>
  intro n a b x i j l B;obtain⟨m,rfl⟩:∃m,n=m+1:=⟨n-1,by ext⟩
  have:b=0:=by simp at l;ext
  subst this;exact⟨x,by rw[Qo,d9 i]⟩
 |succ k z =>
  intro n a b x i j l B;obtain⟨m,rfl⟩:∃m,n=m+1+1:=⟨n-2,by ext⟩;by_cases e:b=0
  .subst e;exact⟨x,by rw[Qo,d9 i]⟩
  .have f:0<b:=by ext
   rw[RM f,<-jR i j];have u:=JC a e;have y:=Jv a f;generalize a % b=r at u y ⊢;by_cases C:r=0
   .subst C;exact⟨_,by rw[Qo,d9 j]⟩
   .obtain⟨F,G,H⟩:=rm (b:=b) (r:=r) (by ext) y;rw[RM (by ext),<-jR j u];refine z m r (b % r) _ u F ?_ (by ext);rw[Int.pow_succ]at l;ext
def L5{a k:Nat}(h:a<2^k):((a:Nat):Int)<2^k:=by
 have:=MV.mpr h
 simpa using this
def zn{a b k:Nat}{s:c_}(f:b<2^k)(i:k<=950000):bU.p [.int (a:Int),.int (b:Int)] s=.ok (.int (Nat.gcd a b:Int)) s:=by rw[kW (by rfl)];unfold bR;obtain⟨j,q⟩:=Ip (s:=s) k 2000000 (a:Int) (b:Int) Y (by ext) (by ext) (L5 f) (by ext);rw[show kx 3 [D.int (a:Int),.int (b:Int)]=[J (.int (a:Int)),J (.int (b:Int)),Y]from rfl,aI,vw i9];refine(congrArg (λz:PS=>(z.then _).fin) q).trans ?_;simp
def u8{i:Int}{s:c_}:cu.p [.int i] s=.ok (.bl I) s:=by rw[tW (by rfl)];unfold eN;have e1:(b8 ["int"]).p (.int i)=J (.bl I):=rfl;have e2:(b8 ["bool"]).p (.int i)=J (.bl T):=rfl;rw[show kx 1 [D.int i]=[J (.int i)]from rfl];dsimp![bu,oO,vW,aq,e1,e2,PR.bl,if_true,Dt,Bool.not_false,Pg,PU.bD]
def Qp{t b:Int}(a:b≠0):Rat.divInt t b=Rat.divInt (if b<0 then -t else t) (b.natAbs:Nat):=by
 split
 .have:((b.natAbs:Nat):Int) = -b:=by ext
  rw[this];exact(Rat.neg_divInt_neg t b).symm
 .have:((b.natAbs:Nat):Int)=b:=by ext
  rw[this]
def xZ{t:Int}{g:Nat}(f:0<g)(hd:(g:Int) ∣ t):t.fdiv (-(g:Int))=(-t)/(g:Int):=by
 obtain⟨c,rfl⟩:=hd;have a:(g:Int)≠0:=by ext
 have e1:((g:Int)*c).fdiv (-(g:Int)) = -c:=by rw[show(g:Int)*c=(-(g:Int))*(-c) by rw[Int.neg_mul_neg],Int.mul_fdiv_cancel_left _ (by ext)]
 rw[e1,<-Int.mul_neg,Int.mul_ediv_cancel_left _ a]
def fG{t b:Int}{k:Nat}{s:c_}(y:b≠0)(E:b.natAbs<2^k)(H:k<=950000):bt.p [.int t,.int b] s=.ok (qD (Rat.divInt t b)) s:=by
 have l:b.natAbs≠0:=by ext
 have u:0<Nat.gcd t.natAbs b.natAbs:=QL _ (by ext);have C:=zn (a:=t.natAbs) (s:=s) E H;rw[Qp y];obtain⟨e1,e2⟩:=o8 (if b<0 then -t else t) b.natAbs l;have B:(if b<0 then -t else t).natAbs=t.natAbs:=by split<;>simp
 rw[B]at e1 e2;rw[rL (by rfl)];unfold dJ;rw[show kx 3 [D.int t,.int b]=[J (.int t),J (.int b),Y]from rfl];simp![aI,cj,qQ,jf,dD,aG,u8,PR.bl,B6,qi,if_false,Pg,bH,PU.aB,aJ,bL,aY,jI,kH,Pf,decide_eq_false y,bM,cx,wW,C,zK,x5,Hv];have F:(Nat.gcd t.natAbs b.natAbs:Int) ∣ t:=Int.ofNat_dvd_left.mpr (Nat.gcd_dvd_left _ _);have G:(Nat.gcd t.natAbs b.natAbs:Int) ∣ b:=Int.ofNat_dvd_left.mpr (Nat.gcd_dvd_right _ _);by_cases z:b<0
 .rw[decide_eq_true z];have f:Dq.p (.int t) (.int (-(Nat.gcd t.natAbs b.natAbs:Int)))=J (.int ((-t)/(Nat.gcd t.natAbs b.natAbs:Int))):=by rw[tJ (by ext),xZ u F]
  have j:Dq.p (.int b) (.int (-(Nat.gcd t.natAbs b.natAbs:Int)))=J (.int ((-b)/(Nat.gcd t.natAbs b.natAbs:Int))):=by rw[tJ (by ext),xZ u G]
  have e3:(-b:Int)=(b.natAbs:Nat):=by ext
  rw[qD,e1,e2,b_ z];have i:mH.p (.int (Nat.gcd t.natAbs b.natAbs:Int))=J (.int (-(Nat.gcd t.natAbs b.natAbs:Int))):=rfl;simp[f,j,e3,i]
 .rw[decide_eq_false z];have f:=lP (a:=t) (b:=(Nat.gcd t.natAbs b.natAbs:Int)) (by ext);have j:=lP (a:=b) (b:=(Nat.gcd t.natAbs b.natAbs:Int)) (by ext);have e3:((b.natAbs:Nat):Int)=b:=by ext
  rw[qD,e1,e2,f_ z];simp[f,j,e3]
def L6{p q:Rat}{s:c_}(h:sz p+sz q<=900000):dG.p [qD p,qD q] s=.ok (qD (p+q)) s:=by
 have i:=cN p;have l:=cN q;have dp:=bS p;have a:=bS q;have e1:bp.p (.int p.num) (.int (q.den:Int))=J (.int (p.num*q.den)):=bA (j:=sz p) (k:=sz q) i (by simpa using a);have e2:bp.p (.int q.num) (.int (p.den:Int))=J (.int (q.num*p.den)):=bA (j:=sz q) (k:=sz p) l (by simpa using dp);have e3:bp.p (.int (p.den:Int)) (.int (q.den:Int))=J (.int ((p.den:Int)*q.den)):=bA (j:=sz p) (k:=sz q) (by simpa using dp) (by simpa using a);have f:((p.den:Int)*q.den)≠0:=MN (by have:=p.den_nz;ext) (by have:=q.den_nz;ext);have dl:((p.den:Int)*q.den).natAbs<2^(sz p+sz q):=by rw[JE];exact gD (by simpa using dp) (by simpa using a)
 have nn:=fG (t:=p.num*q.den+q.num*p.den) (s:=s) f dl (by ext);rw[DN (by rfl)];unfold kJ;rw[show kx 2 [qD p,qD q]=[J (qD p),J (qD q)]from rfl];simp![bu,aG,aJ,bL,aY,lU,z0,z1,Pf,e1,e2,e3,d7,nn,Pg,PU.bD];rw[oH p q,JD]
def Iq{p q:Rat}{s:c_}(h:sz p+sz q<=900000):cP.p [qD p,qD q] s=.ok (qD (p*q)) s:=by
 have i:=cN p;have l:=cN q;have dp:=bS p;have a:=bS q;have e1:bp.p (.int p.num) (.int q.num)=J (.int (p.num*q.num)):=bA (j:=sz p) (k:=sz q) i l;have e3:bp.p (.int (p.den:Int)) (.int (q.den:Int))=J (.int ((p.den:Int)*q.den)):=bA (j:=sz p) (k:=sz q) (by simpa using dp) (by simpa using a);have f:((p.den:Int)*q.den)≠0:=MN (by have:=p.den_nz;ext) (by have:=q.den_nz;ext);have dl:((p.den:Int)*q.den).natAbs<2^(sz p+sz q):=by rw[JE];exact gD (by simpa using dp) (by simpa using a)
 have nn:=fG (t:=p.num*q.num) (s:=s) f dl (by ext);rw[zm (by rfl)];unfold iX;rw[show kx 2 [qD p,qD q]=[J (qD p),J (qD q)]from rfl];simp![bu,aG,aJ,bL,aY,lU,z0,z1,Pf,e1,e3,nn,Pg,PU.bD];rw[lj p q,JD]
def Eb(p q:Rat):p-q=Rat.divInt (p.num*q.den-q.num*p.den) ((p.den*q.den:Nat):Int):=by rw[Rat.sub_eq_add_neg,oH,Rat.neg_num,Rat.neg_den];congr 1;rw[Int.neg_mul,Int.sub_eq_add_neg]
def Ir{p q:Rat}{s:c_}(h:sz p+sz q<=900000):jc.p [qD p,qD q] s=.ok (qD (p-q)) s:=by
 have i:=cN p;have l:=cN q;have dp:=bS p;have a:=bS q;have e1:bp.p (.int p.num) (.int (q.den:Int))=J (.int (p.num*q.den)):=bA (j:=sz p) (k:=sz q) i (by simpa using a);have e2:bp.p (.int q.num) (.int (p.den:Int))=J (.int (q.num*p.den)):=bA (j:=sz q) (k:=sz p) l (by simpa using dp);have e3:bp.p (.int (p.den:Int)) (.int (q.den:Int))=J (.int ((p.den:Int)*q.den)):=bA (j:=sz p) (k:=sz q) (by simpa using dp) (by simpa using a);have f:((p.den:Int)*q.den)≠0:=MN (by have:=p.den_nz;ext) (by have:=q.den_nz;ext);have dl:((p.den:Int)*q.den).natAbs<2^(sz p+sz q):=by rw[JE];exact gD (by simpa using dp) (by simpa using a)
 have nn:=fG (t:=p.num*q.den-q.num*p.den) (s:=s) f dl (by ext);rw[yT (by rfl)];unfold iW;rw[show kx 2 [qD p,qD q]=[J (qD p),J (qD q)]from rfl];simp![bu,aG,aJ,bL,aY,lU,z0,z1,Pf,e1,e2,e3,oK,nn,Pg,PU.bD];rw[Eb p q,JD]
def Ec{p q:Rat}:p/q=Rat.divInt (p.num*q.den) ((p.den:Int)*q.num):=by rw[Rat.div_def,Rat.inv_def,lj];have a:=Rat.num_divInt_den p;have e:Rat.divInt p.num p.den*Rat.divInt (q.den:Int) q.num=Rat.divInt (p.num*q.den) ((p.den:Int)*q.num):=Rat.divInt_mul_divInt ..;rw[<-lj,<-e,a]
def L7{p q:Rat}{s:c_}(a:q≠0)(h:sz p+sz q<=900000):ic.p [qD p,qD q] s=.ok (qD (p/q)) s:=by
 have u:=cN p;have f:=cN q;have dp:=bS p;have i:=bS q;have e1:bp.p (.int p.num) (.int (q.den:Int))=J (.int (p.num*q.den)):=bA (j:=sz p) (k:=sz q) u (by simpa using i);have e3:bp.p (.int (p.den:Int)) (.int q.num)=J (.int ((p.den:Int)*q.num)):=bA (j:=sz p) (k:=sz q) (by simpa using dp) f;have n0:q.num≠0:=λz=>a (Rat.num_eq_zero.mp z);have l:((p.den:Int)*q.num)≠0:=MN (by have:=p.den_nz;ext) n0;have dl:((p.den:Int)*q.num).natAbs<2^(sz p+sz q):=by rw[JE];exact gD (by simpa using dp) f
 have nn:=fG (t:=p.num*q.den) (s:=s) l dl (by ext);rw[DO (by rfl)];unfold lf;rw[show kx 2 [qD p,qD q]=[J (qD p),J (qD q)]from rfl];simp![bu,aG,aJ,bL,aY,lU,z0,z1,Pf,e1,e3,nn,Pg,PU.bD];rw[Ec]
def Iu{s:c_}:∃(n:Nat)(F:c_),fA.p [.pen] s=.ok (.int (n:Int)) F/\(n<=6\/n=12):=by
 obtain⟨a,E,Q,R,P⟩:=dH (s:=s) (size:=16) (by decide) (by decide);rw[xm (by rfl)];unfold gZ;rw[show kx 1 [D.pen]=[J .pen]from rfl,aI,cj];dsimp![dD,aJ,aG,aj,aq,bL,aY,aA,P,jI,kH,qi,if_false,Pl,Pg,decide_eq_true_eq];by_cases z:a=15
 .exact⟨12,E,by rw[b_ z];rfl,.inr rfl⟩
 .obtain⟨b,G,M,S,O⟩:=dH (s:=E) (size:=8) (by decide) (by decide);have H:∀{f u B l i y C j:D}{s:c_},(if [f,u,B,l,i,y,C,j].length<=100000 then PR.ok (D.lst [f,u,B,l,i,y,C,j]) s else .bad)=.ok (.lst [f,u,B,l,i,y,C,j]) s:=λ{f u B l i y C j s}=>b_ (by simp);obtain⟨m,L,em⟩:∃m:Nat,m<=6/\n3 [D.int 4,.int 3,.int 5,.int 2,.int 6,.int 1,.int 0,.int 3] b=J (.int (m:Int)):=by
   obtain⟨k,rfl⟩:=iT M
   have:k<8:=by ext
   match k,this with
   |0,_=>exact⟨4,by decide,rfl⟩
   |1,_=>exact⟨3,by decide,rfl⟩
   |2,_=>exact⟨5,by decide,rfl⟩
   |3,_=>exact⟨2,by decide,rfl⟩
   |4,_=>exact⟨6,by decide,rfl⟩
   |5,_=>exact⟨1,by decide,rfl⟩
   |6,_=>exact⟨0,by decide,rfl⟩
   |7,_=>exact⟨3,by decide,rfl⟩
  refine⟨m,G,?_,.inl L⟩;rw[f_ z,bH,PU.aB];dsimp![bu,aJ,lb,aj,aG,aq,bL,aY,aA,H,O,lB,em,Pg,PU.bD]
def Sm(q:Rat):Prop:=q≠0/\∃z:Int,q=Rat.divInt z 12/\z.natAbs<=3060
def uE{w:Bool}{s:c_}:∃q L,bZ.p [.pen,.bl w] s=.ok (qD q) L/\Sm q:=by
 rw[wD (by rfl)];unfold fT;rw[show kx 3 [D.pen,.bl w]=[J .pen,J (.bl w),Y]from rfl,aI,cj];have tw:∀{s:c_},(Ld (aa 1):Xt []).p [J .pen,J (.bl w),Y] s=.ok w s:=λ{s}=>by cases w<;>rfl
 rw[tw,Pg]
 cases w with
 |true =>
  obtain⟨a,B,S,U,E⟩:=dH (s:=s) (size:=255) (by decide) (by decide);obtain⟨b,l,Q,X,C⟩:=dH (s:=B) (size:=2) (by decide) (by decide);have P:bp.p (.int 2) (.int b)=J (.int (2*b)):=bA (j:=4) (k:=4) (by decide) (by ext);have F:bp.p (.int (1+a)) (.int (1-2*b))=J (.int ((1+a)*(1-2*b))):=bA (j:=10) (k:=4) (by ext) (by ext);have M:∀{x y:D}{s:c_},(if [x,y].length<=100000 then PR.ok (D.tup [x,y]) s else .bad)=.ok (.tup [x,y]) s:=λ{x y s}=>b_ (by simp);have u:((1+a)*(1-2*b))≠0/\((1+a)*(1-2*b)).natAbs<=255:=by
   have:b=0\/b=1:=by ext
   rcases this with rfl|rfl<;>ext
  generalize Z:(1+a)*(1-2*b)=f at F u;have W:qD (f:Rat)=.tup [.int f,.int 1]:=by simp[qD,nD]
  refine⟨(f:Rat),l,?_,?_,12*f,?_,by ext⟩
  .rw[W,b_ rfl];dsimp![bu,c9,aj,aJ,bL,aY,aG,aq,aA,E,C,d7,oK,P,F,M,Pg,PU.uA,PU.bD]
  .exact λz=>u.1 (by exact_mod_cast z)
  .rw[Rat.divInt_eq_div];push_cast
   grind
 |false =>
  rw[f_ (by simp),bH,PU.aB,aI,bM];obtain⟨a,B,S,U,E⟩:=dH (s:=s) (size:=12) (by decide) (by decide);obtain⟨b,l,Q,X,C⟩:=dH (s:=B) (size:=4) (by decide) (by decide);dsimp![aJ,aG,aj,aq,bL,aY,aA,E,oK,Pg,zK,x5,PU.aB];obtain⟨t,H,O,u⟩:∃t:Int,(a-6+if decide (0<=a-6)=I then 1 else 0)=t/\t≠0/\t.natAbs<=6:=by refine⟨_,rfl,?_,?_⟩<;>(simp only[decide_eq_true_eq];split<;>ext)
  obtain⟨c,R⟩:=iT (i:=1+b) (by ext);have G:=mL (t:=t) (b:=c) (k:=4) (s:=l) (by ext) (by ext) (by decide);refine⟨Rat.divInt t c,l,?_,?_,t*((12/c:Nat):Int),?_,?_⟩
  .simp![bu,aG,aJ,cx,bL,aY,Hx,Pf,yn,d7,H,C,R,G,Pg,PU.bD]
  .intro z;rw[Rat.divInt_eq_div]at z;have c0:((c:Int):Rat)≠0:=by
    have:(c:Int)≠0:=by ext
    exact_mod_cast this
   have:(t:Rat)=0:=by grind
   exact O (by exact_mod_cast this)
  .have:c=1\/c=2\/c=3\/c=4:=by ext
   rw[Rat.divInt_eq_div,Rat.divInt_eq_div];rcases this with rfl|rfl|rfl|rfl<;>(push_cast;grind)
  .have:c=1\/c=2\/c=3\/c=4:=by ext
   rcases this with rfl|rfl|rfl|rfl<;>simp<;>ext
structure On(n:Nat)(ns:SV):Prop where
 n12:n<=12
 pm:ns.Perm (List.range n)
def On.len{n:Nat}{ns:SV}(o:On n ns):ns.length=n:=by have:=o.pm.length_eq;simpa using this
def On.nd{n:Nat}{ns:SV}(o:On n ns):ns.Nodup:=o.pm.symm.nodup JB
def On.lt{n:Nat}{ns:SV}(o:On n ns):∀x∈ns,x<n:=λx a=>by simpa using o.pm.mem_iff.mp a
abbrev aw(x:Nat):D:=.int (x:Int)
abbrev kw(ns:SV):D:=.lst (ns.map aw)
def Ed{n:Nat}{s:c_}(y:n<=12):∃ns i,dY.p [.pen,.int (n:Int)] s=.ok (kw ns) i/\On n ns:=by
 rw[vA (by rfl)];unfold fX;have e0:kx 4 [D.pen,.int (n:Int)]=[J .pen,J (.int (n:Int)),Y,Y]:=rfl;obtain⟨l,i,e,z,f,rfl,pm⟩:=iR (g:=(j_ 3:Xg [2]).p) (b:=(BI x3 2 (ac (av bw (ac (aa 0) (ac (ae cc (aa 3) (xC (.int 1))) a_))) (ac (aa 3) a_)):Xd [2]).p)
  (λj env i=>∃z f,env=[J .pen,J (.int (n:Int)),J (kw f),z]/\f.Perm (List.range j)) (gT 0 n) 0 [J .pen,J (.int (n:Int)),J (.lst []),Y] s ⟨Y,[],rfl,by simp⟩ (λj env i d ⟨z,f,F,pm⟩ hd=>by
   rw[A2]at pm ⊢;subst F;obtain⟨rfl,G⟩:=Av hd;have B:f.length=j:=by have:=pm.length_eq;simpa using this
   obtain⟨d,u,C,H,E⟩:=dH (s:=i) (size:=(j:Int)+1) (by ext) (by ext);obtain⟨k,rfl⟩:=iT C;refine⟨[J .pen,J (.int (n:Int)),J (kw f),J (.int (j:Int))],[J .pen,J (.int (n:Int)),J (kw (f.take k++j::f.drop k)),J (.int (j:Int))],u,rfl,?_,_,f.take k++j::f.drop k,rfl,?_⟩
   .rw[lx (s1:=u) (as:=[.int (k:Int),.int (j:Int)]) (ds:=f.map aw) (ds':=(f.take k++j::f.drop k).map aw) (r:=.non) (by simp[E]) rfl (by
     rw[w8 (by simp;ext) (by simp;ext)];simp)]
    rfl
   .have:(f.take k++j::f.drop k).Perm (j::f):=by
     have:=NX (a:=j) (l₁:=f.take k) (l₂:=f.drop k)
     rwa [Mq]at this
    refine this.trans ((pm.cons _).trans ?_);rw[List.range_succ]
    exact(List.perm_append_singleton _ _).symm)
 rw[AH,A2]at pm;refine⟨f,i,?_,y,pm⟩;have st:(f9 2 (fb a_):Xd [2]).p [J .pen,J (.int (n:Int)),Y,Y] s=.nx [J .pen,J (.int (n:Int)),J (.lst []),Y] s:=by simp[oj]
 rw[e0,aI,st,PU.aB,aI,iU,kG,aj];simp only[aD,aq,Pb,aA];rw[La (by ext),BK,Pf,Pg,e,PU.aB,u0 (d:=kw f) rfl,PU.bD]
def t_(n:Nat)(ns:SV)(k:Nat):SV:=(List.range n).filter λx=>decide (x∈ns.drop (k+1))
def cR{n:Nat}{ns:SV}{k x:Nat}(o:On n ns):x∈t_ n ns k↔x∈ns.drop (k+1):=by unfold t_;rw[Bh,decide_eq_true_eq,BL];exact⟨λh=>h.2,λh=>⟨o.lt x (IQ h),h⟩⟩
def jC{n:Nat}{ns:SV}{k:Nat}(o:On n ns):(t_ n ns k).Perm (ns.drop (k+1)) :=
 (List.perm_ext_iff_of_nodup (JB.filter _) (o.nd.sublist (Mu _ _))).mpr λx=>cR o
def pB{n:Nat}{ns:SV}{k:Nat}:(t_ n ns k).Pairwise (·<·):=QV.filter _
def pJ{ns:SS}(hl:ns.length<64):cQ.p [.lst (ns.map .int)]=J (.lst ((fu ns).map .int)):=by
 have e:∀ns:SS,eL (ns.map .int)=J ns:=λns=>by
  induction ns with
  |nil=>rfl
  |cons i k a=>rw[n8,eL,a];rfl
 show(lu (ns.map .int)).map _=_;simp only[lu,e];rw[b_ hl];rfl
def ux{n:Nat}{ns:SV}{k:Nat}(o:On n ns)(i:k<n):cQ.p [.lst (eK (ns.map aw) (J ((k:Int)+1)) Y)]=J (kw (t_ n ns k)):=by
 have f:=o.len;have n12:=o.n12;have e1:eK (ns.map aw) (J ((k:Int)+1)) Y=((ns.drop (k+1)).map λ(x:Nat)=>(x:Int)).map .int:=by unfold eK;rw[HT.nc,zx,show(k:Int)+1=((k+1:Nat):Int) by ext,HT.oI,MK (by ext),vM,<-MQ];exact Ey (by simp)
 rw[e1,pJ (by simp;ext)];have e2:fu ((ns.drop (k+1)).map λ(x:Nat)=>(x:Int))=(t_ n ns k).map λ(x:Nat)=>(x:Int) :=
  iM (m8 _) (pB.map (S:=(·<=·)) _ (λa b h=>by ext)) ((fQ _).trans ((jC o).symm.map _))
 rw[e2,vM];rfl
abbrev Pt:=Nat×Rat
abbrev k_(p:Pt):D:=.tup [.int (p.1:Int),qD p.2]
structure Wk where
 (v:Nat) (p:Rat) (r c:List Pt)
abbrev n4(w:Wk):D:=.tup [.int (w.v:Int),qD w.p,.tup (w.r.map k_),.tup (w.c.map k_)]
structure PtS(ls:SV)(ps:List Pt):Prop where
 sub:(ps.map (·.1)).Sublist ls
 sm:∀p∈ps,Sm p.2
structure WkOk(n:Nat)(ns:SV)(k:Nat)(w:Wk):Prop where
 v:ns[k]?=J w.v
 p:Sm w.p
 r:PtS (t_ n ns k) w.r
 c:PtS (t_ n ns k) w.c
def mG{g:D->am->Option am}{t:am->c_->PR Bool}{e:am->c_->PR D}(S:am->Prop):∀(j:SV)(env:am)(s:c_),S env ->
  (∀x∈j,∀env s,S env->∃a,g (aw x) env=J a/\S a/\∃b B,t a s=.ok b B/\(b=I->∃q C,e a B=.ok (k_ (x,q)) C/\Sm q)) ->
  ∃l G,cU g t e (j.map aw) env s=.ok (l.map k_) G/\PtS j l
 |[],env,s,F,f=>⟨[],s,rfl,⟨List.Sublist.slnil,λ_ h=>nomatch h⟩⟩
 |x::j,env,s,F,f=>by
  obtain⟨a,e1,u,b,B,e2,e3⟩:=f x (by simp) env s F;have i:=λy L=>f y (n_ x L);rw[n8,cU,e1];dsimp only;rw[e2,Pb]
  cases b with
  |true =>
   obtain⟨q,C,e4,H⟩:=e3 rfl;obtain⟨l,E,e5,z⟩:=mG S j a C u i;refine⟨(x,q)::l,E,by simp only[if_true,e4,Pb,e5,n8],⟨z.sub.cons₂ _,λp h=>?_⟩⟩;rcases pu.mp h with rfl|h
   .exact H
   .exact z.sm p h
  |false =>
   obtain⟨l,E,e5,z⟩:=mG S j a B u i;exact⟨l,E,by simp only[qi,if_false,e5],⟨z.sub.cons _,z.sm⟩⟩
def PtS.of{i:SV}{f a:List Pt}(h:PtS i f)(s:a.Sublist f):PtS i a:=⟨(s.map _).trans h.sub,λp j=>h.sm p (s.subset j)⟩
def ut{ps:List Pt}{lo hi:SG}:∃a:List Pt,eK (ps.map k_) lo hi=a.map k_/\a.Sublist ps:=by unfold eK;exact⟨(ps.drop _).take _,by rw[N5,MQ],(NV _ _).trans (Mu _ _)⟩
abbrev Qq:Xe [6]:=(aV 1 [0,4,3] (bx (aa 9)) (ws':=[]) (j_ 0) (xB (ae zb (av bw (ac (aa 1) (ac (aa 3) a_))) (xC (.int 0)))) (bn (ac (aa 0) (ac (av bZ (ac (aa 1) (ac (aa 2) a_))) a_))))
def L8{env:am}{a:SV}{w:Bool}{sm:Int}{s:c_}(e0:env[0]?=J (J .pen))(e4:env[4]?=J (J (.bl w)))(e3:env[3]?=J (J (.int sm)))(G:env[9]?=J (J (kw a)))(O:0<sm)(P:sm<=100)(hl:a.length<=100):∃f j,Qq.p env s=.ok (.lst (f.map k_)) j/\PtS a f:=by
 have E:∀{x y:D}{s:c_},(if [x,y].length<=100000 then PR.ok (D.tup [x,y]) s else .bad)=.ok (.tup [x,y]) s:=λ{x y s}=>b_ (by simp);have fm:(([0,4,3]:SV).map λi=>(env[i]?).getD Y)=[J .pen,J (.bl w),J (.int sm)]:=by simp[e0,e4,e3]
 obtain⟨f,j,e,B⟩:=mG (g:=(j_ 0:Xg []).p) (t:=(xB (ae zb (av bw (ac (aa 1) (ac (aa 3) a_))) (xC (.int 0))):Xt []).p) (e:=(bn (ac (aa 0) (ac (av bZ (ac (aa 1) (ac (aa 2) a_))) a_)):Xe []).p) (λv=>∃z,v=z::[J .pen,J (.bl w),J (.int sm)]) a (tt 1 [0,4,3] env) s ⟨Y,by unfold tt;rw[fm];rfl⟩ (λx Q l s ⟨z,H⟩=>by
  subst H;obtain⟨d,u,R,S,M⟩:=dH (s:=s) (size:=sm) O (by ext);refine⟨_,rfl,⟨J (aw x),rfl⟩,_,u,by simp![dD,aJ,aG,x5,bL,aY,M,jI,kH,Pf,Pl];rfl,λ_=>?_⟩;obtain⟨q,C,L,F⟩:=uE (w:=w) (s:=u)
  exact⟨q,C,by simp![c9,x5,aG,L,E],F⟩)
 refine⟨f,j,?_,B⟩;show(aV 1 [0,4,3] (bx (aa 9)) (ws':=[]) (j_ 0) _ _:Xe [6]).p env s=_;rw[lQ,fO,Ds G,Pb];show(PR.of (J (a.map aw)) s).bind _=_;rw[Pf,Pb,b_ (by simp;ext),e]
 try rfl
abbrev RN:Xd [6]:=(aM (bh 9 (o_ cQ (ac (Bm (aa 2) (Bl (ae cc (aa 7) (xC (.int 1)))) Bk) a_)))
 (aM (bh 10 Qq)
 (aM (bh 11 Qq)
 (BI r_ 6 (ac (bn (ac (aa 8) (ac (av bZ (ac (aa 0) (ac (aa 4) a_))) (ac (o_ cE (ac (Bm (aa 10) (Bl (v4 mH (aa 5))) Bk) a_)) (ac (o_ cE (ac (Bm (aa 11) Bk (Bl (aa 5))) a_)) a_))))) a_)))))
abbrev E4(n:Nat)(ns:SV)(sm most:Int)(w:Bool)(ks:List Wk)(z7 z8 z9 z10 z11:Sj):am:=[J .pen,J (.int (n:Int)),J (kw ns),J (.int sm),J (.bl w),J (.int most),J (.lst (ks.map n4)),z7,z8,z9,z10,z11]
def Qr{n:Nat}{ns:SV}{sm most:Int}{w:Bool}{ks:List Wk}{k x:Nat}{z9 z10 z11:Sj}{s:c_}(o:On n ns)(G:ns[k]?=J x)(M:0<sm)(F:sm<=100)(kl:ks.length<=100):
  ∃P y9 C l S,RN.p (E4 n ns sm most w ks (J (.int (k:Int))) (J (aw x)) z9 z10 z11) s=.nx (E4 n ns sm most w (ks++[P]) (J (.int (k:Int))) (J (aw x)) y9 C l) S/\WkOk n ns k P:=by
 have ol:=o.len;have n12:=o.n12;have kn:k<n:=by have:=(nw.mp G).1;ext
 have lt:=ux o kn;have H:(t_ n ns k).length<=100:=by have:=(jC (k:=k) o).length_eq;simp at this;ext
 obtain⟨E,s1,e1,B⟩:=L8 (env:=E4 n ns sm most w ks (J (.int (k:Int))) (J (aw x)) (J (kw (t_ n ns k))) z10 z11) (s:=s) rfl rfl rfl rfl M F H;obtain⟨O,U,e2,i⟩:=L8 (env:=E4 n ns sm most w ks (J (.int (k:Int))) (J (aw x)) (J (kw (t_ n ns k))) (J (.lst (E.map k_))) z11) (s:=s1) rfl rfl rfl rfl M F H;obtain⟨q,L,e3,j⟩:=uE (w:=w) (s:=U);obtain⟨f,X,W⟩:=ut (ps:=E) (lo:=J (-most)) (hi:=Y);obtain⟨a,Z,hc⟩:=ut (ps:=O) (lo:=Y) (hi:=J most);have R:mH.p (.int most)=J (.int (-most)):=rfl;have Q:∀{x y z u:D}{s:c_},(if [x,y,z,u].length<=100000 then PR.ok (D.tup [x,y,z,u]) s else .bad)=.ok (.tup [x,y,z,u]) s:=λ{x y z u s}=>b_ (by simp);refine⟨⟨x,q,f,a⟩,J (kw (t_ n ns k)),J (.lst (E.map k_)),J (.lst (O.map k_)),L,?_,⟨G,j,B.of W,i.of hc⟩⟩;rw[aI,bM];simp![cx,qM,qS,aJ,bL,aY,d7,Pf,qL,qO,lt,Pg,zK,x5,PU.aB];rw[aI,bM];rw[e1,Pg,PU.aB];simp only[zK,x5];rw[aI,bM,e2,Pg,PU.aB];simp only[zK,x5]
 rw[lx (s1:=L) (as:=[n4 ⟨x,q,f,a⟩]) (ds:=ks.map n4) (ds':=ks.map n4++[n4 ⟨x,q,f,a⟩]) (r:=.non) (by
  simp![c9,aG,e3,cx,qM,qS,vW,R,Pf,qL,qO,X,Z,ig,Q]) rfl (qv (by simp;ext))]
 simp only[zK,x5];unfold E4;rw[ML];rfl
def Ee{n:Nat}{ns:SV}{sm:Int}{s:c_}(o:On n ns)(h0:0<sm)(S:sm<=100):∃G B,dZ.p [.pen,.int (n:Int),kw ns,.int sm] s=.ok (.lst (G.map n4)) B/\(G:List Wk).length=n/\∀(k:Nat)(w:Wk),G[k]?=J w->WkOk n ns k w:=by
 have W:=o.len;have n12:=o.n12;obtain⟨a,L,a0,a9,qa⟩:=dH (s:=s) (size:=8) (by decide) (by decide);obtain⟨f,em⟩:∃m:Int,n3 [D.int (n:Int),.int 3] (if decide ((6:Int)<(n:Int))=I then 1 else 0)=J (.int m):=by
  by_cases z:(6:Int)<(n:Int)
  .exact⟨3,by simp only[z,decide_true,if_true];rfl⟩
  .exact⟨n,by simp only[z,decide_false,qi,if_false];rfl⟩
 have u2:∀{x y:D}{s:c_},(if [x,y].length<=100000 then PR.ok (D.lst [x,y]) s else .bad)=.ok (.lst [x,y]) s:=λ{x y s}=>b_ (by simp);obtain⟨P,R,e,i,O,F,C,l,u,rfl,kl,H⟩:=iR (g:=(vg (mu (j_ 7) (mu (j_ 8) va)) 2:Xg [6]).p) (b:=RN.p)
  (λj env B=>∃i O F C l u,env=E4 n ns sm f (decide (a=7)) i O F C l u/\(i:List Wk).length=j/\∀(k:Nat)(w:Wk),i[k]?=J w->WkOk n ns k w) (aT (ns.map aw)) 0 (E4 n ns sm f (decide (a=7)) [] Y Y Y Y Y) L ⟨[],_,_,_,_,_,rfl,rfl,λ(k:Nat) w h=>by simp at h⟩ (λj env B d ⟨i,O,F,C,l,u,hE,kl,H⟩ hd=>by
   rw[A2]at kl ⊢;subst hE;have M:j<ns.length:=by have:=(nw.mp hd).1;simpa [aT]using this
   obtain⟨x,Q⟩:∃x,ns[j]?=J x:=⟨ns[j],vp M⟩;have E:d=.tup [.int (j:Int),aw x]:=by unfold aT at hd;rw[qb,Fd,qb,Q]at hd;simp at hd;exact hd.symm
   subst E;obtain⟨wk,y9,Z,X,s3,e,hw⟩:=Qr (most:=f) (w:=decide (a=7)) (ks:=i) (z9:=C) (z10:=l) (z11:=u) (s:=B) o Q h0 S (by ext);refine⟨_,_,s3,rfl,e,i++[wk],_,_,_,_,_,rfl,by simp[kl],λk w h=>?_⟩;by_cases z:k<i.length
   .rw[p_ z]at h;exact H k w h
   .have U:k=j:=by
     have:=(nw.mp h).1
     simp at this;ext
    subst U;rw[AR (by ext),show k-i.length=0 by ext]at h;cases h
    exact hw)
 refine⟨i,R,?_,by rw[kl];simp[aT,W],H⟩;rw[vm (by rfl)];unfold fV;rw[show kx 12 [D.pen,.int (n:Int),kw ns,.int sm]=[J .pen,J (.int (n:Int)),J (kw ns),J (.int sm),Y,Y,Y,Y,Y,Y,Y,Y]from rfl];rw[aI,bM];dsimp![aJ,aG,aj,aq,bL,aY,aA,qa,jI,kH,qi,if_false,Pg,zK,x5,PU.aB];rw[aI,bM];simp![aJ,lb,bL,aY,u2,cx,Hw,Pf,yn,lB,em,Pg,zK,x5,PU.aB];rw[aI];have st:(f9 6 (fb a_):Xd [6]).p [J .pen,J (.int (n:Int)),J (kw ns),J (.int sm),J (.bl (decide (a=7))),J (.int f),Y,Y,Y,Y,Y,Y] L=.nx (E4 n ns sm f (decide (a=7)) [] Y Y Y Y Y) L:=by simp[oj]
 rw[st,PU.aB,aI,iU,kG,aj];dsimp![aD,aq,aA,Lb,Pg];refine(congrArg (λz:PS=>(z.then _).fin) e).trans ?_;rw[PU.aB,u0 (d:=.lst (i.map n4)) rfl,PU.bD]
def kK{α:Type}{g:D->am->Option am}{t:am->c_->PR Bool}{e:am->c_->PR D}{s:c_}(S:am->Prop)(item i:α->D)(p:α->Bool):∀(l:List α)(env:am),S env ->
  (∀x∈l,∀env,S env->∃a,g (item x) env=J a/\S a/\t a s=.ok (p x) s/\(p x=I->e a s=.ok (i x) s))->cU g t e (l.map item) env s=.ok ((l.filter p).map i) s
 |[],env,B,f=>rfl
 |x::l,env,B,f=>by
  obtain⟨a,e1,j,e2,e3⟩:=f x (by simp) env B;have z:=kK S item i p l a j λy C=>f y (n_ _ C);rw[n8,cU,e1];dsimp only;rw[e2]
  cases u:p x with
  |true=>simp only[Pb,if_true,e3 u,z,QO u,n8]
  |false=>simp only[Pb,qi,if_false,z,QP (show ¬p x=I by simp[u])]
def nj{α:Type}{ws ws':SV}{env:am}{s s0:c_}{fm:SV}{i:Xi ws}{t:Xt ws'}{e:Xe ws'}{l:List α}(item a:α->D)(p:α->Bool)(C:i.p env s0=.ok (l.map item) s)(hl:l.length<=100000)(f:∀x∈l,t.p (J (item x)::fm.map λi=>(env[i]?).getD Y) s=.ok (p x) s/\(p x=I->e.p (J (item x)::fm.map λi=>(env[i]?).getD Y) s=.ok (a x) s))(y:ws'.contains 0=T:=by exact ys rfl)(hw:Bv 1 fm ws=ws':=by exact ys rfl)(j:e.fz=I:=by exact ys rfl):
  (aV 1 fm i (j_ 0 y) t e hw j).p env s0=.ok (.lst ((l.filter p).map a)) s:=by
 rw[lQ,C,Pb,b_ (by simpa using hl)]
 have:=kK (g:=(j_ 0 y:Xg ws').p) (t:=t.p) (e:=e.p) (s:=s) (λv=>∃z,v=z::fm.map λi=>(env[i]?).getD Y) item a p l (tt 1 fm env) ⟨Y,rfl⟩ λx B u ⟨z,j⟩=>by
  subst j;exact⟨_,rfl,⟨J (item x),rfl⟩,f x B⟩
 rw[this]
def xO{α:Type}{ws ws':SV}{env:am}{s s0:c_}{fm:SV}{i:Xi ws}{t:Xt ws'}{e:Xe ws'}{l:List α}(A B:α->D)(a:α->D)(p:α->Bool)(G:i.p env s0=.ok (l.map λx=>.tup [A x,B x]) s)(hl:l.length<=100000)(f:∀x∈l,t.p (J (A x)::J (B x)::fm.map λi=>(env[i]?).getD Y) s=.ok (p x) s/\(p x=I->e.p (J (A x)::J (B x)::fm.map λi=>(env[i]?).getD Y) s=.ok (a x) s))(E:ws'.contains 0=T:=by exact ys rfl)(C:ws'.contains 1=T:=by exact ys rfl)(hw:Bv 2 fm ws=ws':=by exact ys rfl)(j:e.fz=I:=by exact ys rfl):
  (aV 2 fm i (vg (mu (j_ 0 E) (mu (j_ 1 C) va)) 2) t e hw j).p env s0=.ok (.lst ((l.filter p).map a)) s:=by
 rw[lQ,G,Pb,b_ (by simpa using hl)]
 have:=kK (g:=(vg (mu (j_ 0 E) (mu (j_ 1 C) va)) 2:Xg ws').p) (t:=t.p) (e:=e.p) (s:=s) (λv=>∃y z,v=y::z::fm.map λi=>(env[i]?).getD Y) (λx=>.tup [A x,B x]) a p l (tt 2 fm env) ⟨Y,Y,rfl⟩ λx F u ⟨y,z,j⟩=>by
  subst j;exact⟨_,rfl,⟨J (A x),J (B x),rfl⟩,f x F⟩
 rw[this]
def Cm(m:Nat)(q:Rat):Prop:=∃z:Int,q=Rat.divInt z 144/\z.natAbs<=m
def Cm.sz{m k:Nat}{q:Rat}(h:Cm m q)(f:m<2^k)(a:8<=k):sz q<=k:=by obtain⟨z,rfl,i⟩:=h;exact wT (b:=144) (by decide) (by ext) (by ext) (vE (by decide) (NP (by decide) a))
def Cm.mono{m a:Nat}{q:Rat}(h:Cm m q)(f:m<=a):Cm a q:=let⟨z,e,i⟩:=h;⟨z,e,by ext⟩
def Cm.zero(m:Nat):Cm m 0:=⟨0,by decide +kernel,by simp⟩
def Cm.add{m a:Nat}{p q:Rat}(h:Cm m p)(f:Cm a q):Cm (m+a) (p+q):=by
 obtain⟨z,rfl,j⟩:=h;obtain⟨y,rfl,i⟩:=f;refine⟨z+y,?_,by ext⟩;rw[Rat.divInt_eq_div,Rat.divInt_eq_div,Rat.divInt_eq_div];push_cast
 grind
def Tw(q:Rat):Prop:=∃z:Int,q=Rat.divInt z 12/\z.natAbs<=3060
def Sm.tw{q:Rat}(h:Sm q):Tw q:=h.2
def Tw.one:Tw 1:=⟨12,by decide +kernel,by decide⟩
def Tw.zero:Tw 0:=⟨0,by decide +kernel,by decide⟩
def Tw.sz{q:Rat}(h:Tw q):sz q<=12:=by obtain⟨z,rfl,a⟩:=h;exact wT (b:=12) (by decide) (by decide) (by ext) (by decide)
def Tw.mul{p q:Rat}(h:Tw p)(a:Tw q):Cm 9363600 (p*q):=by
 obtain⟨z,rfl,i⟩:=h;obtain⟨y,rfl,f⟩:=a;refine⟨z*y,?_,?_⟩
 .rw[Rat.divInt_eq_div,Rat.divInt_eq_div,Rat.divInt_eq_div];push_cast
  grind
 .rw[JE];exact ql (Nat.mul_le_mul i f) (by decide)
def gW(g:Nat->Nat->Rat)(i j:Nat)(q:Rat):Nat->Nat->Rat:=λa b=>if a=i/\b=j then q else g a b
def aZ(n:Nat)(g:Nat->Nat->Rat):List Rd:=(List.range n).map λi=>(Y,(List.range n).map λj=>qD (g i j))
def sn{n i:Nat}{g:Nat->Nat->Rat}(a:i<n):(aZ n g)[i]?=J (Y,(List.range n).map λj=>qD (g i j)):=by unfold aZ;simp[a]
def zo{n i j:Nat}{g:Nat->Nat->Rat}{q:Rat}(u:i<n)(y:j<n):(aZ n g).set i (Y,((List.range n).map λj=>qD (g i j)).set j (qD q))=aZ n (gW g i j q):=by
 unfold aZ;apply Fi;intro a;by_cases f:a<n
 .by_cases e:i=a
  .subst e;rw[wv (by simpa using u)];simp only[qb,List.getElem?_range f,EC,Option.some.injEq,Prod.mk.injEq,true_and];apply Fi;intro b;by_cases l:b<n
   .by_cases e:j=b
    .subst e;rw[wv (by simpa using y)];simp[l,gW]
    .rw[pa e];simp[l,gW,Ne.symm e]
   .rw[BC (by simp;ext),BC (by simp;ext)]
  .rw[pa e];simp only[qb,List.getElem?_range f,EC,Option.some.injEq,Prod.mk.injEq,true_and];refine Ff λb _=>?_;simp[gW,Ne.symm e]
 .rw[BC (by simp;ext),BC (by simp;ext)]
def Ef{n i:Nat}{g:Nat->Nat->Rat}(a:i<n):l_.p (eM (aZ n g)) (.int (i:Int))=J (.lst ((List.range n).map λj=>qD (g i j))):=by show n3 ((aZ n g).map λr=>dl r.1 r.2) (i:Int)=_;exact L2.cS (by rw[qb,sn a];rfl)
def L9{n i j t:Nat}{wk:D}{g:Nat->Nat->Rat}{f x:Rat}{c:C8}{s:c_}(a:i<n)(l:j<n)(e4:c.c4=J (aw i))(e5:c.c5=J (qD f))(y:c.c6=J (aw j))(C:c.c7=J (qD x))(u:Tw f)(z:Tw x)(F:Cm (9363600*t) (g i j))(O:t<=10000):
  nC (.int (n:Int)) wk (aZ n g) c s=J (aZ n (gW g i j (g i j+f*x)),s):=by
 have M:n3 ((List.range n).map λj=>qD (g i j)) (j:Int)=J (qD (g i j)):=L2.cS (by simp[l]);have Q:sz (g i j)<=40:=F.sz (by ext) (by decide);have P:sz (f*x)<=40:=(u.mul z).sz (by decide) (by decide);have G:=Ea (p:=f) (q:=x) (s:=s) (by have:=u.sz;have:=z.sz;ext);have E:=Io (p:=g i j) (q:=f*x) (s:=s) (by ext);have B:tK.p (mE (aZ n g) (.int (n:Int)) wk c) s=.ok (qD (g i j+f*x)) s:=by unfold tK mE;rw[e4,e5,y,C];simp![aG,aJ,Ef a,Pf,lB,M,G,E]
 have H:vq (aZ n g).length (i:Int)=J i:=by unfold aZ;simp only[zx,Jy];exact MM.jh a
 have L:vq ((List.range n).map λj=>qD (g i j)).length (j:Int)=J j:=by simp only[zx,Jy];exact MM.jh l
 unfold nC;rw[B,e4,y];dsimp only;rw[H];dsimp only;rw[sn a];dsimp only;rw[L];dsimp only;rw[b_ (by rfl:flat (qD (g i j+f*x))=I),zo a l]
def fS(g:Nat->Nat->Rat)(i:Nat)(f:Rat)(a:List Pt):Nat->Nat->Rat:=a.foldl (λg p=>gW g i p.1 (g i p.1+f*p.2)) g
def ld(g:Nat->Nat->Rat)(f a:List Pt):Nat->Nat->Rat:=f.foldl (λg p=>fS g p.1 p.2 a) g
def Iv{g:Nat->Nat->Rat}{i j t:Nat}{f x:Rat}(u:Tw f)(y:Tw x)(l:∀a b,Cm (9363600*t) (g a b)):∀a b,Cm (9363600*(t+1)) (gW g i j (g i j+f*x) a b):=λa b=>by
 unfold gW;split
 .rw[Nat.mul_add];exact(l i j).add ((u.mul y).mono (by decide))
 .exact (l a b).mono (by ext)
def E5{n i:Nat}{wk:D}{f:Rat}{s:c_}(B:i<n)(y:Tw f):∀(j:List Pt)(g:Nat->Nat->Rat)(c:C8)(t:Nat),(∀p∈j,p.1<n/\Tw p.2)->c.c4=J (aw i)->c.c5=J (qD f)->(∀a b,Cm (9363600*t) (g a b))->t+j.length<=10000 ->
  (∃z,Ca (.int (n:Int)) wk (j.map k_) (aZ n g) c s=J (aZ n (fS g i f j),z,s))/\∀a b,Cm (9363600*(t+j.length)) (fS g i f j a b)
 |[],g,c,t,u,e4,e5,l,C=>⟨⟨c,rfl⟩,l⟩
 |p::j,g,c,t,u,e4,e5,l,C=>by
  obtain⟨G,E⟩:=u p (by simp);have H:t+(j.length+1)<=10000:=C;have e:=L9 (wk:=wk) (c:={ c with c6:=J (aw p.1),c7:=J (qD p.2)}) (s:=s) B G e4 e5 rfl rfl y E (l i p.1) (by ext);obtain⟨⟨z,e2⟩,L⟩:=E5 B y j (gW g i p.1 (g i p.1+f*p.2)) { c with c6:=J (aw p.1),c7:=J (qD p.2)} (t+1) (λq F=>u q (n_ _ F)) e4 e5 (Iv y E l) (by ext);refine⟨⟨z,?_⟩,λa b=>by rw[A0,show t+(j.length+1)=t+1+j.length by ext];exact L a b⟩;rw[n8,Ca,e];exact e2
def E6{n v:Nat}{wk:D}{p:Rat}{rs:List Pt}{s:c_}(y:∀q∈(v,p)::rs,q.1<n/\Tw q.2)(lr:rs.length<=20):∀(f:List Pt)(g:Nat->Nat->Rat)(c:C8)(t:Nat),(∀q∈f,q.1<n/\Tw q.2)->(∀a b,Cm (9363600*t) (g a b))->t+30*f.length<=9000 ->
  (∃E,Cb (.int (n:Int)) wk (.int (v:Int)) (qD p) (rs.map k_) (f.map k_) (aZ n g) c s=J (aZ n (ld g f ((v,p)::rs)),E,s))/\∀a b,Cm (9363600*(t+30*f.length)) (ld g f ((v,p)::rs) a b)
 |[],g,c,t,l,j,u=>⟨⟨c,rfl⟩,j⟩
 |q::f,g,c,t,l,j,u=>by
  obtain⟨G,B⟩:=l q (by simp);have M:t+30*(f.length+1)<=9000:=u;obtain⟨⟨z,e1⟩,C⟩:=E5 (wk:=wk) (s:=s) G B ((v,p)::rs) g { c with c4:=J (aw q.1),c5:=J (qD q.2)} t y rfl rfl j (by simp;ext);obtain⟨⟨H,e2⟩,L⟩:=E6 y lr f (fS g q.1 q.2 ((v,p)::rs)) z (t+30) (λx F=>l x (n_ _ F)) (λa b=>(C a b).mono (by simp;ext)) (by ext);refine⟨⟨H,?_⟩,λa b=>by rw[A0,show t+30*(f.length+1)=t+30+30*f.length by ext];exact L a b⟩;rw[n8,Cb];have i:Ca (.int (n:Int)) wk (.tup [.int (v:Int),qD p]::rs.map k_) (aZ n g) { c with c4:=J (aw q.1),c5:=J (qD q.2)} s=J (aZ n (fS g q.1 q.2 ((v,p)::rs)),z,s):=e1;rw[i];exact e2
structure Qs(n:Nat)(w:Wk):Prop where
 v:w.v<n
 p:Tw w.p
 r:∀q∈w.r,q.1<n/\Tw q.2
 c:∀q∈w.c,q.1<n/\Tw q.2
 lr:w.r.length<=12
 lc:w.c.length<=12
def cq(g:Nat->Nat->Rat)(w:Wk):Nat->Nat->Rat:=ld g ((w.v,1)::w.c) ((w.v,w.p)::w.r)
def E7{n:Nat}{wk:D}{s:c_}:∀(f:List Wk)(g:Nat->Nat->Rat)(c:C8)(t:Nat),(∀w∈f,Qs n w)->(∀a b,Cm (9363600*t) (g a b))->t+400*f.length<=8000 ->
  (∃B,DT (.int (n:Int)) wk (f.map n4) (aZ n g) c s=J (aZ n (f.foldl cq g),B,s))/\∀a b,Cm (9363600*(t+400*f.length)) (f.foldl cq g a b)
 |[],g,c,t,hw,l,u=>⟨⟨c,rfl⟩,l⟩
 |w::f,g,c,t,hw,l,u=>by
  have h:=hw w (by simp);have G:t+400*(f.length+1)<=8000:=u
  obtain⟨⟨y,e1⟩,z⟩:=E6 (wk:=wk) (s:=s) (v:=w.v) (p:=w.p) (rs:=w.r) (λq i=>by
   rcases pu.mp i with rfl|i
   .exact⟨h.v,h.p⟩
   .exact h.r q i) (by have:=h.lr;ext) ((w.v,1)::w.c) g { c with c0:=J (.int (w.v:Int)),c1:=J (qD w.p),c2:=J (.tup (w.r.map k_)),c3:=J (.tup (w.c.map k_))} t (λq i=>by
   rcases pu.mp i with rfl|i
   .exact⟨h.v,Tw.one⟩
   .exact h.c q i) l (by have:=h.lc;simp;ext)
  obtain⟨⟨E,e2⟩,F⟩:=E7 f (cq g w) y (t+400) (λx C=>hw x (n_ _ C)) (λa b=>(z a b).mono (by have:=h.lc;simp;ext)) (by ext);refine⟨⟨E,?_⟩,λa b=>by rw[A0,show t+400*(f.length+1)=t+400+400*f.length by ext];exact F a b⟩;rw[n8,DT,b_ ⟨by have:=h.lr;simp;ext,by have:=h.lc;simp;ext⟩];have j:Cb (.int (n:Int)) wk (.int (w.v:Int)) (qD w.p) (w.r.map k_) (.tup [.int (w.v:Int),.tup [.int 1,.int 1]]::w.c.map k_) (aZ n g) { c with c0:=J (.int (w.v:Int)),c1:=J (qD w.p),c2:=J (.tup (w.r.map k_)),c3:=J (.tup (w.c.map k_))} s=J (aZ n (cq g w),y,s):=e1;rw[j];exact e2
def bG(n:Nat)(f:Nat->Rat):List Pt:=((List.range n).filter λj=>!decide (f j=0)).map λj=>(j,f j)
def tu(n:Nat)(g:Nat->Nat->Rat):D:=.tup [.int (n:Int),.tup ((List.range n).map λi=>.tup ((bG n (g i)).map k_))]
def Eg{neg:Bool}{p q:Rat}:AV neg (qD p) (qD q)=J (.bl (if neg then !decide (p=q)else decide (p=q))):=by
 have e:(p.num=q.num/\(p.den:Int)=q.den)↔p=q:=⟨λh=>Rat.ext h.1 (by ext),λh=>by subst h;exact⟨rfl,rfl⟩⟩
 have:PyData.eqvAll [PyData.int p.num,.int p.den] [.int q.num,.int q.den]=decide (p=q):=by rw[show PyData.eqvAll [PyData.int p.num,.int p.den] [.int q.num,.int q.den]=decide ([p.num,(p.den:Int)]=[q.num,(q.den:Int)])from fJ [p.num,(p.den:Int)] [q.num,(q.den:Int)]];exact decide_eq_decide.mpr (by simpa using e)
 simp only[AV,qD,nD,py,Be,EC];rw[b_ ⟨⟨by simp[vv,s_],by simp[vv,s_]⟩,by simp[SeqAt.shaped,PyData.canLay0,PyData.canLayAll0,PyData.depth,PyData.depthAll],by simp[SeqAt.shaped,PyData.canLay0,PyData.canLayAll0,PyData.depth,PyData.depthAll]⟩];simp only[PyData.eqv,this]
def dh:∀{a:SW},(∀d∈a,flat d=I)->e_ a=I
 |[],_=>rfl
 |d::a,h=>by
  simp only[e_,AZ];exact⟨h d (by simp),dh λx f=>h x (n_ _ f)⟩
def mK(a:List Pt):e_ (a.map k_)=I:=dh λd hd=>by
 obtain⟨p,_,rfl⟩:=tx.mp hd;rfl
def o9(w:Wk):flat (n4 w)=I:=by simp[flat,e_,mK]
def lq{n:Nat}{g:Nat->Nat->Rat}:flat (tu n g)=I:=by
 have:e_ ((List.range n).map λi=>D.tup ((bG n (g i)).map k_))=I:=dh λd hd=>by
  obtain⟨i,_,rfl⟩:=tx.mp hd;simp[flat,mK]
 simp[tu,flat,e_,this]
def Iw{n:Nat}{f:Nat->Rat}:aT ((List.range n).map λj=>qD (f j))=(List.range n).map λj=>.tup [aw j,qD (f j)]:=by
 apply Fi;intro i;unfold aT;rw[qb,Fd,qb,qb];by_cases h:i<n
 .simp[h]
 .simp[h]
def Qt{n:Nat}{B:D}{g:Nat->Nat->Rat}{c:C8}{s:c_}(G:n<=12):sS.p (mE (aZ n g) (.int (n:Int)) B c) s=.ok (tu n g) s:=by
 have a:∀{x y:D}{s:c_},(if [x,y].length<=100000 then PR.ok (D.tup [x,y]) s else .bad)=.ok (.tup [x,y]) s:=λ{x y s}=>b_ (by simp);have z:∀(f:Nat->Rat)(s:c_),(o_ cE (ac (aV 2 [] (cH iE (ac (aa 0) a_)) (ws':=[]) (vg (mu (j_ 0) (mu (j_ 1) va)) 2) (xB (ae zI (aa 1) (bn (ac (xC (.int 0)) (ac (xC (.int 1)) a_))))) (bn (ac (aa 0) (ac (aa 1) a_)))) a_):Xe []).p [J (.lst ((List.range n).map λj=>qD (f j)))] s=.ok (.tup ((bG n f).map k_)) s:=λf s=>by
  have q:=xO (ws:=[]) (ws':=[]) (env:=[J (.lst ((List.range n).map λj=>qD (f j)))]) (s:=s) (s0:=s) (fm:=[]) (i:=cH iE (ac (aa 0) a_)) (t:=xB (ae zI (aa 1) (bn (ac (xC (.int 0)) (ac (xC (.int 1)) a_))))) (e:=bn (ac (aa 0) (ac (aa 1) a_))) (l:=List.range n) (λj=>aw j) (λj=>qD (f j)) (λj=>k_ (j,f j)) (λj=>!decide (f j=0)) (by
   dsimp![kG,aj,aq,aA,Lb,Iw]) (by simp;ext) (λj F=>⟨by
    simp![dD,aJ,c9,bL,aY,a,nZ];rw[show(D.tup [.int 0,.int 1])=qD 0 from rfl,Eg];rfl,λ_=>by
    simp![c9,a]⟩)
  rw[cx,aj,q];dsimp![aA,ig,bG,vM];rfl
 have u:=nj (ws:=[]) (ws':=[]) (env:=mE (aZ n g) (.int (n:Int)) B c) (s:=s) (s0:=s) (fm:=[]) (i:=bx (aa 2)) (t:=ti) (e:=(o_ cE (ac (aV 2 [] (cH iE (ac (aa 0) a_)) (ws':=[]) (vg (mu (j_ 0) (mu (j_ 1) va)) 2) (xB (ae zI (aa 1) (bn (ac (xC (.int 0)) (ac (xC (.int 1)) a_))))) (bn (ac (aa 0) (ac (aa 1) a_)))) a_))) (l:=List.range n) (λi=>.lst ((List.range n).map λj=>qD (g i j))) (λi=>.tup ((bG n (g i)).map k_)) (λ_=>I) (by
  rw[fO];show(PR.ok (eM (aZ n g)) s).bind _=_;rw[Pb];show PR.of (J ((aZ n g).map λr=>dl r.1 r.2)) s=_;rw[Pf];unfold aZ
  rw[vM];rfl) (by simp;ext) (λi E=>⟨rfl,λ_=>z (g i) s⟩)
 unfold sS;rw[c9,aj];show(((PR.ok (D.int (n:Int)) s).bind _).bind _)=_;rw[Pb,aj,cx,aj,u];dsimp![aA,ig,a];have C:(List.range n).filter (λ_=>I)=List.range n:=List.filter_eq_self.mpr (by simp);rw[C];rfl
def Ix{n:Nat}{ws:List Wk}{s:c_}(i:n<=12)(hl:ws.length<=12)(hw:∀w∈ws,Qs n w):ja.p [.int (n:Int),.lst (ws.map n4)] s=.ok (tu n (ws.foldl cq λ_ _=>0)) s:=by
 obtain⟨⟨c,e⟩,_⟩:=E7 (wk:=.lst (ws.map n4)) (s:=s) ws (λ_ _=>0) ⟨Y,Y,Y,Y,Y,Y,Y,Y⟩ 0 hw (λ_ _=>Cm.zero _) (by ext);have f:aZ n (λ_ _=>0)=List.replicate n (Y,List.replicate n (.tup [.int 0,.int 1])):=by unfold aZ;rw[List.map_const',List.map_const',Jy];rfl
 have a:e_ (ws.map n4)=I:=dh λd hd=>by
  obtain⟨w,_,rfl⟩:=tx.mp hd;exact o9 w
 show ND [.int (n:Int),.lst (ws.map n4)] s=_;unfold ND;dsimp only;rw[b_ ⟨a,by ext,by ext⟩,BK,<-f,e];dsimp only;rw[Qt i];dsimp only;rw[b_ lq]
def ky(a:SV):SS:=a.map λ(k:Nat)=>(k:Int)
def vl(a:SV)(f:Nat->Rat):SW:=a.map λk=>qD (f k)
structure Kf(ks:SV)(f:Nat->Rat):Prop where
 nd:ks.Nodup
 off:∀j,j∉ks->f j=0
def wF{f:Nat->Rat}{j:Nat}:∀{ks:SV},qx (ky ks) (vl ks f) (j:Int)=if j∈ks then J (qD (f j))else Y
 |[]=>rfl
 |k::ks=>by
  have a:=wF (f:=f) (j:=j) (ks:=ks);show(if(k:Int)=(j:Int)then J (qD (f k))else qx (ky ks) (vl ks f) (j:Int))=_;by_cases e:k=j
  .subst e;simp
  .rw[f_ (by ext),a];simp[Ne.symm e]
def cI(f:Nat->Rat)(j:Nat)(q:Rat):Nat->Rat:=λa=>if a=j then q else f a
def ins(a:SV)(j:Nat):SV:=if j∈a then a else a++[j]
def Iy{f:Nat->Rat}{j:Nat}{q:Rat}{a:SV}(h:j∉a):vl a (cI f j q)=vl a f:=by unfold vl;refine Ff λk i=>?_;simp[cI,show k≠j from λz=>h (z▸i)]
def yu{f:Nat->Rat}{j:Nat}{q:Rat}:∀{a:SV},a.Nodup->i0 (ky a) (vl a f) (j:Int) (qD q)=(ky (ins a j),vl (ins a j) (cI f j q))
 |[],_=>by simp[ky,vl,i0,ins,cI]
 |k::a,nd=>by
  rw[z_]at nd;have i:=yu (f:=f) (j:=j) (q:=q) nd.2;show(if(k:Int)=(j:Int)then((k:Int)::ky a,qD q::vl a f)else((k:Int)::(i0 (ky a) (vl a f) (j:Int) (qD q)).1,qD (f k)::(i0 (ky a) (vl a f) (j:Int) (qD q)).2))=_;by_cases e:k=j
  .subst e;rw[b_ rfl]
   have:ins (k::a) k=k::a:=by simp[ins]
   rw[this];show _=((k:Int)::ky a,qD (cI f k q k)::vl a (cI f k q));rw[Iy nd.1];simp[cI]
  .rw[f_ (by ext),i];have l:ins (k::a) j=k::ins a j:=by
    unfold ins;by_cases m:j∈a
    .simp[m]
    .simp[m,Ne.symm e]
   rw[l];show _=((k:Int)::ky (ins a j),qD (cI f j q k)::vl (ins a j) (cI f j q));simp[cI,e]
def Kf.put{l:SV}{f:Nat->Rat}{j:Nat}{q:Rat}(h:Kf l f):Kf (ins l j) (cI f j q):=by
 unfold ins;constructor
 .split
  .exact h.nd
  .rename_i z
   rw[IS];refine⟨h.nd,by simp,λa i b u e=>z ?_⟩;rw[B5]at u;rw[<-u,<-e];exact i
 .intro a i;unfold cI
  split at i
  .rename_i z
   rw[f_ (λe=>i (by rw[e];exact z))];exact h.off a i
  .have:a∉l/\a≠j:=by simpa using i
   rw[f_ this.2];exact h.off a this.1
abbrev AQ(ks:SV)(f:Nat->Rat):D:=.dic T (ky ks) (vl ks f)
def qJ{a:SV}{f:Nat->Rat}{j:Nat}(h:Kf a f):(qx (ky a) (vl a f) (j:Int)).getD (qD 0)=qD (f j):=by
 rw[wF];split
 .rfl
 .rename_i z;rw[h.off j z];rfl
def jz(f:Nat->Rat)(a:Rat)(i:List Pt):Nat->Rat:=i.foldl (λf p=>cI f p.1 (f p.1+a*p.2)) f
def mM(a:SV)(f:List Pt):SV:=f.foldl (λa p=>ins a p.1) a
def Eh{f:Nat->Rat}{j t:Nat}{a x:Rat}(i:Tw a)(l:Tw x)(h:∀j,Cm (9363600*t) (f j)):∀b,Cm (9363600*(t+1)) (cI f j (f j+a*x) b):=λb=>by
 unfold cI;split
 .rw[Nat.mul_add];exact(h j).add ((i.mul l).mono (by decide))
 .exact (h b).mono (by ext)
def Ei{ks:SV}{j:Nat}:(ins ks j).length<=ks.length+1:=by unfold ins;split<;>simp
abbrev RQ:Xd [0]:=(jY 0 (aa 3) (av dG (ac (Bf (aa 0) (ac (aa 3) (ac (ze 0 1) a_))) (ac (av cP (ac (aa 1) (ac (aa 4) a_))) a_))))
def wI{a:Rat}{P:Sj}{s:c_}(B:Tw a):∀(l:List Pt)(i:SV)(f:Nat->Rat)(t:Nat)(y z:Sj),(∀p∈l,Tw p.2)->Kf i f->(∀j,Cm (9363600*t) (f j))->t+l.length<=10000->i.length+l.length<=90000 ->
  (∃E F,Bw (vg (mu (j_ 3) (mu (j_ 4) va)) 2:Xg [0]).p RQ.p (l.map k_) [J (AQ i f),J (qD a),P,y,z] s=.nx [J (AQ (mM i l) (jz f a l)),J (qD a),P,E,F] s)/\Kf (mM i l) (jz f a l)/\(∀j,Cm (9363600*(t+l.length)) (jz f a l j))/\(mM i l).length<=i.length+l.length
 |[],i,f,t,y,z,C,u,hf,H,hl=>⟨⟨y,z,rfl⟩,u,hf,jj _⟩
 |p::l,i,f,t,y,z,C,u,hf,H,hl=>by
  have G:=C p (by simp);have W:t+(l.length+1)<=10000:=H;have O:i.length+(l.length+1)<=90000:=hl;have sf:sz (f p.1)<=40:=(hf p.1).sz (by ext) (by decide);have Z:sz (a*p.2)<=40:=(B.mul G).sz (by decide) (by decide);have R:=Iq (p:=a) (q:=p.2) (s:=s) (by have:=B.sz;have:=G.sz;ext);have Q:=L6 (p:=f p.1) (q:=a*p.2) (s:=s) (by ext);have S:=qJ (j:=p.1) u;have il:=Ei (ks:=i) (j:=p.1);obtain⟨⟨E,F,e⟩,L,U,X⟩:=wI (P:=P) (s:=s) B l (ins i p.1) (cI f p.1 (f p.1+a*p.2)) (t+1) (J (aw p.1)) (J (qD p.2)) (λx M=>C x (n_ _ M)) u.put (Eh B G hf) (by ext) (by ext);refine⟨⟨E,F,?_⟩,L,λj=>by rw[A0,show t+(l.length+1)=t+1+l.length by ext];exact U j,ql X (by simp;ext)⟩;have b:RQ.p [J (AQ i f),J (qD a),P,J (aw p.1),J (qD p.2)] s=.nx [J (AQ (ins i p.1) (cI f p.1 (f p.1+a*p.2))),J (qD a),P,J (aw p.1),J (qD p.2)] s:=by
   rw[DF,y7 (v:=qD (f p.1+a*p.2)) (s1:=s) (s2:=s) (j:=(p.1:Int)) (ks:=ky i) (ds:=vl i f) (by
    simp![aG,qN,show ∀(e:am)(s:c_),(ze 0 1:Xe [0]).p e s=.ok (D.tup [.int 0,.int 1]) s from λ_ _=>rfl];rw[show D.tup [.int 0,.int 1]=qD 0 from rfl,S]
    simp only[Pb,R,Q]) (by rfl) rfl (by simp[ky];ext),yu u.nd]
   rfl
  rw[n8,mN (show(vg (mu (j_ 3) (mu (j_ 4) va)) 2:Xg [0]).p (k_ p) [J (AQ i f),J (qD a),P,y,z]=J [J (AQ i f),J (qD a),P,J (aw p.1),J (qD p.2)]from rfl),b];exact e
def L_{a:Rat}{i:List Pt}{l:SV}{f:Nat->Rat}{t:Nat}{s:c_}(z:Tw a)(B:∀p∈i,Tw p.2)(E:Kf l f)(hf:∀j,Cm (9363600*t) (f j))(C:t+i.length<=10000)(hl:l.length+i.length<=90000):
  (∃y u,bj.p (kx 5 [AQ l f,qD a,.tup (i.map k_)]) s=.nx [J (AQ (mM l i) (jz f a i)),J (qD a),J (.tup (i.map k_)),y,u] s):=by
 obtain⟨⟨y,u,e⟩,_⟩:=wI (P:=J (.tup (i.map k_))) (s:=s) z i l f t Y Y B E hf C hl;refine⟨y,u,?_⟩;unfold bj;rw[show kx 5 [AQ l f,qD a,.tup (i.map k_)]=[J (AQ l f),J (qD a),J (.tup (i.map k_)),Y,Y]from rfl,iU,fO];dsimp![aD,aq,show(D.tup (i.map k_)).items=J (i.map k_)from rfl,Pg];exact e
structure St where
 (K:Nat->SV) (F:Nat->Nat->Rat)
def zl(n:Nat)(x:St):List Rd:=(List.range n).map λi=>(J (ky (x.K i)),vl (x.K i) (x.F i))
structure AY(n t:Nat)(x:St):Prop where
 kf:∀i,i<n->Kf (x.K i) (x.F i)
 cm:∀i j,Cm (9363600*t) (x.F i j)
 kl:∀i,(x.K i).length<=t
def St.put(x:St)(i:Nat)(j:SV)(f:Nat->Rat):St:=⟨λa=>if a=i then j else x.K a,λa=>if a=i then f else x.F a⟩
def xV{n i:Nat}{x:St}(a:i<n):(zl n x)[i]?=J (J (ky (x.K i)),vl (x.K i) (x.F i)):=by unfold zl;simp[a]
def Iz{n i:Nat}{x:St}{j:SV}{f:Nat->Rat}(u:i<n):(zl n x).set i (J (ky j),vl j f)=zl n (x.put i j f):=by
 unfold zl;apply Fi;intro a;by_cases l:a<n
 .by_cases e:i=a
  .subst e;rw[wv (by simpa using u)];simp[l,St.put]
  .rw[pa e];simp[l,St.put,Ne.symm e]
 .rw[BC (by simp;ext),BC (by simp;ext)]
def lh{n i:Nat}{x:St}(a:i<n):l_.p (eM (zl n x)) (.int (i:Int))=J (AQ (x.K i) (x.F i)):=by show n3 ((zl n x).map λr=>dl r.1 r.2) (i:Int)=_;exact L2.cS (by rw[qb,xV a];rfl)
def St.add(x:St)(i:Nat)(a:Rat)(f:List Pt):St:=x.put i (mM (x.K i) f) (jz (x.F i) a f)
def uk{a:SV}{f:Nat->Rat}:e_ (vl a f)=I:=dh λd hd=>by
 unfold vl at hd;obtain⟨k,_,rfl⟩:=tx.mp hd;rfl
def Ej{n i t:Nat}{x:St}{a:Rat}{f:List Pt}{s:c_}(h:AY n t x)(l:i<n)(C:Tw a)(B:∀p∈f,Tw p.2)(L:f.length<=12)(M:t<=9000):
  lE (zl n x) i (qD a) (.tup (f.map k_)) s=J (zl n (x.add i a f),s)/\AY n (t+12) (x.add i a f):=by
 have kl:=h.kl i;obtain⟨⟨u,y,e⟩⟩:(∃u y,bj.p (kx 5 [AQ (x.K i) (x.F i),qD a,.tup (f.map k_)]) s=.nx [J (AQ (mM (x.K i) f) (jz (x.F i) a f)),J (qD a),J (.tup (f.map k_)),u,y] s)/\True:=⟨L_ C B (h.kf i l) (h.cm i) (by ext) (by ext),trivial⟩;obtain⟨_,G,F,O⟩:=wI (P:=Y) (s:=s) C f (x.K i) (x.F i) t Y Y B (h.kf i l) (h.cm i) (by ext) (by ext);constructor
 .unfold lE;rw[xV l];dsimp only;have E:bj.p (kx 5 [dl (J (ky (x.K i))) (vl (x.K i) (x.F i)),qD a,.tup (f.map k_)]) s=.nx [J (AQ (mM (x.K i) f) (jz (x.F i) a f)),J (qD a),J (.tup (f.map k_)),u,y] s:=e;rw[E];simp only[IN];rw[b_ ⟨uk,rfl,by simp[flat,mK]⟩,Iz l];rfl
 .refine⟨λb H=>?_,λb j=>?_,λb=>?_⟩
  .unfold St.add St.put;dsimp only;by_cases z:b=i
   .rw[b_ z,b_ z];exact G
   .rw[f_ z,f_ z];exact h.kf b H
  .unfold St.add St.put;dsimp only;by_cases z:b=i
   .rw[b_ z];exact(F j).mono (by ext)
   .rw[f_ z];exact(h.cm b j).mono (by ext)
  .unfold St.add St.put;dsimp only;by_cases z:b=i
   .rw[b_ z];ext
   .rw[f_ z];have:=h.kl b;ext
def Bg(a:SV)(f:Nat->Rat):List Pt:=(a.filter λj=>!decide (f j=0)).map λj=>(j,f j)
def Ma{a:SV}(e:am)(s:c_):(ze 0 1:Xe a).p e s=.ok (qD 0) s:=rfl
def E9{a:SV}{f:Nat->Rat}{j:Nat}(h:Kf a f)(i:f j≠0):kE.p (AQ a f) (.int (j:Int))=J (qD (f j)):=by show qx (ky a) (vl a f) (j:Int)=_;rw[wF,b_ (Classical.byContradiction λz=>i (h.off j z))]
def Ek{a ls:SV}{f:Nat->Rat}{s:c_}(h:Kf a f)(hl:ls.length<=100):eE.p [AQ a f,kw ls] s=.ok (.tup ((Bg ls f).map k_)) s:=by
 have z:∀{x y:D}{s:c_},(if [x,y].length<=100000 then PR.ok (D.tup [x,y]) s else .bad)=.ok (.tup [x,y]) s:=λ{x y s}=>b_ (by simp)
 have q:=nj (ws:=[]) (ws':=[]) (env:=[J (AQ a f),J (kw ls)]) (s:=s) (s0:=s) (fm:=[0]) (i:=bx (aa 1)) (t:=xB (ae zI (Bf (aa 1) (ac (aa 0) (ac (ze 0 1) a_))) (ze 0 1))) (e:=bn (ac (aa 0) (ac (ae kE (aa 1) (aa 0)) a_))) (l:=ls) (λj=>aw j) (λj=>k_ (j,f j)) (λj=>!decide (f j=0)) (by
  simp only[fO,aD,aq,Pb];rfl) (by ext) (λj C=>⟨by
   simp![dD,aJ,qN,Ma,n8,Fk,IN,IU,nZ];rw[qJ h,Eg];rfl,λB=>by
   have u:f j≠0:=by simpa using B
   simp![c9,aJ,n8,Fk,IN,IU,E9 h u,Pf,z]⟩)
 rw[tR (by rfl)];unfold eB;rw[show kx 2 [AQ a f,kw ls]=[J (AQ a f),J (kw ls)]from rfl,bu,cx,aj,q];dsimp![aA,ig,Pg,PU.bD,Bg,vM];rfl
def IA{n t v:Nat}{x:St}{a:SV}{s:c_}(h:AY n t x)(hv:v<n)(hl:a.length<=100)(C:∀i∈a,i<n)(S:t<=10000)(G:x.F v v≠0):
  fY.p [eM (zl n x),aw v,kw a] s=.ok (n4 ⟨v,x.F v v,Bg a (x.F v),(a.filter λi=>!decide (x.F i v=0)).map λi=>(i,x.F i v/x.F v v)⟩) s:=by
 have L:∀{x y:D}{s:c_},(if [x,y].length<=100000 then PR.ok (D.tup [x,y]) s else .bad)=.ok (.tup [x,y]) s:=λ{x y s}=>b_ (by simp);have H:∀{x y z u:D}{s:c_},(if [x,y,z,u].length<=100000 then PR.ok (D.tup [x,y,z,u]) s else .bad)=.ok (.tup [x,y,z,u]) s:=λ{x y z u s}=>b_ (by simp);have B:∀i j,sz (x.F i j)<=40:=λi j=>(h.cm i j).sz (by ext) (by decide)
 have q:=nj (ws:=[]) (ws':=[]) (env:=[J (eM (zl n x)),J (aw v),J (kw a),J (qD (x.F v v)),Y]) (s:=s) (s0:=s) (fm:=[3,1,0]) (i:=bx (aa 2)) (t:=xB (ae zI (Bf (ae l_ (aa 3) (aa 0)) (ac (aa 2) (ac (ze 0 1) a_))) (ze 0 1))) (e:=bn (ac (aa 0) (ac (av ic (ac (ae kE (ae l_ (aa 3) (aa 0)) (aa 2)) (ac (aa 1) a_))) a_))) (l:=a) (λi=>aw i) (λi=>k_ (i,x.F i v/x.F v v)) (λi=>!decide (x.F i v=0)) (by
  simp only[fO,aD,aq,Pb];rfl) (by ext) (λi F=>⟨by
   have f:=C i F;simp![dD,aJ,qN,Ma,n8,Fk,IN,QS,IU,lh f,Pf,nZ];rw[qJ (h.kf i f),Eg];rfl,λM=>by
   have f:=C i F;have E:x.F i v≠0:=by simpa using M
   have R:=L7 (p:=x.F i v) (q:=x.F v v) (s:=s) G (by have:=B i v;have:=B v v;ext)
   simp![c9,aG,aJ,n8,Fk,IN,QS,IU,lh f,Pf,E9 (h.kf i f) E,R,L]⟩)
 have Q:=Ek (s:=s) (ls:=a) (h.kf v hv) hl;have P:=qJ (j:=v) (h.kf v hv);have e0:AV T (qD (x.F v v)) (qD 0)=J (.bl T):=by rw[Eg];simp[G]
 rw[vY (by rfl)];unfold fL;rw[show kx 5 [eM (zl n x),aw v,kw a]=[J (eM (zl n x)),J (aw v),J (kw a),Y,Y]from rfl];rw[aI,bM];simp![qN,aJ,lh hv,Pf,Ma,P,Pg,zK,x5,PU.aB];rw[aI,cj];dsimp![dD,aJ,aD,aq,Ma,jI,e0,Pl,Pg,qi,if_false,bH,PU.aB];rw[aI,bM];rw[show(aV 1 [3,1,0] (bx (aa 2)) (ws':=[]) (j_ 0) (xB (ae zI (Bf (ae l_ (aa 3) (aa 0)) (ac (aa 2) (ac (ze 0 1) a_))) (ze 0 1))) (bn (ac (aa 0) (ac (av ic (ac (ae kE (ae l_ (aa 3) (aa 0)) (aa 2)) (ac (aa 1) a_))) a_))):Xe []).p [J (eM (zl n x)),J (aw v),J (kw a),J (qD (x.F v v)),Y] s=_ from q];simp only[Pg,zK,x5,PU.aB];simp![bu,c9,aG,aJ,lh hv,Pf,Q,cx,ig,H,Pg,PU.bD,vM];have O:(((a.filter λi=>!decide (x.F i v=0)).map λi=>(i,x.F i v/x.F v v)):List Pt).map k_=(a.filter λi=>!decide (x.F i v=0)).map λi=>k_ (i,x.F i v/x.F v v):=by rw[vM];rfl
 unfold n4;rw[O]
def lw(a:List Pt)(j:Nat):Rat:=((a.find? λp=>p.1==j).map (·.2)).getD 0
def hX{j:Nat}:lw [] j=0:=rfl
def aQ{p:Pt}{a:List Pt}{j:Nat}:lw (p::a) j=if p.1=j then p.2 else lw a j:=by
 unfold lw;rw[MF];by_cases h:p.1=j
 .simp[h]
 .have e:(p.1==j)=T:=by simpa using h
  rw[e,f_ h]
def cX{a:List Pt}{j:Nat}(h:j∉a.map (·.1)):lw a j=0:=by
 induction a with
 |nil=>rfl
 |cons p a f =>
  rw[n8,pu,not_or]at h;rw[aQ,f_ (λe=>h.1 e.symm),f h.2]
def uc{a:Rat}{j:Nat}:∀{i:List Pt}{f:Nat->Rat},(i.map (·.1)).Nodup->jz f a i j=f j+a*lw i j
 |[],f,_=>by show f j=_;rw[hX];grind
 |p::i,f,nd=>by
  rw[n8,z_]at nd;show jz (cI f p.1 (f p.1+a*p.2)) a i j=_;rw[uc nd.2,aQ];unfold cI;by_cases e:p.1=j
  .subst e;rw[b_ rfl,b_ rfl,cX nd.1];grind
  .rw[f_ (Ne.symm e),f_ e]
def pF{f:Rat}{i a b:Nat}:∀{j:List Pt}{g:Nat->Nat->Rat},(j.map (·.1)).Nodup->fS g i f j a b=g a b+if a=i then f*lw j b else 0
 |[],g,_=>by show g a b=_;rw[hX];split<;>grind
 |p::j,g,nd=>by
  rw[n8,z_]at nd;show fS (gW g i p.1 (g i p.1+f*p.2)) i f j a b=_;rw[pF nd.2,aQ];unfold gW;by_cases l:a=i
  .subst l;by_cases u:b=p.1
   .subst u;rw[b_ ⟨rfl,rfl⟩,b_ rfl,b_ rfl,b_ rfl,cX nd.1];grind
   .rw[f_ (λz=>u z.2),b_ rfl,b_ rfl,f_ (Ne.symm u)]
  .rw[f_ (λz=>l z.1),f_ l,f_ l]
def pU{rs:List Pt}(i:(rs.map (·.1)).Nodup){a b:Nat}:∀{cs:List Pt}{g:Nat->Nat->Rat},(cs.map (·.1)).Nodup->ld g cs rs a b=g a b+lw cs a*lw rs b
 |[],g,_=>by show g a b=_;rw[hX];grind
 |p::cs,g,nd=>by
  rw[n8,z_]at nd;show ld (fS g p.1 p.2 rs) cs rs a b=_;rw[pU i nd.2,pF i,aQ];by_cases f:a=p.1
  .subst f;rw[b_ rfl,b_ rfl,cX nd.1];grind
  .rw[f_ f,f_ (Ne.symm f)];grind
def cl(w:Wk)(i:Nat):Rat:=lw ((w.v,1)::w.c) i
def rw'(w:Wk)(j:Nat):Rat:=lw ((w.v,w.p)::w.r) j
structure NG(w:Wk):Prop where
 r:(w.v::w.r.map (·.1)).Nodup
 c:(w.v::w.c.map (·.1)).Nodup
def fh(a:List Wk)(i j:Nat):Rat:=(a.map λw=>cl w i*rw' w j).sum
def cG{w:Wk}{a:List Wk}{i j:Nat}:fh (w::a) i j=cl w i*rw' w j+fh a i j:=by simp[fh]
def pC{i j:Nat}:∀{a:List Wk}{g:Nat->Nat->Rat},(∀w∈a,NG w)->a.foldl cq g i j=g i j+fh a i j
 |[],g,_=>by show g i j=g i j+0;grind
 |w::a,g,h=>by
  have hw:=h w (by simp);show a.foldl cq (cq g w) i j=_;rw[pC λx f=>h x (n_ _ f),cG];unfold cq;rw[pU (rs:=(w.v,w.p)::w.r) hw.r (cs:=(w.v,1)::w.c) hw.c];show g i j+cl w i*rw' w j+_=_
  grind
def lZ{n:Nat}{f:Nat->Rat}:(bG n f).map (·.1)=(List.range n).filter λj=>!decide (f j=0):=by unfold bG;rw[vM];exact(Ff (g:=id) λ_ _=>rfl).trans (List.map_id _)
def zJ(n:Nat)(g:Nat->Nat->Rat):St:=⟨λi=>(List.range n).filter λj=>!decide (g i j=0),λi j=>if j<n then g i j else 0⟩
def AL{n:Nat}{g:Nat->Nat->Rat}(E:n<=12):fR ((List.range n).map λi=>.tup ((bG n (g i)).map k_))=J (zl n (zJ n g)):=by
 have one:∀i,Lf (.tup ((bG n (g i)).map k_))=J ((bG n (g i)).map λp=>((p.1:Int),qD p.2)):=λi=>by
  have C:∀f:List Pt,jb (f.map k_)=J (f.map λp=>((p.1:Int),qD p.2)):=λf=>by
   induction f with
   |nil=>rfl
   |cons p f u=>rw[n8,jb,u];rfl
  unfold Lf;dsimp only;rw[C];dsimp only;rw[b_];rw[vM]
  have:((bG n (g i)).map ((·.1)∘λp:Pt=>((p.1:Int),qD p.2)))=((bG n (g i)).map (·.1)).map λ(k:Nat)=>(k:Int):=by rw[vM];rfl
  rw[this,lZ];exact(JB.filter _).map (λ(k:Nat)=>(k:Int)) (λa b h=>by ext)
 have gen:∀l:SV,(∀i∈l,i<n)->fR (l.map λi=>.tup ((bG n (g i)).map k_))=J (l.map λi=>(J (ky ((zJ n g).K i)),vl ((zJ n g).K i) ((zJ n g).F i))):=λl=>by
  induction l with
  |nil=>intro;rfl
  |cons i l u =>
   intro h;rw[n8,fR,one i,u λx B=>h x (n_ _ B)];dsimp only;have e1:((bG n (g i)).map λp=>((p.1:Int),qD p.2)).map (·.1)=ky ((zJ n g).K i):=by rw[vM];show _=((List.range n).filter λj=>!decide (g i j=0)).map _;rw[<-lZ,vM];rfl
   have e2:((bG n (g i)).map λp=>((p.1:Int),qD p.2)).map (·.2)=vl ((zJ n g).K i) ((zJ n g).F i):=by
    rw[vM];unfold bG vl zJ;rw[vM];refine Ff λj z=>?_
    have:j<n:=by simpa using(Bh.mp z).1
    simp[this]
   rw[e1,e2,b_ uk,n8]
 exact gen _ λi y=>by simpa using y
def IB{n t:Nat}{g:Nat->Nat->Rat}(y:n<=t)(l:∀i j,Cm (9363600*t) (g i j)):AY n t (zJ n g):=by
 refine⟨λi u=>⟨JB.filter _,λj a=>?_⟩,λi j=>?_,λi=>?_⟩
 .unfold zJ at a ⊢;dsimp only at a ⊢;split
  .rename_i f
   refine Classical.byContradiction λz=>a ?_;exact Bh.mpr ⟨BL.mpr f,by simpa using z⟩
  .rfl
 .unfold zJ;dsimp only;split
  .exact l i j
  .exact Cm.zero _
 .unfold zJ;dsimp only
  have:=QY (λj=>!decide (g i j=0)) (List.range n)
  simp at this;ext
def sO{a:SV}{f g:Nat->Rat}(h:∀j∈a,f j=g j):Bg a f=Bg a g:=by
 unfold Bg;have e:(a.filter λj=>!decide (f j=0))=a.filter λj=>!decide (g j=0):=List.filter_congr λj i=>by rw[h j i]
 rw[e];exact Ff λj i=>by rw[h j (Bh.mp i).1]
def pd{l:Nat}{a:SV}{f:Nat->Rat}:Bg (l::a) f=if f l=0 then Bg a f else(l,f l)::Bg a f:=by
 unfold Bg;rw[NZ];by_cases h:f l=0
 .simp[h]
 .simp[h]
def i7:∀{f:SV}{a:List Pt},f.Nodup->PtS f a->Bg f (lw a)=a
 |[],a,_,h=>by
  have:a=[]:=by simpa using List.sublist_nil.mp h.sub
  subst this;rfl
 |l::f,[],nd,h=>by
  rw[pd,b_ hX];exact i7 (z_.mp nd).2 ⟨List.nil_sublist _,h.sm⟩
 |l::f,p::a,nd,h=>by
  rw[z_]at nd;have u:=h.sub;rw[n8]at u;by_cases e:p.1=l
  .subst e;have i:(a.map (·.1)).Sublist f:=(List.cons_sublist_cons).mp u;have c0:lw (p::a) p.1=p.2:=by rw[aQ,b_ rfl]
   rw[pd,c0,f_ (h.sm p (by simp)).1]
   rw[sO (g:=lw a) (λj B=>by
    rw[aQ,f_ (λe:p.1=j=>nd.1 (by rw[e];exact B))])]
   rw[i7 nd.2 ⟨i,λq y=>h.sm q (n_ _ y)⟩]
  .have i:(p.1::a.map (·.1)).Sublist f:=by
    cases u with
    |cons _ s=>exact s
    |cons_cons _ s=>exact absurd rfl e
   have z:lw (p::a) l=0:=cX λm=>nd.1 (i.subset (by rw[n8]at m;exact m));rw[pd,b_ z];exact i7 nd.2 ⟨i,h.sm⟩
def St.add_F{x:St}{i a b:Nat}{q:Rat}{f:List Pt}(nd:(f.map (·.1)).Nodup):(x.add i q f).F a b=x.F a b+if a=i then q*lw f b else 0:=by
 unfold St.add St.put;dsimp only;by_cases e:a=i
 .subst e;rw[b_ rfl,b_ rfl,uc nd]
 .rw[f_ e,f_ e];grind
def St.adds(x:St)(a f:List Pt):St:=a.foldl (λx p=>x.add p.1 (-p.2) f) x
def xf{f:List Pt}(j:(f.map (·.1)).Nodup){a b:Nat}:∀{i:List Pt}{x:St},(i.map (·.1)).Nodup->(x.adds i f).F a b=x.F a b-lw i a*lw f b
 |[],x,_=>by show x.F a b=_;rw[hX];grind
 |p::i,x,nd=>by
  rw[n8,z_]at nd;show((x.add p.1 (-p.2) f).adds i f).F a b=_;rw[xf j nd.2,St.add_F j,aQ];by_cases e:a=p.1
  .subst e;rw[b_ rfl,b_ rfl,cX nd.1];grind
  .rw[f_ e,f_ (Ne.symm e)];grind
def Tw.neg{q:Rat}(h:Tw q):Tw (-q):=by
 obtain⟨z,rfl,a⟩:=h;refine⟨-z,?_,by ext⟩;rw[Rat.divInt_eq_div,Rat.divInt_eq_div];push_cast
 grind
def Qu{rd:List Rd}{a i:D}{b:Bool}{k v st f:Sj}{j:Int}{s:c_}:qT.p (g9 rd a i (.dic b [] []) k v st (J (.int j)) f) s=.ok I s:=rfl
def Qw{rd:List Rd}{f j a:D}{k v st i:Sj}{q:Rat}{s:c_}(h:Tw q):lp.p (g9 rd f j a k v st i (J (qD q))) s=.ok (qD (-q)) s:=by
 have m:=Ir (p:=0) (q:=q) (s:=s) (by have:=h.sz;have:=Im q;rw[show sz 0=1 by decide +kernel];ext);unfold lp g9;simp![aG,Ma,m];congr 2
 grind
def xF{n:Nat}{sh od:D}{b:Bool}{k v:Sj}{st:D}{j:List Pt}{s:c_}(B:∀p∈j,Tw p.2)(lr:j.length<=12):∀(a:List Pt)(x:St)(t:Nat)(i f:Sj),(∀p∈a,p.1<n/\Tw p.2)->AY n t x->t+12*a.length<=9000 ->
  (∃y l,gP sh od (.dic b [] []) k v st (.tup (j.map k_)) (a.map k_) (zl n x) i f s=J (zl n (x.adds a j),y,l,s))/\AY n (t+12*a.length) (x.adds a j)
 |[],x,t,i,f,u,h,z=>⟨⟨i,f,rfl⟩,h⟩
 |p::a,x,t,i,f,u,h,z=>by
  obtain⟨C,E⟩:=u p (by simp);have L:t+12*(a.length+1)<=9000:=z;obtain⟨M,G⟩:=Ej (s:=s) h C E.neg B lr (by ext);obtain⟨⟨y,l,e⟩,H⟩:=xF (sh:=sh) (od:=od) (b:=b) (k:=k) (v:=v) (st:=st) (s:=s) B lr a (x.add p.1 (-p.2) j) (t+12) (J (aw p.1)) (J (qD p.2)) (λq F=>u q (n_ _ F)) G (by ext);refine⟨⟨y,l,?_⟩,by rw[A0,show t+12*(a.length+1)=t+12+12*a.length by ext];exact H⟩;have O:vq (zl n x).length (p.1:Int)=J p.1:=by unfold zl;simp only[zx,Jy];exact MM.jh C
  rw[n8,gP,Qu];dsimp only;rw[Qw E,O];dsimp only;rw[M];exact e
def WkOk.dd{n:Nat}{ns:SV}{k:Nat}{w:Wk}(o:On n ns)(h:WkOk n ns k w):NG w:=by
 have u:∀a:List Pt,PtS (t_ n ns k) a->(w.v::a.map (·.1)).Nodup:=λa f=>by
  rw[z_];refine⟨λm=>?_,(pB.imp λh=>vK h).sublist f.sub⟩;have y:=(cR o).mp (f.sub.subset m);obtain⟨i,z,e⟩:=Ms y;rw[Mw]at e;have l:=h.v
  have:k=k+1+i:=(Fj (i:=k) (j:=k+1+i) (nw.mp l).1 o.nd).mp (by rw[l,vp (by simp at z;ext),e])
  ext
 exact⟨u _ h.r,u _ h.c⟩
def WkOk.nn{n:Nat}{ns:SV}{k:Nat}{w:Wk}(o:On n ns)(h:WkOk n ns k w):Qs n w:=by
 have n12:=o.n12;have j:=o.len;have l:(t_ n ns k).length<=12:=by have:=(jC (k:=k) o).length_eq;simp at this;ext
 have pt:∀a:List Pt,PtS (t_ n ns k) a->(∀q∈a,q.1<n/\Tw q.2)/\a.length<=12:=λa f=>⟨λq i=>⟨o.lt _ (IQ ((cR o).mp (f.sub.subset (tx.mpr ⟨q,i,rfl⟩)))),(f.sm q i).tw⟩,by have:=f.sub.length_le;simp at this;ext⟩;exact⟨o.lt _ (Ap h.v),h.p.tw,(pt _ h.r).1,(pt _ h.c).1,(pt _ h.r).2,(pt _ h.c).2⟩
def WkOk.at0{n:Nat}{ns:SV}{k m:Nat}{w:Wk}{v:Nat}(o:On n ns)(h:WkOk n ns m w)(hv:ns[k]?=J v)(lt:k<m):cl w v=0/\rw' w v=0:=by
 have f:=(nw.mp hv).1;have ne:w.v≠v:=λe=>by
  have:=(Fj (i:=k) (j:=m) f o.nd).mp (by rw[hv,h.v,e])
  ext
 have no:v∉t_ n ns m:=λz=>by
  obtain⟨i,l,e⟩:=Ms ((cR o).mp z);rw[Mw]at e
  have:=(Fj (i:=k) (j:=m+1+i) f o.nd).mp (by rw[hv,vp (by simp at l;ext),e])
  ext
 have off:∀a:List Pt,PtS (t_ n ns m) a->lw a v=0:=λa u=>cX λz=>no (u.sub.subset z);unfold cl rw';rw[aQ,aQ,f_ ne,f_ ne,off _ h.c,off _ h.r];exact⟨rfl,rfl⟩
def Mb{n:Nat}{ns:SV}{k v j:Nat}(o:On n ns)(hv:ns[k]?=J v):∀(a:List Wk)(m:Nat),k<m->(∀i w,a[i]?=J w->WkOk n ns (m+i) w)->fh a v j=0/\fh a j v=0
 |[],m,_,_=>⟨rfl,rfl⟩
 |w::a,m,lt,h=>by
  have z:=(h 0 w rfl).at0 o hv lt;have f:=Mb (j:=j) o hv a (m+1) (by ext) λi x e=>by
   have:=h (i+1) x (by simpa using e)
   rwa [show m+(i+1)=m+1+i by ext]at this
  rw[cG,cG,z.1,z.2,f.1,f.2]
  constructor<;>grind
def Qx{n k v t:Nat}{ns:SV}{x:St}{sh:D}{b:Bool}{st i f:Sj}{s:c_}(o:On n ns)(a:ns[k]?=J v)(h:AY n t x)(u:t<=10000)(z:x.F v v≠0):
  lO.p (g9 (zl n x) sh (kw ns) (.dic b [] []) (J (aw k)) (J (aw v)) st i f) s=.ok (n4 ⟨v,x.F v v,Bg (t_ n ns k) (x.F v),((t_ n ns k).filter λi=>!decide (x.F i v=0)).map λi=>(i,x.F i v/x.F v v)⟩) s:=by
 have E:=o.len;have n12:=o.n12;have C:k<n:=by have:=(nw.mp a).1;ext
 have y:(t_ n ns k).length<=100:=by have:=(jC (k:=k) o).length_eq;simp at this;ext
 have lt:=ux o C;have B:=IA (s:=s) h (o.lt v (Ap a)) y (λi l=>o.lt i (IQ ((cR o).mp l))) u z;have j:(HH T).p (aw v) (.dic b [] [])=J (.bl T):=rfl;unfold lO g9;rw[Hu];simp![dD,aJ,j,Pf,Pl,qi,if_false,aG,cx,qM,qS,qL,bL,aY,d7,qO,lt,B]
def fM{k v:Nat}{ns:SV}(a:ns[k]?=J v):ns.drop k=v::ns.drop (k+1):=by obtain⟨h,rfl⟩:=nw.mp a;exact Mo h
def yM{k v:Nat}{ns:SV}(f:ns[k]?=J v):(aT (ns.map aw)).drop k=.tup [aw k,aw v]::(aT (ns.map aw)).drop (k+1):=by
 have a:=nw.mp f;have l:k<(aT (ns.map aw)).length:=by simp[aT,a.1]
 have e:(aT (ns.map aw))[k]?=J (.tup [aw k,aw v]):=by unfold aT;rw[qb,Fd,qb,f];simp
 rw[Mo l];congr 1;rw[vp l]at e;exact Option.some.inj e
def Mc{n:Nat}{ns:SV}{sh:D}{b:Bool}{s:c_}(o:On n ns):∀(C:List Wk)(k:Nat)(x:St)(t:Nat)(G:SW)(st i f:Sj),(∀(m:Nat) w,C[m]?=J w->WkOk n ns (k+m) w)->k+C.length=n->AY n t x->t+150*C.length<=9000->G.length=k->(∀i j,i∈ns.drop k->j∈ns.drop k->x.F i j=fh C i j) ->
  ia sh (kw ns) (.dic b [] []) ((aT (ns.map aw)).drop k) (zl n x) G st i f s=J (G++C.map n4,s)
 |[],k,x,t,G,st,i,f,hw,Z,h,ht,hl,B=>by
  have ol:=o.len;rw[List.drop_of_length_le (by simp[aT,ol];simpa using Nat.le_of_eq Z.symm)];simp[ia]
 |w::C,k,x,t,G,st,i,f,hw,Z,h,ht,hl,B=>by
  have n12:=o.n12;have ai:k+(C.length+1)=n:=Z;have al:t+150*(C.length+1)<=9000:=ht;have L:WkOk n ns k w:=hw 0 w rfl;have hv:=L.v;have F:∀(m:Nat) u,C[m]?=J u->WkOk n ns (k+1+m) u:=λm u e=>by
   have:=hw (m+1) u (by simpa using e)
   rwa [show k+(m+1)=k+1+m by ext]at this
  have dd:=L.dd o;have nn:=L.nn o;have dr:=z_.mp dd.r;have dc:=z_.mp dd.c;have Q:(t_ n ns k).Nodup:=pB.imp λh=>vK h;have E:w.v∈ns.drop k:=by rw[fM hv];simp
  have l:∀j∈t_ n ns k,j∈ns.drop k/\j≠w.v:=λj y=>by
   have m:=(cR o).mp y;refine⟨by rw[fM hv];exact n_ _ m,λe=>?_⟩;have nd:=o.nd.sublist (Mu k ns);rw[fM hv,z_]at nd;exact nd.1 (e▸m)
  have s0:=λj=>Mb (j:=j) o hv C (k+1) (by ext) F;have S:cl w w.v=1:=by unfold cl;rw[aQ,b_ rfl]
  have P:rw' w w.v=w.p:=by unfold rw';rw[aQ,b_ rfl]
  have R:∀a,a≠w.v->cl w a=lw w.c a:=λa M=>by unfold cl;rw[aQ,f_ (Ne.symm M)]
  have O:∀a,a≠w.v->rw' w a=lw w.r a:=λa M=>by unfold rw';rw[aQ,f_ (Ne.symm M)]
  have H:x.F w.v w.v=w.p:=by rw[B _ _ E E,cG,S,P,(s0 w.v).1];grind
  have X:∀j∈t_ n ns k,x.F w.v j=lw w.r j:=λj y=>by
   rw[B _ _ E (l j y).1,cG,S,O j (l j y).2,(s0 j).1];grind
  have U:∀j∈t_ n ns k,x.F j w.v=lw w.c j*w.p:=λj y=>by
   rw[B _ _ (l j y).1 E,cG,R j (l j y).2,P,(s0 j).2];grind
  have pz:w.p≠0:=L.p.1;have e1:=Qx (sh:=sh) (b:=b) (st:=st) (i:=i) (f:=f) (s:=s) o hv h (by ext) (by rw[H];exact pz);have er:Bg (t_ n ns k) (x.F w.v)=w.r:=by rw[sO X];exact i7 Q L.r
  have ec:(((t_ n ns k).filter λi=>!decide (x.F i w.v=0)).map λi=>(i,x.F i w.v/x.F w.v w.v))=w.c:=by
   refine Eq.trans ?_ (i7 Q L.c);unfold Bg;have z:∀j∈t_ n ns k,(x.F j w.v=0↔lw w.c j=0):=λj y=>by
    rw[U j y];constructor
    .intro q;grind
    .intro q;rw[q];grind
   have e:((t_ n ns k).filter λi=>!decide (x.F i w.v=0))=(t_ n ns k).filter λj=>!decide (lw w.c j=0):=List.filter_congr λj y=>by
    rw[decide_eq_decide.mpr (z j y)]
   rw[e];refine Ff λj y=>?_;rw[U j (Bh.mp y).1,H];congr 1
   grind
  rw[er,ec,H]at e1;have e1:lO.p (g9 (zl n x) sh (kw ns) (.dic b [] []) (J (aw k)) (J (aw w.v)) st i f) s=.ok (n4 w) s:=e1;obtain⟨⟨i',W,e2⟩,h2⟩:=xF (sh:=sh) (od:=kw ns) (b:=b) (k:=J (aw k)) (v:=J (aw w.v)) (st:=n4 w) (s:=s) (λp hp=>(nn.r p hp).2) nn.lr w.c x t i f nn.c h (by have:=nn.lc;ext)
  have ih:=Mc (sh:=sh) (b:=b) (s:=s) o C (k+1) (x.adds w.c w.r) (t+150) (G++[n4 w]) (J (n4 w)) i' W F (by ext) ⟨h2.kf,λa c=>(h2.cm a c).mono (by have:=nn.lc;ext),λa=>ql (h2.kl a) (by have:=nn.lc;ext)⟩ (by ext) (by simp[hl]) (λa c M hc=>by
   have la:a∈ns.drop k:=by rw[fM hv];exact n_ _ M
   have lc:c∈ns.drop k:=by rw[fM hv];exact n_ _ hc
   rw[xf dr.2 dc.2,B a c la lc,cG,R a (l a ((cR o).mpr M)).2,O c (l c ((cR o).mpr hc)).2]
   grind)
  have ed:=yM (k:=k) (v:=w.v) (ns:=ns) hv;rw[ed,ia,e1]
  show (if flat (n4 w)=I/\G.length<1000/\flat (aw k)=I/\flat (aw w.v)=I then (match gP sh (kw ns) (.dic b [] []) (J (aw k)) (J (aw w.v)) (n4 w) (.tup (w.r.map k_)) (w.c.map k_) (zl n x) i f s with
   |some (ab,i',W,s2)=>ia sh (kw ns) (.dic b [] []) ((aT (ns.map aw)).drop (k+1)) ab (G++[n4 w]) (J (n4 w)) i' W s2
   |none=>Y)else Y)=_
  rw[b_ ⟨o9 w,by ext,rfl,rfl⟩,e2];dsimp only;rw[ih];simp
def El{n x:Nat}{s:c_}(h:x<n):dA.p [.int (n:Int),aw x] s=.ok (.bl I) s:=by rw[tX (by rfl)];unfold eP;rw[show kx 2 [.int (n:Int),aw x]=[J (.int (n:Int)),J (aw x)]from rfl];simp[u8,h]
def Em{n:Nat}{ns:SV}{s:c_}(o:On n ns):cM.p [.tup [.int (n:Int),.tup []],kw ns] s=.ok .non s:=by
 have G:=o.len;have n12:=o.n12
 have q:=nj (ws:=[]) (ws':=[]) (env:=[J (.tup [.int (n:Int),.tup []]),J (kw ns)]) (s:=s) (s0:=s) (fm:=[0]) (i:=bx (aa 1)) (t:=ti) (e:=av dA (ac (ae l_ (aa 1) (xC (.int 0))) (ac (aa 0) a_))) (l:=ns) (λj=>aw j) (λ_=>.bl I) (λ_=>I) (by
  simp only[fO,aD,aq,Pb];rfl) (by ext) (λj z=>⟨rfl,λ_=>by
   have f:l_.p (.tup [.int (n:Int),.tup []]) (.int 0)=J (.int (n:Int)):=rfl
   simp![aG,aJ,bL,aY,n8,Fk,IN,IU,f,Pf,El (o.lt j z)]⟩)
 have F:oN.p [.lst ((ns.filter λ_=>I).map λ_=>D.bl I)]=J (.bl I):=by
  have:∀l:SV,iL (l.map λ_=>D.bl I)=J (l.map λ_=>I):=λl=>by
   induction l with
   |nil=>rfl
   |cons a l u=>rw[n8,iL,u];rfl
  show((J ((ns.filter λ_=>I).map λ_=>D.bl I)).bind iL).map _=_;rw[JA,this,EC];congr 2;simp
 have B:cQ.p [kw ns]=J (.lst ((List.range n).map aw)):=by
  have e1:kw ns=.lst ((ns.map λ(x:Nat)=>(x:Int)).map .int):=by rw[vM];rfl
  rw[e1,pJ (by simp;ext)];have e2:fu (ns.map λ(x:Nat)=>(x:Int))=(List.range n).map λ(x:Nat)=>(x:Int) :=
   iM (m8 _) (QV.map (S:=(·<=·)) _ (λa b h=>by ext)) ((fQ _).trans (o.pm.map _))
  rw[e2,vM];rfl
 have lr:Nt.p [.int (n:Int)]=J (.lst ((List.range n).map aw)):=by rw[K_ (by ext),BK];simp[gT]
 have C:AV T (.lst ((List.range n).map aw)) (.lst ((List.range n).map aw))=J (.bl I):=by
  have e1:(List.range n).map aw=((List.range n).map λ(x:Nat)=>(x:Int)).map .int:=by rw[vM];rfl
  rw[e1,ng];simp
 have E:eR.p [.tup [.int (n:Int),.tup []],kw ns] s=.ok (.bl I) s:=by
  rw[tP (by rfl)];unfold eD;rw[show kx 2 [.tup [.int (n:Int),.tup []],kw ns]=[J (.tup [.int (n:Int),.tup []]),J (kw ns)]from rfl];have y:(b8 ["list"]).p (kw ns)=J (.bl I):=by simp[cA]
  have f:l_.p (.tup [.int (n:Int),.tup []]) (.int 0)=J (.int (n:Int)):=rfl;rw[aI,cj];dsimp![jf,dD,vW,aD,aq,y,Pl,B6,Pg,qi,if_false,bH,PU.aB];rw[aI,cj,jf,dD,cx,aj,q];dsimp![aA,F,Pl,B6,Pg,qi,if_false,bH,PU.aB];simp![bu,aJ,cx,B,Pf,bL,aY,f,lr,jI,C,Pg,PU.bD]
 rw[pc (by rfl)];unfold cL;rw[show kx 2 [.tup [.int (n:Int),.tup []],kw ns]=[J (.tup [.int (n:Int),.tup []]),J (kw ns)]from rfl,cj];simp![jf,dD,aG,E,Pl,B6,Pg,qi,if_false,bH,PU.xu]
def yc{n:Nat}{ns:SV}(o:On n ns){i j:Nat}:∀(y:List Wk)(k:Nat),(∀(m:Nat) w,y[m]?=J w->WkOk n ns (k+m) w)->Cm (9363600*y.length) (fh y i j)
 |[],k,h=>Cm.zero _
 |w::y,k,h=>by
  have nn:=(h 0 w rfl).nn o;have co:∀(B:List Pt)(a:Nat)(q:Rat),Tw q->(∀p∈B,Tw p.2)->Tw (lw ((a,q)::B) i)/\Tw (lw ((a,q)::B) j):=λB a q E f=>by
   have:∀z,Tw (lw ((a,q)::B) z):=λz=>by
    have:∀l:List Pt,(∀p∈l,Tw p.2)->Tw (lw l z):=λl=>by
     induction l with
     |nil=>intro;exact Tw.zero
     |cons p l C =>
      intro hl;rw[aQ];split
      .exact hl p (by simp)
      .exact C λx F=>hl x (n_ _ F)
    exact this _ λp h=>(pu.mp h).elim (λe=>e▸E) (f p)
   exact⟨this i,this j⟩
  rw[cG,A0,Nat.mul_add,Nat.add_comm]
  exact ((co _ _ _ Tw.one λp f=>(nn.c p f).2).1.mul (co _ _ _ nn.p λp f=>(nn.r p f).2).2 |>.mono (by decide)).add (yc o y (k+1) λm u e=>by
   have:=h (m+1) u (by simpa using e)
   rwa [show k+(m+1)=k+1+m by ext]at this)
def rE{n:Nat}{ns:SV}{a:List Wk}{s:c_}(o:On n ns)(hl:a.length=n)(hw:∀(k:Nat) w,a[k]?=J w->WkOk n ns k w):cY.p [tu n (a.foldl cq λ_ _=>0),kw ns] s=.ok (.lst (a.map n4)) s:=by
 have n12:=o.n12;have L:=o.len;have f:∀(m:Nat) w,a[m]?=J w->WkOk n ns (0+m) w:=λm w e=>by rw[A2];exact hw m w e
 have dd:∀w∈a,NG w:=λw h=>by
  obtain⟨k,z⟩:=List.getElem?_of_mem h;exact(hw k w z).dd o
 have l:∀i j,a.foldl cq (λ_ _=>0) i j=fh a i j:=λi j=>by rw[pC dd];grind
 have cm:∀i j,Cm (9363600*12) (a.foldl cq (λ_ _=>0) i j):=λi j=>by rw[l];exact(yc o a 0 f).mono (by ext)
 have so:=IB (n:=n) (t:=12) n12 cm
 have go:=Mc (sh:=tu n (a.foldl cq λ_ _=>0)) (b:=T) (s:=s) o a 0 (zJ n (a.foldl cq λ_ _=>0)) 12 [] Y Y Y f (by ext) so (by ext) rfl (λi j H C=>by
  have:j<n:=o.lt j (IQ C)
  unfold zJ;dsimp only
  rw[b_ this,l])
 rw[List.drop_zero,MD]at go;have G:e_ (ns.map aw)=I:=dh λd hd=>by
  obtain⟨x,_,rfl⟩:=tx.mp hd;rfl
 have F:j7.p [tu n (a.foldl cq λ_ _=>0),kw ns,.dic T [] []] s=.ok (.lst (a.map n4)) s:=by show(if e_ (ns.map aw)=I then NC [tu n (a.foldl cq λ_ _=>0),kw ns,.dic T [] []] s else .bad)=_;rw[b_ G];unfold NC tu;dsimp only;rw[AL n12];dsimp only;rw[b_ (by simp;ext)];unfold tu at go;rw[go]
 have E:l_.p (tu n (a.foldl cq λ_ _=>0)) (.int 0)=J (.int (n:Int)):=rfl;have u:∀{x y:D}{s:c_},(if [x,y].length<=100000 then PR.ok (D.tup [x,y]) s else .bad)=.ok (.tup [x,y]) s:=λ{x y s}=>b_ (by simp);have B:∀{s:c_},(if([]:SW).length<=100000 then PR.ok (D.tup []) s else .bad)=.ok (.tup []) s:=λ{s}=>b_ (by decide);rw[yL (by rfl)];unfold hJ;rw[show kx 2 [tu n (a.foldl cq λ_ _=>0),kw ns]=[J (tu n (a.foldl cq λ_ _=>0)),J (kw ns)]from rfl,aI,Du];simp![aG,c9,aJ,bL,aY,E,Pf,B,u,Em o,Pg,PU.aB];simp![bu,aG,Ht,F,Pg,PU.bD]
def B0(k:Nat)(d:D):Prop:=∀s,(cC k).p [d,d] s=.ok (.bl I) s
def i8{k:Nat}{i:Int}:B0 (k+1) (.int i):=λs=>by
 rw[kI (by rfl)];unfold dW;simp[kx,cA,PR.bl,Jg]
def u5{k:Nat}{f:SW}(d:D){s:c_}(hl:f.length<=1000)(C:(cH iZ (ac (aa 0) (ac (aa 1) a_)):Xi []).p [J d,J d] s=.ok (gR f f) s)(h:∀x∈f,B0 k x):
  (o_ oN (ac (aV 2 [] (cH iZ (ac (aa 0) (ac (aa 1) a_))) (ws':=[]) (vg (mu (j_ 0) (mu (j_ 1) va)) 2) ti (av (cC k) (ac (aa 0) (ac (aa 1) a_)))) a_):Xe []).p [J d,J d] s=.ok (.bl I) s:=by
 have c:=vO (ws:=[]) (ws':=[]) (env:=[J d,J d]) (s:=s) (fm:=[]) (i:=cH iZ (ac (aa 0) (ac (aa 1) a_))) (t:=ti) (e:=av (cC k) (ac (aa 0) (ac (aa 1) a_))) (ds:=gR f f) (λ_=>I) (λ_=>.bl I) C (by simp[gR];ext) (λx z=>by
  obtain⟨p,j,rfl⟩:=tx.mp z;have e:p.1=p.2:=by rw[List.zip_eq_zipWith,List.zipWith_self]at j;obtain⟨x,_,rfl⟩:=tx.mp j;rfl
  have y:=h p.1 (MC j).1 s;rw[<-e]
  exact⟨_,_,rfl,rfl,λ_=>by simp[y]⟩)
 rw[xq]at c;have B:oN.p [.lst ((gR f f).map λ_=>.bl I)]=J (.bl I):=by
  have:∀l:SW,iL (l.map λ_=>D.bl I)=J (l.map λ_=>I):=λl=>by
   induction l with
   |nil=>rfl
   |cons a l u=>rw[n8,iL,u];rfl
  show((J ((gR f f).map λ_=>D.bl I)).bind iL).map _=_;rw[JA,this,EC];congr 2;simp
 rw[cx,aj,c];dsimp![aA,B]
def rG{k:Nat}{a:SW}(hl:a.length<=1000)(h:∀x∈a,B0 k x):B0 (k+1) (.tup a):=λs=>by
 rw[kI (by rfl)];unfold dW;rw[show kx 2 [D.tup a,.tup a]=[J (.tup a),J (.tup a)]from rfl];have c:=u5 (D.tup a) (s:=s) hl (by simp) h;have f:(xB (ae (Jg T) (aa 1) (xC .non)):Xt []).p [J (.tup a),J (.tup a)] s=.ok T s:=rfl;have l:(xB (v4 (b8 ["list","tuple"]) (aa 1)):Xt []).p [J (.tup a),J (.tup a)] s=.ok I s:=by simp[cA,PR.bl]
 have i:(BX (eY (xB (v4 (b8 ["list","tuple"]) (aa 0)))) (xB (ae zI (v4 (b8 ["list"]) (aa 0)) (v4 (b8 ["list"]) (aa 1)))):Xt []).p [J (.tup a),J (.tup a)] s=.ok T s:=by simp[cA,PR.bl]
 have j:(ae zb (o_ hW (ac (aa 0) a_)) (o_ hW (ac (aa 1) a_)):Xe []).p [J (.tup a),J (.tup a)] s=.ok (.bl I) s:=by simp
 rw[aI,cj,f];simp only[Pg,qi,if_false,bH,PU.aB];rw[aI,cj,l];simp only[Pg,if_true];rw[aI,cj,i];simp only[Pg,qi,if_false,bH,PU.aB];rw[bu,oO];rw[j,Pl,Pb,b_ rfl,c];rfl
def IC{k:Nat}{a:SW}(hl:a.length<=1000)(h:∀x∈a,B0 k x):B0 (k+1) (.lst a):=λs=>by
 rw[kI (by rfl)];unfold dW;rw[show kx 2 [D.lst a,.lst a]=[J (.lst a),J (.lst a)]from rfl];have c:=u5 (D.lst a) (s:=s) hl (by simp) h;have f:(xB (ae (Jg T) (aa 1) (xC .non)):Xt []).p [J (.lst a),J (.lst a)] s=.ok T s:=rfl;have l:(xB (v4 (b8 ["list","tuple"]) (aa 1)):Xt []).p [J (.lst a),J (.lst a)] s=.ok I s:=by simp[cA,PR.bl]
 have i:(BX (eY (xB (v4 (b8 ["list","tuple"]) (aa 0)))) (xB (ae zI (v4 (b8 ["list"]) (aa 0)) (v4 (b8 ["list"]) (aa 1)))):Xt []).p [J (.lst a),J (.lst a)] s=.ok T s:=by simp[cA,PR.bl]
 have j:(ae zb (o_ hW (ac (aa 0) a_)) (o_ hW (ac (aa 1) a_)):Xe []).p [J (.lst a),J (.lst a)] s=.ok (.bl I) s:=by simp
 rw[aI,cj,f];simp only[Pg,qi,if_false,bH,PU.aB];rw[aI,cj,l];simp only[Pg,if_true];rw[aI,cj,i];simp only[Pg,qi,if_false,bH,PU.aB];rw[bu,oO];rw[j,Pl,Pb,b_ rfl,c];rfl
def su{k:Nat}{a b:D}(i:B0 k a)(j:B0 k b):B0 (k+1) (.tup [a,b]):=rG (by simp) λx f=>by
 simp only[pu,IT,or_false]at f;rcases f with rfl|rfl
 .exact i
 .exact j
def yD{k:Nat}{l:List Pt}(h:l.length<=1000):B0 (k+4) (.tup (l.map k_)):=rG (by rw[zx];exact h) λx a=>by
 obtain⟨p,_,rfl⟩:=tx.mp a;exact su i8 (su i8 i8)
def Md{k:Nat}{w:Wk}(f:w.r.length<=1000)(i:w.c.length<=1000):B0 (k+5) (n4 w):=rG (by simp) λx a=>by
 simp only[pu,IT,or_false]at a;rcases a with rfl|rfl|rfl|rfl
 .exact i8
 .exact su i8 i8
 .exact yD f
 .exact yD i
def xN{n:Nat}{ns:SV}{a:List Wk}{s:c_}(o:On n ns)(hl:a.length=n)(hw:∀(k:Nat) w,a[k]?=J w->WkOk n ns k w):dU.p [.lst (a.map n4),.lst (a.map n4)] s=.ok (.bl I) s :=
 IC (k:=7) (by rw[zx];have:=o.n12;ext) (λx f=>by
  obtain⟨w,i,rfl⟩:=tx.mp f;obtain⟨k,j⟩:=AT.mp i;have nn:=WkOk.nn o (hw k w j);have l:=nn.lr;have u:=nn.lc
  exact Md (k:=2) (by ext) (by ext)) s
def vy{n v:Int}:∀(f:SU),(∀k∈f,∃a b:Int,k=[a,b]/\0<=a/\a<b/\b<n)->(((f.map kD).filter λx=>match x with|.tup [.int a,.int b]=>decide (b=v)|_=>T).map λx=>match x with|.tup [.int a,.int b]=>.int a|_=>.non)=(below v f).map D.int:=by
 intro f
 induction f with
 |nil=>intro _;rfl
 |cons k f l =>
  intro j;obtain⟨a,b,rfl,_⟩:=j k (by simp)
  have:=l λk i=>j k (n_ _ i)
  by_cases z:b=v<;>simp[below,kD,z]at this ⊢<;>exact this
def vR{n v:Int}:∀(f:SU),(∀k∈f,∃a b:Int,k=[a,b]/\0<=a/\a<b/\b<n)->(((f.map kD).filter λx=>match x with|.tup [.int a,.int b]=>decide (a=v)|_=>T).map λx=>match x with|.tup [.int a,.int b]=>.int b|_=>.non)=(above v f).map D.int:=by
 intro f
 induction f with
 |nil=>intro _;rfl
 |cons k f l =>
  intro j;obtain⟨a,b,rfl,_⟩:=j k (by simp)
  have:=l λk i=>j k (n_ _ i)
  by_cases z:a=v<;>simp[above,kD,z]at this ⊢<;>exact this
def Qy(v:Int)(a:SU):SS:=below v a++above v a
def Td(f:SU)(a b:Int):Prop:=[a,b]∈f\/[b,a]∈f
def Td.symm{f:SU}{a b:Int}(h:Td f a b):Td f b a:=h.elim .inr .inl
inductive Wy(ks:SU)(P:Int->Prop):Int->Int->Prop where
 |tie{a b:Int}:Td ks a b->Wy ks P a b
 |thru{a b c:Int}:Wy ks P a c->P c->Wy ks P c b->Wy ks P a b
def Wy.symm{f:SU}{P:Int->Prop}{a b:Int}(h:Wy f P a b):Wy f P b a:=by
 induction h with
 |tie t=>exact .tie t.symm
 |thru _ p _ i j=>exact .thru j p i
def Wy.mono{f:SU}{P Q:Int->Prop}(l:∀x,P x->Q x){a b:Int}(h:Wy f P a b):Wy f Q a b:=by
 induction h with
 |tie t=>exact .tie t
 |thru _ p _ i j=>exact .thru i (l _ p) j
def Me{n:Int}{f:SU}(w:zS n f){a b:Int}(h:Td f a b):a≠b/\(0<=a/\a<n)/\0<=b/\b<n:=by rcases h with h|h<;>obtain⟨x,y,e,i,j,l⟩:=w.tie _ h<;>injection e with e1 e<;>injection e with e2 _<;>subst e1 e2<;>ext
def En{n v x:Int}{i:SU}(w:zS n i):x∈Qy v i↔Td i v x:=by
 unfold Qy Td below above;rw[tr,Fh,Fh];constructor
 .rintro (⟨k,f,e⟩|⟨k,f,e⟩)<;>obtain⟨a,b,rfl,_⟩:=w.tie k f
  .by_cases z:b=v
   .simp[z]at e;subst e z;exact .inr f
   .simp[z]at e
  .by_cases z:a=v
   .simp[z]at e;subst e z;exact .inl f
   .simp[z]at e
 .rintro (h|h)
  .exact .inr ⟨_,h,by simp⟩
  .exact .inl ⟨_,h,by simp⟩
def Jn(left:SS)(x:D):Bool:=match x with
 |.int i=>decide (i∈left)
 |_=>T
@[simp]theorem Mf{left:SS}{i:Int}:Jn left (.int i)=decide (i∈left):=rfl
theorem pM{left:SS}:∀(ns:SS),(((ns.map D.int).filter (Jn left)).map λx=>x)=(ns.filter λx=>decide (x∈left)).map D.int
 |[]=>rfl
 |i::ns=>by
  have a:=pM (left:=left) ns;rw[n8,NZ,NZ,Mf];by_cases z:i∈left<;>simp[z]at a ⊢<;>exact a
def zF{ns:SS}{j:Nat}(a:j<=ns.length):eK (ns.map D.int) (J (j:Int)) Y=(ns.drop j).map .int:=by unfold eK;rw[HT.nc,zx,HT.oI,MK a,MQ];exact Ey (by simp)
def ID{ns:SS}{k:Int}(a:0<=k):eK (ns.map D.int) Y (J k)=(ns.take k.toNat).map .int:=by
 obtain⟨j,rfl⟩:=iT a;unfold eK;rw[HT.nc,zx,HT.oI,BK,List.drop_zero,Nat.sub_zero,N5];by_cases z:j<=ns.length
 .rw[MK z]
 .rw[Nat.min_eq_right (by ext),Ey (by simp),Ey (by simp;ext)]
abbrev B1(ks:SU):D:=.lst (ks.map kD)
def A5(v:Int)(a:SU):SS:=above v a++below v a
def Eo{n v x:Int}{a:SU}(w:zS n a):x∈A5 v a↔Td a v x:=by
 have:=En (v:=v) (x:=x) w
 unfold Qy at this;unfold A5;rw[tr]at this ⊢;exact⟨λh=>this.mp h.symm,λh=>(this.mpr h).symm⟩
def rM{n v:Int}{a:SU}(w:zS n a):(A5 v a).Nodup/\(A5 v a).length<=12:=by
 obtain⟨nd,i⟩:=Hz (v:=v) w;have pm:(below v a++above v a).Perm (A5 v a):=NO
 have:=List.Nodup.length_le_of_subset (l₂:=By 12) nd λx f=>by
  rw[sk]
  have:=i x f
  have:=w.n12
  ext
 exact⟨pm.nodup nd,by rw[<-pm.length_eq];simpa [By]using this⟩
def zT{n v:Int}{f:SU}{s:c_}(w:zS n f):dS.p [B1 f,.int v] s=.ok (.lst ((A5 v f).map .int)) s:=by
 have hl:f.length<=66:=wM w.n12 w.tie w.nd;rw[xx (by rfl)];unfold gS;rw[show kx 2 [B1 f,.int v]=[J (B1 f),J (.int v)]from rfl]
 have z:=vO (ws:=[]) (ws':=[]) (env:=[J (B1 f),J (.int v)]) (s:=s) (fm:=[1]) (i:=bx (aa 0)) (t:=xB (ae zb (aa 0) (aa 2))) (e:=aa 1) (ds:=f.map kD) (λx=>match x with|.tup [.int a,.int b]=>decide (a=v)|_=>T) (λx=>match x with|.tup [.int a,.int b]=>.int b|_=>.non) (by simp) (by simp;ext) (λx u=>by
   obtain⟨k,j,rfl⟩:=tx.mp u;obtain⟨a,b,rfl,_⟩:=w.tie k j
   exact⟨.int a,.int b,rfl,by simp[kD],λ_=>by simp[kD]⟩)
 have y:=vO (ws:=[]) (ws':=[]) (env:=[J (B1 f),J (.int v)]) (s:=s) (fm:=[1]) (i:=bx (aa 0)) (t:=xB (ae zb (aa 1) (aa 2))) (e:=aa 0) (ds:=f.map kD) (λx=>match x with|.tup [.int a,.int b]=>decide (b=v)|_=>T) (λx=>match x with|.tup [.int a,.int b]=>.int a|_=>.non) (by simp) (by simp;ext) (λx u=>by
   obtain⟨k,j,rfl⟩:=tx.mp u;obtain⟨a,b,rfl,_⟩:=w.tie k j
   exact⟨.int a,.int b,rfl,by simp[kD],λ_=>by simp[kD]⟩)
 have z:=z.trans (congrArg (λl=>PR.ok (D.lst l) s) (vR f w.tie));have y:=y.trans (congrArg (λl=>PR.ok (D.lst l) s) (vy f w.tie));have B:=(rM (v:=v) w).2;unfold A5 at B ⊢;rw[Br]at B;rw[bu,aJ,z,Pb,y,Pb,Dv (by simp;ext)];simp
structure Se(n:Nat)(ks:SU)(P:Int->Prop)(v:Int)(m:Nat)(fs:SS):Prop where
 nd:fs.Nodup
 bd:∀x∈fs,0<=x/\x<(n:Int)
 hd:fs[0]?=J v
 le:m<=fs.length
 so:∀x∈fs,x=v\/Wy ks P v x
 cl:∀i x,i<m->fs[i]?=J x->i=0\/P x->∀y,Td ks x y->y∈fs
def Se.len{n:Nat}{a:SU}{P:Int->Prop}{v:Int}{m:Nat}{fs:SS}(h:Se n a P v m fs):fs.length<=n:=by
 have:=List.Nodup.length_le_of_subset (l₂:=By n) h.nd λx f=>sk.mpr (h.bd x f)
 simpa [By]using this
def Se.no{n:Nat}{f:SU}{P:Int->Prop}{v x:Int}{m:Nat}{fs:SS}(h:Se n f P v m fs)(j:fs[m]?=J x)(c:¬(m=0\/P x)):Se n f P v (m+1) fs :=
 ⟨h.nd,h.bd,h.hd,(nw.mp j).1,h.so,λi y l a d z t=>by
  by_cases e:i=m
  .subst e;rw[j]at a;cases a;exact absurd d c
  .exact h.cl i y (by ext) a d z t⟩
def Se.step{n:Nat}{j:SU}{P:Int->Prop}{v x:Int}{m:Nat}{fs:SS}(w:zS n j)(h:Se n j P v m fs)(l:fs[m]?=J x)(c:m=0\/P x):Se n j P v (m+1) (fs++(A5 x j).filter λy=>!decide (y∈fs)):=by
 have G:=(nw.mp l).1;have u:∀y,y∈(A5 x j).filter (λy=>!decide (y∈fs))↔Td j x y/\y∉fs:=λy=>by rw[Bh,Eo w];simp
 have C:∀y,Td j x y->y=v\/Wy j P v y:=λy t=>by
  rcases c with c|c
  .subst c;have e:=h.hd;rw[l]at e;cases e;exact .inr (.tie t)
  .rcases h.so x (Ap l)with e|e
   .subst e;exact .inr (.tie t)
   .exact .inr (.thru e c (.tie t))
 refine⟨IS.mpr ⟨h.nd,(rM w).1.filter _,λa B b E e=>?_⟩,λy f=>?_,?_,by simp;ext,λy f=>?_,λi y F f d z t=>?_⟩
 .subst e;exact((u a).mp E).2 B
 .rcases tr.mp f with f|f
  .exact h.bd y f
  .exact (Me w ((u y).mp f).1).2.2
 .rw[p_ (by ext)];exact h.hd
 .rcases tr.mp f with f|f
  .exact h.so y f
  .exact C y ((u y).mp f).1
 .rw[p_ (by ext)]at f;by_cases e:i=m
  .subst e;rw[l]at f;cases f;by_cases k:z∈fs
   .exact AU _ k
   .exact se _ ((u z).mpr ⟨t,k⟩)
  .exact AU _ (h.cl i y (by ext) f d z t)
def Se.all{n:Nat}{f:SU}{P:Int->Prop}{v x:Int}{fs:SS}(h:Se n f P v fs.length fs)(B:x≠v):x∈fs↔Wy f P v x:=by
 refine⟨λm=>(h.so x m).resolve_left B,λl=>?_⟩;have at0:∀y,Td f v y->y∈fs:=h.cl 0 v (nw.mp h.hd).1 h.hd (.inl rfl);have key:∀a b,Wy f P a b->(∀y,Td f a y->y∈fs)->b∈fs/\(P b->∀y,Td f b y->y∈fs):=λa b l=>by
  have ex:∀b,b∈fs->P b->∀y,Td f b y->y∈fs:=λb z p=>by
   obtain⟨i,u⟩:=AT.mp z;exact h.cl i b (nw.mp u).1 u (.inr p)
  induction l with
  |tie t=>exact λH=>⟨H _ t,ex _ (H _ t)⟩
  |thru _ p _ i j=>exact λH=>j ((i H).2 p)
 exact(key v x l at0).1
abbrev NH:Xt [3]:=xB (ae Ho (aa 4) (o_ hW (ac (aa 3) a_)))
abbrev RR:Xt [3]:=(BX (xB (ae zb (aa 4) (xC (.int 0)))) (xB (ae (A3 T) (ae l_ (aa 3) (aa 4)) (Bm (aa 1) Bk (Bl (aa 2))))))
abbrev Sf:Xe [3]:=(aV 1 [3] (bx (av dS (ac (aa 0) (ac (ae l_ (aa 3) (aa 4)) a_)))) (ws':=[1]) (j_ 0) (xB (ae (A3 I) (aa 0) (aa 1))) (aa 0))
abbrev NI:Xd [3]:=(aM (wL RR (BI xg 3 (ac Sf a_)) ki)
 (bh 4 (ae cc (aa 4) (xC (.int 1)))))
abbrev BA(ks:SU)(qs:SS)(j:Nat)(fs:SS)(m:Nat):am:=[J (B1 ks),J (.lst (qs.map .int)),J (.int (j:Int)),J (.lst (fs.map .int)),J (.int (m:Int))]
def IE{n:Nat}{a:SU}{qs:SS}{j:Nat}{v:Int}{s:c_}(w:zS n a)(n12:n<=12):∀(d N m:Nat)(fs:SS),n-m<=d->d+1<=N->Se n a (·∈qs.take j) v m fs ->
  ∃f,cp NH.p NI.p N (BA a qs j fs m) s=.nx (BA a qs j f f.length) s/\Se n a (·∈qs.take j) v f.length f:=by
 have stop:∀(N m:Nat)(fs:SS),¬m<fs.length->Se n a (·∈qs.take j) v m fs->∃f,cp NH.p NI.p (N+1) (BA a qs j fs m) s=.nx (BA a qs j f f.length) s/\Se n a (·∈qs.take j) v f.length f:=λN m fs M h=>by
  have:=h.le
  have em:m=fs.length:=by ext
  subst em;refine⟨fs,?_,h⟩;rw[cp]
  have:NH.p (BA a qs j fs fs.length) s=.ok T s:=by simp
  rw[this,Pg,f_ (by simp)]
 intro d
 induction d with
 |zero =>
  intro N m fs hd hN h;obtain⟨N,rfl⟩:∃k,N=k+1:=⟨N-1,by ext⟩
  have:=h.len
  exact stop N m fs (by ext) h
 |succ d u =>
  intro N m fs hd hN h;obtain⟨N,rfl⟩:∃k,N=k+1:=⟨N-1,by ext⟩;have hl:=h.len;by_cases em:m<fs.length
  .have l:fs[m]?=J fs[m]:=vp em;generalize fs[m]=x at l;have B:n3 (fs.map D.int) (m:Int)=J (.int x):=L2.cS (by simp[l]);have ct:=ID (ns:=qs) (k:=(j:Int)) (by ext);rw[BK]at ct;have F:=nP (neg:=T) (x:=x) (d:=.lst ((qs.take j).map .int)) (xs:=qs.take j) rfl;have C:NH.p (BA a qs j fs m) s=.ok I s:=by simp[em]
   have to:RR.p (BA a qs j fs m) s=.ok (decide (m=0\/x∈qs.take j)) s:=by
    by_cases z:m=0
    .simp[z]
    .have E:¬(m:Int)=0:=by ext
     dsimp![qQ,dD,aJ,aD,aq,bL,aY,jI,kH,E,decide_false,qi,if_false,Pl,lB,B,qM,qL,qS,qO,ct,Lc,F,z,false_or]
   have G:=rM (v:=x) w
   have q:=E0 (ws:=[3]) (ws':=[1]) (env:=BA a qs j fs m) (s:=s) (fm:=[3]) (i:=bx (av dS (ac (aa 0) (ac (ae l_ (aa 3) (aa 4)) a_)))) (t:=xB (ae (A3 I) (aa 0) (aa 1))) (e:=aa 0) (ds:=(A5 x a).map .int) (λd=>!Jn fs d) (λd=>d) (by
     simp![fO,aG,aJ,lB,B,Pf,zT w,ya]) (by rw[zx];ext) (λd hd=>by
     obtain⟨i,H,rfl⟩:=tx.mp hd
     exact⟨by simp[nP (d:=.lst (fs.map .int)) rfl,Jn],λ_=>by simp⟩)
   have e3:(((A5 x a).map D.int).filter (λd=>!Jn fs d)).map (λd=>d)=((A5 x a).filter λy=>!decide (y∈fs)).map .int:=by rw[List.filter_map,vM];rfl
   rw[e3]at q;have L:((A5 x a).filter λy=>!decide (y∈fs)).length<=12:=ql (QY _ _) G.2;rw[cp,C,Pg,b_ rfl];by_cases c:m=0\/x∈qs.take j
   .have bb:NI.p (BA a qs j fs m) s=.nx (BA a qs j (fs++(A5 x a).filter λy=>!decide (y∈fs)) (m+1)) s:=by
     rw[aI,cj,to,Pg,b_ (by simp[c]),lx (s1:=s) (as:=[.lst (((A5 x a).filter λy=>!decide (y∈fs)).map .int)]) (ds:=fs.map .int) (ds':=(fs++(A5 x a).filter λy=>!decide (y∈fs)).map .int) (r:=.non) (by rw[aj,q];rfl) rfl (by rw[wV (by simp;ext),ML]),PU.aB];simp
    rw[bb];exact u N (m+1) _ (by ext) (by ext) (h.step w l c)
   .have bb:NI.p (BA a qs j fs m) s=.nx (BA a qs j fs (m+1)) s:=by
     rw[aI,cj,to,Pg,f_ (by simpa using c),bH,PU.aB];simp
    rw[bb];exact u N (m+1) _ (by ext) (by ext) (h.no l c)
  .exact stop N m fs em h
def Mh{n:Nat}{ks:SU}{qs:SS}{j:Nat}{v:Int}{s:c_}(w:zS n ks)(n12:n<=12)(G:qs.length<=12)(bd:∀x∈qs,0<=x/\x<(n:Int))(f:qs[j]?=J v)(B:v∉qs.drop (j+1)):∃l:SS,d5.p [B1 ks,.lst (qs.map .int),.int (j:Int)] s=.ok (.lst (l.map .int)) s/\∀x:Int,x∈l↔x∈qs.drop (j+1)/\Wy ks (·∈qs.take j) v x:=by
 have F:j<qs.length:=(nw.mp f).1;have E:=bd _ (Ap f);obtain⟨fs,e,h⟩:=IE (j:=j) (v:=v) (s:=s) (qs:=qs) w n12 n 2000000 0 [v] (by ext) (by ext) ⟨by simp,λx a=>by rw[B5.mp a];exact E,rfl,by simp,λx a=>.inl (B5.mp a),λi x y=>by ext⟩;have hl:=h.len;have u:=zF (ns:=qs) (j:=j+1) (by ext);push_cast at u
 have q:=E0 (ws:=[3]) (ws':=[1]) (env:=BA ks qs j fs fs.length) (s:=s) (fm:=[3]) (i:=bx (Bm (aa 1) (Bl (ae cc (aa 2) (xC (.int 1)))) Bk)) (t:=xB (ae (A3 T) (aa 0) (aa 1))) (e:=aa 0) (ds:=(qs.drop (j+1)).map .int) (Jn fs) (λx=>x) (by simp[u]) (by simp;ext) (λx a=>by
   obtain⟨i,y,rfl⟩:=tx.mp a
   exact⟨by simp[nP (d:=.lst (fs.map .int)) rfl],λ_=>by simp⟩)
 rw[pM]at q;refine⟨(qs.drop (j+1)).filter λx=>decide (x∈fs),?_,λx=>?_⟩
 .rw[vi (by rfl)];unfold fP;rw[show kx 5 [B1 ks,.lst (qs.map .int),.int (j:Int)]=[J (B1 ks),J (.lst (qs.map .int)),J (.int (j:Int)),Y,Y]from rfl];have C:n3 (qs.map D.int) (j:Int)=J (.int v):=L2.cS (by simp[f]);rw[aI,vf];simp![lb,aJ,lB,C,Pf,A0,N2,show(0+1:Nat)<=100000 by decide,if_true,oj,Pg,zK,x5,PU.aB,aI,bM,bL,aY];rw[vw i9];refine(congrArg (λz:PS=>(z.then _).fin) e).trans ?_;rw[PU.aB,bu,q];rfl
 .rw[Bh,decide_eq_true_iff];exact and_congr_right λa=>h.all λz=>B (z▸a)
structure Mi(n:Nat)(ks:SU):Prop where
 tie:∀k∈ks,∃a b:Int,k=[a,b]/\0<=a/\a<b/\b<(n:Int)
 nd:ks.Nodup
abbrev RT:Xs [1]:=(ac (bn (ac (o_ m4 (ac (aa 2) (ac (aa 4) a_))) (ac (o_ mZ (ac (aa 2) (ac (aa 4) a_))) a_))) a_)
abbrev Qz:Xd [1]:=(wL (oD (xB (ae zI (aa 2) (aa 4))) (xB (ae (A3 I) (bn (ac (o_ m4 (ac (aa 2) (ac (aa 4) a_))) (ac (o_ mZ (ac (aa 2) (ac (aa 4) a_))) a_))) (aa 1)))) (BI r_ 1 RT) ki)
abbrev B2(sh:D)(ks:SU)(z2 z3 z4 z5:Sj):am:=[J sh,J (.lst (ks.map kD)),z2,z3,z4,z5]
def Mj{n i j:Nat}{sh:D}{f:SU}{z3 z5:Sj}{s:c_}(n12:n<=12)(R:i<n)(S:j<n)(h:Mi n f):∃l,Qz.p (B2 sh f (J (aw i)) z3 (J (aw j)) z5) s=.nx (B2 sh l (J (aw i)) z3 (J (aw j)) z5) s/\Mi n l/\(∀k∈f,k∈l)/\(i≠j->Td l (i:Int) (j:Int)):=by
 have H:f.length<=66:=wM (n:=n) (by ext) h.tie h.nd;have B:∃a b:Int,(a=i/\b=j\/a=j/\b=i)/\(i≠j->a<b)/\(if(j:Int)<i then(j:Int)else i)=a/\(if(j:Int)>i then(j:Int)else i)=b:=by
  by_cases z:(j:Int)<i
  .exact⟨j,i,.inr ⟨rfl,rfl⟩,λ_=>z,b_ z,f_ (by ext)⟩
  .by_cases G:(j:Int)>i
   .exact⟨i,j,.inl ⟨rfl,rfl⟩,λ_=>G,f_ z,b_ G⟩
   .exact⟨i,i,.inl ⟨rfl,by ext⟩,λe=>by ext,f_ z,f_ G⟩
 obtain⟨a,b,Q,lt,e1,e2⟩:=B;have L:RT.p (B2 sh f (J (aw i)) z3 (J (aw j)) z5) s=.ok [kD [a,b]] s:=by simp![c9,cx,Dx,Dy,Pf,e1,e2];rfl
 by_cases e:i=j
 .refine⟨f,?_,h,λ_ q=>q,λz=>absurd e z⟩;subst e;simp
 .have O:¬(i:Int)=(j:Int):=by ext
  have B:=DA (neg:=I) (k:=[a,b]) (d:=.lst (f.map kD)) (ks:=f) rfl;have ct:(oD (xB (ae zI (aa 2) (aa 4))) (xB (ae (A3 I) (bn (ac (o_ m4 (ac (aa 2) (ac (aa 4) a_))) (ac (o_ mZ (ac (aa 2) (ac (aa 4) a_))) a_))) (aa 1))):Xt [1]).p (B2 sh f (J (aw i)) z3 (J (aw j)) z5) s=.ok (!decide ([a,b]∈f)) s:=by
   have B:EZ I (.tup [.int a,.int b]) (.lst (f.map kD))=J (.bl (!decide ([a,b]∈f))):=B;have E:(if j<i then(j:Int)else i)=a:=by rw[<-e1];simp only[MV]
   have F:(if i<j then(j:Int)else i)=b:=by rw[<-e2];simp only[gt_iff_lt,MV]
   simp[O,E,F,B]
  have C:∀l:SU,[a,b]∈l->Td l (i:Int) (j:Int):=λl m=>by
   rcases Q with⟨rfl,rfl⟩|⟨rfl,rfl⟩
   .exact .inl m
   .exact .inr m
  rw[cj,ct,Pg];by_cases m:[a,b]∈f
  .refine⟨f,?_,h,λ_ q=>q,λ_=>C f m⟩;rw[f_ (by simp[m]),bH]
  .refine⟨f++[[a,b]],?_,⟨λk u=>?_,?_⟩,λk q=>AU _ q,λ_=>C _ (by simp)⟩
   .rw[b_ (by simp[m]),lx (s1:=s) (as:=[kD [a,b]]) (ds:=f.map kD) (ds':=(f++[[a,b]]).map kD) (r:=.non) L rfl (by
     rw[qv (by simp;ext)];simp)]
    rfl
   .rcases tr.mp u with u|u
    .exact h.tie k u
    .have:=lt e
     exact⟨a,b,B5.mp u,by ext,this,by ext⟩
   .exact IS.mpr ⟨h.nd,by simp,λx M y P z=>by rw[B5.mp P]at z;exact m (z▸M)⟩
def qk:∀(a:SU),iz (a.map kD)=J a
 |[]=>rfl
 |k::a=>by
  have:Dr (kD k)=J k:=by
   show eL (k.map .int)=J k
   induction k with
   |nil=>rfl
   |cons i k f=>rw[n8,eL,f];rfl
  rw[n8,iz,this,qk a]
def uD{n:Nat}{f:Nat->Rat}{p:Pt}:p∈bG n f↔p.1<n/\f p.1≠0/\p.2=f p.1:=by
 unfold bG;rw[tx];constructor
 .rintro⟨j,a,rfl⟩
  have:=Bh.mp a
  exact⟨BL.mp this.1,by simpa using this.2,rfl⟩
 .rintro⟨i,l,u⟩;exact⟨p.1,Bh.mpr ⟨BL.mpr i,by simpa using l⟩,by rw[<-u]⟩
def E_{n i:Nat}{sh:D}{f:Nat->Rat}{z3:Sj}{s:c_}(n12:n<=12)(G:i<n):∀(z:List Pt)(l:SU)(C B:Sj),(∀p∈z,p.1<n)->Mi n l ->
  ∃a u j,Bw (vg (mu (j_ 4) (mu (j_ 5) va)) 2:Xg [1]).p Qz.p (z.map k_) (B2 sh l (J (aw i)) z3 C B) s=.nx (B2 sh a (J (aw i)) z3 u j) s/\Mi n a/\(∀k∈l,k∈a)/\∀p∈z,i≠p.1->Td a (i:Int) (p.1:Int)
 |[],l,C,B,E,h=>⟨l,C,B,rfl,h,λ_ q=>q,λ_ q=>nomatch q⟩
 |p::z,l,C,B,E,h=>by
  obtain⟨Q,e1,L,P,M⟩:=Mj (sh:=sh) (z3:=z3) (z5:=J (qD p.2)) (s:=s) n12 G (E p (by simp)) h;obtain⟨O,u,j,e2,R,F,H⟩:=E_ (sh:=sh) (f:=f) (z3:=z3) (s:=s) n12 G z Q (J (aw p.1)) (J (qD p.2)) (λq y=>E q (n_ _ y)) L;refine⟨O,u,j,?_,R,λk q=>F k (P k q),λq y ne=>?_⟩
  .rw[n8,mN (env1:=B2 sh l (J (aw i)) z3 (J (aw p.1)) (J (qD p.2))) rfl,e1];exact e2
  .rcases pu.mp y with rfl|y
   .exact (M ne).elim (λm=>.inl (F _ m)) λm=>.inr (F _ m)
   .exact H q y ne
def IF{n:Nat}{g:Nat->Nat->Rat}{s:c_}(n12:n<=12):∃u,dE.p [tu n g] s=.ok (B1 u) s/\zS n u/\∀i j,i<n->j<n->i≠j->g i j≠0->Td u (i:Int) (j:Int):=by
 have run:=iR (g:=(vg (mu (j_ 2) (mu (j_ 3) va)) 2:Xg [1]).p) (b:=(iI (bx (aa 3)) (vg (mu (j_ 4) (mu (j_ 5) va)) 2) Qz:Xd [1]).p)
  (λm env B=>B=s/\∃u U S G F,env=B2 (tu n g) u U S G F/\Mi n u/\∀i j,i<m->i<n->j<n->i≠j->g i j≠0->Td u (i:Int) (j:Int))
  (aT ((List.range n).map λi=>.tup ((bG n (g i)).map k_))) 0 (B2 (tu n g) [] Y Y Y Y) s ⟨rfl,[],Y,Y,Y,Y,rfl,⟨(λ_ q=>nomatch q),List.nodup_nil⟩,λi j q=>by ext⟩ (λm env B d W hd=>by
   obtain⟨rfl,u,U,S,G,F,rfl,h,Q⟩:=W;have R:m<n/\d=.tup [aw m,.tup ((bG n (g m)).map k_)]:=by unfold aT at hd;rw[qb,vz]at hd;obtain⟨p,H,rfl⟩:=hd;rw[Fd,vz]at H;obtain⟨x,Z,rfl⟩:=H;rw[qb,vz]at Z;obtain⟨y,hy,rfl⟩:=Z;obtain⟨a1,a2⟩:=nw.mp hy;rw[List.getElem_range]at a2;subst a2;rw[Jy]at a1;exact⟨a1,by simp⟩
   obtain⟨R,rfl⟩:=R;obtain⟨k1,E,C,e1,h1,s1,t1⟩:=E_ (sh:=tu n g) (f:=g m) (z3:=J (.tup ((bG n (g m)).map k_))) (s:=B) n12 R (bG n (g m)) u G F (λp H=>(uD.mp H).1) h;refine⟨B2 (tu n g) u (J (aw m)) (J (.tup ((bG n (g m)).map k_))) G F,B2 (tu n g) k1 (J (aw m)) (J (.tup ((bG n (g m)).map k_))) E C,B,rfl,?_,rfl,k1,J (aw m),J (.tup ((bG n (g m)).map k_)),E,C,rfl,h1,λi j X hn L ne M=>?_⟩
   .rw[iU];exact e1
   .by_cases e:i=m
    .subst e;exact t1 (j,g i j) (uD.mpr ⟨L,M,rfl⟩) ne
    .exact (Q i j (by ext) hn L ne M).elim (λq=>.inl (s1 _ q)) λq=>.inr (s1 _ q))
 obtain⟨env,B,e,rfl,u,U,S,G,F,rfl,h,Q⟩:=run;have O:u.length<=66:=wM (n:=n) (by ext) h.tie h.nd;have so:cQ.p [.lst (u.map kD)]=J (.lst ((ij u).map kD)):=by
  show(lu (u.map kD)).map _=_;unfold lu
  cases u with
  |nil=>rw[(fN []).eq_nil];show J (D.lst ((fu []).map .int))=_;rw[(fQ []).eq_nil];rfl
  |cons k u =>
   obtain⟨a,b,rfl,_⟩:=h.tie k (by simp);have e1:eL ((([a,b]:SS)::u).map kD)=Y:=rfl;rw[e1];dsimp only;rw[qk];dsimp only;rw[b_ ⟨λk P=>by obtain⟨a,b,rfl,_⟩:=h.tie k P;simp,O⟩];rfl
 refine⟨ij u,?_,⟨by ext,by ext,λk P=>h.tie k ((fN _).mem_iff.mp P),sU _,(fN _).symm.nodup h.nd⟩,λi j X L ne M=>?_⟩
 .rw[rB (by rfl)];unfold dL;rw[show kx 6 [tu n g]=[J (tu n g),Y,Y,Y,Y,Y]from rfl,aI,vf];simp only[lb,aA,Pb,N2,zL,if_true,oj,Pg,zK,x5,PU.aB];rw[aI,iU];have ei:(cH iE (ac (ae l_ (aa 0) (xC (.int 1))) a_):Xi [1]).p [J (tu n g),J (.lst []),Y,Y,Y,Y] B=.ok (aT ((List.range n).map λi=>.tup ((bG n (g i)).map k_))) B:=by
   rw[kG,aj,aJ,aq];rfl
  rw[ei,Pg];refine(congrArg (λz:PS=>(z.then _).fin) e).trans ?_;rw[PU.aB,bu,cx,aj];dsimp![aD,aq,aA,so,Pg,PU.bD]
 .have m:=λk=>(fN u).mem_iff (a:=k);by_cases z:i<0+n
  .have l:(aT ((List.range n).map λi=>D.tup ((bG n (g i)).map k_))).length=n:=by simp[aT]
   exact(Q i j (by rw[l];exact z) X L ne M).elim (λq=>.inl ((m _).mpr q)) λq=>.inr ((m _).mpr q)
  .ext
def wQ{u:SV}{a:List Pt}{j:Nat}(nd:u.Nodup)(h:PtS u a)(l:j∈a.map (·.1)):lw a j≠0:=by
 rw[<-i7 nd h]at l;obtain⟨p,f,rfl⟩:=tx.mp l;unfold Bg at f;obtain⟨i,y,rfl⟩:=tx.mp f
 have:=(Bh.mp y).2
 simpa using this
def sY{f:Wk->Rat}{w:Wk}:∀(i:List Wk)(k:Nat),i[k]?=J w->(∀m u,m≠k->i[m]?=J u->f u=0)->(i.map f).sum=f w
 |[],k,h,_=>by simp at h
 |u::i,0,h,z=>by
  have e:u=w:=by simpa using h
  subst e
  have:(i.map f).sum=0:=by
   have B:∀x∈i,f x=0:=λx j=>by
    obtain⟨m,y⟩:=AT.mp j;exact z (m+1) x (by ext) (by simpa using y)
   clear z h
   induction i with
   |nil=>rfl
   |cons a i l =>
    rw[n8,N6,B a (by simp),l λx j=>B x (n_ _ j)]
    grind
  rw[n8,N6,this]
  grind
 |u::i,k+1,h,z=>by
  have l:=sY i k (by simpa using h) λm x y j=>z (m+1) x (by ext) (by simpa using j);rw[n8,N6,l,z 0 u (by ext) rfl]
  grind
def qI{n:Nat}{ns:SV}{k m:Nat}{w:Wk}{v:Nat}(o:On n ns)(h:WkOk n ns m w)(hv:ns[k]?=J v)(lt:m<k):(cl w v≠0->v∈w.c.map (·.1))/\(rw' w v≠0->v∈w.r.map (·.1)):=by
 have ne:w.v≠v:=λe=>by
  have:=(Fj (i:=k) (j:=m) (nw.mp hv).1 o.nd).mp (by rw[hv,h.v,e])
  ext
 constructor
 .intro z;by_cases q:v∈w.c.map (·.1)
  .exact q
  .exact absurd (by unfold cl;rw[aQ,f_ ne,cX q]) z
 .intro z;by_cases q:v∈w.r.map (·.1)
  .exact q
  .exact absurd (by unfold rw';rw[aQ,f_ ne,cX q]) z
abbrev Ep(ns:SV):SS:=ns.map λ(x:Nat)=>(x:Int)
def IG{n:Nat}{ns:SV}{l:List Wk}{M:SU}(o:On n ns)(hl:l.length=n)(hw:∀(k:Nat) w,l[k]?=J w->WkOk n ns k w)(H:∀i j,i<n->j<n->i≠j->fh l i j≠0->Td M (i:Int) (j:Int)):
  ∀(K k:Nat),k<K->∀(w:Wk)(j:Nat),l[k]?=J w->j∈w.r.map (·.1)\/j∈w.c.map (·.1)->Wy M (·∈Ep (ns.take k)) (w.v:Int) (j:Int)
 |0,k,hk,_,_,_,_=>by ext
 |K+1,k,hk,w,j,P,E=>by
  have ok:=hw k w P;have F:(t_ n ns k).Nodup:=JB.filter _;have jl:j∈ns.drop (k+1):=(cR o).mp (E.elim (λh=>ok.r.sub.subset h) λh=>ok.c.sub.subset h);obtain⟨d,hd,G⟩:=List.mem_iff_getElem.mp jl;have G:ns[k+1+d]?=J j:=by rw[Mw]at G;rw[<-G];exact vp _
  have X:=o.lt j (IQ jl);have Z:=o.lt w.v (Ap ok.v);have dd:=ok.dd o;have ne:w.v≠j:=λe=>by
   rcases E with h|h
   .exact (z_.mp dd.r).1 (e▸h)
   .exact (z_.mp dd.c).1 (e▸h)
  have U:cl w w.v=1:=by unfold cl;rw[aQ,b_ rfl]
  have L:rw' w w.v=w.p:=by unfold rw';rw[aQ,b_ rfl]
  have O:cl w j=lw w.c j:=by unfold cl;rw[aQ,f_ ne]
  have S:rw' w j=lw w.r j:=by unfold rw';rw[aQ,f_ ne]
  have C:∀m u,m<k->l[m]?=J u->(w.v∈u.r.map (·.1)\/w.v∈u.c.map (·.1))->(j∈u.r.map (·.1)\/j∈u.c.map (·.1))->Wy M (·∈Ep (ns.take k)) (w.v:Int) (j:Int):=λm u B a h1 h2=>by
   have up:∀x:Int,x∈Ep (ns.take m)->x∈Ep (ns.take k):=λx hx=>by
    obtain⟨y,hy,rfl⟩:=tx.mp hx;exact Ju (List.take_subset_take_left ns (by ext) hy)
   have Q:(u.v:Int)∈Ep (ns.take k):=by refine Ju (AT.mpr ⟨m,?_⟩);rw[Mp B];exact(hw m u a).v
   exact .thru ((IG o hl hw H K m (by ext) u w.v a h1).mono up).symm Q ((IG o hl hw H K m (by ext) u j a h2).mono up)
  rcases E with E|E
  .have nz:=wQ F ok.r E;by_cases z:∀m u,m<k->l[m]?=J u->cl u w.v*rw' u j=0
   .refine .tie (H w.v j Z X ne ?_);have e:fh l w.v j=cl w w.v*rw' w j:=sY (f:=λu=>cl u w.v*rw' u j) l k P λm u B a=>by
     by_cases q:m<k
     .exact z m u q a
     .rw[((hw m u a).at0 o ok.v (by ext)).1];grind
    rw[e,U,S]
    grind
   .have ⟨m,z⟩:=Classical.not_forall.mp z;have⟨u,z⟩:=Classical.not_forall.mp z;have⟨B,z⟩:=Classical.not_forall.mp z;have⟨a,z⟩:=Classical.not_forall.mp z;have W:=(qI o (hw m u a) ok.v B).1 λe=>z (by rw[e];grind);have R:=(qI o (hw m u a) G (by ext)).2 λe=>z (by rw[e];grind);exact C m u B a (.inr W) (.inl R)
  .have nz:=wQ F ok.c E;have pz:w.p≠0:=ok.p.1;by_cases z:∀m u,m<k->l[m]?=J u->cl u j*rw' u w.v=0
   .refine .tie (Td.symm (H j w.v X Z (Ne.symm ne) ?_));have e:fh l j w.v=cl w j*rw' w w.v:=sY (f:=λu=>cl u j*rw' u w.v) l k P λm u B a=>by
     by_cases q:m<k
     .exact z m u q a
     .rw[((hw m u a).at0 o ok.v (by ext)).2];grind
    rw[e,L,O];exact λe=>(Rat.mul_eq_zero.mp e).elim nz pz
   .have ⟨m,z⟩:=Classical.not_forall.mp z;have⟨u,z⟩:=Classical.not_forall.mp z;have⟨B,z⟩:=Classical.not_forall.mp z;have⟨a,z⟩:=Classical.not_forall.mp z;have W:=(qI o (hw m u a) G (by ext)).1 λe=>z (by rw[e];grind);have R:=(qI o (hw m u a) ok.v B).2 λe=>z (by rw[e];grind);exact C m u B a (.inl R) (.inr W)
abbrev Sg:Xd []:=(aM (bh 5 (av d5 (ac (aa 3) (ac (aa 2) (ac (aa 4) a_)))))
 (wL (xB (ae zI (aV 2 [5] (bx (ae oo (aa 8) (aa 9))) (ws':=[]) (vg (mu (j_ 0) (mu (j_ 1) va)) 2) (xB (ae (A3 I) (aa 0) (aa 2))) (aa 0)) (fb a_))) (aW (xC (.bl T))) ki))
abbrev Mk(sh wd nd:D)(ks:SU)(z4 z5 z6 z7 z8 z9:Sj):am:=[J sh,J wd,J nd,J (B1 ks),z4,z5,z6,z7,z8,z9]
def IH{n:Nat}{ns:SV}{f:List Wk}{s:c_}(o:On n ns)(hl:f.length=n)(hw:∀(k:Nat) w,f[k]?=J w->WkOk n ns k w):fj.p [tu n (f.foldl cq λ_ _=>0),.lst (f.map n4),kw ns] s=.ok (.bl I) s:=by
 have n12:=o.n12;have ol:=o.len;have dd:∀w∈f,NG w:=λw h=>by
  obtain⟨k,hk⟩:=AT.mp h;exact(hw k w hk).dd o
 generalize eg:(f.foldl cq λ_ _=>0)=g;have ge:∀i j,g i j=fh f i j:=λi j=>by rw[<-eg,pC dd];grind
 obtain⟨C,et,wt,tk⟩:=IF (n:=n) (g:=g) (s:=s) n12;have wy:=IG o hl hw (λi j L hj ne nz=>tk i j L hj ne (by rw[ge];exact nz)) (n+1);have en:kw ns=.lst ((Ep ns).map .int):=by rw[vM];rfl
 have run:=iR (g:=(vg (mu (j_ 4) (mu (vg (mu (j_ 6) (mu (j_ 7) (mu (j_ 8) (mu (j_ 9) va)))) 4) va)) 2:Xg []).p) (b:=Sg.p)
  (λm env u=>u=s/\∃Z U O z7 M W,env=Mk (tu n g) (.lst (f.map n4)) (kw ns) C Z U O z7 M W)
  (aT (f.map n4)) 0 (Mk (tu n g) (.lst (f.map n4)) (kw ns) C Y Y Y Y Y Y) s ⟨rfl,Y,Y,Y,Y,Y,Y,rfl⟩ (λm env u d X hd=>by
   obtain⟨rfl,Z,U,O,z7,M,W,rfl⟩:=X;have hm:∃w,f[m]?=J w/\d=.tup [aw m,n4 w]:=by unfold aT at hd;rw[qb,vz]at hd;obtain⟨p,B,rfl⟩:=hd;rw[Fd,vz]at B;obtain⟨x,G,rfl⟩:=B;rw[qb,vz]at G;obtain⟨y,S,rfl⟩:=G;exact⟨y,S,by simp⟩
   obtain⟨w,P,rfl⟩:=hm;have ok:=hw m w P;have nn:=ok.nn o;have lr:=nn.lr;have lc:=nn.lc;have H:(Ep ns)[m]?=J (w.v:Int):=by rw[qb,ok.v];rfl
   have nd:(Ep ns).Nodup:=o.nd.map _ λa b h=>by ext
   obtain⟨F,el,ml⟩:=Mh (n:=n) (ks:=C) (qs:=Ep ns) (j:=m) (v:=(w.v:Int)) (s:=u) wt n12 (by rw[zx];ext) (λx G=>by
    obtain⟨y,S,rfl⟩:=tx.mp G
    have:=o.lt y S
    ext) H (λz=>by
    obtain⟨i,L,e⟩:=Ms z;rw[Mw]at e
    have:=(Fj (i:=m) (j:=m+1+i) (nw.mp H).1 nd).mp (by rw[H,vp (by simp at L;simp;ext),e])
    ext)
   have R:∀p∈w.r++w.c,(p.1:Int)∈F:=λp B=>by
    have E:p.1∈w.r.map (·.1)\/p.1∈w.c.map (·.1):=(tr.mp B).imp (λh=>Ju h) λh=>Ju h;refine(ml _).mpr ⟨?_,?_⟩
    .rw[<-MQ];exact Ju ((cR o).mp (E.elim (λh=>ok.r.sub.subset h) λh=>ok.c.sub.subset h))
    .rw[<-N5];have ab:=(nw.mp P).1;exact wy m (by ext) w p.1 P E
   have q:=xO (ws:=[]) (ws':=[]) (env:=Mk (tu n g) (.lst (f.map n4)) (kw ns) C (J (aw m)) (J (.lst (F.map .int))) (J (aw w.v)) (J (qD w.p)) (J (.tup (w.r.map k_))) (J (.tup (w.c.map k_)))) (s:=u) (s0:=u) (fm:=[5]) (i:=bx (ae oo (aa 8) (aa 9))) (t:=xB (ae (A3 I) (aa 0) (aa 2))) (e:=aa 0) (l:=w.r++w.c) (λp=>aw p.1) (λp=>qD p.2) (λp=>aw p.1) (λ_=>T) (by
     have ea:oo.p (.tup (w.r.map k_)) (.tup (w.c.map k_))=J (.tup ((w.r++w.c).map k_)):=by
      rw[ML];revert lr
      cases w.r with
      |nil=>exact λ_=>rfl
      |cons a l=>exact λlr=>b_ (by simp at lr ⊢;ext)
     dsimp![fO,aJ,aD,aq,ea]
     rfl) (by rw[Br];ext) (λp B=>⟨by
      have Q:=nP (neg:=I) (x:=(p.1:Int)) (d:=.lst (F.map .int)) (xs:=F) rfl
      simp[Q,R p B],λz=>by cases z⟩)
   rw[List.filter_eq_nil_iff.mpr (by simp),en]at q;refine⟨_,Mk (tu n g) (.lst (f.map n4)) (kw ns) C (J (aw m)) (J (.lst (F.map .int))) (J (aw w.v)) (J (qD w.p)) (J (.tup (w.r.map k_))) (J (.tup (w.c.map k_))),u,rfl,?_,rfl,_,_,_,_,_,_,rfl⟩;rw[aI,bM];simp![aG,en,el,Pg,zK,x5,PU.aB];rw[cj,dD,aJ,q,Pb];have e0:AV I (.lst []) (.lst [])=J (.bl T):=by
    have:=ng (neg:=I) (xs:=[]) (ys:=[])
    simpa using this
   dsimp![Fk,lb,aA,N2,zL,if_true,nZ,e0,Pl,Pg,qi,if_false,bH])
 obtain⟨env,u,e,rfl,Z,U,O,z7,M,W,rfl⟩:=run;rw[wU (by rfl)];unfold gN;rw[show kx 10 [tu n g,.lst (f.map n4),kw ns]=[J (tu n g),J (.lst (f.map n4)),J (kw ns),Y,Y,Y,Y,Y,Y,Y]from rfl,aI,bM,aG,aj,aq];simp only[Pb,aA,et,Pg,zK,x5,PU.aB];rw[aI,iU];have Q:(cH iE (ac (aa 1) a_):Xi []).p (Mk (tu n g) (.lst (f.map n4)) (kw ns) C Y Y Y Y Y Y) u=.ok (aT (f.map n4)) u:=by rw[kG,aj];rfl
 rw[Q,Pg];refine(congrArg (λz:PS=>(z.then _).fin) e).trans ?_;rw[PU.aB,bu,bL];rfl
abbrev QA:Xd []:=aM (bh 1 (av fA (ac (aa 0) a_)))
 (aM (bh 2 (av dY (ac (aa 0) (ac (aa 1) a_))))
 (aM (bh 3 (av dZ (ac (aa 0) (ac (aa 1) (ac (aa 2) (ac (ae cc (ae cc (xC (.int 1)) (av bw (ac (aa 0) (ac (xC (.int 4)) a_)))) (ae bp (xC (.int 2)) (o_ mY (ac (ae zb (aa 1) (xC (.int 12))) a_)))) a_))))))
 (bh 4 (av ja (ac (aa 1) (ac (aa 3) a_))))))
abbrev QB:mh:=ba 5 (p6 u_ (af (ag 2) g_))
abbrev QC:Xd []:=bh 6 (av cY (ac (aa 4) (ac (aa 5) a_)))
abbrev NJ:Xd []:=wL (BX (xB (ae zI (aa 5) (aa 2))) (BX (eY (xB (av dU (ac (aa 6) (ac (aa 3) a_))))) (eY (xB (av fj (ac (aa 4) (ac (aa 6) (ac (aa 2) a_)))))))) (aW (xC (.bl T))) ki
abbrev QD:mh:=eS (Bi du (ag 6) (af (mC .non) g_))
abbrev QE:mh:=eS (Bi fC (ag 5) g_)
abbrev QF:Xd []:=aW (av dU (ac (av cY (ac (aa 4) (ac (o_ vC (ac (aa 2) a_)) a_))) (ac (aa 3) a_)))
def kF{a b c:mh}:aR (aR a b) c=aR a (aR b c):=by funext Z h;rw[br,br,br];cases a Z h<;>rfl
def qY{f:SV}{a b:Xd f}:(aM a b).m=aR a.m b.m:=rfl
def ww:vJ=aR QA.m (aR QB (aR QC.m (aR NJ.m (aR QD (aR QE QF.m))))):=by rw[qY,kF,qY,kF,qY,kF];rfl
structure Tn(n:Nat)(ns:SV)(ws:List Wk):Prop where
 o:On n ns
 hl:ws.length=n
 hw:∀(k:Nat) w,ws[k]?=J w->WkOk n ns k w
abbrev Cc(n:Nat)(ws:List Wk):D:=tu n (ws.foldl cq λ_ _=>0)
def QG{s:c_}:∃(n:Nat)(ns:SV)(a:List Wk)(u:c_),QA.p [J .pen,Y,Y,Y,Y,Y,Y] s=.nx [J .pen,J (.int (n:Int)),J (kw ns),J (.lst (a.map n4)),J (Cc n a),Y,Y] u/\Tn n ns a:=by
 obtain⟨n,C,e1,F⟩:=Iu (s:=s);obtain⟨ns,y,e2,o⟩:=Ed (n:=n) (s:=C) (by ext);obtain⟨d,f,G,E,e3⟩:=dH (s:=y) (size:=4) (by decide) (by decide);obtain⟨a,i,e4,hl,hw⟩:=Ee (n:=n) (ns:=ns) (sm:=1+d+2*(if(n:Int)=12 then 1 else 0)) (s:=f) o (by split<;>ext) (by split<;>ext);have e5:=Ix (n:=n) (ws:=a) (s:=i) o.n12 (by have:=o.n12;ext) λw h=>by
  obtain⟨k,B⟩:=AT.mp h;exact(hw k w B).nn o
 refine⟨n,ns,a,i,?_,⟨o,hl,hw⟩⟩;have l:(ae bp (xC (.int 2)) (o_ mY (ac (ae zb (aa 1) (xC (.int 12))) a_)):Xe []).p [J .pen,J (.int (n:Int)),J (kw ns),Y,Y,Y,Y] f=.ok (.int (2*(if(n:Int)=12 then 1 else 0))) f:=by
  by_cases z:(n:Int)=12
  .rw[b_ z];simp[z];rw[bA (j:=3) (k:=3) (by decide) (by decide)];rfl
  .rw[f_ z];simp[z];rw[bA (j:=3) (k:=3) (by decide) (by decide)];rfl
 rw[aI,bM,aG,aj,aq];simp only[Pb,aA,e1,Pg,zK,x5,PU.aB];rw[aI,bM,aG,aj,aq];simp![e2,Pg,zK,x5,PU.aB];rw[aI,bM,aG,aj,aq];simp only[Pb,aj,aD,aq];rw[aJ,aJ,bL];dsimp![aY,aG,aj,aq,bL,aA,e3,d7];rw[l];dsimp![d7,e4,Pg,zK,x5,PU.aB];rw[bM,aG,aj];simp![e5,Pg,zK,x5]
def QH{n:Nat}{ns:SV}{a:List Wk}{z0 z1 z2 z3 z6:Sj}{s:c_}(t:Tn n ns a):QC.p [z0,z1,z2,z3,J (Cc n a),J (kw ns),z6] s=.nx [z0,z1,z2,z3,J (Cc n a),J (kw ns),J (.lst (a.map n4))] s:=by rw[bM,aG,aj];simp![rE t.o t.hl t.hw,Pg,zK,x5]
def QI{n:Nat}{ns:SV}{a:List Wk}{z0 z1:Sj}{s:c_}(t:Tn n ns a):NJ.p [z0,z1,J (kw ns),J (.lst (a.map n4)),J (Cc n a),J (kw ns),J (.lst (a.map n4))] s=.nx [z0,z1,J (kw ns),J (.lst (a.map n4)),J (Cc n a),J (kw ns),J (.lst (a.map n4))] s:=by
 have f:AV I (kw ns) (kw ns)=J (.bl T):=by
  have e1:kw ns=.lst ((ns.map λ(x:Nat)=>(x:Int)).map .int):=by rw[vM];rfl
  rw[e1,ng];simp
 rw[cj,qQ,dD,aJ];dsimp![aD,aq,nZ,f,Pl,qi,if_false];rw[qQ,jf,dD,aG,aj];simp![xN t.o t.hl t.hw,Pl,B6,qi,if_false];rw[jf,dD,aG,aj];simp![IH t.o t.hl t.hw,Pl,B6,Pg,qi,if_false,bH]
def QJ{n:Nat}{ns:SV}{a:List Wk}{z0 z1 f i:Sj}{s:c_}(t:Tn n ns a):QF.p [z0,z1,J (kw ns),J (.lst (a.map n4)),J (Cc n a),f,i] s=.rt (.bl I) s:=by have cl:vC.p [kw ns]=J (kw ns):=Dz (by have:=t.o.len;have:=t.o.n12;simp;ext);rw[bu,aG,aj,aG,aj];simp![cx,cl,Pf,rE t.o t.hl t.hw,xN t.o t.hl t.hw,Pg]
def Ml{Z:m_}(h:Z.length=7):∃E G H l j a u,Z=[E,G,H,l,j,a,u]:=by
 match Z,h with
 |[y,i,z,C,F,f,B],_=>exact⟨y,i,z,C,F,f,B,rfl⟩
def Er{i:Nat}{m:Mx PV}{Z a:m_}{h f:MH}(e:ba i m Z h=.nx a f):∃v,a=Z.set i (J v):=by
 unfold ba vQ at e
 cases q:m Z h with
 |ok v j=>rw[q]at e;cases e;exact⟨v,rfl⟩
 |exc x j=>rw[q]at e;cases e
 |bad=>rw[q]at e;cases e
def II{c:Mx Bool}{m:Mx PV}{Z a:m_}{h i:MH}(e:A9 c (bQ m) n7 Z h=.nx a i):a=Z:=by
 unfold A9 vQ at e
 cases q:c Z h with
 |ok v f =>
  rw[q]at e
  cases v with
  |true =>
   have e:bQ m Z f=.nx a i:=e;unfold bQ at e
   cases j:m Z f with
   |ok v l=>rw[j]at e;cases e
   |exc x l=>rw[j]at e;cases e
   |bad=>rw[j]at e;cases e
  |false=>have e:SOut.nx Z f=.nx a i:=e;cases e;rfl
 |exc x f=>rw[q]at e;cases e
 |bad=>rw[q]at e;cases e
def Es{f:SV}{c:Xt f}{a:Xe f}{Z i:m_}{h j:MH}(e:(wL c (aW a) ki).m Z h=.nx i j):i=Z:=II (c:=c.m) (m:=a.m) e
def lD{h:MH}{o:MO}{n:Nat}(a:n<h.length):(h++[o])[n]?=h[n]?:=p_ a
def lL(ns:SV):e_ (ns.map aw)=I:=dh λd hd=>by
 obtain⟨x,_,rfl⟩:=tx.mp hd;rfl
def mz(a:List Wk):e_ (a.map n4)=I:=dh λd hd=>by
 obtain⟨x,_,rfl⟩:=tx.mp hd;exact o9 x
def wK{H:MH}{p:Nat}{s:c_}(pn:aX H p s):∃h',d6 [.loc p] H=.ok (.bl I) h'/\∀m:Nat,m<H.length->m≠p->h'[m]?=H[m]?:=by
 have ax:p<H.length:=ao pn;obtain⟨n,ns,F,s1,q1,t⟩:=QG (s:=s);have c0:PU.Cx p H H.length [p] [p] [] [J (.loc p),Y,Y,Y,Y,Y,Y] [J .pen,Y,Y,Y,Y,Y,Y] s:=by
  refine⟨λo S=>?_,λ_ h=>h,λo S=>?_,by simp,jj _,pn,⟨rfl,λi d e _=>?_,λi d e B=>by cases B⟩⟩
  .rw[B5.mp S];exact ax
  .rw[B5.mp S];exact ax
  .match i,e with
   |0,e=>cases e;exact⟨_,rfl,rfl⟩
   |1,e=>cases e
   |2,e=>cases e
   |3,e=>cases e
   |4,e=>cases e
   |5,e=>cases e
   |6,e=>cases e
   |n+7,e=>simp at e
 have k1:=QA.ok c0 λi j B=>by cases B
 rw[q1]at k1;obtain⟨Z1,f,e1,O1,a9,Q,_⟩:=k1;have ay:∀m,m<H.length->m≠p->f[m]?=H[m]?:=a9.base;have l1:Z1.length=7:=Q.sr.len;obtain⟨v0,w0,r0⟩:=Q.sr.fz 0 .pen rfl (by simp);obtain⟨L,w1,r1⟩:=Q.sr.fz 1 (.int (n:Int)) rfl (by simp);obtain⟨v2,w2,y,C,rfl,b9,g2,r2⟩:=Q.sr.fz 2 (kw ns) rfl (by simp);obtain⟨v3,w3,u,y3,rfl,ca,g3,r3⟩:=Q.sr.fz 3 (.lst (F.map n4)) rfl (by simp);obtain⟨G,w4,r4⟩:=Q.sr.fz 4 (Cc n F) rfl (by simp);have r0:v0=.loc p:=r0;subst r0;have n12:=t.o.n12;have ol:=t.o.len;have cn:C.length<=16:=by rw[r2.length,zx];ext
 have a7:=ao g2;have cf:=ao g3;have a3:p<f.length:=ao Q.pen;have U:y≠p:=λz=>b9 (z▸Q.pO);have Z:u≠p:=λz=>ca (z▸Q.pO);obtain⟨b0,b1,b2,b3,b4,b5,b6,rfl⟩:=Ml l1;cases w0;cases w1;cases w2;cases w3;cases w4;have e2:QB [J (.loc p),J L,J (.loc y),J (.loc u),J G,b5,b6] f=.nx [J (.loc p),J L,J (.loc y),J (.loc u),J G,J (.loc f.length),b6] (f++[.lst C]):=by
  have:=xA g2 (by ext)
  unfold QB;simp -implicitDefEqProofs [this]
 have q3:=QH (z0:=J .pen) (z1:=Y) (z2:=Y) (z3:=Y) (z6:=Y) (s:=s1) t;have ci:(f++[MO.lst C]).length=f.length+1:=by simp
 have c2:PU.Cx p (f++[.lst C]) (f++[MO.lst C]).length (List.range f.length) (List.range f.length) [] [J (.loc p),J L,J (.loc y),J (.loc u),J G,J (.loc f.length),b6] [J .pen,Y,Y,Y,J (Cc n F),J (kw ns),Y] s1:=by
  have bd:∀o∈List.range f.length,o<(f++[MO.lst C]).length:=λo S=>by
   have:=BL.mp S
   ext
  refine⟨bd,λ_ h=>h,bd,by simpa using a3,jj _,(lD a3).trans Q.pen,⟨rfl,λi d e _=>?_,λi d e B=>by cases B⟩⟩
  match i,e with
  |0,e=>cases e;exact⟨_,rfl,rfl⟩
  |1,e=>cases e
  |2,e=>cases e
  |3,e=>cases e
  |4,e=>cases e;exact⟨_,rfl,Rp.fq lq r4⟩
  |5,e =>
   cases e;exact⟨_,rfl,f.length,C,rfl,λz=>by simp at z,wn,Rps.fq (lL ns) r2⟩
  |6,e=>cases e
  |n+7,e=>simp at e
 have k3:=QC.ok c2 λi j B=>by cases B
 rw[q3]at k3;obtain⟨Z3,P,e3,O3,bv,c3,_⟩:=k3;obtain⟨v,rfl⟩:=Er (show ba 6 _ _ _=.nx Z3 P from e3);obtain⟨v5,w5,p5,y5,rfl,ck,g5,r5⟩:=c3.sr.fz 5 (kw ns) rfl (by simp);obtain⟨v6,w6,l,y6,rfl,bm,g6,r6⟩:=c3.sr.fz 6 (.lst (F.map n4)) rfl (by simp);cases w5;cases w6;have ab:∀m,m<(f++[MO.lst C]).length->m≠p->P[m]?=(f++[MO.lst C])[m]?:=bv.base;have al:P[y]?=J (.lst C):=(ab y (by ext) U).trans ((lD a7).trans g2);have ai:P[u]?=J (.lst y3):=(ab u (by ext) Z).trans ((lD cf).trans g3);have cv:p∈O3:=c3.pO;have a0:p<P.length:=ao c3.pen;have n6:f.length<=l:=Nat.le_of_not_lt λz=>bm (c3.sub l (BL.mpr z));have a6:l≠y:=by ext
 have ch:l≠u:=by ext
 have an:l≠p:=by ext
 have as:f.length≠p:=by ext
 have cs:y6.length<=12:=by rw[r6.length,zx,t.hl];ext
 have c4:PU.Cx p P P.length [p] [p] [] [J (.loc p),J L,J (.loc y),J (.loc u),J G,J (.loc f.length),J (.loc l)] [J .pen,Y,J (kw ns),J (.lst (F.map n4)),J (Cc n F),J (kw ns),J (.lst (F.map n4))] s1:=by
  have bd:∀o∈[p],o<P.length:=λo S=>by rw[B5.mp S];exact a0
  refine⟨bd,λ_ h=>h,bd,by simp,jj _,c3.pen,⟨rfl,λi d e _=>?_,λi d e B=>by cases B⟩⟩
  match i,e with
  |0,e=>cases e;exact⟨_,rfl,rfl⟩
  |1,e=>cases e
  |2,e=>cases e;exact⟨_,rfl,y,C,rfl,by simpa using U,al,Rps.fq (lL ns) r2⟩
  |3,e=>cases e;exact⟨_,rfl,u,y3,rfl,by simpa using Z,ai,Rps.fq (mz F) r3⟩
  |4,e=>cases e;exact⟨_,rfl,Rp.fq lq r4⟩
  |5,e=>cases e;exact⟨_,rfl,f.length,y5,rfl,by simpa using as,g5,Rps.fq (lL ns) r5⟩
  |6,e=>cases e;exact⟨_,rfl,l,y6,rfl,by simpa using an,g6,Rps.fq (mz F) r6⟩
  |n+7,e=>simp at e
 have k4:=NJ.ok c4 λi j B=>by cases B
 rw[QI t]at k4;obtain⟨Z4,E,e4,O4,a8,c5,_⟩:=k4
 have:=Es e4
 subst this;have O:∀m,m<P.length->m≠p->E[m]?=P[m]?:=a8.base;have ar:E[l]?=J (.lst y6):=(O l (ao g6) an).trans g6;have cb:E[f.length]?=J (.lst y5):=(O _ (ao g5) as).trans g5;have a1:E[y]?=J (.lst C):=(O y (ao al) U).trans al;have a2:E[u]?=J (.lst y3):=(O u (ao ai) Z).trans ai;have e5:QD [J (.loc p),J L,J (.loc y),J (.loc u),J G,J (.loc f.length),J (.loc l)] E=.nx [J (.loc p),J L,J (.loc y),J (.loc u),J G,J (.loc f.length),J (.loc l)] (E.set l (.lst (y6++[.non]))):=by have ix:ag 6 [J (.loc p),J L,J (.loc y),J (.loc u),J G,J (.loc f.length),J (.loc l)] E=.ok (.loc l) E:=rfl;have ap:=oi (v:=.non) ar (by ext);unfold QD;rw[jA,ur ix ar];simp only[dQ,Ko,gJ,Out.bind_ok,ap,Out.ne_ok,az,rQ]
 have a5:∃w5,(E.set l (.lst (y6++[.non])))[f.length]?=J (.lst w5):=by
  by_cases z:l=f.length
  .rw[<-z];exact⟨_,wv (ao ar)⟩
  .exact⟨y5,(pa z).trans cb⟩
 obtain⟨X,M⟩:=a5;generalize cd:E.set l (.lst (y6++[.non]))=R at e5 M;have k5:∀m:Nat,m≠l->R[m]?=E[m]?:=λm W=>by rw[<-cd];exact pa λz=>W z.symm
 have e6:QE [J (.loc p),J L,J (.loc y),J (.loc u),J G,J (.loc f.length),J (.loc l)] R=.nx [J (.loc p),J L,J (.loc y),J (.loc u),J G,J (.loc f.length),J (.loc l)] (R.set f.length (.lst X.reverse)):=by
  have ix:ag 5 [J (.loc p),J L,J (.loc y),J (.loc u),J G,J (.loc f.length),J (.loc l)] R=.ok (.loc f.length) R:=rfl;have rv:fC f.length [] R=.ok .non (R.set f.length (.lst X.reverse)):=by simp only[fC,M]
  unfold QE;rw[jA,ur ix M];simp only[gJ,Out.bind_ok,rv,Out.ne_ok,az,rQ]
 have k6:∀m:Nat,m≠f.length->(R.set f.length (.lst X.reverse))[m]?=R[m]?:=λm W=>pa λz=>W z.symm;generalize R.set f.length (.lst X.reverse)=h6 at e6 k6;have old:∀{m:Nat}{o:MO},m≠l->m≠f.length->E[m]?=J o->h6[m]?=J o:=λa b q=>(k6 _ b).trans ((k5 _ a).trans q);have a4:aX h6 p s1:=old (λz=>an z.symm) (λz=>as z.symm) c5.pen;have c7:PU.Cx p h6 h6.length [p] [p] [] [J (.loc p),J L,J (.loc y),J (.loc u),J G,J (.loc f.length),J (.loc l)] [J .pen,Y,J (kw ns),J (.lst (F.map n4)),J (Cc n F),Y,Y] s1:=by
  have bd:∀o∈[p],o<h6.length:=λo S=>by rw[B5.mp S];exact ao a4
  refine⟨bd,λ_ h=>h,bd,by simp,jj _,a4,⟨rfl,λi d e _=>?_,λi d e B=>by cases B⟩⟩
  match i,e with
  |0,e=>cases e;exact⟨_,rfl,rfl⟩
  |1,e=>cases e
  |2,e=>cases e;exact⟨_,rfl,y,C,rfl,by simpa using U,old (λz=>a6 z.symm) (by ext) a1,Rps.fq (lL ns) r2⟩
  |3,e=>cases e;exact⟨_,rfl,u,y3,rfl,by simpa using Z,old (λz=>ch z.symm) (by ext) a2,Rps.fq (mz F) r3⟩
  |4,e=>cases e;exact⟨_,rfl,Rp.fq lq r4⟩
  |5,e=>cases e
  |6,e=>cases e
  |n+7,e=>simp at e
 have k8:=QF.ok c7 λi j B=>by cases B
 rw[QJ t]at k8;obtain⟨v,h',e8,_,kb,_,rv,_⟩:=k8;rw[show v=PV.bl I from rv]at e8;refine⟨h',?_,λm W np=>?_⟩
 case refine_2 =>
  have l1:m<f.length:=ao ((ay m W np).trans (vp W));have g0:=(ay m W np).trans (vp W);have ga:=(ab m (by ext) np).trans ((lD l1).trans g0);have gb:=(O m (ao ga) np).trans ga;have gc:=old (by ext) (by ext) gb;exact((kb m (ao gc) np).trans gc).trans (vp W).symm
 unfold d6;rw[d3 (by rfl),ww];rw[show be 7 [PV.loc p]=[J (.loc p),Y,Y,Y,Y,Y,Y]from rfl];rw[br,e1,MM.aB,br,e2,MM.aB,br,e3,MM.aB];show((aR NJ.m _) [J (.loc p),J L,J (.loc y),J (.loc u),J G,J (.loc f.length),J (.loc l)] P).fin=_;rw[br,e4,MM.aB,br,e5,MM.aB,br,e6,MM.aB,e8];rfl
def vU{lo:Int}{c:Nat}{x:PV}(h:x∈bo lo c):∃i:Int,x=.int i/\lo<=i/\i<lo+c:=by unfold bo at h;obtain⟨k,a,rfl⟩:=tx.mp h;rw[BL]at a;exact⟨_,rfl,by ext,by ext⟩
def uW{ns:SS}{k:Nat}(a:k<ns.length):n3 (ns.map PV.int) (k:Int)=J (.int ns[k]):=L2.cS (by simp[a])
def sH{h:MH}:rg (.int 10) (.int 18) h=.ok (.int (10^18)) h:=tz (by decide)
def AD{h:MH}:rg (.int 10) (.int 15) h=.ok (.int (10^15)) h:=tz (by decide)
def zG{h:MH}{ns:SS}{k:Nat}(Z:k<64):∃m c:Int,gF [.frl (ns.map .int),.int k] h=.ok (.loc h.length) (h++[.lst [.int m,.int c,.int 0]]):=by
 unfold gF;have H:∀{i:Int}{h:MH},jn (.int 7919) (.int i) h=.ok (.int (7919*i)) h:=gC (by decide);have U:∀{i:Int}{h:MH},jn (.int 48271) (.int i) h=.ok (.int (48271*i)) h:=gC (by decide);have S:∀{i:Int}{h:MH},jn (.int 40009) (.int i) h=.ok (.int (40009*i)) h:=gC (by decide);have M:∀{a b c:PV}{h:MH},q_ [a,b,c] h=.ok (.loc h.length) (h++[.lst [a,b,c]]):=jM (by simp)
 have fin:∀cell:Int,∃m c:Int,(aR (A9 (mB (au Bt (p6 AC (af (ag 2) g_)) (au rg (mC (.int 10)) (mC (.int 18))))) (bQ (f7 (af (mC (.int 1)) (af (p6 AC (af (ag 2) g_)) (af (mC (.int 0)) g_))))) n7)
   (bQ (f7 (af (mC (.int 0)) (af (au i_ (au mm (ag 2) (mC (.int 2147483587))) (au jn (mC (.int 40009)) (ag 1))) (af (mC (.int 0)) g_)))))) [J (.frl (ns.map .int)),J (.int k),J (.int cell)] h=.rt (.loc h.length) (h++[.lst [.int m,.int c,.int 0]]):=λcell=>by
  by_cases z:(10:Int)^18<=(if cell<0 then -cell else cell)
  .exact⟨1,(if cell<0 then -cell else cell),by simp[sH,M,z,-Int.reducePow]⟩
  .exact⟨0,cell.fmod 2147483587+40009*k,by simp[sH,M,z,S,ff,-Int.reducePow]⟩
 have y:∀cell:Int,∃m c:Int,((aR (A9 (mB (au Bt (p6 AC (af (ag 2) g_)) (au rg (mC (.int 10)) (mC (.int 18))))) (bQ (f7 (af (mC (.int 1)) (af (p6 AC (af (ag 2) g_)) (af (mC (.int 0)) g_))))) n7)
   (bQ (f7 (af (mC (.int 0)) (af (au i_ (au mm (ag 2) (mC (.int 2147483587))) (au jn (mC (.int 40009)) (ag 1))) (af (mC (.int 0)) g_)))))) [J (.frl (ns.map .int)),J (.int k),J (.int cell)] h).fin=.ok (.loc h.length) (h++[.lst [.int m,.int c,.int 0]]):=λcell=>by
  obtain⟨m,c,q⟩:=fin cell;exact⟨m,c,by rw[q];rfl⟩
 have j:∀cell:Int,(aR (ba 2 (au i_ (au jn (mC (.int 7919)) (ag 1)) (mC (.int 11))))
 (A9 (mB (au BO (ag 1) (p6 wq (af (p6 qo (af (ag 0) g_)) (af (mC (.int 63)) g_))))) (ba 2 (au bc (ag 0) (ag 1))) (A9 (mB (au BP (p6 qo (af (ag 0) g_)) (mC (.int 0)))) (ba 2 (au i_ (au mm (au bc (ag 0) (au mm (ag 1) (p6 wq (af (p6 qo (af (ag 0) g_)) (af (mC (.int 63)) g_))))) (au rg (mC (.int 10)) (mC (.int 15)))) (au jn (mC (.int 48271)) (ag 1)))) n7))) [J (.frl (ns.map .int)),J (.int k),Y] h=.nx [J (.frl (ns.map .int)),J (.int k),J (.int cell)] h ->
   ∃m c:Int,b7 3 2 x4 [.frl (ns.map .int),.int k] h=.ok (.loc h.length) (h++[.lst [.int m,.int c,.int 0]]):=λcell q=>by
  obtain⟨m,c,W⟩:=y cell;refine⟨m,c,(d3 (by rfl)).trans ?_⟩;rw[<-W];unfold x4;simp only[br]at q ⊢;have e0:be 3 [PV.frl (ns.map .int),PV.int k]=[J (.frl (ns.map .int)),J (.int k),Y]:=rfl;rw[e0];generalize (ba 2 (au i_ (au jn (mC (.int 7919)) (ag 1)) (mC (.int 11)))) [J (.frl (ns.map .int)),J (.int k),Y] h=R at q ⊢
  cases R with
  |nx Z1 C =>
   simp only[MM.aB,br]at q ⊢;rw[q];rfl
  |_=>cases q
 have u:∃f:Nat,(if(63:Int)<(ns.length:Int)then(63:Int)else(ns.length:Int))=(f:Int)/\f<=ns.length/\(0<ns.length->0<f):=by
  by_cases z:(63:Int)<(ns.length:Int)
  .exact⟨63,by rw[b_ z];rfl,by ext,by ext⟩
  .exact⟨ns.length,by rw[f_ z],by ext,by ext⟩
 obtain⟨f,G,F,l⟩:=u;by_cases C:k<f
 .refine j (ns[k]'(by ext)) ?_;simp[H,G,C,uW (show k<ns.length by ext)]
 .by_cases B:0<ns.length
  .have E:(f:Int)≠0:=by have:=l B;ext
   have L:k % f<ns.length:=vE (Nat.mod_lt _ (l B)) F;have X:(k:Int).fmod (f:Int)=((k % f:Nat):Int):=by rw[Mn _ (by ext)];rfl
   refine j ((ns[k % f]'L).fmod (10^15)+48271*k) ?_;have P:((10:Int)^15)≠0:=by decide
   have O:=uW L;rw[Int.natCast_emod]at O;simp[H,G,C,B,ff E,X,O,AD,ff P,U,-Int.reducePow]
  .have Q:ns=[]:=QN.mp (by ext);refine j (7919*k+11) ?_;have z:¬((k:Int)<(f:Int)):=by ext
   simp[H,G,z,B]
def Et{h:MH}{n:Nat}{o a:MO}(e:h[n]?=J a):(h.set n o)[n]?=J o:=wv (nw.mp e).1
def rT{ns:SS}{it:MIt}{n:Nat}(i:∀h,it.ok h):∀(xs:SM)(m:Nat)(z:Sl)(h:MH),(∀x∈xs,∃k:Nat,x=.int (k:Int)/\k<64)->h[n]?=J (.lst (List.replicate m (.bl I)))->m+xs.length<=100->∃f,y4 it n (mf 0) oF (bI d6 (af (bI gF (af (ag 1) (af (ag 0) g_))) g_)) xs [z,J (.frl (ns.map .int))] h=.ok () f/\f[n]?=J (.lst (List.replicate (m+xs.length) (.bl I)))
 |[],m,z,h,j,e,hl=>⟨h,lI (i h),e⟩
 |x::xs,m,z,h,j,e,hl=>by
  have F:m+(xs.length+1)<=100:=hl;obtain⟨k,rfl,B⟩:=j x (by simp);obtain⟨a,b,u⟩:=zG (h:=h) (ns:=ns) (k:=k) B;obtain⟨l,G,kb⟩:=wK (H:=h++[.lst [.int a,.int b,.int 0]]) (p:=h.length) (s:=(a,b,0)) (by show(h++[MO.lst [.int a,.int b,.int 0]])[h.length]?=J (.lst [.int a,.int b,.int 0]);exact wn);have L:n<h.length:=(nw.mp e).1;have e3:l[n]?=J (.lst (List.replicate m (.bl I))):=by rw[kb n (by simp;ext) (by ext)];exact KA e
  obtain⟨f,q,C⟩:=rT (ns:=ns) i xs (m+1) (J (.int (k:Int))) (l.set n (.lst (List.replicate m (.bl I)++[.bl I]))) (λy E=>j y (n_ _ E)) (by rw[Et e3,List.replicate_succ']) (by ext);refine⟨f,?_,by rw[C,A0,show m+1+xs.length=m+(xs.length+1) by ext]⟩;rw[lJ (Z:=[z,J (.frl (ns.map .int))]) (Z1:=[J (.int (k:Int)),J (.frl (ns.map .int))]) (h1:=h) (h2:=h) (v:=.bl I) (h3:=l) (ys:=List.replicate m (.bl I)) (i h) rfl rfl (by simp -implicitDefEqProofs [u,G]) e3 (by simp;ext)];exact q
def B3(ns:SS)(F:ns.length<=63):∃j,Bo [.frl (ns.map .int)] []=.ok (.bl I) j:=by
 unfold Bo;rw[d3 (by rfl)];unfold BZ;rw[show be 1 [PV.frl (ns.map .int)]=[J (.frl (ns.map .int))]from rfl];obtain⟨c,G,u⟩:∃c:Nat,c<=63/\(af (p6 AW (af (mC (.int 1)) (af (p6 wq (af (p6 qo (af (ag 0) g_)) (af (mC (.int 10)) g_))) g_))) g_) [J (.frl (ns.map .int))] []=.ok [.int (c:Int)] []:=by
  have e:(af (p6 AW (af (mC (.int 1)) (af (p6 wq (af (p6 qo (af (ag 0) g_)) (af (mC (.int 10)) g_))) g_))) g_) [J (.frl (ns.map .int))] []=.ok [.int (if(if(10:Int)<(ns.length:Int)then 10 else(ns.length:Int))>1 then(if(10:Int)<(ns.length:Int)then 10 else(ns.length:Int))else 1)] []:=by simp -implicitDefEqProofs
  have a:0<=(if(if(10:Int)<(ns.length:Int)then 10 else(ns.length:Int))>1 then(if(10:Int)<(ns.length:Int)then 10 else(ns.length:Int))else 1)/\(if(if(10:Int)<(ns.length:Int)then 10 else(ns.length:Int))>1 then(if(10:Int)<(ns.length:Int)then 10 else(ns.length:Int))else 1)<=63:=by constructor<;>(repeat' split)<;>ext
  generalize (if(if(10:Int)<(ns.length:Int)then 10 else(ns.length:Int))>1 then(if(10:Int)<(ns.length:Int)then 10 else(ns.length:Int))else 1)=i at e a;obtain⟨c,rfl⟩:=iT a.1;exact⟨c,by ext,e⟩
 have B:=Hb u (by ext)
 obtain⟨f,z,y⟩:=rT (ns:=ns) (it:=⟨bo 0 c,[]⟩) (n:=0) (λ_=>fB.mpr trivial) (bo 0 c) 0 Y ([]++[.lst []]) (λx l=>by
  obtain⟨i,rfl,C,a⟩:=vU l;obtain⟨k,rfl⟩:=iT C
  exact⟨k,rfl,by ext⟩) rfl (by rw[MM.dy];ext)
 have cm:bN 1 [0] (dz (af (p6 AW (af (mC (.int 1)) (af (p6 wq (af (p6 qo (af (ag 0) g_)) (af (mC (.int 10)) g_))) g_))) g_)) (mf 0) oF (bI d6 (af (bI gF (af (ag 1) (af (ag 0) g_))) g_)) [J (.frl (ns.map .int))] []=.ok (.loc 0) f:=by rw[jE,B,Out.bind_ok];refine(congrArg (λo:Out Unit=>o.bind _) z).trans ?_;rfl
 have E:=yv y;refine⟨f,?_⟩;rw[uY,Gy,dQ,cm,Out.bind_ok,gJ,Out.bind_ok,Out.bind_ok,E];rfl
end Law
namespace Law
open PySem.Spec PyProof.Rows L2 MM
set_option maxHeartbeats 4000000
def top(i:Nat):Stmt:=PySem.Challenge.pw_fewfills_k30_works_told.main.body.getD i (.Pass ⟨0,0,0,0⟩)
local macro_rules | `(tactic| contradiction)=>`(tactic| (first | assumption | ((with_reducible apply H_);assumption;(intro env h;cases env;cases h;rfl)) | ((with_reducible apply Ig);assumption;(intro env h;cases env;cases h;rfl)) | ((with_reducible apply LZ);assumption;(intro env h;cases env;cases h;rfl)) | with_reducible (first | apply w_var | apply Lj | apply PN | apply Lk | apply Ls | apply HP | apply PP | apply HQ | apply Qb | apply Lx | apply P9 | apply LM | apply HV | apply LG | apply Ll | apply Lm | apply Ln | apply HM | apply DH | apply Lo | apply HN | apply w_ifE | apply Lp | apply Lq | apply Lr | apply PQ | apply PX | apply PY | apply HZ | apply LQ | apply LR | apply P_ | apply Lz | apply HW | apply w_tchain | apply HX | apply Qc | apply HY | apply w_and | apply LN | apply w_or | apply LO | apply LP | apply Qf | apply Qd | apply Qe | apply Qg | apply Qh | apply Qi | apply LV | apply LU | apply Qj | apply eZ | apply dR | apply LW | apply Ib | apply Qk | apply LY | apply Ql | apply w_set | apply Ie | apply Ia | apply Qa | apply AE | apply zP | apply yV | apply Ic | apply w_pass | apply LX | apply Lu | apply Lv | apply Lw | apply P5 | apply Ly | apply PZ | apply P0 | apply P1 | apply P2 | apply P6 | apply P7 | apply Ih | apply P4 | apply P8 | apply LA | apply j_InD | apply j_InnD | apply LC | apply LH | apply LJ | apply LD | apply LF | apply DI | apply LK | apply zZ | apply LL | apply HR | apply DJ | apply HU) | exact rfl | decide +kernel | refine λY c=>⟨?_,?_,?_⟩ | (intro _;rfl) | exact λ_ _=>rfl | exact A7 _ | omega | exact⟨⟨rfl,rfl⟩,rfl,rfl,rfl⟩ | with_unfolding_all rfl) <;> contradiction)
abbrev gf:Stmt:=top 7
abbrev cD:Stmt:=top 8
abbrev fI:Stmt:=top 9
abbrev nR:Stmt:=top 10
abbrev lv:Stmt:=top 11
abbrev lz:Stmt:=top 12
abbrev om:Stmt:=top 13
abbrev gp:Stmt:=top 15
abbrev gi:Stmt:=top 16
abbrev dM:Stmt:=top 17
abbrev fE:Stmt:=top 19
abbrev gz:Stmt:=top 20
abbrev iw:Stmt:=top 21
abbrev dN:Stmt:=top 22
abbrev j8:SQ:=["sheet","order","known","rows","work","k","v","step","i","factor"]
abbrev j6:SQ:=["enumerate","step_of","sorted","add_times","minus","NOUGHT"]
abbrev qE:SQ:=["sheet","order","known"]
def qB(i:Sc X dN)(g:Gd X j8 j6 k)(C:io X)(l:Cal X "minus" ["a","b"] jc.m k)(f:Cal X "add_times" ["row","factor","parts"] iO k)(j:Cal X "step_of" ["rows","v","later"] fY.m k)(u:Nn X "enumerate")(n12:Nn X "sorted")(z:Nn X "dict")(a:mJ X.K X.mg "NOUGHT" 0 1):Aw X (aE dN) p4 :=
 (nr.h (v_ (Aj (R_ g i 3 ["row"] [] ["dict"] [] (hU (A4 (kV g 0) aC)) λB y g=>⟨(AJ g 0),gE,(Jk g 0 (Dl g) (y.n z) DD (ak (kV g 0) aH))⟩))
 (v_ (Bn g 4 (qp (wZ aH)))
 (v_ (Aj (jd g (RJ g 0 u (ak (kV g 1) aH)) (gL g (bz (AJ g 5) (bz (AJ g 6) fi))) (nr.h (v_ (Bn g 7 (qp (Gb (E1 (xY T) (kV g 6) (kV g 2)) (xw (kV g 2) (kV g 6)) (AX g 1 j (ak (kV g 3) (ak (kV g 6) (ak (BJ g 2 qh n12 qy (ak (EU (kV g 1) (u7 (aK bT (kV g 5) aC)) t7) aH)) aH)))))))
 (v_ (Aj (jd g (hU (A4 (kV g 7) aC)) (gL g (bz (AJ g 8) (bz (AJ g 9) fi))) (nr.h (AO (Aj (jv (E1 (xY I) (kV g 8) (kV g 2)) (nr.h (AO (Aj (gG (AX g 3 f (ak (A4 (kV g 3) (kV g 8)) (ak (AX g 4 l (ak (yR g (q:=5) rfl a) (ak (kV g 9) aH))) (ak (A4 (kV g 7) aC) aH)))))))) gH))))))
 (AO (Aj (gG (wC kh ko km (kV g 4) (ak (kV g 7) aH))))))))))
 (AO (BY (qp (kV g 4))))))))
abbrev jx:Stmt:=top 23
abbrev lN:Stmt:=top 25
abbrev uN:SQ:=["_law_script","_law_k","_law_cell"]
abbrev uq:SQ:=["min","len","abs"]
abbrev Eu:SQ:=["_law_script","_law_k"]
def Ev(i:Sc X lN)(g:Gd X uN uq k)(j:io X)(n0:Nn X "abs")(f:Nn X "len")(a:Nn X "min"):Aw X (aE lN) x4 :=
 (nr.h (v_ (Bn g 2 (qp (aK bT (aK eI aC (kV g 1)) aC)))
 (v_ (Aj (jv (E1 EK (kV g 1) (BJ g 0 (nV g) a nX (ak (BJ g 1 kY f kM (ak (kV g 0) aH)) (ak aC aH)))) (nr.h (AO (Bn g 2 (qp (A4 (kV g 0) (kV g 1)))))) (nr.h (AO (Aj (jv (E1 EL (BJ g 1 kY f kM (ak (kV g 0) aH)) aC) (nr.h (AO (Bn g 2 (qp (aK bT (aK cW (A4 (kV g 0) (aK cW (kV g 1) (BJ g 0 (nV g) a nX (ak (BJ g 1 kY f kM (ak (kV g 0) aH)) (ak aC aH))))) (aK yJ aC aC)) (aK eI aC (kV g 1))))))) gH))))))
 (v_ (Aj (jv (E1 EM (BJ g 2 sC n0 rR (ak (kV g 2) aH)) (aK yJ aC aC)) (nr.h (AO (BY (PL (bg (qp aC) (bg (qp (BJ g 2 sC n0 rR (ak (kV g 2) aH))) (bg (qp aC) cK))))))) gH))
 (AO (BY (PL (bg (qp aC) (bg (qp (aK bT (aK cW (kV g 2) aC) (aK eI aC (kV g 1)))) (bg (qp aC) cK))))))))))
abbrev jB:Stmt:=top 26
abbrev sK:SQ:=["_law_pen_here","_law_size","_law_number","_law_drawn"]
abbrev si:SQ:=[]
abbrev zp:SQ:=["_law_pen_here","_law_size"]
def zV(a:Sc X jB)(g:Gd X sK si k)(f:io X):Aw X (aE jB) vn :=
 (nr.h (v_ (Aj (sV (aK bT (A4 (kV g 0) aC) aC) (sA (kV g 0) aC)))
 (v_ (Aj (jv (E1 (wz g.room) (A4 (kV g 0) aC) aC) (nr.h (v_ (Bn g 3 (qp (aK cW (A4 (kV g 0) aC) (kV g 1))))
 (v_ (Aj (sV (aK (vI g.room) (A4 (kV g 0) aC) (kV g 1)) (sA (kV g 0) aC)))
 (AO (BY (qp (kV g 3))))))) gH))
 (v_ (Bn g 2 (qp (aK cW (aK eI (aK bT (aK bT (A4 (kV g 0) aC) (aK eI aC (A4 (kV g 0) aC))) aC) aC) aC)))
 (v_ (Bn g 2 (qp (aK cW (aK eI (kV g 2) (aK bT (aK bT (aK cW (kV g 2) aC) (A4 (kV g 0) aC)) aC)) aC)))
 (AO (BY (qp (aK cW (aK (vI g.room) (aK cW (aK eI (kV g 2) (aK bT (aK cW (kV g 2) aC) aC)) aC) aC) (kV g 1))))))))))
abbrev gw:Stmt:=top 27
abbrev rq:Stmt:=top 28
abbrev j0:Stmt:=top 29
abbrev ik:Stmt:=top 30
abbrev jT:Stmt:=top 31
abbrev iA:Stmt:=top 32
abbrev ip:Stmt:=top 33
abbrev iq:Stmt:=top 34
abbrev dm:Stmt:=top 35
abbrev je:SQ:=["_law_n","_law_work","_law_grid","_law_v","_law_pivot","_law_row","_law_column","_law_i","_law_factor","_law_j","_law_number"]
abbrev jk:SQ:=["range","_law_plus","_law_times","tuple"]
abbrev oP:SQ:=["_law_n","_law_work"]
def oG(a:Sc X dm)(g:Gd X je jk k)(C:io X)(u:Cal X "_law_times" ["_law_a","_law_b"] fW.m k)(l:Cal X "_law_plus" ["_law_a","_law_b"] hZ.m k)(B:Nn X "enumerate")(i:Nn X "tuple")(j:Nn X "range"):Aw X (aE dm) pk :=
 (nr.h (v_ (Aj (Sb g a 2 ["_law_i"] ["_law_n"] ["range"] [0] (PJ g 0 j (ak (kV g 0) aH)) λf y a g=>⟨(AJ g 0),gE,(PK g a ["_law_j"] [] [] [] (PJ g 0 (y.n j) (ak (kV g 1) aH)) λf z g=>⟨(AJ g 0),gE,(kc.h (B_ (bg (qp aC) (bg (qp aC) cK))))⟩)⟩))
 (v_ (Aj (jd g (hU (kV g 1)) (gL g (bz (AJ g 3) (bz (AJ g 4) (bz (AJ g 5) (bz (AJ g 6) fi))))) (nr.h (AO (Aj (jd g (hU (aK bT (kc.h (B_ (bg (B_ (bg (qp (kV g 3)) (bg (B_ (bg (qp aC) (bg (qp aC) cK))) cK))) cK))) (kV g 6))) (gL g (bz (AJ g 7) (bz (AJ g 8) fi))) (nr.h (AO (Aj (jd g (hU (aK bT (kc.h (B_ (bg (B_ (bg (qp (kV g 3)) (bg (qp (kV g 4)) cK))) cK))) (kV g 5))) (gL g (bz (AJ g 9) (bz (AJ g 10) fi))) (nr.h (AO (Aj (sV (AX g 1 l (ak (A4 (A4 (kV g 2) (kV g 7)) (kV g 9)) (ak (AX g 2 u (ak (kV g 8) (ak (kV g 10) aH))) aH))) (sA (A4 (kV g 2) (kV g 7)) (kV g 9))))))))))))))))
 (AO (BY (B_ (bg (qp (kV g 0)) (bg (qp (Jk g 3 mT i jV (ak (Sa g a ["_law_own"] [] ["tuple","enumerate"] [] (hU (kV g 2)) λf y a g=>⟨(AJ g 0),gE,(Jk g 0 mT (y.n i) jV (ak (PK g a ["_law_j","_law_one"] [] [] [] (RJ g 1 (y.n B) (ak (kV g 0) aH)) λf z g=>⟨(gL g (bz (AJ g 0) (bz (AJ g 1) fi))),(uF (E1 (wu g.room) (kV g 1) (kc.h (B_ (bg (qp aC) (bg (qp aC) cK)))))),(kc.h (B_ (bg (qp (kV g 0)) (bg (qp (kV g 1)) cK))))⟩) aH))⟩) aH))) cK))))))))
abbrev fD:Stmt:=top 36
abbrev jq:Stmt:=top 37
abbrev iF:Stmt:=top 38
abbrev jw:Stmt:=top 39
abbrev iD:Stmt:=top 40
abbrev qw:SQ:=["_law_pen_here","_law_n","_law_order_here","_law_due","_law_sheet","_law_handed","_law_found"]
abbrev pZ:SQ:=["_law_many","_law_order","_law_built","_law_draw","int","_law_multiplied","list","struck","_law_same","_law_held"]
abbrev xj:SQ:=["_law_pen_here"]
def xE(C:Sc X iD)(g:Gd X qw pZ k)(F:io X)(a:Cal X "struck" ["sheet","order"] cY.m k)(f:Cal X "_law_same" ["_law_found","_law_due"] dU.m k)(z:Cal X "_law_held" ["_law_sheet","_law_work","_law_order_here"] fj.m k)(l:Cal X "_law_multiplied" ["_law_n","_law_work"] cF k)(i:Cal X "_law_draw" ["_law_pen_here","_law_size"] cz k)(u:Cal X "_law_built" ["_law_pen_here","_law_n","_law_order_here","_law_some"] dZ.m k)(y:Cal X "_law_order" ["_law_pen_here","_law_n"] dY.m k)(j:Cal X "_law_many" ["_law_pen_here"] fA.m k)(B:Nn X "list")(E:Nn X "int"):Aw X (aE iD) vJ :=
 (nr.h (v_ (Bn g 1 (qp (AX g 0 j (ak (kV g 0) aH))))
 (v_ (Bn g 2 (qp (AX g 1 y (ak (kV g 0) (ak (kV g 1) aH)))))
 (v_ (Bn g 3 (qp (AX g 2 u (ak (kV g 0) (ak (kV g 1) (ak (kV g 2) (ak (aK bT (aK bT aC (AX g 3 i (ak (kV g 0) (ak aC aH)))) (aK eI aC (Jk g 4 yQ E sR (ak (R9 (wz g.room) (kV g 1) aC) aH)))) aH)))))))
 (v_ (Bn g 4 (qp (AX g 5 l (ak (kV g 1) (ak (kV g 3) aH)))))
 (v_ (Bn g 5 (qp (Jk g 6 t8 B oZ (ak (kV g 2) aH))))
 (v_ (Bn g 6 (qp (AX g 7 a (ak (kV g 4) (ak (kV g 5) aH)))))
 (v_ (Aj (jv (MW.mt (vT (E1 (wu g.room) (kV g 5) (kV g 2)) (vT (rF (rf (AX g 8 f (ak (kV g 6) (ak (kV g 3) aH))))) (wS (rF (rf (AX g 9 z (ak (kV g 4) (ak (kV g 6) (ak (kV g 2) aH)))))))))) (nr.h (AO (BY (qp EI)))) gH))
 (v_ (Aj (gG (wC kh ko km (kV g 6) (ak yA aH))))
 (v_ (Aj (gG (GC vj vF v9 (kV g 5))))
 (AO (BY (qp (AX g 8 f (ak (AX g 7 a (ak (kV g 4) (ak (Jk g 6 t8 B oZ (ak (kV g 2) aH)) aH))) (ak (kV g 3) aH))))))))))))))))
abbrev nY:Stmt:=top 41
abbrev Fa:SQ:=["_law_script"]
abbrev Fb:SQ:=["all","range","max","min","len"]
abbrev B4:SQ:=["_law_script"]
def Mm(a:Sc X nY)(g:Gd X Fa Fb k)(E:io X)(l:Cal X "_law_pen" ["_law_script","_law_k"] gF k)(i:Cal X "_law_right" ["_law_pen_here"] d6 k)(f:Nn X "range")(B:Nn X "len")(j:Nn X "min")(u:Nn X "max")(z:Nn X "all"):Aw X (aE nY) BZ :=
 (nr.h (AO (BY (qp (BJ g 0 (xz g) z w9 (ak (PK g a ["_law_k"] ["_law_script"] ["_law_right","_law_pen"] [0] (PJ g 1 f (ak (BJ g 2 (xX g) u wN (ak aC (ak (BJ g 3 (nV g) j nX (ak (BJ g 4 kY B kM (ak (kV g 0) aH)) (ak aC aH))) aH))) aH)) λC y g=>⟨(AJ g 0),gE,(AX g 0 (y.c i) (ak (AX g 1 (y.c l) (ak (kV g 1) (ak (kV g 0) aH))) aH))⟩) aH))))))
def IJ:eU "law" nY B4:=λ_ _ _ _ _ _=>Lh λ_=>rfl
abbrev jZ:SQ:=["thing"]
def vG{K:h8}(c:Wc X P w K mg base jZ jZ 0 (ah gf))(d:io X)(f:Zn K "isinstance")(a:Zn K "bool")(i:Zn K "int"):nr X (aE gf) eN.m:=by unfold eN;apply eZ<;>contradiction
abbrev dC:SQ:=["a","b","rest"]
def lY{K:h8}(c:Wc X P w K mg base dC dC 0 (ah cD))(d:io X):nr X (aE cD) bR.m:=by unfold bR;apply dR<;>contradiction
abbrev iH:SQ:=["top","bottom","shared"]
def tY{K:h8}(c:Wc X P w K mg base iH iH 1 (ah fI))(d:io X)(z0:Zn K "abs")(f:FnAt P w K mg base "greatest_shared" Ps1 bU.m 1)(a:FnAt P w K mg base "is_whole" Ps0 cu.m 1):nr X (aE fI) dJ.m:=by unfold dJ;apply dR<;>contradiction
abbrev rW:SQ:=["a","b"]
def IK{K:h8}(c:Wc X P w K mg base rW rW 2 (ah nR))(d:io X)(a:FnAt P w K mg base "number_of" Ps2 bt.m 2):nr X (aE nR) kJ.m:=by unfold kJ;apply eZ<;>contradiction
abbrev pD:SQ:=["a","b"]
def Ew{K:h8}(c:Wc X P w K mg base pD pD 2 (ah lv))(d:io X)(a:FnAt P w K mg base "number_of" Ps2 bt.m 2):nr X (aE lv) iW.m:=by unfold iW;apply eZ<;>contradiction
abbrev oQ:SQ:=["a","b"]
def Ex{K:h8}(c:Wc X P w K mg base oQ oQ 2 (ah lz))(d:io X)(a:FnAt P w K mg base "number_of" Ps2 bt.m 2):nr X (aE lz) iX.m:=by unfold iX;apply eZ<;>contradiction
abbrev qU:SQ:=["a","b"]
def IL{K:h8}(c:Wc X P w K mg base qU qU 2 (ah om))(d:io X)(a:FnAt P w K mg base "number_of" Ps2 bt.m 2):nr X (aE om) lf.m:=by unfold lf;apply eZ<;>contradiction
abbrev jQ:SQ:=["n","thing"]
def vS{K:h8}(c:Wc X P w K mg base jQ jQ 1 (ah gp))(d:io X)(a:FnAt P w K mg base "is_whole" Ps0 cu.m 1):nr X (aE gp) eP.m:=by unfold eP;apply eZ<;>contradiction
abbrev jU:SQ:=["web","thing"]
def wH{K:h8}(c:Wc X P w K mg base jU jU 2 (ah gi))(d:io X)(a:Zn K "sorted")(l:Zn K "list")(f:Zn K "range")(z1:Zn K "all")(j:Zn K "isinstance")(i:FnAt P w K mg base "is_place" Ps7 dA.m 2):nr X (aE gi) eD.m:=by unfold eD;apply dR<;>contradiction
abbrev f6:SQ:=["web","thing"]
def qC{K:h8}(c:Wc X P w K mg base f6 f6 3 (ah dM))(d:io X)(a:FnAt P w K mg base "is_order" Ps8 eR.m 3):nr X (aE dM) cL.m:=by unfold cL;apply eZ<;>contradiction
abbrev iJ:SQ:=["row","factor","parts","j","number"]
def tS{K:h8}(c:Wc X P w K mg base iJ iJ 3 (ah fE))(d:io X)(a:mJ K mg "NOUGHT" 0 1)(f:FnAt P w K mg base "times" Ps5 cP.m 3)(i:FnAt P w K mg base "plus" Ps3 dG.m 3):nr X (aE fE) bj.m:=by unfold bj;apply eZ<;>contradiction
abbrev jy:SQ:=["row","places"]
def vX{K:h8}(c:Wc X P w K mg base jy jy 0 (ah gz))(d:io X)(f:Zn K "tuple")(a:mJ K mg "NOUGHT" 0 1):nr X (aE gz) eB.m:=by unfold eB;apply eZ<;>contradiction
abbrev kN:SQ:=["rows","v","later","pivot","column"]
def yP{K:h8}(c:Wc X P w K mg base kN kN 3 (ah iw))(d:io X)(f:Zn K "tuple")(a:mJ K mg "NOUGHT" 0 1)(i:FnAt P w K mg base "parts_at" Ps11 eE.m 1)(j:FnAt P w K mg base "over" Ps6 ic.m 3):nr X (aE iw) fL.m:=by unfold fL;apply dR<;>contradiction
abbrev mS:SQ:=["sheet","order"]
def zj{K:h8}(c:Wc X P w K mg base mS mS 5 (ah jx))(d:io X)(a:FnAt P w K mg base "struck_with" Ps13 dP 5)(f:FnAt P w K mg base "check_order" Ps9 cM.m 4):nr X (aE jx) hJ.m:=by unfold hJ;apply dR<;>contradiction
abbrev jF:SQ:=["_law_top","_law_bottom","_law_one","_law_other"]
def v7{K:h8}(c:Wc X P w K mg base jF jF 0 (ah gw))(d:io X)(z0:Zn K "abs"):nr X (aE gw) eT.m:=by unfold eT;apply dR<;>contradiction
abbrev mR:SQ:=["_law_pen_here"]
def y0{K:h8}(c:Wc X P w K mg base mR mR 1 (ah j0))(d:io X)(a:FnAt P w K mg base "_law_draw" Ps16 cz 1):nr X (aE j0) gZ.m:=by unfold gZ;apply dR<;>contradiction
abbrev kU:SQ:=["_law_pen_here","_law_n","_law_found","_law_k"]
def yK{K:h8}(c:Wc X P w K mg base kU kU 1 (ah ik))(d:io X)(f:Zn K "range")(a:FnAt P w K mg base "_law_draw" Ps16 cz 1):nr X (aE ik) fX.m:=by unfold fX;apply dR<;>contradiction
abbrev mQ:SQ:=["_law_a","_law_b"]
def zY{K:h8}(c:Wc X P w K mg base mQ mQ 1 (ah jT))(d:io X)(a:FnAt P w K mg base "_law_lowest" Ps17 bX.m 1):nr X (aE jT) gX.m:=by unfold gX;apply eZ<;>contradiction
abbrev k7:SQ:=["_law_a","_law_b"]
def xD{K:h8}(c:Wc X P w K mg base k7 k7 1 (ah iA))(d:io X)(a:FnAt P w K mg base "_law_lowest" Ps17 bX.m 1):nr X (aE iA) fU.m:=by unfold fU;apply eZ<;>contradiction
abbrev kQ:SQ:=["_law_pen_here","_law_wide","_law_top"]
def yb{K:h8}(c:Wc X P w K mg base kQ kQ 1 (ah ip))(d:io X)(i:Zn K "int")(f:FnAt P w K mg base "_law_draw" Ps16 cz 1)(a:FnAt P w K mg base "_law_lowest" Ps17 bX.m 1):nr X (aE ip) fT.m:=by unfold fT;apply dR<;>contradiction
abbrev kS:SQ:=["_law_pen_here","_law_n","_law_order_here","_law_some","_law_wide","_law_most","_law_work","_law_at","_law_v","_law_later_here","_law_row","_law_column"]
def xS{K:h8}(c:Wc X P w K mg base kS kS 2 (ah iq))(d:io X)(u:Zn K "enumerate")(i:Zn K "tuple")(a:Zn K "sorted")(l:Zn K "int")(f:FnAt P w K mg base "_law_small" Ps23 bZ.m 2)(j:FnAt P w K mg base "_law_draw" Ps16 cz 1):nr X (aE iq) fV.m:=by unfold fV;apply dR<;>contradiction
abbrev iK:SQ:=["_law_sheet","_law_ties","_law_i","_law_row","_law_j","_law_number"]
def tL{K:h8}(c:Wc X P w K mg base iK iK 0 (ah fD))(d:io X)(a:Zn K "sorted")(j:Zn K "enumerate")(i:Zn K "max")(f:Zn K "min"):nr X (aE fD) dL.m:=by unfold dL;apply dR<;>contradiction
abbrev m5:SQ:=["_law_ties","_law_v"]
def Ac{K:h8}(c:Wc X P w K mg base m5 m5 0 (ah jq))(d:io X):nr X (aE jq) gS.m:=by unfold gS;apply eZ<;>contradiction
abbrev kC:SQ:=["_law_ties","_law_order_here","_law_at","_law_seen","_law_k"]
def xG{K:h8}(c:Wc X P w K mg base kC kC 1 (ah iF))(d:io X)(f:Zn K "len")(a:FnAt P w K mg base "_law_near" Ps27 dS.m 1):nr X (aE iF) fP.m:=by unfold fP;apply dR<;>contradiction
abbrev mO:SQ:=["_law_sheet","_law_work","_law_order_here","_law_ties","_law_at","_law_later_here","_law_v","_law_pivot","_law_row","_law_column"]
def Ah{K:h8}(c:Wc X P w K mg base mO mO 2 (ah jw))(d:io X)(i:Zn K "enumerate")(a:FnAt P w K mg base "_law_later" Ps28 d5.m 2)(f:FnAt P w K mg base "_law_ties_of" Ps26 dE.m 1):nr X (aE jw) gN.m:=by unfold gN;apply dR<;>contradiction
def IM{K:h8}(b:Ba P w K mg base)(D0:d_ K "is_whole" gf)(D1:d_ K "greatest_shared" cD)(D2:d_ K "number_of" fI)(D3:d_ K "plus" nR)(D4:d_ K "minus" lv)(D5:d_ K "times" lz)(D6:d_ K "over" om)(D7:d_ K "is_place" gp)(D8:d_ K "is_order" gi)(D9:d_ K "check_order" dM)(an:d_ K "add_times" fE)(b5:d_ K "parts_at" gz)(c1:d_ K "step_of" iw)(b0:d_ K "struck_with" dN)(cs:d_ K "struck" jx)(ap:d_ K "_law_pen" lN)(b3:d_ K "_law_draw" jB)(bv:d_ K "_law_lowest" gw)(H:d_ K "_law_same" rq)(ay:d_ K "_law_many" j0)(S:d_ K "_law_order" ik)(ax:d_ K "_law_plus" jT)(bm:d_ K "_law_times" iA)(c2:d_ K "_law_small" ip)(R:d_ K "_law_built" iq)(Q:d_ K "_law_multiplied" dm)(b1:d_ K "_law_ties_of" fD)(c4:d_ K "_law_near" jq)(Z:d_ K "_law_later" iF)(cn:d_ K "_law_held" jw)(b4:d_ K "_law_right" iD)(cb:d_ K "law" nY)(z0:Zn K "abs")(z1:Zn K "all")(z2:Zn K "bool")(z3:Zn K "dict")(E:Zn K "enumerate")(M:Zn K "int")(z6:Zn K "isinstance")(z7:Zn K "len")(z8:Zn K "list")(z9:Zn K "max")(y:Zn K "min")(u:Zn K "range")(j:Zn K "sorted")(l:Zn K "tuple")(c5:Zn K "zip")(f:nF K "NOUGHT" 0 1):FnAt P w K mg base "law" B4 Bo 11:=by
 have a:=f.mg b.kin b.ns;have a0:=wr (F:=cu) jZ b D0 λX c d=>vG c d z6 z2 M;have a1:=wr (F:=bU) dC b D1 λX c d=>lY c d;have L:=wr (F:=bt) iH b D2 λX c d=>tY c d z0 a1 a0;have a3:=wr (F:=dG) rW b D3 λX c d=>IK c d  L;have a4:=wr (F:=jc) pD b D4 λX c d=>Ew c d  L;have a5:=wr (F:=cP) oQ b D5 λX c d=>Ex c d  L;have a6:=wr (F:=ic) qU b D6 λX c d=>IL c d  L;have a7:=wr (F:=dA) jQ b D7 λX c d=>vS c d  a0;have a8:=wr (F:=eR) jU b D8 λX c d=>wH c d j z8 u z1 z6 a7;have a9:=wr (F:=cM) f6 b D9 λX c d=>qC c d  a8;have ca:=Qn (B:=bj) (np:=3) iJ b an λX c d=>tS c d a a5 a3;have cv:=wr (F:=eE) jy b b5 λX c d=>vX c d l a;have ar:=wr (F:=fY) kN b c1 λX c d=>yP c d l a cv a6;have b6:=Jj (k:=4) (N:=j8) (G:=j6) (ps:=qE) b b0 λX e h g d=>qB h g d (a4.c e) (ca.c e) (ar.c e) (e.n E) (e.n j) (e.n z3) (e.e3▸e.e4▸a);have W:=wr (F:=cY) mS b cs λX c d=>zj c d  b6 a9;have U:=Jj (k:=0) (N:=uN) (G:=uq) (ps:=Eu) b ap λX e h g d=>Ev h g d (e.n z0) (e.n z7) (e.n y);have i:=Jj (k:=0) (N:=sK) (G:=si) (ps:=zp) b b3 λX e h g d=>zV h g d;have C:=wr (F:=bX) jF b bv λX c d=>v7 c d z0;have z:∀n,FnAt P w K mg base "_law_same" _ (cC n).m (0+n+1):=λn=>by
  induction n with
  |zero=>exact Qm (np:=2) ["_law_found","_law_due"] b H
  |succ n ih=>exact wr (F:=cC (n+1)) (B:=dW (cC n)) ["_law_found","_law_due"] b H λX c d=>by unfold dW;apply dR<;>contradiction
 have z:FnAt P w K mg base "_law_same" _ dU.m 9:=z 8;have al:=wr (F:=fA) mR b ay λX c d=>y0 c d  i;have ck:=wr (F:=dY) kU b S λX c d=>yK c d u i;have ai:=wr (F:=hZ) mQ b ax λX c d=>zY c d  C;have ci:=wr (F:=fW) k7 b bm λX c d=>xD c d  C;have cd:=wr (F:=bZ) kQ b c2 λX c d=>yb c d M i C;have ch:=wr (F:=dZ) kS b R λX c d=>xS c d E l j M cd i;have cf:=Jj (k:=2) (N:=je) (G:=jk) (ps:=oP) b Q λX e h g d=>oG h g d (ci.c e) (ai.c e) (e.n E) (e.n l) (e.n u);have c3:=wr (F:=dE) iK b b1 λX c d=>tL c d j E z9 y;have as:=wr (F:=dS) m5 b c4 λX c d=>Ac c d;have b2:=wr (F:=d5) kC b Z λX c d=>xG c d z7 as;have b9:=wr (F:=fj) mO b cn λX c d=>Ah c d E b2 c3;have ab:=Jj (k:=9) (N:=qw) (G:=pZ) (ps:=xj) b b4 λX e h g d=>xE h g d (W.c e) (z.c e) (b9.c e) (cf.c e) (i.c e) (ch.c e) (ck.c e) (al.c e) (e.n z8) (e.n M);have O:=Jj (k:=10) (N:=Fa) (G:=Fb) (ps:=B4) b cb λX e h g d=>Mm h g d (U.c e) (ab.c e) (e.n u) (e.n z7) (e.n y) (e.n z9) (e.n z1);exact O
end Law
namespace PySem.W.Fast
def tw4818849469104004909:=0
def tw4157392140158654699:=0
def tw14393711934575816290:=0
def tw17861282925890222015:=0
def tw13187862194933936550:=0
def tw1015847179312158310:=0
def tw9142730160656398219:=0
def tw14534307554114322503:=0
def tw8296960367745356209:=0
def tw8636970521677140480:=0
def tw16865343808346225265:=0
def tw5432876271544477184:=0
def tw9599128505448746355:=0
def tw8434352124938234760:=0
def tw8937593031965933083:=0
def tw3116553397750331031:=0
def tw14220205063378821252:=0
def tw338123870100773706:=0
def tw14242737028480875387:=0
def tw6176672478809610960:=0
def tw6549538665248079403:=0
def tw17665922071547521797:=0
def tw8289899816933900392:=0
def tw54946081751714559:=0
def tw6778036305947002016:=0
def tw1542508924852719364:=0
def tw17156672215899891030:=0
def tw12686177468597460095:=0
def tw17243471075865048396:=0
def tw14328235663174165854:=0
def tw14892931137536222124:=0
def tw1269918539625814109:=0
def tw10946808392404370370:=0
def tw8688917727271463362:=0
def tw17370870103044742127:=0
def tw2529902397062065710:=0
def tw285422329242478434:=0
def tw109688394714329352:=0
def tw12547484880280242504:=0
def tw2504888801014405499:=0
def tw2259568300321595556:=0
def tw10253020110546133488:=0
def tw2178272361967237620:=0
def tw17899408175544743469:=0
def tw16947346707850892366:=0
def tw3247988509756781051:=0
def tw18023439997295446829:=0
def tw643581702070438880:=0
def tw11076742214157346146:=0
def tw10985011181324745032:=0
def tw4720650678754165100:=0
def tw9930820725808703800:=0
def tw15900830426725222417:=0
def tw16264276204849543500:=0
def tw4209938456493530824:=0
def tw16573186594202858966:=0
def tw5576236828077459126:=0
def tw5465371870706941127:=0
def tw17071385120678676097:=0
def tw11631840119841836106:=0
def tw612011783857881453:=0
def tw9850237800965831821:=0
def tw8257568620690541151:=0
def tw16883663009172852827:=0
def tw17138470410281455926:=0
def tw3505193883376653038:=0
def tw15497903583726215169:=0
def tw8168079463331559672:=0
def tw8389582095962935197:=0
def tw12462605196520162690:=0
def tw4835115393441022281:=0
def tw11700031996003952310:=0
def tw16034448033791358948:=0
def tw15334518868525821430:=0
def tw10743853449939788696:=0
def tw17435952895161569827:=0
def tw162469614865801966:=0
def tw9825892166228856916:=0
def tw15598459703918667057:=0
def tw13172236968099834059:=0
def tw14594745992328915228:=0
def tw7513423083656561392:=0
def tw12170410559989606969:=0
def tw4262523299325328533:=0
def tw4585853730081898449:=0
def tw4755981977277287235:=0
def tw17596297944137740902:=0
def tw16070245790741198011:=0
def tw6548440159812596677:=0
def tw9221537198849725106:=0
def tw3067006235233144111:=0
def tw16659300579674550026:=0
def tw9377665199879571167:=0
def tw7527017779417994197:=0
def tw10271215419300153495:=0
def tw6615706739538771587:=0
def tw6203613215306534197:=0
def tw16552117316012557680:=0
def tw12594793603085432855:=0
def tw17753551128856297558:=0
def tw9799332920823720244:=0
def tw3676123454568072710:=0
def tw6269533485677935818:=0
def tw5499169693784199898:=0
def tw6330645700062792098:=0
def tw5161876597278461551:=0
def tw962098337889423432:=0
def tw11930447548564785592:=0
def tw4258205327207599277:=0
def tw10872666268869889820:=0
def tw7995399615179632101:=0
def tw5022100760317891355:=0
def tw7537483072410112685:=0
def tw18187005287858388859:=0
def tw6845237090237397270:=0
def tw2001980766491714483:=0
def tw5598609175567485442:=0
def tw16512413617648671142:=0
def tw2961002704030592453:=0
def tw3028486484484506205:=0
def tw7996080289495848564:=0
def tw13914432595305467412:=0
def tw14061466239033522708:=0
def tw1305733363984831304:=0
def tw15570045777275941934:=0
def tw17697304541104823744:=0
def tw1244650540303662029:=0
def tw2655407940507835489:=0
def tw12990705296980642808:=0
def tw15628793587814722679:=0
def tw9792448386466429084:=0
def tw447612498136839845:=0
def tw6051374985182965110:=0
def tw673792866090208510:=0
def tw947137591148251821:=0
def tw6755583852134088999:=0
def tw15003940224145111847:=0
def tw9985159636000489072:=0
def tw10027000765911832638:=0
def tw5197904680766255270:=0
def tw16386955736572727810:=0
def tw87251634846031155:=0
def tw960101675309845581:=0
def tw16556234610365994833:=0
def tw4922385571160636384:=0
def tw10483506510152969596:=0
def tw15685181592498511478:=0
def tw15516030973759496052:=0
def tw17943305268852850098:=0
def tw18245389342719552307:=0
def tw9773148870954651409:=0
def tw9060892893529508513:=0
def tw17319500174549735746:=0
def tw5177060359898407539:=0
def tw15671421162759312310:=0
def tw2149781557491033384:=0
def tw537152351985417679:=0
def tw5774007805405789183:=0
def tw2360219085624234020:=0
def tw8086662802382327038:=0
def tw17028929792407867070:=0
end PySem.W.Fast
open PySem PySem.W PyProof.Rows
local macro_rules | `(tactic| and_intros) => `(tactic| (dsimp only [L2.oh]; first | k_is | (refine' MM.BU ?a ?l ?c ?k; (case a => k_is); (case l => k_is); (case c => k_is); (case k => k_is))))
set_option maxRecDepth 100000 in
set_option maxHeartbeats 0 in
theorem PySem.Challenge.cw_fewfills_k30_works_told_holds : PySem.Challenge.rw_fewfills_k30_works_told.Holds := by
  w_on; o_law; k_head; (case hw=>w_witness2)
  k_fill
  refine MM.Gx (l:=PySem.Challenge.rw_fewfills_k30_works_told) (k:=11) (x:="_law_script") (F:=Law.Bo) rfl rfl ⟨rfl,by decide,by decide,rfl⟩ (by decide +kernel) rfl (fun w h Y=>PySem.W.kIn_of Y) ?F Law.B3
  case F=>
    intro w mg fa h KX G hmg
    have Dlaw:MM.d_ (L2.oh KX) "law" Law.nY:=by and_intros
    have D0:MM.d_ (L2.oh KX) "is_whole" Law.gf:=by and_intros
    have D1:MM.d_ (L2.oh KX) "greatest_shared" Law.cD:=by and_intros
    have D2:MM.d_ (L2.oh KX) "number_of" Law.fI:=by and_intros
    have D3:MM.d_ (L2.oh KX) "plus" Law.nR:=by and_intros
    have D4:MM.d_ (L2.oh KX) "minus" Law.lv:=by and_intros
    have D5:MM.d_ (L2.oh KX) "times" Law.lz:=by and_intros
    have D6:MM.d_ (L2.oh KX) "over" Law.om:=by and_intros
    have D7:MM.d_ (L2.oh KX) "is_place" Law.gp:=by and_intros
    have D8:MM.d_ (L2.oh KX) "is_order" Law.gi:=by and_intros
    have D9:MM.d_ (L2.oh KX) "check_order" Law.dM:=by and_intros
    have D10:MM.d_ (L2.oh KX) "add_times" Law.fE:=by and_intros
    have D11:MM.d_ (L2.oh KX) "parts_at" Law.gz:=by and_intros
    have D12:MM.d_ (L2.oh KX) "step_of" Law.iw:=by and_intros
    have D13:MM.d_ (L2.oh KX) "struck_with" Law.dN:=by and_intros
    have D14:MM.d_ (L2.oh KX) "struck" Law.jx:=by and_intros
    have D15:MM.d_ (L2.oh KX) "_law_pen" Law.lN:=by and_intros
    have D16:MM.d_ (L2.oh KX) "_law_draw" Law.jB:=by and_intros
    have D17:MM.d_ (L2.oh KX) "_law_lowest" Law.gw:=by and_intros
    have D18:MM.d_ (L2.oh KX) "_law_same" Law.rq:=by and_intros
    have D19:MM.d_ (L2.oh KX) "_law_many" Law.j0:=by and_intros
    have D20:MM.d_ (L2.oh KX) "_law_order" Law.ik:=by and_intros
    have D21:MM.d_ (L2.oh KX) "_law_plus" Law.jT:=by and_intros
    have D22:MM.d_ (L2.oh KX) "_law_times" Law.iA:=by and_intros
    have D23:MM.d_ (L2.oh KX) "_law_small" Law.ip:=by and_intros
    have D24:MM.d_ (L2.oh KX) "_law_built" Law.iq:=by and_intros
    have D25:MM.d_ (L2.oh KX) "_law_multiplied" Law.dm:=by and_intros
    have D26:MM.d_ (L2.oh KX) "_law_ties_of" Law.fD:=by and_intros
    have D27:MM.d_ (L2.oh KX) "_law_near" Law.jq:=by and_intros
    have D28:MM.d_ (L2.oh KX) "_law_later" Law.iF:=by and_intros
    have D29:MM.d_ (L2.oh KX) "_law_held" Law.jw:=by and_intros
    have D30:MM.d_ (L2.oh KX) "_law_right" Law.iD:=by and_intros
    have Z31:PySem.W.nsIn (L2.oh KX) mainGlobals "abs" = some none:=by and_intros
    have Z32:PySem.W.nsIn (L2.oh KX) mainGlobals "all" = some none:=by and_intros
    have Z33:PySem.W.nsIn (L2.oh KX) mainGlobals "bool" = some none:=by and_intros
    have Z34:PySem.W.nsIn (L2.oh KX) mainGlobals "dict" = some none:=by and_intros
    have Z35:PySem.W.nsIn (L2.oh KX) mainGlobals "enumerate" = some none:=by and_intros
    have Z36:PySem.W.nsIn (L2.oh KX) mainGlobals "int" = some none:=by and_intros
    have Z37:PySem.W.nsIn (L2.oh KX) mainGlobals "isinstance" = some none:=by and_intros
    have Z38:PySem.W.nsIn (L2.oh KX) mainGlobals "len" = some none:=by and_intros
    have Z39:PySem.W.nsIn (L2.oh KX) mainGlobals "list" = some none:=by and_intros
    have Z40:PySem.W.nsIn (L2.oh KX) mainGlobals "max" = some none:=by and_intros
    have Z41:PySem.W.nsIn (L2.oh KX) mainGlobals "min" = some none:=by and_intros
    have Z42:PySem.W.nsIn (L2.oh KX) mainGlobals "range" = some none:=by and_intros
    have Z43:PySem.W.nsIn (L2.oh KX) mainGlobals "sorted" = some none:=by and_intros
    have Z44:PySem.W.nsIn (L2.oh KX) mainGlobals "tuple" = some none:=by and_intros
    have Z45:PySem.W.nsIn (L2.oh KX) mainGlobals "zip" = some none:=by and_intros
    have YNOUGHT:MM.nF (L2.oh KX) "NOUGHT" 0 1:=by
      dsimp only [L2.oh]
      refine' MM.Dh ?h ?l
      (case h=>k_is)
      (case l=>k_is)
    exact MM.Gw Dlaw Law.IJ hmg KX G fun base kb nb=>Law.IM ⟨kb,nb⟩ D0 D1 D2 D3 D4 D5 D6 D7 D8 D9 D10 D11 D12 D13 D14 D15 D16 D17 D18 D19 D20 D21 D22 D23 D24 D25 D26 D27 D28 D29 D30 Dlaw Z31 Z32 Z33 Z34 Z35 Z36 Z37 Z38 Z39 Z40 Z41 Z42 Z43 Z44 Z45 YNOUGHT
