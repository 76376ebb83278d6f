import PyProof.Rows.All
import Wide.All
import OpenK.AllK
import Wide.FinOn
import Lean
import PyProof.EqAt
import PyProof.EqKinds
import PyProof.TupleCall
import PyProof.ReprRoads
import PyProof.FitsInt
import PyProof.FitsBits
import PyProof.Rows.IntMath
import PyProof.ConsumeWalk
import PyProof.WalkInts
import PyProof.ListRange
import PySem.SetTable
import PyProof.SetKind
import PyProof.TupleKey
import PyProof.DictKinds
import PyProof.IsRules
import PyProof.Rows.SetFrom
import PyProof.CollectIter
import PyProof.ForAny
import PyProof.Rows.SortRuns
import PyProof.Rows.SortKey
import KE.KSortTup
import PyProof.ZipIter
import PyProof.Draws
import PyProof.EnumMake
import PyProof.TupleIter
import PyProof.P3Eq
import PyProof.StrCalls2
import PyProof.StrCalls3
import PyProof.FString
import PyProof.AttrMissHeap
import PyProof.DictUpdate
import PyProof.DictRoads
import KE.KDictOf
import PyProof.Walks
import PyProof.SetRoads
import PyProof.Rows.SeqMore
import KE.KDictList
import PyProof.DictItems
import KE.KPairComp
import PyProof.MeetsSeq
import PyProof.Rows.Chain
import PyProof.ListMulRoad
import PyProof.FactsAll.tuple_2
import OpenK.KCls
import PyProof.InstStoreFacts
import KE.KRevIter
import PyProof.StrWalks
import PyProof.StrCalls5
import PyProof.StrOps
import KE.KIntText
import PyProof.Rows.StrNews2
import PyProof.SliceStr2
import PyProof.StrBlockI
import PyProof.Truth
import OpenK.KWalk
import PyProof.MeetsStr3
import PyProof.StrBlock2
import PyProof.Rows.StrPartPair
import PyProof.Rows.StrSplitCount
import PyProof.StrLawsChain
import PySem.Challenge.RW_fewfills_k47_texts_refused
set_option Elab.async false
set_option bootstrap.genMatcherCode false
set_option compiler.extract_closed false
set_option genSizeOf false
set_option linter.all false
set_option maxRecDepth 100000
noncomputable section
local macro_rules|`(command|def $i:declId $s:optDeclSig $v:declVal)=>`(command|noncomputable def $i:declId $s:optDeclSig $v:declVal)
local macro_rules|`(command|abbrev $i:declId $s:optDeclSig $v:declVal)=>`(command|noncomputable abbrev $i:declId $s:optDeclSig $v:declVal)
open PySem
abbrev _root_.VL:=List Str
abbrev _root_.VM:=List Int
abbrev _root_.VN:=List Nat
abbrev _root_.VQ:=List Addr
abbrev _root_.VR:=List Value
abbrev _root_.VS:=List (Addr×Obj)
abbrev _root_.VT:=Option Value
abbrev _root_.VU:=Option Int
abbrev _root_.VV:=List Expr
abbrev _root_.VX:=Value->Shared->Prop
abbrev _root_.VZ:=Str->Option Value
abbrev _root_.VB:=List Stmt
abbrev _root_.VC:=Option Addr
abbrev hW:=@PySem.W.Frag
abbrev ln:=@List.set_cons_succ
abbrev lv:=@List.set_cons_zero
abbrev ir:=@wpAny_bind
abbrev r_:=@Heap.get?_push_of_some
abbrev ki:=@List.mem_cons
abbrev ol:=@Bool.false_eq_true
abbrev pk:=@List.getElem?_set_ne
abbrev eT:=@if_pos
abbrev pW:=@List.mem_cons_of_mem
abbrev se:=@List.mem_append_right
abbrev n_:=@List.length_cons
abbrev w_:=@List.getElem?_eq_some_iff
abbrev pa:=@List.length_nil
abbrev BH:=@List.getElem?_append_left
abbrev hF:=@if_neg
abbrev vl:=@Nat.lt_of_lt_of_le
abbrev mh:=@Nat.le_refl
abbrev t_:=@List.not_mem_nil
abbrev oy:=@Heap.lt_size
abbrev B6:=@List.getElem?_set_self
abbrev yu:=@List.mem_singleton
abbrev v_:=@List.mem_append
abbrev sk:=@List.mem_map
abbrev ph:=@wpAny_pure
abbrev B_:=@List.size_toArray
abbrev C_:=@List.getElem?_eq_getElem
abbrev CL:=@Heap.get?_push_size
abbrev wy:=@Nat.le_trans
abbrev Db:=@Option.map_eq_some_iff
abbrev CG:=@List.getElem?_map
abbrev yw:=@List.map_cons
abbrev DC:=@List.getElem?_append_right
abbrev C7:=@List.mem_append_left
abbrev yB:=@Nat.ne_of_lt
abbrev C8:=@List.mem_cons_self
abbrev CM:=@List.length_map
abbrev Dc:=@List.length_append
abbrev Dm:=@Int.natAbs_natCast
abbrev CV:=@Bool.not_true
abbrev Ej:=@List.singleton_append
abbrev HI:=@List.getD_eq_getElem?_getD
abbrev DD:=@Bool.and_eq_true
abbrev DE:=@List.all_eq_true
abbrev Ek:=@List.mem_of_getElem?
abbrev CY:=@List.map_map
abbrev CN:=@Nat.zero_le
abbrev De:=@Nat.lt_irrefl
abbrev Ls:=@List.mem_or_eq_of_mem_set
abbrev HJ:=@List.length_replicate
abbrev El:=@List.append_assoc
abbrev Lu:=@List.getElem?_replicate
abbrev Lv:=@Option.bind_eq_some_iff
abbrev Em:=@List.lookup_cons
abbrev HK:=@List.filter_eq_self
abbrev DO:=@Nat.lt_trans
abbrev HL:=@List.pairwise_map
abbrev Lw:=@Heap.get?_update_ne
abbrev Pt:=@Int.fmod_eq_emod_of_nonneg
abbrev HM:=@Option.bind_some
abbrev HN:=@List.cons_append
abbrev LY:=@List.contains_iff_mem
abbrev HP:=@List.append_nil
abbrev Lx:=@Int.toNat_natCast
abbrev HQ:=@Bool.not_false
abbrev LZ:=@Int.emod_lt_of_pos
abbrev Pu:=@Heap.get?_update_self
abbrev Pw:=@List.mem_iff_getElem?
abbrev Px:=@Array.getElem?_toList
abbrev Py:=@Heap.get?_none_of_le
abbrev Ly:=@Heap.size_push
abbrev Pz:=@List.filterMap_cons
abbrev PB:=@List.replicate_succ
abbrev GZ:=@Nat.le_succ
abbrev PC:=@List.mem_filterMap
abbrev L0:=@List.nodup_cons
abbrev L4:=@List.length_set
abbrev PD:=@List.contains_cons
abbrev PF:=@List.pairwise_cons
abbrev L5:=@Int.emod_nonneg
abbrev PH:=@Nat.lt_of_le_of_lt
abbrev L6:=@Nat.not_lt_zero
abbrev QQ:=@Heap.get?_update_other
abbrev QR:=@List.take_of_length_le
abbrev PJ:=@Bool.not_eq_true'
abbrev PK:=@List.flatMap_cons
abbrev Lz:=@Nat.ne_of_gt
abbrev QS:=@List.getElem?_eq_none
abbrev Tt:=@List.eq_nil_of_length_eq_zero
abbrev QT:=@Int.toString_eq_repr
abbrev PL:=@Bool.or_eq_true
abbrev QU:=@List.map_congr_left
abbrev QV:=@List.length_pos_iff
abbrev QW:=@List.getElem?_range
abbrev PM:=@List.nil_append
abbrev Tu:=@List.exists_cons_of_ne_nil
abbrev Tv:=@List.eq_append_cons_of_mem
abbrev L7:=@Nat.le_of_lt
abbrev QX:=@Bool.false_ne_true
abbrev QY:=@List.getElem?_drop
abbrev Tw:=@List.drop_eq_getElem_cons
abbrev PN:=@Int.natAbs_mul
abbrev Tx:=@List.append_cancel_right
abbrev Tz:=@Int.eq_ofNat_of_zero_le
abbrev QZ:=@List.length_take
abbrev Q0:=@Nat.lt_succ_self
abbrev Q1:=@Option.getD_some
abbrev Q2:=@List.any_eq_true
abbrev Q3:=@List.getElem_mem
abbrev Q4:=@Array.all_toList
abbrev TB:=@List.range_succ_eq_map
abbrev TC:=@Int.le_ediv_iff_mul_le
abbrev Q5:=@List.of_mem_zip
abbrev Q6:=@List.foldl_cons
abbrev TD:=@Array.getElem?_modify
abbrev Q7:=@Option.map_some
abbrev PP:=@List.all_map
abbrev Q8:=@Bool.eq_iff_iff
abbrev Q9:=@Nat.div_le_self
abbrev Q_:=@List.mem_range
abbrev Ra:=@Int.repr_eq_if
abbrev Rb:=@Nat.mul_comm
abbrev Rc:=@Bool.or_true
abbrev Re:=@List.map_set
noncomputable section
local macro_rules | `(tactic| ext) => `(tactic| omega)
local instance (priority:=1) cdec (p:Prop):Decidable p:=Classical.propDecidable p
local macro_rules | `(⋯) => `(by lia)
open Option renaming some->J,none->Y
open Bool renaming true->I,false->T
namespace L2
open PySem.Spec PyProof.Rows
abbrev CZ:=Sum Int Str
def G0:CZ->Value->Bool
 |.inl k,v=>Value.isInt k v
 |.inr x,v=>Value.isStrOf x v
def Rf(w:World):CZ->Int
 |.inl k=>hashInt k
 |.inr x=>hashStr w x
def cH:∀{k:CZ}{v:Value},G0 k v=I->(∃i t,k=Sum.inl i/\v=Value.int i t)\/(∃x t,k=Sum.inr x/\v=Value.str x t)
 |.inl i,v,h=>by
  obtain⟨t,e⟩:=Value.isInt_shape h;exact .inl ⟨i,t,rfl,e⟩
 |.inr x,v,h=>by
  obtain⟨t,e⟩:=Value.isStrOf_shape h;exact .inr ⟨x,t,rfl,e⟩
def HR(a b:Int):decide ((Sum.inl a:CZ)=Sum.inl b)=(a==b):=by
 by_cases e:a=b
 .subst e;simp
 .have h:¬(Sum.inl a:CZ)=Sum.inl b:=λq=>e (Sum.inl.inj q);rw[decide_eq_false h];exact(beq_eq_false_iff_ne.mpr e).symm
def HS(a b:Str):decide ((Sum.inr a:CZ)=Sum.inr b)=decide (a=b):=by simp
def HU(a:Int)(b:Str):decide ((Sum.inl a:CZ)=Sum.inr b)=T:=decide_eq_false (λq=>nomatch q)
def HV(a:Str)(b:Int):decide ((Sum.inr a:CZ)=Sum.inl b)=T:=decide_eq_false (λq=>nomatch q)
def sx(prog:Program)(w:World):PySem.KeyKind prog w CZ where
 is:=G0
 hash:=Rf w
 inj:=λv a b z l=>by
  rcases cH z with⟨i,t,rfl,rfl⟩|⟨x,t,rfl,rfl⟩
  .rcases cH l with⟨j,u,rfl,e⟩|⟨y,u,rfl,e⟩
   .injection e with e1 _;rw[e1]
   .exact nomatch e
  .rcases cH l with⟨j,u,rfl,e⟩|⟨y,u,rfl,e⟩
   .exact nomatch e
   .injection e with e1 _;rw[e1]
 byValue:=λk v h=>by
  rcases cH h with⟨i,t,rfl,rfl⟩|⟨x,t,rfl,rfl⟩<;>rfl
 pyHash:=λhv h=>by
  rcases cH hv with⟨i,t,rfl,rfl⟩|⟨x,t,rfl,rfl⟩
  .exact wpAny_pyHash_int h
  .exact wpAny_pyHash_str h
 eqBool:=λB hv h=>by
  rcases cH B with⟨i,t,rfl,rfl⟩|⟨x,t,rfl,rfl⟩
  .rcases cH hv with⟨j,u,rfl,rfl⟩|⟨y,u,rfl,rfl⟩
   .rw[HR]at h;exact wpAny_eqBool_int h
   .rw[HU]at h;exact SeqAt.EqAt.int_str i t y u _ _ _ _ h
  .rcases cH hv with⟨j,u,rfl,rfl⟩|⟨y,u,rfl,rfl⟩
   .rw[HV]at h;exact SeqAt.EqAt.str_int x t j u _ _ _ _ h
   .rw[HS]at h;exact wpAny_eqBool_str h
 «strs»:=λk x t v h=>by
  rcases cH h with⟨i,u,rfl,e⟩|⟨y,u,rfl,e⟩
  .exact nomatch e
  .injection e with e1 _
   subst e1;cases v<;>rfl
inductive V where
 |non | bl (b:Bool) | int (i:Int) | str (x:Str) | byt (b:Array UInt8) | flt (b:UInt64) | ref (a:Addr) | ty (n:String)
 deriving DecidableEq
def bh:V->Value->Prop
 |.non,u=>u=Value.none
 |.bl b,u=>u=Value.bool b
 |.int i,u=>∃t,u=Value.int i t
 |.str x,u=>∃t,u=Value.str x t
 |.byt b,u=>∃t,u=Value.bytes b t
 |.flt b,u=>∃t,u=Value.float b t
 |.ref a,u=>u=Value.ref a
 |.ty n,u=>u=Value.type n
abbrev aV:List V->VR->Prop:=Paired bh
def aV.length(r:aV xs us):xs.length=us.length:=Paired.length r
def aV.get{xs:List V}{j:VR}{i:Nat}{x:V}(r:aV xs j)(e:xs[i]?=J x):∃u,j[i]?=J u/\bh x u:=by
 induction r generalizing i with
 |nil=>cases e
 |cons r t l =>
  cases i with
  |zero=>cases e;exact⟨_,rfl,r⟩
  |succ i=>have z:=@l i e;exact z
def aV.set(r:bh x u)(i:Nat)(q:aV xs us):aV (xs.set i x) (us.set i u):=by
 induction q generalizing i with
 |nil=>exact .nil
 |cons a t j =>
  cases i with
  |zero=>exact .cons r t
  |succ i=>exact .cons a (j i)
def aV.append(r:aV xs us)(s:aV ys ws):aV (xs++ys) (us++ws):=by
 induction r with
 |nil=>exact s
 |cons r t i=>exact .cons r i
def aV.take(n:Nat)(r:aV xs us):aV (xs.take n) (us.take n):=by
 induction r generalizing n with
 |nil=>cases n<;>exact .nil
 |cons a t i =>
  cases n with
  |zero=>exact .nil
  |succ n=>exact .cons a (i n)
def aV.drop(n:Nat)(r:aV xs us):aV (xs.drop n) (us.drop n):=by
 induction r generalizing n with
 |nil=>cases n<;>exact .nil
 |cons a t i =>
  cases n with
  |zero=>exact .cons a t
  |succ n=>exact i n
def L8:Option V->VT->Prop
 |some v,J u=>bh v u
 |none,Y=>True
 |_,_=>False
def KV{κ:Type}:List (κ×V)->List (κ×Value)->Prop:=Paired λ(p:κ×V)(q:κ×Value)=>p.1=q.1/\bh p.2 q.2
def kV:CZ->V
 |.inl i=>.int i
 |.inr x=>.str x
inductive HO where
 |lst(xs:List V)
 |tup(xs:List V)
 |dK(kvs:List (CZ×V)) | dT (kvs:List (List CZ×V))
 |set(S:Int->Bool)(n:Nat)
 |ins(C dx:Addr)(fs:List (Str×V))
 |own(x:Addr)
 |xd(fs:List (Str×V))
 |met(f x:Addr)
 |rng(lo hi:Int)
 |frz(o:Obj)(u:HO)
 |tbl(ps:Array Value)
 |ext(φ:Heap->Prop)
abbrev Hp:=Addr->Option HO
def upd(H:Hp)(a:Addr)(o:HO):Hp:=λb=>if b=a then J o else H b
def ba:upd H a o a=J o:=by unfold upd;rw[eT rfl]
def aJ(h:b≠a):upd H a o b=H b:=by unfold upd;rw[hF h]
def bP{H:Hp}{a b:Addr}{o:HO}(h:H a=J o)(i:H b=Y):a≠b:=by intro e;subst e;rw[h]at i;cases i
def jc(h:Heap)(a:Addr)(i:Array Value):Prop:=∃o,h.get? a=J o/\o.cls=.type "tuple"/\(∃n,o.data=.seq i n)/\o.dict=Y
def jc.tup(t:jc h a its):IsTup h a its:=let⟨o,e,c,d,_⟩:=t;⟨o,e,c,d⟩
def jc.lt(t:jc h a its):a<h.objs.size:=t.tup.lt
def jc.new(h:Heap)(i:Array Value):jc (h.push { cls:=.type "tuple",data:=.seq i}) h.objs.size i:=⟨_,CL h rfl,rfl,⟨_,rfl⟩,rfl⟩
section
variable(P:Program)(w:World)
def ObjOk(H:Hp)(h:Heap)(a:Addr):HO->Prop
 |.lst xs=>xs.length<=sizeLine/\∃(j:VR) (n:Nat),aV xs j/\h.get? a=J { cls:=.type "list",data:=.seq j.toArray n}
 |.tup xs=>xs.length<=sizeLine/\∃j:VR,aV xs j/\jc h a j.toArray
 |.dK i=>i.length<=sizeLine/\(a==sysModules)=T/\∃E,KV i E/\h.DictOf (sx P w) a E
 |.dT i=>i.length<=sizeLine/\(a==sysModules)=T/\∃xs:List (List CZ×Addr×Value),
   Paired (λ(p:List CZ×V)(q:List CZ×Addr×Value)=>p.1=q.1/\H q.2.1=J (.tup (p.1.map kV))/\bh p.2 q.2.2) i xs /\
   ∃o F G,h.get? a=J o/\o.ExactDict/\o.data=.dict F G/\F.toList=xs.map (entryOfKey (tupleKind (sx P w)))/\(xs.map (·.1)).Nodup
 |.set S n=>h.SetOf (intKind P w) a S n
 |.ins C y fs=>H y=J (.own a)/\fs.length<=1000/\y≠a/\h.get? a=J (PySem.W.instObj C y) /\
   ∃l,h.Ns1 y l/\(∀f,L8 (fs.lookup f) (l f))/\PySem.Within l (fs.map (·.1))
 |.own _=>∃o,h.get? a=J o
 |.xd fs=>∃l,h.Ns1 a l/\∀f,L8 (fs.lookup f) (l f)
 |.rng lo L=>∃t u v,h.get? a=J { cls:=.type "range",data:=.fields #[.int lo t,.int L u,.int 1 v]}
 |.frz o u=>h.get? a=J o/\ObjOk H h a u
 |.tbl ps=>h.get? a=J { cls:=.none,data:=.fields ps}
 |.met f x=>h.get? a=J (PySem.W.methodObj (.ref f) (.ref x))
 |.ext φ=>φ h/\(∃o,h.get? a=J o)/\∀B z:Heap,φ B->(∀o,B.get? a=J o->z.get? a=J o)->φ z
def HOk(H:Hp)(h:Heap):Prop:=∀a o,H a=J o->ObjOk P w H h a o
end
section
variable{P:Program}{w:World}{H H':Hp}{h h':Heap}{a:Addr}{o:HO}
def ObjOk.lt(x:ObjOk P w H h a o):a<h.objs.size:=by
 cases o with
 |lst xs=>obtain⟨_,_,_,_,e⟩:=x;exact oy e
 |tup xs=>obtain⟨_,_,_,p⟩:=x;exact p.lt
 |dK i=>obtain⟨_,_,_,_,o,_,_,e,_⟩:=x;exact oy e
 |dT i=>obtain⟨_,_,_,_,o,_,_,e,_⟩:=x;exact oy e
 |set S n=>obtain⟨o,_,_,_,e,_⟩:=x;exact oy e
 |ins C z fs=>obtain⟨_,_,_,e,_⟩:=x;exact oy e
 |own y=>obtain⟨_,e⟩:=x;exact oy e
 |xd fs=>obtain⟨_,⟨_,_,_,e,_⟩,_⟩:=x;exact oy e
 |rng lo j=>obtain⟨_,_,_,e⟩:=x;exact oy e
 |frz l u=>obtain⟨e,_⟩:=x;exact oy e
 |tbl ps=>exact oy (x)
 |met f y=>exact oy (x)
 |ext φ=>obtain⟨_,⟨_,e⟩,_⟩:=x;exact oy e
def Paired.mapP{α β:Type}{F G:α->β->Prop}{i:List α}{j:List β}(r:Paired F i j)(f:∀a b,F a b->G a b):Paired G i j:=by
 induction r with
 |nil=>exact .nil
 |cons r t l=>exact .cons (f _ _ r) l
def ObjOk.stay(x:ObjOk P w H h a o)(k:∀b u,(b=a\/H b=J (.own a))->h.get? b=J u->h'.get? b=J u)(M:∀b,H b=J (.own a)->H' b=J (.own a))(ht:∀b xs,H b=J (.tup xs)->H' b=J (.tup xs)):ObjOk P w H' h' a o:=by
 induction o with
 |lst xs=>obtain⟨z,B,n,r,e⟩:=x;exact⟨z,B,n,r,k _ _ (.inl rfl) e⟩
 |tup xs=>obtain⟨z,B,r,i,e,c⟩:=x;exact⟨z,B,r,i,k _ _ (.inl rfl) e,c⟩
 |dK E=>obtain⟨z,y,Q,r,i,l,j,e,c⟩:=x;exact⟨z,y,Q,r,i,l,j,k _ _ (.inl rfl) e,c⟩
 |dT E =>
  obtain⟨z,y,xs,r,i,l,j,e,c⟩:=x;exact⟨z,y,xs,Paired.mapP r λp q z=>⟨z.1,ht _ _ z.2.1,z.2.2⟩,i,l,j,k _ _ (.inl rfl) e,c⟩
 |set S n=>obtain⟨i,l,j,t,e,c⟩:=x;exact⟨i,l,j,t,k _ _ (.inl rfl) e,c⟩
 |ins C U fs =>
  obtain⟨d,z,ne,e,G,⟨F,l,j,e2,c⟩,r⟩:=x;exact⟨M _ d,z,ne,k _ _ (.inl rfl) e,G,⟨F,l,j,k _ _ (.inr d) e2,c⟩,r⟩
 |own y=>obtain⟨i,e⟩:=x;exact⟨i,k _ _ (.inl rfl) e⟩
 |xd fs=>obtain⟨G,⟨F,l,j,e,c⟩,r⟩:=x;exact⟨G,⟨F,l,j,k _ _ (.inl rfl) e,c⟩,r⟩
 |rng lo R=>obtain⟨t,u,v,e⟩:=x;exact⟨t,u,v,k _ _ (.inl rfl) e⟩
 |frz i u L=>obtain⟨e,q⟩:=x;exact⟨k _ _ (.inl rfl) e,L q⟩
 |tbl ps =>
  have e:=x;exact k a _ (.inl rfl) e
 |met f y =>
  have e:=x;exact k a _ (.inl rfl) e
 |ext φ=>obtain⟨p,⟨o,e⟩,st⟩:=x;exact⟨st _ _ p λo q=>k _ _ (.inl rfl) q,⟨o,k _ _ (.inl rfl) e⟩,st⟩
def HOk.lt(x:HOk P w H h)(e:H a=J o):a<h.objs.size:=(x a o e).lt
def HOk.fresh(x:HOk P w H h)(e:h.objs.size<=a):H a=Y:=by
 cases q:H a with
 |none=>rfl
 |some u=>exact absurd (vl (x.lt q) e) (De _)
def HOk.kept(x:HOk P w H h)(k:∀b u,h.get? b=J u->h'.get? b=J u):HOk P w H h':=λa o e =>
 (x a o e).stay (λb u _ q=>k b u q) (λ_ q=>q) λ_ _ q=>q
def HOk.laid(x:HOk P w H h)(k:∀b u,h.get? b=J u->h'.get? b=J u)(l:h.objs.size<=a)(new:ObjOk P w (upd H a o) h' a o):HOk P w (upd H a o) h':=λb u e=>by
 have i:=x.fresh l;by_cases j:b=a
 .subst j;rw[ba]at e;cases e;exact new
 .rw[aJ j]at e;exact(x b u e).stay (λc v _ q=>k c v q) (λc q=>by rw[aJ (bP q i)];exact q) λc xs q=>by rw[aJ (bP q i)];exact q
end
def Rd(H:Hp)(a:Addr)(u:HO):Prop:=H a=J u\/∃o,H a=J (.frz o u)
def Rd.ok(r:Rd H a u)(x:HOk P w H h):ObjOk P w H h a u:=by
 rcases r with r|⟨o,r⟩
 .exact x a u r
 .obtain⟨_,q⟩:=x a _ r;exact q
def PQ:Option HO->Prop
 |some (.lst _)=>True
 |some (.dK _)=>True
 |some (.dT _)=>True
 |some (.set _ _)=>True
 |some (.ins _ _ _)=>True
 |some (.ext _)=>True
 |_=>False
section
variable{P:Program}{w:World}{H:Hp}{h h':Heap}{x e:Addr}{o':HO}
def HOk.write(ok:HOk P w H h)(B:PQ (H x))(G:e=x\/H e=J (.own x))(k:∀b u,b≠e->h.get? b=J u->h'.get? b=J u)(C:∃u,h'.get? e=J u)(new:ObjOk P w (upd H x o') h' x o'):HOk P w (upd H x o') h':=λb u q=>by
 have j:∀c y,H c=J (.own y)->c≠x:=λc y r z=>by subst z;rw[r]at B;exact B
 have l:∀c xs,H c=J (.tup xs)->c≠x:=λc xs r z=>by subst z;rw[r]at B;exact B
 by_cases E:b=x
 .subst E;rw[ba]at q;cases q;exact new
 .rw[aJ E]at q;by_cases i:b=e
  .have F:H b=J (.own x):=by
    rcases G with z|z
    .exact absurd (i.trans z) E
    .rw[i];exact z
   rw[q]at F;cases F;obtain⟨v,hv⟩:=C;exact⟨v,by rw[i];exact hv⟩
  .refine (ok b u q).stay (λc v L r=>k c v ?_ r) (λc r=>by rw[aJ (j c b r)];exact r) λc xs r=>by rw[aJ (l c xs r)];exact r
   grind
end
structure Un(fs ex:VQ)(H H':Hp)(h h':Heap):Prop where
 keep:∀b o,h.get? b=J o->H b=Y->b∉fs->b∉ex->h'.get? b=J o
 slot:∀b o,h.get? b=J o->H b=Y->b∈fs->b∉ex->∃sl,h'.get? b=J { o with slots:=sl}
 free:∀b o,h.get? b=J o->H b=Y->b∉ex->H' b=Y
 there:∀b o,h.get? b=J o->b∉ex->∃o',h'.get? b=J o'
 tups:∀b xs,H b=J (.tup xs)->H' b=J (.tup xs)
 frzs:∀b o u,H b=J (.frz o u)->H' b=J (.frz o u)
 tbls:∀b ps,H b=J (.tbl ps)->∃more,H' b=J (.tbl (ps++more))
section
variable{fs fs' ex ex':VQ}{H H1 H2:Hp}{h h1 h2 h':Heap}{a x e:Addr}{o:HO}
def Un.any(u:Un fs ex H H1 h h1)(q:h.get? b=J ob)(n:H b=Y)(i:b∉ex):∃l,h1.get? b=J { ob with slots:=l}:=by
 by_cases j:b∈fs
 .exact u.slot b ob q n j i
 .exact⟨ob.slots,u.keep b ob q n j i⟩
def Un.kept(k:∀b u,h.get? b=J u->h'.get? b=J u):Un fs ex H H h h' :=
 ⟨λb i q _ _ _=>k b i q,λb i q _ _ _=>⟨i.slots,k b i q⟩,λ_ _ _ n _=>n,λb i q _=>⟨i,k b i q⟩,λ_ _ q=>q,λ_ _ _ q=>q,λ_ ps q=>⟨#[],by rw[q];simp⟩⟩
def Un.refl:Un fs ex H H h h:=Un.kept λ_ _ q=>q
def Un.laid(k:∀b u,h.get? b=J u->h'.get? b=J u)(j:h.objs.size<=a)(i:H a=Y):Un fs ex H (upd H a o) h h' where
 keep:=λb u q _ _ _=>k b u q
 slot:=λb u q _ _ _=>⟨u.slots,k b u q⟩
 free:=λb u q n _=>by rw[aJ (yB (vl (oy q) j))];exact n
 there:=λb u q _=>⟨u,k b u q⟩
 tups:=λb xs q=>by rw[aJ (bP q i)];exact q
 frzs:=λb u xs q=>by rw[aJ (bP q i)];exact q
 tbls:=λb ps q=>⟨#[],by rw[aJ (bP q i),q];simp⟩
def Un.write(j:PQ (H x))(F:e=x\/H e=J (.own x))(k:∀b u,b≠e->h.get? b=J u->h'.get? b=J u)(y:∃u,h'.get? e=J u):Un fs ex H (upd H x o) h h':=by
 have C:∀b,H b=Y->b≠x:=λb n z=>by subst z;rw[n]at j;exact j
 have B:∀b,H b=Y->b≠e:=λb n z=>by
  simp_all
 have l:∀b u,H b=J u->¬PQ (J u)->b≠x:=λb u q E z=>by subst z;rw[q]at j;exact E j
 refine⟨λb u q n _ _=>k b u (B b n) q,λb u q n _ _=>⟨u.slots,k b u (B b n) q⟩,λb u q n _=>by rw[aJ (C b n)];exact n,λb u q _=>?_,
  λb xs q=>by rw[aJ (l b _ q λz=>z)];exact q,λb u xs q=>by rw[aJ (l b _ q λz=>z)];exact q,λb ps q=>⟨#[],by rw[aJ (l b _ q λz=>z),q];simp⟩⟩
 by_cases i:b=e
 .subst i;exact y
 .exact⟨u,k b u i q⟩
end
def PX(h:Heap)(H:Hp):VQ:=(List.range h.objs.size).filter λa=>(H a).isSome
def mJ(h:Heap)(H:Hp):Heap:=PySem.W.hideAll h (PX h H)
def AL(h:Heap)(H:Hp):(mJ h H).objs.size=h.objs.size:=PySem.W.hideAll_size _ _
def Ca(e:h.get? b=J o)(n:H b=Y):(mJ h H).get? b=J o :=
 PySem.W.hideAll_get _ e λi=>by
  have q:=(List.mem_filter.mp i).2;rw[n]at q;simp at q
def En(e:(mJ h H).get? b=J o):h.get? b=J o/\H b=Y:=by
 have i:=PySem.W.of_hideAll (PX h H) e;refine⟨i,?_⟩
 cases q:H b with
 |none=>rfl
 |some x =>
  have j:b∈PX h H:=List.mem_filter.mpr ⟨Q_.mpr (oy i),by simp[q]⟩;have z:(mJ h H).get? b=Y:=PySem.W.hideAll_none (PX h H) j;rw[z]at e;cases e
structure Mod(K:hW)(mg:VZ)(base:Heap):Prop where
 kin:K.In base
 glob:base.Ns mainGlobals mg
 blt:∃mb,base.Ns builtinsNs mb/\∀x:Str,x≠"__name__"->mb x=bootBuiltins x
 nolimit:base.NoLimit
 seer:base.NoSeer
structure Cx where
 prog:Program
 w:World
 K:hW
 mg:Str->VT
 base:Heap
 A:Around
 N:VL
 s₀:Shared
 H₀:Hp
 env:Env
 outer:List Env
 stack:List Env
 ex:VQ
 fn:Str->Bool
 calm:Bool
 pn:VS
 xe:Value->Shared->Prop
def BL(l:List Env):VQ:=l.filterMap (·.frame)
abbrev Cx.fs(X:Cx):VQ:=BL X.outer
def Eo(i:Scope)(x:Str):Prop:=i.names.lookup x=J .local\/i.names.lookup x=J .cell\/i.names.lookup x=J .free
def Loc(i:Scope)(x:Str):Prop:=i.names.lookup x=J .local\/i.names.lookup x=J .cell
def Look(env:Env)(h:Heap)(m:VZ)(x:Str)(u:Value):Prop :=
 (env.kindOf x=J .local/\m x=J u)\/((env.kindOf x=J .cell\/env.kindOf x=J .free)/\∃c,env.cells.lookup x=J c/\h.IsCell c (J u))
structure Cx.Ok(X:Cx):Prop where
 mod:Mod X.K X.mg X.base
 kind:X.env.scope.kind=.function
 glob:X.env.globals=mainGlobals
 blt:X.env.builtins=builtinsNs
 above:X.s₀.heap.objs.size<=X.env.locals
 inj:∀x y c,X.env.cells.lookup x=J c->X.env.cells.lookup y=J c->x=y
 has:∀x,(X.env.kindOf x=J .cell\/X.env.kindOf x=J .free)->∃c,X.env.cells.lookup x=J c
 cab:∀x c,X.fn x=I->X.env.cells.lookup x=J c->X.s₀.heap.objs.size<=c
 hd:X.calm=I->X.A.handled=Y
 frames:X.A.frames=J X.stack
 stk:X.stack=X.outer\/(X.stack=X.env::X.outer/\X.env.frame=J X.env.locals)
 exf:∀b∈X.ex,b≠X.env.locals/\∀x c,X.env.cells.lookup x=J c->c≠b
 bs:∀b o,X.base.get? b=J o->X.s₀.heap.get? b=J o/\X.H₀ b=Y
 bsz:X.base.objs.size<=X.s₀.heap.objs.size
 noex:∀b o,X.base.get? b=J o->b∉X.ex
 exfs:∀b∈X.ex,b∉X.fs
 funs:X.s₀.heap.FunFrames X.base X.outer
 frf:∀b∈X.fs,X.H₀ b=Y
 tree:X.prog.given.tree=Y
 top:∃e l,X.stack=e::l/\e.scope.isGenerator=T/\e.scope.isCoroutine=T/\e.builtins=builtinsNs/\e.globals=mainGlobals
structure Inv(X:Cx)(NN:VS)(Z:List (Option V))(H:Hp)(s:Shared):Prop where
 ok:X.Ok
 os:s.os=X.s₀.os
 bare:AllBare s.gens
 base:Un X.fs X.ex X.H₀ H X.s₀.heap s.heap
 loc:∃m,s.heap.Ns X.env.locals m/\∀(i:Nat)(x:Str)(v:V),X.N[i]?=J x->Z[i]?=J (J v)->Eo X.env.scope x->∃u,bh v u/\Look X.env s.heap m x u
 cell:∀x c,X.env.cells.lookup x=J c->∃v,s.heap.IsCell c v
 free:H X.env.locals=Y
 freeC:∀x c,X.env.cells.lookup x=J c->H c=Y
 pin:∀p∈X.pn++NN,s.heap.get? p.1=J p.2/\H p.1=Y/\p.1≠X.env.locals/\p.1∉X.fs/\∀v,p.2.data≠.cell v
 hok:HOk X.prog X.w H s.heap
 len:Z.length=X.N.length
section
variable{X:Cx}{NN:List (Addr × Obj)}{Z:List (Option V)}{H H':Hp}{s:Shared}{h':Heap}
def Cx.Ok.nofr(ok:X.Ok)(e:X.base.get? b=J o):b∉X.fs:=λi=>by
 have:=(ok.funs.mem i).1
 rw[e]at this;cases this
def Inv.bs(i:Inv X NN Z H s):∀b o,X.base.get? b=J o->s.heap.get? b=J o/\H b=Y:=λb o e =>
 ⟨i.base.keep b o (i.ok.bs b o e).1 (i.ok.bs b o e).2 (i.ok.nofr e) (i.ok.noex b o e),i.base.free b o (i.ok.bs b o e).1 (i.ok.bs b o e).2 (i.ok.noex b o e)⟩
def Inv.bk(i:Inv X NN Z H s):∀b o,X.base.get? b=J o->s.heap.get? b=J o:=λb o e=>(i.bs b o e).1
def Inv.mod(i:Inv X NN Z H s):Mod X.K X.mg X.base:=i.ok.mod
def Inv.kIn(i:Inv X NN Z H s):X.K.In s.heap:=i.ok.mod.kin.keeps i.bk
def Inv.nolimit(i:Inv X NN Z H s):s.heap.NoLimit:=i.ok.mod.nolimit.keeps i.bk
def Inv.lt(i:Inv X NN Z H s):X.env.locals<s.heap.objs.size:=let⟨_,j,_⟩:=i.loc;j.lt
def Inv.sz(i:Inv X NN Z H s):X.s₀.heap.objs.size<=s.heap.objs.size:=wy i.ok.above (L7 i.lt)
def Inv.nofs(i:Inv X NN Z H s){a:Addr}(h:s.heap.objs.size<=a):a∉X.fs:=λl=>by
 obtain⟨_,o,j,_⟩:=i.ok.funs.mem l;exact absurd (vl (oy j) (wy i.sz h)) (De _)
def Inv.cne(i:Inv X NN Z H s):∀x c,X.env.cells.lookup x=J c->c≠X.env.locals:=λx c e z=>by
 obtain⟨v,o,u,hd⟩:=i.cell x c e;obtain⟨m,⟨B,y,C,j,l,_⟩,_⟩:=i.loc;rw[z,j]at u;cases u;rw[l]at hd;cases hd
def Inv.funs(i:Inv X NN Z H s):s.heap.FunFrames X.base X.outer:=by
 have all:∀(l:List Env),(∀b∈BL l,b∈X.fs)->X.s₀.heap.FunFrames X.base l->s.heap.FunFrames X.base l:=by
  intro l
  induction l with
  |nil=>intro _ _;trivial
  |cons env r y =>
   intro u hl;obtain⟨C,⟨L,o,hf,E,B,hd⟩,hr⟩:=hl;have hL:=u L (by unfold BL;rw[Pz,hf];exact C8);obtain⟨F,e⟩:=i.base.slot L o B (i.ok.frf L hL) hL λz=>i.ok.exfs L z hL;exact⟨C,⟨L,_,hf,E,e,hd⟩,y (λb j=>u b (by unfold BL;rw[Pz,hf];exact pW _ j)) hr⟩
 exact all X.outer (λ_ j=>j) i.ok.funs
def Inv.stack(i:Inv X NN Z H s):s.heap.FunFrames X.base X.stack:=by
 rcases i.ok.stk with e|⟨e,hf⟩
 .rw[e];exact i.funs
 .rw[e];obtain⟨m,j,_⟩:=i.loc;refine .cons (by rw[i.ok.kind];decide) hf j ?_ i.funs;exact Py (wy i.ok.bsz i.ok.above)
def Inv.stkSub(j:Inv X NN Z H s):∀b∈BL X.stack,b∈X.env.locals::X.fs:=λb i=>by
 rcases j.ok.stk with e|⟨e,hf⟩
 .rw[e]at i;exact pW _ i
 .rw[e]at i;unfold BL at i;rw[Pz,hf]at i;exact i
def Inv.stkFree(i:Inv X NN Z H s):∀b∈BL X.stack,H b=Y:=λb j=>by
 rcases ki.mp (i.stkSub b j)with e|j
 .rw[e];exact i.free
 .obtain⟨_,o,l,_⟩:=i.ok.funs.mem j;exact i.base.free b o l (i.ok.frf b j) λz=>i.ok.exfs b z j
def Inv.step{g':Array GenState}{t':Nat}{d':Drawn}{ch:VQ}(j:Inv X NN Z H s)(E:∀b∈ch,(b∈X.ex\/X.s₀.heap.objs.size<=b)/\b≠X.env.locals/\(∀x c,X.env.cells.lookup x=J c->c≠b)/\∀p∈X.pn++NN,p.1≠b)(keep:∀b o,b≠X.env.locals->b∉X.fs->b∉ch->s.heap.get? b=J o->H b=Y->h'.get? b=J o)(slot:∀b o,b≠X.env.locals->b∈X.fs->b∉ch->s.heap.get? b=J o->H b=Y->∃R,h'.get? b=J { o with slots:=R})(free:∀b o,b∉ch->s.heap.get? b=J o->H b=Y->H' b=Y)(there:∀b o,b∉ch->s.heap.get? b=J o->∃P,h'.get? b=J P)(tups:∀b xs,H b=J (.tup xs)->H' b=J (.tup xs))(frzs:∀b o u,H b=J (.frz o u)->H' b=J (.frz o u))(tbls:∀b ps,H b=J (.tbl ps)->∃M,H' b=J (.tbl (ps++M)))(ns:∀m,s.heap.Ns X.env.locals m->h'.Ns X.env.locals m)(hok:HOk X.prog X.w H' h')(hg:AllBare g'):
  Inv X NN Z H' { s with heap:=h',gens:=g',drawn:=d',toks:=t'}:=by
 have Q:∀b o,X.s₀.heap.get? b=J o->b≠X.env.locals:=λb o e=>yB (vl (oy e) j.ok.above);have F:∀b o,X.s₀.heap.get? b=J o->b∉X.ex->b∉ch:=λb o e y G=>by
  rcases(E b G).1 with z|z
  .exact y z
  .exact absurd (vl (oy e) z) (De _)
 have C:∀x c,X.env.cells.lookup x=J c->∀v,s.heap.IsCell c v->h'.IsCell c v:=λx c e v ⟨o,L,hd⟩=>by
  have B:c∉ch:=λz=>(E c z).2.2.1 x c e rfl;by_cases W:c∈X.fs
  .obtain⟨R,q⟩:=slot c o (j.cne x c e) W B L (j.freeC x c e);exact⟨_,q,hd⟩
  .exact⟨o,keep c o (j.cne x c e) W B L (j.freeC x c e),hd⟩
 refine⟨j.ok,j.os,hg,⟨λb o e n G y=>?_,λb o e n G y=>?_,λb o e n y=>?_,λb o e y=>?_,λb xs e=>tups b xs (j.base.tups b xs e),λb o xs e=>frzs b o xs (j.base.frzs b o xs e),λb ps e=>?_⟩,?_,λx c e=>?_,?_,λx c e=>?_,λp hp=>?_,hok,j.len⟩
 .exact keep b o (Q b o e) G (F b o e y) (j.base.keep b o e n G y) (j.base.free b o e n y)
 .obtain⟨R,e1⟩:=j.base.slot b o e n G y;obtain⟨S,e2⟩:=slot b _ (Q b o e) G (F b o e y) e1 (j.base.free b o e n y);exact⟨S,e2⟩
 .obtain⟨P,e1⟩:=j.base.there b o e y;exact free b P (F b o e y) e1 (j.base.free b o e n y)
 .obtain⟨P,e1⟩:=j.base.there b o e y;exact there b P (F b o e y) e1
 .obtain⟨m1,e1⟩:=j.base.tbls b ps e;obtain⟨m2,e2⟩:=tbls b _ e1;exact⟨m1++m2,by rw[e2,Array.append_assoc]⟩
 .obtain⟨m,hn,hl⟩:=j.loc;refine⟨m,ns m hn,λi x v e1 e2 e3=>?_⟩;obtain⟨u,r,l⟩:=hl i x v e1 e2 e3;refine⟨u,r,?_⟩;rcases l with l|⟨k,c,e,z⟩
  .exact .inl l
  .exact .inr ⟨k,c,e,C x c e _ z⟩
 .obtain⟨v,z⟩:=j.cell x c e;exact⟨v,C x c e v z⟩
 .obtain⟨m,⟨o,_,_,L,_⟩,_⟩:=j.loc;exact free _ o (λz=>(E _ z).2.1 rfl) L j.free
 .obtain⟨v,o,L,hd⟩:=j.cell x c e;exact free c o (λz=>(E c z).2.2.1 x c e rfl) L (j.freeC x c e)
 .obtain⟨e,n,ne,U,d⟩:=j.pin p hp;have B:p.1∉ch:=λz=>(E p.1 z).2.2.2 p hp rfl;exact⟨keep p.1 p.2 ne U B e n,free p.1 p.2 B e n,ne,U,d⟩
def Inv.un{t':Nat}(i:Inv X NN Z H s)(u:Un X.fs [] H H' s.heap h')(hok:HOk X.prog X.w H' h'):Inv X NN Z H' { s with heap:=h',toks:=t'}:=by
 obtain⟨m,⟨o,P,G,C,r⟩,_⟩:=id i.loc;obtain⟨M,hL⟩:=u.any C i.free (by simp)
 exact i.step (g':=s.gens) (d':=s.drawn) (ch:=[]) (λ_ z=>nomatch z) (λb o _ B _ e n=>u.keep b o e n B (by simp)) (λb o _ B _ e n=>u.slot b o e n B (by simp)) (λb o _ e n=>u.free b o e n (by simp)) (λb o _ e=>u.there b o e (by simp)) u.tups u.frzs u.tbls (λL F=>by
  obtain⟨Q,y,l,j,E⟩:=F;rw[C]at j;cases j
  exact⟨_,y,l,hL,E⟩) hok i.bare
def Inv.call{g':Array GenState}{t':Nat}{d':Drawn}{F:VQ}(i:Inv X NN Z H s)(u:Un (BL X.stack) F H H' s.heap h')(hok:HOk X.prog X.w H' h')(hg:AllBare g')(l:∀b∈F,(b∈X.ex\/X.s₀.heap.objs.size<=b)/\b≠X.env.locals/\(∀x c,X.env.cells.lookup x=J c->c≠b)/\∀p∈X.pn++NN,p.1≠b):
  Inv X NN Z H' { s with heap:=h',gens:=g',drawn:=d',toks:=t'}:=by
 obtain⟨m,⟨o,S,P,E,r⟩,_⟩:=id i.loc;obtain⟨R,hL⟩:=u.any E i.free λz=>(l _ z).2.1 rfl
 exact i.step l (λb o hL M j e n=>u.keep b o e n (λz=>(ki.mp (i.stkSub b z)).elim hL M) j) (λb o _ _ j e n=>u.any e n j) (λb o j e n=>u.free b o e n j) (λb o j e=>u.there b o e j) u.tups u.frzs u.tbls (λQ L=>by
  obtain⟨U,C,B,y,G⟩:=L;rw[E]at y;cases y
  exact⟨_,C,B,hL,G⟩) hok hg
def Inv.turned{t':Nat}{i:Addr}(l:Inv X NN Z H s)(k:∀b o,b≠i->s.heap.get? b=J o->h'.get? b=J o)(Q:H i=Y)(hL:i≠X.env.locals)(F:i∈X.ex\/X.s₀.heap.objs.size<=i)(B:∀x c,X.env.cells.lookup x=J c->c≠i)(M:∀p∈X.pn++NN,p.1≠i):Inv X NN Z H { s with heap:=h',toks:=t'}:=by
 have y:∀b u,H b=J u->b≠i:=λb u e z=>by rw[z,Q]at e;cases e
 refine l.step (g':=s.gens) (d':=s.drawn) (ch:=[i]) (λb L=>?_) (λb o _ _ j e _=>k b o (λz=>j (by simp[z])) e) (λb o _ _ j e _=>⟨o.slots,k b o (λz=>j (by simp[z])) e⟩) (λ_ _ _ _ n=>n)
  (λb o j e=>⟨o,k b o (λz=>j (by simp[z])) e⟩) (λ_ _ e=>e) (λ_ _ _ e=>e) (λb ps e=>⟨#[],by rw[e];simp⟩) (λm E=>?_) (λb u e=>?_) l.bare
 .have e:b=i:=by simpa using L
  subst e;exact⟨F,hL,B,M⟩
 .obtain⟨o,P,C,G,r⟩:=E;exact⟨o,P,C,k _ o (Ne.symm hL) G,r⟩
 .refine (l.hok b u e).stay (λc v j q=>k c v ?_ q) (λ_ q=>q) λ_ _ q=>q;rcases j with z|z
  .rw[z];exact y b u e
  .exact y c _ z
def Inv.tok(i:Inv X NN Z H s)(t:Nat):Inv X NN Z H { s with toks:=t}:=i.un (h':=s.heap) (t':=t) Un.refl i.hok
def Inv.kept(i:Inv X NN Z H s)(k:∀b u,s.heap.get? b=J u->h'.get? b=J u):Inv X NN Z H { s with heap:=h',toks:=t'}:=i.un (Un.kept k) (i.hok.kept k)
def Inv.laid{a:Addr}{o:HO}{t':Nat}(i:Inv X NN Z H s)(k:∀b u,s.heap.get? b=J u->h'.get? b=J u)(j:s.heap.objs.size<=a)(new:ObjOk X.prog X.w (upd H a o) h' a o):
  Inv X NN Z (upd H a o) { s with heap:=h',toks:=t'}:=i.un (Un.laid k j (i.hok.fresh j)) (i.hok.laid k j new)
def Inv.write(i:Inv X NN Z H s)(l:PQ (H x))(y:e=x\/H e=J (.own x))(k:∀b u,b≠e->s.heap.get? b=J u->h'.get? b=J u)(j:∃u,h'.get? e=J u)(new:ObjOk X.prog X.w (upd H x o) h' x o):Inv X NN Z (upd H x o) { s with heap:=h',toks:=t'}:=i.un (Un.write l y k j) (i.hok.write l y k j new)
def Inv.pins_of(i:Inv X NN Z H s)(h:∀p∈j,s.heap.get? p.1=J p.2/\H p.1=Y/\p.1≠X.env.locals/\p.1∉X.fs/\∀v,p.2.data≠.cell v):Inv X j Z H s :=
 ⟨i.ok,i.os,i.bare,i.base,i.loc,i.cell,i.free,i.freeC,λp l=>(v_.mp l).elim (λz=>i.pin p (C7 _ z)) (h p),i.hok,i.len⟩
def kc{N:VL}(hN:N.Nodup){i j:Nat}{x:Str}(a:N[i]?=J x)(b:N[j]?=J x):i=j:=by obtain⟨l,e1⟩:=w_.mp a;obtain⟨u,e2⟩:=w_.mp b;exact(List.getElem_inj hN).mp (e1.trans e2.symm)
def zj{M:Model}{A:Around}{E:VX}{i:Nat}{x:Str}{v:V}{u:Value}{Q:Unit->Shared->Prop}(l:Inv X NN Z H s)(hN:X.N.Nodup)(hi:X.N[i]?=J x)(G:Loc X.env.scope x)(r:bh v u)(h:∀s',Inv X NN (Z.set i (J v)) H s'->(∃a,Heap.SameBut a s.heap s'.heap/\(a=X.env.locals\/X.env.cells.lookup x=J a))->Q () s')(hf:X.fn x=I\/X.env.scope.names.lookup x=J .local:=by first | exact .inl rfl | exact .inr rfl | assumption):wpAny M A (storeName X.env x u) Q E s:=by
 obtain⟨m,hn,hl⟩:=id l.loc;have ag:(X.env.scope.kind == .class||(X.env.scope.kind == .module&&X.env.locals != X.env.globals))=T:=by rw[l.ok.kind];rfl
 have P:i<Z.length:=by rw[l.len];exact(w_.mp hi).1
 have cne:=l.cne;have C:∀{a:Addr}{h':Heap},(∃o,s.heap.get? a=J o/\H a=Y)->Heap.SameBut a s.heap h'->HOk X.prog X.w H h':=λ{a h'} ha B b ob e=>by
  obtain⟨_,_,L⟩:=ha;refine(l.hok b ob e).stay (λc w' F q=>(B.2 c ?_).trans q) (λ_ q=>q) λ_ _ q=>q;rintro rfl;rcases F with rfl|F
  .rw[L]at e;cases e
  .rw[L]at F;cases F
 rcases G with R|R
 .refine wpAny_storeName_local R hn (λh' an B=>?_) ag;obtain⟨oL,_,_,ap,_⟩:=id hn;refine h _ ⟨l.ok,l.os,l.bare,⟨λb o e n W G=>?_,λb o e n W G=>?_,l.base.free,λb o e G=>?_,l.base.tups,l.base.frzs,l.base.tbls⟩,⟨_,an,λj y v' e1 e2 e3=>?_⟩,λy c e=>?_,l.free,l.freeC,λp hp=>?_,C ⟨oL,ap,l.free⟩ B,by simpa using l.len⟩ ⟨_,B,.inl rfl⟩
  .exact (B.2 b (yB (vl (oy e) l.ok.above))).trans (l.base.keep b o e n W G)
  .obtain⟨sl,e1⟩:=l.base.slot b o e n W G;exact⟨sl,(B.2 b (yB (vl (oy e) l.ok.above))).trans e1⟩
  .obtain⟨o',e1⟩:=l.base.there b o e G;exact⟨o',(B.2 b (yB (vl (oy e) l.ok.above))).trans e1⟩
  .by_cases U:j=i
   .subst U;rw[hi]at e1;cases e1;rw[B6 P]at e2;cases e2;exact⟨u,r,.inl ⟨R,by simp⟩⟩
   .rw[pk (Ne.symm U)]at e2;obtain⟨u',r',q⟩:=hl j y v' e1 e2 e3;refine⟨u',r',?_⟩;rcases q with⟨k,e⟩|⟨k,c,e,z⟩
    .refine .inl ⟨k,?_⟩
     have:y≠x:=λe=>U (kc hN e1 (e▸hi))
     simp[this,e]
    .exact .inr ⟨k,c,e,z.sameBut B (cne y c e)⟩
  .obtain⟨w',z⟩:=l.cell y c e;exact⟨w',z.sameBut B (cne y c e)⟩
  .obtain⟨e,n,ne,nf,d⟩:=l.pin p hp;exact⟨(B.2 p.1 ne).trans e,n,ne,nf,d⟩
 .have S:X.fn x=I:=by
   rcases hf with z|z
   .exact z
   .rw[z]at R;cases R
  obtain⟨c,F⟩:=l.ok.has x (.inl R);obtain⟨w',z⟩:=l.cell x c F;refine wpAny_storeName_cell l.ok.kind R F z (λh' ac B=>?_);obtain⟨oc,aa,ab⟩:=id z;refine h { s with heap:=h'} ⟨l.ok,l.os,l.bare,⟨λb o e n W G=>?_,λb o e n W G=>?_,l.base.free,λb o e G=>?_,l.base.tups,l.base.frzs,l.base.tbls⟩,⟨m,hn.sameBut B (Ne.symm (cne x c F)),λj y v' e1 e2 e3=>?_⟩,λy c' e=>?_,l.free,l.freeC,λp hp=>?_,C ⟨oc,aa,l.freeC x c F⟩ B,by simpa using l.len⟩ ⟨c,B,.inr F⟩
  .exact (B.2 b (yB (vl (oy e) (l.ok.cab x c S F)))).trans (l.base.keep b o e n W G)
  .obtain⟨sl,e1⟩:=l.base.slot b o e n W G;exact⟨sl,(B.2 b (yB (vl (oy e) (l.ok.cab x c S F)))).trans e1⟩
  .obtain⟨o',e1⟩:=l.base.there b o e G;exact⟨o',(B.2 b (yB (vl (oy e) (l.ok.cab x c S F)))).trans e1⟩
  .by_cases U:j=i
   .subst U;rw[hi]at e1;cases e1;rw[B6 P]at e2;cases e2;exact⟨u,r,.inr ⟨.inl R,c,F,ac⟩⟩
   .rw[pk (Ne.symm U)]at e2;obtain⟨u',r',q⟩:=hl j y v' e1 e2 e3;refine⟨u',r',?_⟩;rcases q with q|⟨k,c',e,z'⟩
    .exact .inl q
    .refine .inr ⟨k,c',e,z'.sameBut B ?_⟩;rintro rfl;exact U (kc hN e1 (l.ok.inj _ _ _ e F▸hi))
  .by_cases ak:c'=c
   .subst ak;exact⟨_,ac⟩
   .obtain⟨w2,z2⟩:=l.cell y c' e;exact⟨w2,z2.sameBut B ak⟩
  .obtain⟨e,n,ne,nf,d⟩:=l.pin p hp;refine⟨(B.2 p.1 ?_).trans e,n,ne,nf,d⟩;intro q;rw[q,aa]at e;have q':oc=p.2:=Option.some.inj e;exact d w' (by rw[<-q'];exact ab)
def iJ(l:Inv X NN Z H s)(hN:X.N.Nodup)(y:X.N[i]?=J x)(B:Loc X.env.scope x)(r:bh v u)(h:∀j,Inv X NN (Z.set i (J v)) H j->Q () j)(hf:X.fn x=I\/X.env.scope.names.lookup x=J .local:=by first | exact .inl rfl | exact .inr rfl | assumption):wpAny M A (storeName X.env x u) Q E s :=
 zj l hN y B r (λj z _=>h j z) hf
def Inv.call'(j:Inv X NN Z H s)(z:s'.os=s.os)(u:Un (BL X.stack) ch H H' s.heap s'.heap)(hok:HOk X.prog X.w H' s'.heap)(hg:AllBare s'.gens)(i:∀b∈ch,(b∈X.ex\/X.s₀.heap.objs.size<=b)/\b≠X.env.locals/\(∀x c,X.env.cells.lookup x=J c->c≠b)/\∀p∈X.pn++NN,p.1≠b):Inv X NN Z H' s':=by
 obtain⟨h',l,B,y,C⟩:=s';have e:=z;subst e;exact j.call (g':=l) (t':=y) (d':=B) u hok hg i
end
abbrev XK:=Value->VC->Hp->Prop
abbrev St:=List (Option V)
abbrev VK:=V->Hp->Prop
abbrev TE:=St->Hp->VK->Prop
abbrev TT:=St->Hp->(Bool->Hp->Prop)->Prop
abbrev TA:=St->Hp->(List V->Hp->Prop)->Prop
structure Ends where
 nx:St->Hp->Prop
 rt:VK
 bk:St->Hp->Prop:=λ_ _=>False
 ct:St->Hp->Prop:=λ_ _=>False
abbrev TS:=Ends->St->Hp->Prop
inductive EP(X:Cx)(NN:VS)(Z:St)(Q:VK)(u:Value)(s':Shared):Prop
 |mk(v:V)(H':Hp)(i:Inv X NN Z H' s')(r:bh v u)(q:Q v H'):EP X NN Z Q u s'
inductive TP(X:Cx)(NN:VS)(Z:St)(Q:Bool->Hp->Prop)(b:Bool)(s':Shared):Prop
 |mk(H':Hp)(i:Inv X NN Z H' s')(q:Q b H'):TP X NN Z Q b s'
inductive AP(X:Cx)(NN:VS)(Z:St)(Q:List V->Hp->Prop)(us:VR)(s':Shared):Prop
 |mk(vs:List V)(H':Hp)(i:Inv X NN Z H' s')(r:aV vs us)(q:Q vs H'):AP X NN Z Q us s'
inductive SN(X:Cx)(NN:VS)(Q:St->Hp->Prop)(s':Shared):Prop
 |mk(Z':St)(H':Hp)(i:Inv X NN Z' H' s')(q:Q Z' H'):SN X NN Q s'
inductive SR(X:Cx)(NN:VS)(Q:VK)(u:Value)(s':Shared):Prop
 |mk(v:V)(Z':St)(H':Hp)(i:Inv X NN Z' H' s')(r:bh v u)(q:Q v H'):SR X NN Q u s'
def SP(X:Cx)(j:VS)(D:Ends)(f:Flow)(i:Shared):Prop :=
 match f with
 |.next=>SN X j D.nx i
 |.brk=>SN X j D.bk i
 |.cont=>SN X j D.ct i
 |.ret u=>SR X j D.rt u i
def PE(X:Cx)(e:Expr)(t:TE):Prop :=
 ∀(i:VS)(s:Shared)(Z:St)(H:Hp)(Q:VK),Inv X i Z H s->t Z H Q->wpAny (model X.prog X.w) X.A (eval e X.env) (EP X i Z Q) X.xe s
def PT(X:Cx)(e:Expr)(t:TT):Prop :=
 ∀(i:VS)(s:Shared)(Z:St)(H:Hp)(Q:Bool->Hp->Prop),Inv X i Z H s->t Z H Q->wpAny (model X.prog X.w) X.A (isTrue e X.env (eval e X.env)) (TP X i Z Q) X.xe s
def PW(X:Cx)(e:Expr)(t:TT):Prop :=
 ∀(i:Sem Value)(j:VS)(s:Shared)(Z:St)(H:Hp)(Q:Bool->Hp->Prop),Inv X j Z H s->t Z H Q->wpAny (model X.prog X.w) X.A (isTrue e X.env i) (TP X j Z Q) X.xe s
def PW.pt(h:PW X e t):PT X e t:=h _
def PA(X:Cx)(l:VV)(t:TA):Prop :=
 ∀(i:Pos)(j:VS)(s:Shared)(Z:St)(H:Hp)(Q:List V->Hp->Prop),Inv X j Z H s->t Z H Q->wpAny (model X.prog X.w) X.A (spliced (backTo i (starEach l X.env))) (AP X j Z Q) X.xe s
def PS(X:Cx)(st:Stmt)(t:TS):Prop :=
 ∀(i:VS)(s:Shared)(Z:St)(H:Hp)(D:Ends),Inv X i Z H s->t D Z H->wpAny (model X.prog X.w) X.A (exec st X.env) (SP X i D) X.xe s
def PSs(X:Cx)(st:VB)(t:TS):Prop :=
 ∀(i:VS)(s:Shared)(Z:St)(H:Hp)(D:Ends),Inv X i Z H s->t D Z H->wpAny (model X.prog X.w) X.A (execs st X.env) (SP X i D) X.xe s
def kP(h:wpAny M A t Q E s)(i:∀a s,Q a s->Q' a s):wpAny M A t Q' E s:=wpAny_mono h i λ_ _ x=>x
section
variable{X:Cx}
def vh(i:Nat):TE:=λZ H Q=>∃v,Z[i]?=J (J v)/\Q v H
def tC(v:V):TE:=λ_ H Q=>Q v H
def lD{i:Nat}{x:Str}{pos:Pos}(hN:X.N[i]?=J x)(hv:Eo X.env.scope x)(hd:(x==("__debug__":Str))=T:=by decide)(B:(x==("__classdict__":Str))=T:=by decide):PE X (.Name x pos) (vh i):=by
 intro E s Z H Q y h;obtain⟨v,e,h⟩:=h;obtain⟨m,G,hl⟩:=y.loc;obtain⟨u,r,l⟩:=hl i x v hN e hv;have fin:EP X E Z Q u s:=⟨v,H,y,r,h⟩;rcases l with⟨z,F⟩|⟨z,c,C,j⟩
 .exact wpAny_Name (wpAny_loadName_local y.ok.kind z G F fin) hd
 .rcases z with z|z
  .exact wpAny_Name (wpAny_loadName_cell y.ok.kind z C j fin) hd
  .exact wpAny_Name (wpAny_loadName_free y.ok.kind z C j fin B) hd
def HW{i j pos}:PE X (.Constant (.int i) j pos) (tC (.int i)):=λ_ _ _ H _ l h=>wpAny_Constant_int ⟨.int i,H,l.tok _,⟨_,rfl⟩,h⟩
def L9{b j pos}:PE X (.Constant (.bool b) j pos) (tC (.bl b)):=λ_ _ _ H _ i h=>Constant_bool ⟨.bl b,H,i,rfl,h⟩
def HX{j pos}:PE X (.Constant .none j pos) (tC .non):=λ_ _ _ H _ i h=>Constant_none ⟨.non,H,i,rfl,h⟩
def HY{x j pos}:PE X (.Constant (.str x) j pos) (tC (.str x)):=λ_ _ _ H _ i h=>Calls.Constant_str ⟨.str x,H,i.tok _,⟨_,rfl⟩,h⟩
def Gl(X:Cx)(x:Str):Prop:=X.env.kindOf x=J .globalImplicit
def oZ{E:VX}{l:VS}{s:Shared}{Z:St}{H:Hp}{x:Str}{u:Value}{j:Pos}{Q:VX}(i:Inv X l Z H s)(hg:Gl X x)(y:X.mg x=J u)(h:Q u s)(hd:(x==("__debug__":Str))=T:=by decide):wpAny (model X.prog X.w) X.A (eval (.Name x j) X.env) Q E s :=
 Calls.Name_function_global i.ok.kind hg (Calls.loadGlobal_global (by rw[i.ok.glob];exact i.mod.glob.keeps i.bk) y h) hd
def lj{E:VX}{y:VS}{s:Shared}{Z:St}{H:Hp}{x:Str}{u:Value}{j:Pos}{Q:VX}(i:Inv X y Z H s)(hg:Gl X x)(z:X.mg x=Y)(hv:bootBuiltins x=J u)(h:Q u s)(C:x≠"__name__":=by decide)(hd:(x==("__debug__":Str))=T:=by decide):wpAny (model X.prog X.w) X.A (eval (.Name x j) X.env) Q E s:=by
 obtain⟨mb,B,l⟩:=i.mod.blt;exact Calls.Name_function_global i.ok.kind hg (Calls.loadGlobal_builtin (by rw[i.ok.glob];exact i.mod.glob.keeps i.bk) z (by rw[i.ok.blt];exact B.keeps i.bk) ((l x C).trans hv) h) hd
def ly(hg:Gl X x)(j:X.mg x=J u)(r:bh v u)(hd:(x==("__debug__":Str))=T:=by decide):PE X (.Name x pos) (tC v) :=
 λ_ _ _ H _ i h=>oZ i hg j ⟨v,H,i,r,h⟩ hd
def xk{x:Str}{v:V}{u:Value}{j:Pos}(hg:Gl X x)(l:X.mg x=Y)(hv:bootBuiltins x=J u)(r:bh v u)(y:x≠"__name__":=by decide)(hd:(x==("__debug__":Str))=T:=by decide):PE X (.Name x j) (tC v) :=
 λ_ _ _ H _ i h=>lj i hg l hv ⟨v,H,i,r,h⟩ y hd
variable{a b:Expr}{ta tb:TE}{pos:Pos}
def tB(t:TE):TT:=λZ H Q=>t Z H λx i=>∃c,x=.bl c/\Q c i
def HZ(h:PE X e t)(y:∀i,isTrue e X.env i=(do let v <-i;standAt e.pos;holding [v] (truthy v)):=by intro _;rfl):PT X e (tB t):=by intro z s Z H Q j hw;refine isTrue_plain (kP (h z s Z H _ j hw) λv s1 ⟨x,u,B,r1,l⟩=>?_) (y _);obtain⟨d,rfl,q⟩:=l;cases r1;exact wpAny_truthy_bool ⟨u,B,q⟩
variable{tA tB':TT}{rest:VV}
def Rg(t u:TT):TT:=λZ H Q=>t Z H λc i=>if c=I then u Z i Q else Q T i
def Uw(t u:TT):TT:=λZ H Q=>t Z H λc i=>if c=I then Q I i else u Z i Q
def Rh(t:TT):TT:=λZ H Q=>t Z H λc i=>Q (!c) i
def Ep(l:PT X a tA):PW X (.BoolOp .And [a] pos) tA:=by
 intro u j s Z H Q i h;refine isTrue_and (kP (l j s Z H Q i h) λc s1 e=>?_)
 cases c with
 |true=>exact isTrue_and_nil e
 |false=>exact e
def H_(l:PT X a tA):PW X (.BoolOp .Or [a] pos) tA:=by
 intro u j s Z H Q i h;refine isTrue_or (kP (l j s Z H Q i h) λc s1 e=>?_)
 cases c with
 |false=>exact isTrue_or_nil e
 |true=>exact e
def Ia(C:PT X a tA)(B:PW X (.BoolOp .And (b::rest) pos) tB'):PW X (.BoolOp .And (a::b::rest) pos) (Rg tA tB'):=by
 intro z l s Z H Q i h;refine isTrue_and (kP (C l s Z H _ i h) λc s1 ⟨y,u,j⟩=>?_)
 cases c with
 |true=>exact B z l s1 Z y Q u j
 |false=>exact⟨y,u,j⟩
def L_(C:PT X a tA)(B:PW X (.BoolOp .Or (b::rest) pos) tB'):PW X (.BoolOp .Or (a::b::rest) pos) (Uw tA tB'):=by
 intro z l s Z H Q i h;refine isTrue_or (kP (C l s Z H _ i h) λc s1 ⟨y,u,j⟩=>?_)
 cases c with
 |true=>exact⟨y,u,j⟩
 |false=>exact B z l s1 Z y Q u j
def Ib(y:PT X a tA):PT X (.UnaryOp .Not a pos) (Rh tA):=by intro l s Z H Q i h;exact isTrue_not (kP (y l s Z H (λc j=>Q (!c) j) i h) λ_ _ ⟨j,u,q⟩=>⟨j,u,q⟩)
def Ma(ta tb:TE):TE:=λZ H Q=>ta Z H λx i=>∃c,x=.bl c/\if c=I then tb Z i Q else Q (.bl T) i
def Mb(ta:TE):TE:=λZ H Q=>ta Z H λx i=>∃c,x=.bl c/\Q (.bl (!c)) i
def Ic{op}(h:PE X a t):PE X (.BoolOp op [a] pos) t:=λj s Z H Q i hw=>BoolOp_one (h j s Z H Q i hw)
def Ie(B:PE X a ta)(z:PE X (.BoolOp .And (b::rest) pos) tb):PE X (.BoolOp .And (a::b::rest) pos) (Ma ta tb):=by
 intro u s Z H Q j h;refine BoolOp_and (kP (B u s Z H _ j h) λv s1 ⟨x,l,y,r1,i⟩=>?_);obtain⟨c,rfl,i⟩:=i;cases r1;refine wpAny_truthy_bool ?_
 cases c with
 |true=>exact z u s1 Z l Q y i
 |false=>exact⟨.bl T,l,y,rfl,i⟩
def Ig(z:PE X a ta):PE X (.UnaryOp .Not a pos) (Mb ta):=by intro l s Z H Q i h;refine UnaryOp_ (kP (z l s Z H _ i h) λv s1 ⟨x,y,u,r1,j⟩=>?_);obtain⟨c,rfl,j⟩:=j;cases r1;exact not_of (wpAny_truthy_bool ⟨.bl (!c),y,u,rfl,j⟩)
def Ux(t:TT)(ta tb:TE):TE:=λZ H Q=>t Z H λc i=>if c=I then ta Z i Q else tb Z i Q
def A8(z:PT X c tA)(C:PE X a ta)(B:PE X b tb):PE X (.IfExp c a b pos) (Ux tA ta tb):=by
 intro j s Z H Q i h;refine wpAny_IfExp (kP (z j s Z H _ i h) λd s1 ⟨y,u,l⟩=>?_)
 cases d with
 |true=>exact C j s1 Z y Q u l
 |false=>exact B j s1 Z y Q u l
end
def SqL(K:hW)(H:Hp)(a:Addr)(xs:List V):Prop :=
 Rd H a (.lst xs) \/
  ∃(o:Obj) (i:Array Value) (n:Nat),K.lookup a=J o/\o.cls=.type "list"/\o.dict=Y/\o.data=.seq i n/\i.size<=sizeLine/\aV xs i.toList
def SqT(K:hW)(H:Hp)(a:Addr)(xs:List V):Prop :=
 Rd H a (.tup xs) \/
  ∃(o:Obj) (i:Array Value) (n:Nat),K.lookup a=J o/\o.cls=.type "tuple"/\(o.data=.seq i n/\o.dict=Y)/\i.size<=sizeLine/\aV xs i.toList
def Ri:Value->Option V
 |.none=>J .non
 |.bool b=>J (.bl b)
 |.int i _=>J (.int i)
 |.str x _=>J (.str x)
 |.bytes b _=>J (.byt b)
 |.float b _=>J (.flt b)
 |.ref a=>J (.ref a)
 |.type n=>J (.ty n)
 |_=>Y
def bh.abs(r:bh x u):Ri u=J x:=by
 cases x with
 |non=>cases r;rfl
 |bl _=>cases r;rfl
 |int _=>obtain⟨t,rfl⟩:=r;rfl
 |str _=>obtain⟨t,rfl⟩:=r;rfl
 |byt _=>obtain⟨t,rfl⟩:=r;rfl
 |flt _=>obtain⟨t,rfl⟩:=r;rfl
 |ref _=>cases r;rfl
 |ty _=>cases r;rfl
def bh.inj(r:bh x u)(q:bh y u):x=y:=Option.some.inj (r.abs.symm.trans q.abs)
def aV.inj(r:aV xs us)(q:aV ys us):xs=ys:=by
 induction r generalizing ys with
 |nil=>cases q;rfl
 |cons r t j=>cases q with|cons l i=>rw[r.inj l,j i]
section
variable{X:Cx}{NN:List (Addr × Obj)}{Z:St}{H:Hp}{s:Shared}{a:Addr}{xs ys:List V}
def SqL.of{K:hW}(h:H a=J (.lst xs)):SqL K H a xs:=.inl (.inl h)
def SqT.of{K:hW}(h:H a=J (.tup xs)):SqT K H a xs:=.inl (.inl h)
def Inv.list(j:Inv X NN Z H s)(h:SqL X.K H a xs):∃i:VR,aV xs i/\PlainL s.heap a i.toArray/\xs.length<=sizeLine:=by
 rcases h with h|⟨o,i,n,y,l,hd,u,B,r⟩
 .obtain⟨z,i,n,r,e⟩:=h.ok j.hok;exact⟨i,r,⟨_,n,e,rfl,rfl,rfl⟩,z⟩
 .refine⟨i.toList,r,⟨o,n,j.kIn a o y,l,hd,by simpa using u⟩,?_⟩;have e:=r.length
  grind
def Inv.tupleN(j:Inv X NN Z H s)(h:SqT X.K H a xs):∃i:VR,aV xs i/\jc s.heap a i.toArray/\xs.length<=sizeLine:=by
 rcases h with h|⟨o,i,n,y,u,l,B,r⟩
 .obtain⟨z,i,r,p⟩:=h.ok j.hok;exact⟨i,r,p,z⟩
 .refine⟨i.toList,r,⟨o,j.kIn a o y,u,⟨n,by simpa using l.1⟩,l.2⟩,?_⟩;have e:=r.length
  grind
def Inv.tuple(j:Inv X NN Z H s)(h:SqT X.K H a xs):∃i:VR,aV xs i/\IsTup s.heap a i.toArray/\xs.length<=sizeLine :=
 let⟨i,r,p,z⟩:=j.tupleN h
 ⟨i,r,p.tup,z⟩
def Inv.list_inj(i:Inv X NN Z H s)(h:SqL X.K H a xs)(B:SqL X.K H a ys):xs=ys:=by
 obtain⟨l,r,⟨o,n,e,_,_,d⟩,_⟩:=i.list h;obtain⟨j,z,⟨C,E,y,_,_,u⟩,_⟩:=i.list B;rw[e]at y;cases y;rw[d]at u;injection u with d1 _
 have:l=j:=by simpa using congrArg Array.toList d1
 subst this;exact r.inj z
def Inv.tuple_inj(i:Inv X NN Z H s)(h:SqT X.K H a xs)(B:SqT X.K H a ys):xs=ys:=by
 obtain⟨l,r,⟨o,e,_,n,d⟩,_⟩:=i.tuple h;obtain⟨j,z,⟨C,y,_,E,u⟩,_⟩:=i.tuple B;rw[e]at y;cases y;rw[d]at u;injection u with d1 _
 have:l=j:=by simpa using congrArg Array.toList d1
 subst this;exact r.inj z
end
abbrev Cx.wish(X:Cx)(E:VX):Cx:={ X with xe:=E}
abbrev Cx.nox(X:Cx):Cx:=X.wish λ_ _=>False
def Cx.Ok.wish{X:Cx}(ok:X.Ok)(E:VX):(X.wish E).Ok :=
 ⟨ok.mod,ok.kind,ok.glob,ok.blt,ok.above,ok.inj,ok.has,ok.cab,ok.hd,ok.frames,ok.stk,ok.exf,ok.bs,ok.bsz,ok.noex,ok.exfs,ok.funs,ok.frf,ok.tree,ok.top⟩
def Cx.Ok.unwish{X:Cx}{E:VX}(ok:(X.wish E).Ok):X.Ok :=
 ⟨ok.mod,ok.kind,ok.glob,ok.blt,ok.above,ok.inj,ok.has,ok.cab,ok.hd,ok.frames,ok.stk,ok.exf,ok.bs,ok.bsz,ok.noex,ok.exfs,ok.funs,ok.frf,ok.tree,ok.top⟩
section
variable{X:Cx}{NN:List (Addr × Obj)}{Z:St}{H:Hp}{s:Shared}{E:VX}
def Inv.wish(i:Inv X NN Z H s)(E:VX):Inv (X.wish E) NN Z H s:=⟨i.ok.wish E,i.os,i.bare,i.base,i.loc,i.cell,i.free,i.freeC,i.pin,i.hok,i.len⟩
def Inv.unwish(i:Inv (X.wish E) NN Z H s):Inv X NN Z H s:=⟨i.ok.unwish,i.os,i.bare,i.base,i.loc,i.cell,i.free,i.freeC,i.pin,i.hok,i.len⟩
def SP.unwish(h:SP (X.wish E) NN D f s'):SP X NN D f s':=by
 cases f with
 |next=>obtain⟨l,j,i,q⟩:=h;exact⟨l,j,i.unwish,q⟩
 |brk=>obtain⟨l,j,i,q⟩:=h;exact⟨l,j,i.unwish,q⟩
 |cont=>obtain⟨l,j,i,q⟩:=h;exact⟨l,j,i.unwish,q⟩
 |ret u=>obtain⟨v,l,j,i,r,q⟩:=h;exact⟨v,l,j,i.unwish,r,q⟩
def PSs.nox{st:VB}{t:TS}(h:PSs X.nox st t):PSs X st t:=λNN s Z H D i hw =>
 wpAny_mono (h NN s Z H D (i.wish _) hw) (λ_ _ q=>q.unwish) λ_ _ z=>False.elim z
end
section
variable{X:Cx}{st:Stmt}{rest:VB}{t u:TS}{e:Expr}{te:TE}{pos:Pos}
def Mc:TS:=λD Z H=>D.nx Z H
def Er(t u:TS):TS:=λD Z H=>t { D with nx:=u D} Z H
def Es:PSs X [] Mc:=λ_ _ Z H _ i h=>wpAny_execs_nil ⟨Z,H,i,h⟩
def uS(B:PS X st t)(l:PSs X rest u):PSs X (st::rest) (Er t u):=by
 intro j s Z H D i h;refine wpAny_execs_cons (kP (B j s Z H { D with nx:=u D} i h) λf s1 q=>?_)
 cases f with
 |next =>
  obtain⟨C,z,y,q⟩:=q;exact l j s1 C z D y q
 |ret v=>exact q
 |brk=>exact q
 |cont=>exact q
def rW(j:PS X st t):PSs X [st] t:=by
 intro l s Z H D i h;refine wpAny_execs_cons (kP (j l s Z H D i h) λf s1 q=>?_)
 cases f with
 |next=>exact wpAny_execs_nil q
 |ret v=>exact q
 |brk=>exact q
 |cont=>exact q
def Inv.quiet{j:VS}{Z:St}{H:Hp}{s:Shared}(i:Inv X j Z H s):interactive X.env=T:=by simp[interactive,i.ok.kind]
def G1(te:TE):TS:=λD Z H=>te Z H λ_ i=>D.nx Z i
def w8(C:PE X e te)(y:swapsWith e Y pos.line X.env=pure T:=by rfl):PS X (.Expr e pos) (G1 te):=by intro l s Z H D i h;exact wpAny_Expr_any (kP (C l s Z H _ i h) λv s1 ⟨x,B,z,r1,j⟩=>⟨Z,B,z,j⟩) i.quiet y
def Rj(te:TE):TS:=λD Z H=>te Z H D.rt
def Ih(B:PE X e te):PS X (.Return (J e) pos) (Rj te):=by intro l s Z H D i h;exact wpAny_Return_some (kP (B l s Z H _ i h) λv s1 ⟨x,z,y,r1,j⟩=>⟨x,Z,z,y,r1,j⟩)
def Rk(c:TT)(t u:TS):TS:=λD Z H=>c Z H λb i=>if b=I then t D Z i else u D Z i
def Md(B:PT X c tc)(E:PSs X a t)(C:PSs X b u):PS X (.If c a b pos) (Rk tc t u):=by
 intro j s Z H D i h;refine wpAny_If (kP (B j s Z H _ i h) λd s1 ⟨z,y,l⟩=>?_)
 cases d with
 |true=>exact E j s1 Z z D y l
 |false=>exact C j s1 Z z D y l
end
abbrev TG:=V->St->Hp->(St->Hp->Prop)->Prop
abbrev LA:=List V->St->Hp->(St->Hp->Prop)->Prop
def PG(X:Cx)(i:Expr)(t:TG):Prop :=
 ∀(j:VS)(s:Shared)(Z:St)(H:Hp)(v:V)(u:Value)(Q:St->Hp->Prop),Inv X j Z H s->bh v u->t v Z H Q ->
  wpAny (model X.prog X.w) X.A (assign i X.env u) (λ_ l=>SN X j Q l) X.xe s
def PGs(X:Cx)(y:VV)(t:LA):Prop :=
 ∀(l:VS)(s:Shared)(Z:St)(H:Hp)(i:List V)(j:VR)(Q:St->Hp->Prop),Inv X l Z H s->aV i j->t i Z H Q ->
  wpAny (model X.prog X.w) X.A (assignInOrder ((assignEach y X.env).map (·.2)) j) (λ_ u=>SN X l Q u) X.xe s
abbrev Me:=V->V->V->Hp->(Hp->Prop)->Prop
inductive SE(X:Cx)(NN:VS)(Z:St)(Q:Hp->Prop)(s':Shared):Prop
 |mk(H':Hp)(i:Inv X NN Z H' s')(q:Q H'):SE X NN Z Q s'
def Mf(X:Cx)(t:Me):Prop :=
 ∀(l:VS)(s:Shared)(Z:St)(H:Hp)(o i v:V)(y j u:Value)(Q:Hp->Prop),Inv X l Z H s->bh o y->bh i j->bh v u->t o i v H Q ->
  wpAny (model X.prog X.w) X.A (setItem y j u) (λ_ z=>SE X l Z Q z) X.xe s
section
variable{X:Cx}{pos:Pos}
def uf(i:Nat):TG:=λv Z H Q=>Q (Z.set i (J v)) H
def wG(hN:X.N.Nodup)(l:X.N[i]?=J x)(z:Loc X.env.scope x)(hf:X.fn x=I\/X.env.scope.names.lookup x=J .local:=by first | exact .inl rfl | exact .inr rfl | assumption):PG X (.Name x pos) (uf i):=by intro C s Z H v u Q j r h;exact wpAny_assign_Name (iJ j hN l z r (λB y=>⟨_,H,y,h⟩) hf)
def Rm:LA:=λi Z H Q=>i=[]/\Q Z H
def Mh(t:TG)(u:LA):LA:=λi Z H Q=>∃v r,i=v::r/\t v Z H λl j=>u r l j Q
def Et:PGs X [] Rm:=by intro u s Z H j l Q i r h;obtain⟨e,h⟩:=h;subst e;cases r;exact assignInOrder_nil ⟨Z,H,i,h⟩
def AO(E:PG X e t)(y:PGs X es u)(G:(assignEach (e::es) X.env).map (·.2)=assign e X.env::(assignEach es X.env).map (·.2):=by rfl):PGs X (e::es) (Mh t u):=by
 intro j s Z H M P Q i r h;obtain⟨v,L,e1,h⟩:=h;subst e1
 cases r with
 |cons r C =>
  rw[G];refine assignInOrder_cons (kP (E j s Z H _ _ _ i r h) λ_ s1 ⟨B,z,F,l⟩=>?_);exact y j s1 B z _ _ Q F C l
def Rn(K:hW)(n:Nat)(t:LA):TG:=λv Z H Q=>∃a xs,v=.ref a/\SqT K H a xs/\xs.length=n/\t xs Z H Q
def Ii{j:VV}{k:Nat}{t:LA}{n:Nat}(C:X.calm=I)(h:PGs X j t)(L:(assignEach j X.env).length=n:=by rfl)(l:(assignEach j X.env).findIdx? (·.1)=Y:=by rfl):PG X (.Tuple j k pos) (Rn X.K n t):=by
 intro E s Z H v u Q i r hw;obtain⟨a,xs,e1,B,hl,hw⟩:=hw;subst e1;cases r;obtain⟨F,y,ht,P⟩:=i.tuple B;refine assign_Tuple_tuple (i.ok.hd C) ht (by simp[L,<-hl,y.length]) l λM z=>?_;have G:=i.kept (t':=s.toks) λb o e=>z b o (yB (oy e)) e;exact h E _ Z H xs _ Q G (by simpa using y) hw
def Ro(l z:TE)(t:Me):TG:=λv Z H Q=>l Z H λo y=>z Z y λi u=>t o i v u λj=>Q Z j
def Ij(R:PE X o to)(M:PE X i ti)(hs:Mf X t)(ha:∀v,assign (.Subscript o i pos) X.env v=(do
   let j <-holding [v] (eval o X.env)
   let l <-holding [v,j] (eval i X.env)
   standAt pos
   holding [v,j,l] (setItem j l v)
   release [v,j,l] []):=by intro _;rfl):PG X (.Subscript o i pos) (Ro to ti t):=by
 intro z s Z H v u Q B r h;refine ir (wpAny_holding (kP (R z s Z H _ B h) λj s1 ⟨x,G,U,r1,C⟩=>?_));refine ir (wpAny_holding (kP (M z s1 Z G _ U C) λl s2 ⟨y,S,P,r2,F⟩=>?_));refine ir (wpAny_standAt (ir (wpAny_holding (kP (hs z s2 Z S x y v j l u _ P r1 r2 r F) λ_ s3 ⟨E,L,W⟩=>?_))));exact wpAny_release ⟨Z,E,L,W⟩
def Eu(j:TE)(g:TG):TS:=λD Z H=>j Z H λx i=>g x Z i D.nx
def Ik(y:PE X e te)(hg:PG X tg g)(C:swapsWithSole [tg] e pos.line X.env=pure T:=by rfl)(hw:swappedStores [tg] e X.env=pure Y:=by rfl)(z:(assignEach [tg] X.env).map (·.2)=[assign tg X.env]:=by rfl):PS X (.Assign [tg] e pos) (Eu te g):=by
 intro j s Z H D i h;refine wpAny_Assign_stores (kP (y j s Z H _ i h) λv s1 ⟨x,u,B,r1,l⟩=>?_) C hw;rw[z];exact kP (hg j s1 Z u x v _ B r1 l) λ_ s2 q=>q
def Af(hN:X.N.Nodup)(E:X.N[i]?=J x)(z:Loc X.env.scope x)(B:PE X e te)(L:swapsWith e (J (.Name x pos')) pos.line X.env=pure T:=by rfl)(hf:X.fn x=I\/X.env.scope.names.lookup x=J .local:=by first | exact .inl rfl | exact .inr rfl | assumption):
  PS X (.Assign [.Name x pos'] e pos) (Eu te (uf i)):=by
 intro C s Z H D j h;refine wpAny_Assign_Name (kP (B C s Z H _ j h) λv s1 ⟨y,u,G,r1,l⟩=>?_) L;exact iJ G hN E z r1 (λs2 F=>⟨_,u,F,l⟩) hf
def Rq(i j:Nat)(u:TA):TS:=λD Z H=>u Z H λl y=>∃v w,l=[v,w]/\D.nx ((Z.set i (J v)).set j (J w)) y
def Il{kt k2 pt2}(hc:X.calm=I)(hN:X.N.Nodup)(hi:X.N[i]?=J x)(W:X.N[j]?=J y)(F:i≠j)(L:X.env.scope.names.lookup x=J .local)(P:X.env.scope.names.lookup y=J .local)(ha:PA X [a,b] ta)(hw:swappedStores [.Tuple [.Name x px,.Name y py] kt pt] (.Tuple [a,b] k2 pt2) X.env=pure (J [x,y]))(hs:swapsWithSole [.Tuple [.Name x px,.Name y py] kt pt] (.Tuple [a,b] k2 pt2) pos.line X.env=pure T:=by rfl):
  PS X (.Assign [.Tuple [.Name x px,.Name y py] kt pt] (.Tuple [a,b] k2 pt2) pos) (Rq i j ta):=by
 intro M s Z H D u h;refine ir (wpAny_standAt ?_);refine ir (ph ?_);refine ir (Tuple_ (kP (ha _ M s Z H _ u h) λus s1 ⟨vs,G,I1,r1,B⟩=>?_));obtain⟨v,w,e1,B⟩:=B;subst e1;obtain⟨l,z,rfl,rv,E⟩:∃l z,us=[l,z]/\bh v l/\bh w z:=by
  cases r1 with
  |cons p q =>
   cases q with
   |cons U R =>
    cases R;exact⟨_,_,rfl,p,U⟩
 refine wpAny_newObj_type ?_ (by show 2<=sizeLine;decide);have I2:Inv X M Z G { s1 with heap:=s1.heap.push { cls:=.type "tuple",data:=.seq [l,z].toArray}}:=I1.kept (t':=s1.toks) λb o e=>r_ _ e;rw[hw];show wpAny (model X.prog X.w) X.A (do rule "assign.swapped-stores";let items <-unpackItems (.ref s1.heap.objs.size) 2 Y;assignInOrder [λv=>bindName X.env y v,λv=>bindName X.env x v] items.reverse;pure Flow.next) _ _ _;refine ir (wpAny_rule (ir (unpackItems_tuple (items:=#[l,z]) (u.ok.hd hc) (IsTup.new s1.heap _) λh' C=>?_)));have S:=I2.kept (h':=h') (t':=s1.toks) λb o e=>C b o (yB (oy e)) e;refine ir (assignInOrder_cons (wpAny_bindName (iJ S hN W (.inl P) E (λs2 I4=>?_) (.inr P))));refine assignInOrder_cons (wpAny_bindName (iJ I4 hN hi (.inl L) rv (λs3 Q=>assignInOrder_nil (ph ?_)) (.inr L)));rw[List.set_comm _ _ (Ne.symm F)]at Q;exact⟨_,G,Q,B⟩
def Im(c:TT)(y:TS):TS:=λD Z H=>∃W:Nat->St->Hp->Prop,(∃m,W m Z H)/\∀m Z H,W m Z H ->
 c Z H λb u=>if b=I then ∃N:St->Hp->Prop,(∀j i,N j i->∃l,l<m/\W l j i)/\y { D with nx:=N,ct:=N,bk:=D.nx} Z u else D.nx Z u
def Bm(U:PassesOwn (model X.prog X.w) X.A X.env X.xe)(hc:PT X c tc)(hb:PSs X body tb):PS X (.While c body [] pos) (Im tc tb):=by
 intro B s Z H D F h;obtain⟨W,⟨m0,w0⟩,turn⟩:=h;refine wpAny_While (codeAny_whileLoop (λn s'=>∃R P,Inv X B R P s'/\W n R P) ?_ m0 ⟨Z,H,F,w0⟩);rintro n s1 ⟨u,M,I1,w1⟩;refine wpAny_passesOwn U (kP (hc B s1 u M _ I1 (turn n u M w1)) λb s2 ⟨S,Q,l⟩=>?_)
 cases b with
 |true =>
  obtain⟨N,hN,l⟩:=l;refine wpAny_passesOwn U (kP (hb B s2 u S _ Q l) λf s3 y=>?_)
  cases f with
  |next =>
   obtain⟨j,i,z,G⟩:=y;obtain⟨C,E,L⟩:=hN j i G;exact⟨C,E,j,i,z,L⟩
  |cont =>
   obtain⟨j,i,z,G⟩:=y;obtain⟨C,E,L⟩:=hN j i G;exact⟨C,E,j,i,z,L⟩
  |brk=>exact y
  |ret v=>exact y
 |false =>
  exact wpAny_execs_nil ⟨u,S,Q,l⟩
end
structure It where
 go:Nat->Hp->Prop
 yld:Nat->Hp->V->Hp->Prop
 stop:Nat->Hp->Prop
def k7(X:Cx)(i:VS)(H:Hp)(b:Addr):Prop :=
 H b=Y/\b≠X.env.locals/\b∉X.fs/\(b∈X.ex\/X.s₀.heap.objs.size<=b)/\(∀x c,X.env.cells.lookup x=J c->c≠b)/\∀p∈X.pn++i,p.1≠b
def Inv.fpOk{X:Cx}{l:VS}{Z:St}{H H':Hp}{s:Shared}{b:Addr}(i:Inv X l Z H s)(j:s.heap.objs.size<=b)(y:H' b=Y):k7 X l H' b:=by
 refine⟨y,Lz (vl i.lt j),i.nofs j,.inr (wy i.sz j),λx c e z=>?_,λp u z=>?_⟩
 .obtain⟨v,q⟩:=i.cell x c e;exact absurd (vl q.lt (by rw[z];exact j)) (De _)
 .exact absurd (vl (oy (i.pin p u).1) (by rw[z];exact j)) (De _)
inductive TF(X:Cx)(NN:VS)(Z:St)(u:Value)(Y:V->Hp->Prop)(n:Heap->Prop)(fp:VQ)(s2:Shared):Prop
 |mk(x:V)(H':Hp)(i:Inv X NN Z H' s2)(r:bh x u)(y:Y x H')(t:n s2.heap)(f:∀b∈fp,H' b=none):TF X NN Z u Y n fp s2
structure Dx(P:Program)(w:World)(K:hW)(tg:Expr)(J:It)(fp:VQ)(it:Addr)(tn:Nat->Heap->Prop):Prop where
 mem:it∈fp
 obj:∀i h,tn i h->∀b∈fp,∃o,h.get? b=some o/\∀v,o.data≠.cell v
 keep:∀i h h',tn i h->(∀b∈fp,∀o,h.get? b=some o->h'.get? b=some o)->tn i h'
 item:∀(X:Cx),X.prog=P->X.w=w->X.K=K->X.calm=I->∀(i:Nat)(NN:VS)(s:Shared)(Z:St)(H:Hp)(E:VX),Inv X NN Z H s->(∀b∈fp,k7 X NN H b)->tn i s.heap->J.go i H ->
  wpAny (model P w) X.A (pyNext (.ref it)) (λr s1=>∃u,r=some u /\
   wpAny (model P w) X.A (letOwnedTupleGo tg (.ref it) u) (λ_ s2=>TF X NN Z u (J.yld i H) (tn (i+1)) fp s2) E s1) E s
 done:∀(X:Cx),X.prog=P->X.w=w->X.K=K->X.calm=I->∀(i:Nat)(NN:VS)(s:Shared)(Z:St)(H:Hp)(E:VX),Inv X NN Z H s->(∀b∈fp,k7 X NN H b)->tn i s.heap->J.stop i H ->
  wpAny (model P w) X.A (pyNext (.ref it)) (λr s1=>r=Y/\Inv X NN Z H s1) E s
 self:∀(A:Around)(i:Nat)(s:Shared)(Q:VX)(E:VX),tn i s.heap->Q (.ref it) s->wpAny (model P w) A (pyIter (.ref it)) Q E s
abbrev TI:=St->Hp->(It->Hp->Prop)->Prop
inductive Rr(X:Cx)(NN:VS)(Z:St)(tg:Expr)(R:It->Hp->Prop)(itv:Value)(s2:Shared):Prop
 |mk(it:Addr)(fp:VQ)(tn:Nat->Heap->Prop)(J:It)(H':Hp)(e:itv=.ref it)(i:Inv X NN Z H' s2)(t:Dx X.prog X.w X.K tg J fp it tn)(n:tn 0 s2.heap)(f:∀b∈fp,k7 X NN H' b)(r:R J H'):Rr X NN Z tg R itv s2
def PI(X:Cx)(l i:Expr)(u:TI):Prop :=
 ∀(j:VS)(s:Shared)(Z:St)(H:Hp)(R:It->Hp->Prop),Inv X j Z H s->u Z H R ->
  wpAny (model X.prog X.w) X.A (eval i X.env) (λv s1=>wpAny (model X.prog X.w) X.A (pyIter v) (Rr X j Z l R) X.xe s1) X.xe s
def ub(l:s.heap.get? it=J o)(j:o.cls=.type n)(hd:o.data=.fields vs)(y:["enumerate","zip","dict_itemiterator","dict_reverseitemiterator","odict_iterator","itertools.zip_longest","itertools.pairwise"].contains n=T)(i:Q () s):wpAny M A (letOwnedTupleGo tg (.ref it) u) Q E s:=by
 cases tg<;>first
  |exact ph i
  | (cases u<;>first
    |exact ph i
    | (refine ir (wpAny_load l ?_)
       rw[j,hd];show wpAny M A (if(["enumerate","zip","dict_itemiterator","dict_reverseitemiterator","odict_iterator","itertools.zip_longest","itertools.pairwise"].contains n&&vs[0]? == J (rawInt _))=I then _ else _) Q E s;rw[hF (by intro h;rw[y]at h;cases h)]
       exact ph i))
def Rs(K:hW)(a:Addr):It :=
 ⟨λi H=>∃xs x,SqL K H a xs/\xs[i]?=J x,λi H x j=>j=H/\∀xs,SqL K H a xs->xs[i]?=J x,λi H=>∃xs,SqL K H a xs/\xs.length<=i⟩
def TH(K:hW)(a:Addr):It :=
 ⟨λi H=>∃xs x,SqT K H a xs/\xs[i]?=J x,λi H x j=>j=H/\∀xs,SqT K H a xs->xs[i]?=J x,λi H=>∃xs,SqT K H a xs/\xs.length<=i⟩
def Mi(lo:Int)(n:Nat):It:=⟨λi _=>i<n,λi H x j=>j=H/\x=.int (lo+i),λi _=>n<=i⟩
def Ak{P:Program}{w:World}{K:hW}{tg:Expr}(a y:Addr):Dx P w K tg (Rs K a) [y] y (λi h=>h.IsListIter y a i) where
 mem:=by simp
 obj:=λi h st b l=>by
  have e:b=y:=by simpa using l
  subst e;obtain⟨o,e,c,d⟩:=st;exact⟨o,e,λv z=>by rw[d]at z;cases z⟩
 keep:=λi h h' st k=>st.at λo e=>k y (by simp) o e
 item:=by intro X Q hw W hc i NN s Z H E j hf st hg;subst Q hw W;obtain⟨xs,x,C,G⟩:=hg;obtain⟨S,L,p,hz⟩:=j.list C;obtain⟨u,hu,ru⟩:=L.get G;obtain⟨f0,M,f2,F,U,R⟩:=hf y (by simp);refine wpAny_pyNext_list_item st p.isList (by simpa using hu) λh' B sb=>?_;have I1:=j.turned (t':=s.toks) (λb o l e=>(sb.2 b l).trans e) f0 M F U R;obtain⟨o,e,c,d⟩:=id B;exact⟨u,rfl,ub e c d (by decide) ⟨x,H,I1,ru,⟨rfl,λys hy=>by rw[j.list_inj hy C];exact G⟩,B,λb l=>(hf b l).1⟩⟩
 done:=by intro X Q hw W hc i NN s Z H E j hf st hg;subst Q hw W;obtain⟨xs,C,G⟩:=hg;obtain⟨S,L,p,hz⟩:=j.list C;obtain⟨f0,M,f2,F,U,R⟩:=hf y (by simp);have hl:=L.length;exact wpAny_pyNext_list_end (j.ok.hd hc) st p.isList (by simp;lia) λh' eb=>⟨rfl,j.turned (t':=s.toks) (λb o l e=>eb b o l e) f0 M F U R⟩
 self:=λ_ _ _ _ _ st h=>wpAny_pyIter_listiter st h
def yE{P:Program}{w:World}{K:hW}{tg:Expr}(a y:Addr):Dx P w K tg (TH K a) [y] y (λi h=>h.IsTupleIter y a i) where
 mem:=by simp
 obj:=λi h st b l=>by
  have e:b=y:=by simpa using l
  subst e;obtain⟨o,e,c,d⟩:=st;exact⟨o,e,λv z=>by rw[d]at z;cases z⟩
 keep:=λi h h' st k=>st.at λo e=>k y (by simp) o e
 item:=by intro X Q hw W hc i NN s Z H E j hf st hg;subst Q hw W;obtain⟨xs,x,C,G⟩:=hg;obtain⟨S,L,p,hz⟩:=j.tuple C;obtain⟨u,hu,ru⟩:=L.get G;obtain⟨f0,M,f2,F,U,R⟩:=hf y (by simp);refine wpAny_pyNext_tuple_item st (p) (by simpa using hu) λh' B sb=>?_;have I1:=j.turned (t':=s.toks) (λb o l e=>(sb.2 b l).trans e) f0 M F U R;obtain⟨o,e,c,d⟩:=id B;exact⟨u,rfl,ub e c d (by decide) ⟨x,H,I1,ru,⟨rfl,λys hy=>by rw[j.tuple_inj hy C];exact G⟩,B,λb l=>(hf b l).1⟩⟩
 done:=by intro X Q hw W hc i NN s Z H E j hf st hg;subst Q hw W;obtain⟨xs,C,G⟩:=hg;obtain⟨S,L,p,hz⟩:=j.tuple C;obtain⟨f0,M,f2,F,U,R⟩:=hf y (by simp);have hl:=L.length;exact wpAny_pyNext_tuple_end (j.ok.hd hc) st (p) (by simp;lia) λh' eb=>⟨rfl,j.turned (t':=s.toks) (λb o l e=>eb b o l e) f0 M F U R⟩
 self:=λ_ _ _ _ _ st h=>wpAny_pyIter_tupleiter st h
def yK{P:Program}{w:World}{K:hW}{tg:Expr}(l:Addr)(lo:Int)(n:Nat):Dx P w K tg (Mi lo n) [l] l (λi h=>IsRangeIter h l (lo+(i:Nat)*1) ((n:Int)-(i:Nat)) 1) where
 mem:=by simp
 obj:=λi h st b u=>by
  have e:b=l:=by simpa using u
  subst e
  exact⟨_,st,λv z=>by
   have z':=z
   cases z'⟩
 keep:=λi h L st k=>k l (by simp) _ st
 item:=by intro X S hw U C i R s Z H E j hf st hg;subst S hw U;obtain⟨Q,F,f2,B,M,G⟩:=hf l (by simp);have W:=Walks.range (prog:=X.prog) (w:=X.w) (j.ok.hd C) l lo 1 n;refine W.item i s _ _ hg st λv L tk hv y kk=>?_;obtain⟨t,rfl⟩:=hv;have I1:Inv X R Z H { s with heap:=L,toks:=tk}:=j.turned (λb o u e=>kk b o (by simpa using u) e) Q F B M G;refine⟨_,rfl,ub y rfl rfl (by decide) ⟨.int (lo+i),H,I1,⟨t,?_⟩,⟨rfl,rfl⟩,y,λb u=>(hf b u).1⟩⟩;rw[Int.mul_one]
 done:=by intro X S hw U C i R s Z H E j hf st hg;obtain⟨Q,F,f2,B,M,G⟩:=hf l (by simp);exact wpAny_pyNext_range_end (j.ok.hd C) st (by have:n<=i:=hg;lia) λL eb=>⟨rfl,j.turned (t':=s.toks) (λb o u e=>eb b o u e) Q F B M G⟩
 self:=λ_ _ _ _ _ st h=>wpAny_pyIter_rangeiter st h
section
variable{X:Cx}{tg:Expr}
def Mj(K:hW)(tl:TE):TI:=λZ H R=>tl Z H λx i=>∃a,x=.ref a/\(∃xs,SqL K i a xs)/\R (Rs K a) i
def Rt(K:hW)(tl:TE):TI:=λZ H R=>tl Z H λx i=>∃a,x=.ref a/\(∃xs,SqT K i a xs)/\R (TH K a) i
def Ev{l:Expr}{tl:TE}(hl:PE X l tl):PI X tg l (Mj X.K tl):=by
 intro B s Z H R j h;refine kP (hl B s Z H _ j h) λv s1 ⟨x,y,i,r1,u⟩=>?_;obtain⟨a,e,⟨xs,z⟩,q⟩:=u;subst e;cases r1;obtain⟨C,F,p,G⟩:=i.list z;refine wpAny_pyIter_list p.isList ?_;refine⟨s1.heap.objs.size,[s1.heap.objs.size],_,_,y,rfl,i.kept (t':=s1.toks) λb o e=>r_ _ e,Ak a _,⟨_,CL _ rfl,rfl,rfl⟩,λb E=>?_,q⟩;have e:b=s1.heap.objs.size:=by simpa using E
 subst e;exact i.fpOk (mh _) (i.hok.fresh (mh _))
def Io{l:Expr}{tl:TE}(hl:PE X l tl):PI X tg l (Rt X.K tl):=by
 intro B s Z H R j h;refine kP (hl B s Z H _ j h) λv s1 ⟨x,y,i,r1,u⟩=>?_;obtain⟨a,e,⟨xs,z⟩,q⟩:=u;subst e;cases r1;obtain⟨C,F,p,G⟩:=i.tuple z;refine wpAny_pyIter_tuple (p) ?_;refine⟨s1.heap.objs.size,[s1.heap.objs.size],_,_,y,rfl,i.kept (t':=s1.toks) λb o e=>r_ _ e,yE a _,⟨_,CL _ rfl,rfl,rfl⟩,λb E=>?_,q⟩;have e:b=s1.heap.objs.size:=by simpa using E
 subst e;exact i.fpOk (mh _) (i.hok.fresh (mh _))
def uU{j:VS}{Z:St}{H:Hp}{s:Shared}{R:It->Hp->Prop}{E:VX}{lo i:Int}{t u v:Tok}{tk:Nat}(l:Inv X j Z H s)(B:-(2^62)<=lo)(z:lo<2^62)(G:-(2^62)<=i)(F:i<2^62)(q:R (Mi lo (i-lo).toNat) H):wpAny (model X.prog X.w) X.A (pyIter (.ref s.heap.objs.size)) (Rr X j Z tg R) E { s with heap:=s.heap.push { cls:=.type "range",data:=.fields #[.int lo t,.int i u,.int 1 v]},toks:=tk}:=by
 refine wpAny_pyIter_range (IsRange.new ..) (small_one B z G F) ?_;have y:Inv X j Z H { s with heap:=s.heap.push { cls:=.type "range",data:=.fields #[.int lo t,.int i u,.int 1 v]},toks:=tk}:=l.kept λb o e=>r_ _ e
 refine⟨(s.heap.push { cls:=.type "range",data:=.fields #[.int lo t,.int i u,.int 1 v]}).objs.size,[(s.heap.push { cls:=.type "range",data:=.fields #[.int lo t,.int i u,.int 1 v]}).objs.size],_,_,H,rfl,
  y.kept (t':=tk) λb o e=>r_ _ e,yK _ lo (i-lo).toNat,?_,λb C=>?_,q⟩
 .have e1:lo+((0:Nat):Int)*1=lo:=by simp
  have e2:(((i-lo).toNat:Nat):Int)-((0:Nat):Int)=Builtin.Range.rangeSize lo i 1:=by rw[rangeSize_one];split<;>lia
  rw[e1,e2];exact CL _ rfl
 .have e:b=(s.heap.push { cls:=.type "range",data:=.fields #[.int lo t,.int i u,.int 1 v]}).objs.size:=by simpa using C
  subst e;exact y.fpOk (mh _) (y.hok.fresh (mh _))
def Mk(l:TA):TI:=λZ H R=>l Z H λi u=>∃j:Int,i=[.int j] /\ -(2^62)<=j/\j<2^62/\R (Mi 0 j.toNat) u
def Ml(u:TA):TI:=λZ H R=>u Z H λl y=>∃i j:Int,l=[.int i,.int j]/\(-(2^62)<=i/\i<2^62 /\ -(2^62)<=j/\j<2^62)/\R (Mi i (j-i).toNat) y
def Ag{a:Expr}{y:TA}{p l:Pos}(hg:Gl X "range")(E:X.mg "range"=Y)(L:PA X [a] y)(G:starEach [a] X.env=[(T,eval a X.env)]:=by rfl):PI X tg (.Call (.Name "range" p) [a] [] l) (Mk y):=by
 intro B s Z H R i h;refine Call_ (lj i hg E boot_range (PyProof.Rows.callWith_type1 (kP (L l B s Z H _ i h) λQ s1 ⟨P,M,F,r1,u⟩=>?_) G rfl));obtain⟨j,e,u,z,q⟩:=u;subst e
 cases r1 with
 |cons r C =>
  cases C;obtain⟨t,rfl⟩:=r;exact call_range_1 (uU F ⋯ ⋯ u z (by simpa using q))
def zH{a b:Expr}{C:TA}{p y:Pos}(hg:Gl X "range")(L:X.mg "range"=Y)(U:PA X [a,b] C)(Q:starEach [a,b] X.env=[(T,eval a X.env),(T,eval b X.env)]:=by rfl)(l:starEach [b] X.env=[(T,eval b X.env)]:=by rfl):
  PI X tg (.Call (.Name "range" p) [a,b] [] y) (Ml C):=by
 intro F s Z H R u h;refine Call_ (lj u hg L boot_range (PyProof.Rows.callWith_type1 (kP (U y F s Z H _ u h) λus s1 ⟨vs,W,M,r1,z⟩=>?_) (by rw[Q,l]) (by rw[l];rfl)));obtain⟨i,j,e,⟨z,E,P,S⟩,q⟩:=z;subst e
 cases r1 with
 |cons r B =>
  cases B with
  |cons G B =>
   cases B;obtain⟨t,rfl⟩:=r;obtain⟨t',rfl⟩:=G;exact call_range_2 (uU M z E P S q)
def Ru(E:TI)(g:TG)(z:TS):TS:=λD Z H=>E Z H λj C=>∃W:Nat->Nat->St->Hp->Prop,(∃m,W 0 m Z C)/\∀i m Z H,W i m Z H ->
 (j.stop i H/\D.nx Z H)\/(j.go i H/\∃N:St->Hp->Prop,(∀u l,N u l->∃y,y<m/\W (i+1) y u l)/\∀x l,j.yld i H x l->g x Z l λF B=>z { D with nx:=N,ct:=N,bk:=D.nx} F B)
def nZ(i:VQ)(h:Heap):VS:=i.filterMap λb=>(h.get? b).map λo=>(b,o)
def jt(i:b∈fp)(e:h.get? b=J o):(b,o)∈nZ fp h:=PC.mpr ⟨b,i,by rw[e];rfl⟩
def Ap(i:p∈nZ fp h):p.1∈fp/\h.get? p.1=J p.2:=by
 obtain⟨b,j,e⟩:=PC.mp i
 cases q:h.get? b with
 |none=>rw[q]at e;cases e
 |some o =>
  rw[q]at e;have l:=Option.some.inj e;subst l;exact⟨j,q⟩
def Inv.pinned{j:VS}{Z:St}{H:Hp}{s:Shared}{l:VQ}(i:Inv X j Z H s)(hf:∀b∈l,k7 X j H b)(y:∀b∈l,∃o,s.heap.get? b=J o/\∀v,o.data≠.cell v):Inv X (j++nZ l s.heap) Z H s :=
 i.pins_of λp B=>(v_.mp B).elim (λz=>i.pin p (se _ z)) λz=>by
  obtain⟨u,e⟩:=Ap z;obtain⟨G,E,C,_⟩:=hf p.1 u;obtain⟨o,F,d⟩:=y p.1 u
  simp_all
def Inv.unpinned{NN pl:VS}{Z:St}{H:Hp}{s:Shared}(i:Inv X (NN++pl) Z H s):Inv X NN Z H s:=i.pins_of λp j=>i.pin p (se _ (C7 _ j))
def Ip(P:PassesOwn (model X.prog X.w) X.A X.env X.xe)(hc:X.calm=I)(hi:PI X tg iter wi)(hg:PG X tg g)(y:PSs X body tb)(hs:∀x,foldedSetIterable iter X.env x=pure x:=by intro _;rfl):PS X (.For tg iter body [] pos) (Ru wi g tb):=by
 intro G s Z H D ab h;refine wpAny_For (kP (hi G s Z H _ ab h) λv s1 h1=>kP h1 λap s2 h2=>?_) hs;obtain⟨it,M,tn,an,H2,e,I2,j,ak,f2,W,⟨m0,w0⟩,turn⟩:=h2;subst e;have B:∀{E:Hp},(∀b∈M,E b=Y)->∀b∈M,k7 X G E b:=λhn b y=>⟨hn b y,(f2 b y).2⟩;refine codeAny_forLoop_any (λn s'=>∃i U E,Inv X G U E s'/\tn i s'.heap/\(∀b∈M,E b=Y)/\W i n U E) ?_ m0 ⟨0,Z,H2,I2,ak,λb y=>(f2 b y).1,w0⟩;rintro n s3 ⟨i,R,H3,I3,aa,S,w3⟩;rcases turn i n R H3 w3 with⟨stop,qn⟩|⟨go,N,hN,step⟩
 .refine wpAny_passesOwn P (kP (j.done X rfl rfl rfl hc i G s3 R H3 X.xe I3 (B S) aa stop) λr s4 ⟨hr,I4⟩=>?_);subst hr;exact wpAny_execs_nil ⟨R,H3,I4,qn⟩
 .refine wpAny_passesOwn P (kP (j.item X rfl rfl rfl hc i G s3 R H3 X.xe I3 (B S) aa go) λr s4 ⟨u,hr,h4⟩=>?_);subst hr;refine wpAny_passesOwn P (kP h4 λ_ s5 ⟨x,H5,I5,r5,y5,L,ag⟩=>?_);have ac:=I5.pinned (B ag) (j.obj _ _ L);refine wpAny_passesOwn P (kP (hg _ s5 R H5 x u _ ac r5 (step x H5 y5)) λ_ s6 ⟨Z6,H6,I6,q6⟩=>?_);refine wpAny_passesOwn P (kP (y _ s6 Z6 H6 _ I6 q6) λf s7 F=>?_);have again:∀{l:St}{C:Hp},Inv X (G++nZ M s5.heap) l C s7->N l C->∃m,m<n/\∃i U E,Inv X G U E s7/\tn i s7.heap/\(∀b∈M,E b=Y)/\W i m U E:=λ{l C} z Q=>by
   obtain⟨m',hm,w7⟩:=hN l C Q;refine⟨m',hm,i+1,l,C,z.unpinned,j.keep _ _ _ L λb y o e=>(z.pin (b,o) (se _ (se _ (jt y e)))).1,λb y=>?_,w7⟩;obtain⟨o,e,d⟩:=j.obj _ _ L b y;exact(z.pin (b,o) (se _ (se _ (jt y e)))).2.1
  cases f with
  |next=>obtain⟨l,C,z,Q⟩:=F;exact again z Q
  |cont=>obtain⟨l,C,z,Q⟩:=F;exact again z Q
  |brk=>obtain⟨l,C,z,F⟩:=F;exact⟨l,C,z.unpinned,F⟩
  |ret v=>obtain⟨x7,l,C,z,r7,F⟩:=F;exact⟨x7,l,C,z.unpinned,r7,F⟩
end
abbrev R2:=V->V->Hp->VK->Prop
def OpR(X:Cx)(f:Value->Value->Sem Value)(r:R2):Prop :=
 ∀(i:VS)(s:Shared)(Z:St)(H:Hp)(x y:V)(v u:Value)(Q:VK),Inv X i Z H s->bh x v->bh y u->r x y H Q ->
  wpAny (model X.prog X.w) X.A (f v u) (EP X i Z Q) X.xe s
def PY(X:Cx)(f:Value->Sem Value)(r:V->Hp->VK->Prop):Prop :=
 ∀(i:VS)(s:Shared)(Z:St)(H:Hp)(x:V)(v:Value)(Q:VK),Inv X i Z H s->bh x v->r x H Q ->
  wpAny (model X.prog X.w) X.A (f v) (EP X i Z Q) X.xe s
def dN(X:Cx)(f:Value)(r:List V->Hp->VK->Prop):Prop :=
 ∀(j:VS)(s:Shared)(Z:St)(H:Hp)(xs:List V)(i:VR)(Q:VK),Inv X j Z H s->aV xs i->r xs H Q ->
  wpAny (model X.prog X.w) X.A (call f i) (EP X j Z Q) X.xe s
def LB(r:R2)(l i:TE):TE:=λZ H Q=>l Z H λx u=>i Z u λy j=>r x y j Q
def Uy(r:V->Hp->VK->Prop)(i:TE):TE:=λZ H Q=>i Z H λx j=>r x j Q
def rI(C:Int->Int->Prop)(g:Int->Int->V):R2:=λx y H Q=>∃i j,x=.int i/\y=.int j/\C i j/\Q (g i j) H
def Ew(g:Int->Int->V):R2:=λx y H Q=>∃i j,x=.int i/\y=.int j/\Q (g i j) H
def rU(g:Int->V):V->Hp->VK->Prop:=λx H Q=>∃i,x=.int i/\Q (g i) H
section
variable{X:Cx}{a b c:Expr}{ta tb tc:TE}{pos:Pos}
def Iq(P:PE X a ta)(M:PE X b tb){z:VS}{s:Shared}{Z:St}{H:Hp}{R:V->V->Hp->Prop}(C:Inv X z Z H s)(h:ta Z H λx B=>tb Z B λy i=>R x y i){Q:VX}{f:Value->Value->Sem Value}(hf:∀v u s2 x y i,Inv X z Z i s2->bh x v->bh y u->R x y i->wpAny (model X.prog X.w) X.A (f v u) Q X.xe s2):
  wpAny (model X.prog X.w) X.A (eval a X.env) (λv j=>wpAny (model X.prog X.w) X.A (eval b X.env) (λu l=>wpAny (model X.prog X.w) X.A (f v u) Q X.xe l) X.xe j) X.xe s:=by
 refine kP (P z s Z H _ C h) λv s1 ⟨x,B,L,r1,E⟩=>?_;refine kP (M z s1 Z B _ L E) λu s2 ⟨y,i,G,r2,F⟩=>?_;exact hf v u s2 x y i G r1 r2 F
def Mm{j:Operator}{r:R2}(E:OpR X (binaryOp j) r)(L:PE X a ta)(F:PE X b tb):PE X (.BinOp a j b pos) (LB r ta tb):=by intro l s Z H Q i h;exact wpAny_BinOp (Iq L F i h λv u s2 x y C z G B q=>E l s2 Z C x y v u Q z G B q)
def Mn(u:PY X (unaryOp op) r)(B:PE X a ta):PE X (.UnaryOp op a pos) (Uy r ta):=by intro j s Z H Q i h;exact UnaryOp_ (kP (B j s Z H _ i h) λv s1 ⟨x,z,y,r1,l⟩=>u j s1 Z z x v Q y r1 l)
def Uz{f:Value->Value->Sem Value}{C:Int->Int->Prop}{g:Int->Int->Int}(rule:∀(i j:Int)(t u:Tok)(s:Shared)(Q:VX)(E:VX),C i j->Q (.int (g i j) s.toks) { s with toks:=s.toks+1}->wpAny (model X.prog X.w) X.A (f (.int i t) (.int j u)) Q E s):
  OpR X f (rI C λi j=>.int (g i j)):=by
 intro L s Z H x y v u Q l G F h;obtain⟨i,j,rfl,rfl,z,q⟩:=h;obtain⟨t,rfl⟩:=G;obtain⟨B,rfl⟩:=F;exact rule i j t B s _ _ z ⟨.int (g i j),H,l.tok _,⟨_,rfl⟩,q⟩
def Mo{f:Value->Value->Sem Value}{g:Int->Int->Int}(rule:∀(i j:Int)(t u:Tok)(s:Shared)(Q:VX)(E:VX),Q (.int (g i j) s.toks) { s with toks:=s.toks+1}->wpAny (model X.prog X.w) X.A (f (.int i t) (.int j u)) Q E s):
  OpR X f (Ew λi j=>.int (g i j)):=by
 intro F s Z H x y v u Q l C B h;obtain⟨i,j,rfl,rfl,q⟩:=h;obtain⟨t,rfl⟩:=C;obtain⟨z,rfl⟩:=B;exact rule i j t z s _ _ ⟨.int (g i j),H,l.tok _,⟨_,rfl⟩,q⟩
def Ex{f:Value->Value->Sem Value}{g:Int->Int->Bool}(rule:∀(i j:Int)(t u:Tok)(s:Shared)(Q:VX)(E:VX),Q (.bool (g i j)) s->wpAny (model X.prog X.w) X.A (f (.int i t) (.int j u)) Q E s):
  OpR X f (Ew λi j=>.bl (g i j)):=by
 intro F s Z H x y v u Q l C B h;obtain⟨i,j,rfl,rfl,q⟩:=h;obtain⟨t,rfl⟩:=C;obtain⟨z,rfl⟩:=B;exact rule i j t z s _ _ ⟨.bl (g i j),H,l,rfl,q⟩
def gB(i j:Int):Prop:=0<=j/\j<=1000000/\i.natAbs<2^64
def Ir:OpR X (binaryOp .Add) (Ew λi j=>.int (i+j)):=Mo λ_ _ _ _ _ _ _ q=>add_int q
def Iu:OpR X (binaryOp .Sub) (Ew λi j=>.int (i-j)):=Mo λ_ _ _ _ _ _ _ q=>sub_int q
def Iv:OpR X (binaryOp .Pow) (rI gB λi j=>.int (i^j.toNat)):=Uz λ_ _ _ _ _ _ _ l q=>pow_int_small l.1 l.2.1 l.2.2 q
def UA{f:Value->Sem Value}{g:Int->Int}(rule:∀(i:Int)(t:Tok)(s:Shared)(Q:VX)(E:VX),Q (.int (g i) s.toks) { s with toks:=s.toks+1}->wpAny (model X.prog X.w) X.A (f (.int i t)) Q E s):
  PY X f (rU λi=>.int (g i)):=by
 intro u s Z H x v Q j l h;obtain⟨i,rfl,q⟩:=h;obtain⟨t,rfl⟩:=l;exact rule i t s _ _ ⟨.int (g i),H,j.tok _,⟨_,rfl⟩,q⟩
def Iw:PY X (unaryOp .USub) (rU λi=>.int (-i)):=UA λ_ _ _ _ _ q=>neg_int q
def zu{j:VS}{Z:St}{H:Hp}{s:Shared}{Q:VK}{k l:Bool}(i:Inv X j Z H s)(q:Q (.bl k) H)(e:k=l):EP X j Z Q (.bool l) s:=by subst e;exact⟨.bl k,H,i,rfl,q⟩
def Mp:OpR X (compareOp .Lt) (Ew λi j=>.bl (decide (i<j))):=Ex λ_ _ _ _ _ _ _ q=>lt_int q
def Mq:OpR X (compareOp .LtE) (Ew λi j=>.bl (decide (i<=j))):=Ex λ_ _ _ _ _ _ _ q=>le_int q
def Mr:OpR X (compareOp .Gt) (Ew λi j=>.bl (decide (j<i))):=Ex λ_ _ _ _ _ _ _ q=>gt_int q
def Ms:OpR X (compareOp .GtE) (Ew λi j=>.bl (decide (j<=i))):=Ex λ_ _ _ _ _ _ _ q=>ge_int q
def Ix:OpR X (compareOp .Is) (λx y H Q=>y=.non/\Q (.bl (decide (x=.non))) H):=by
 intro z s Z H x y v u Q i l j h;obtain⟨rfl,q⟩:=h;cases j;refine is_none_gen (zu i q ?_);cases x<;>first
  |(obtain⟨t,rfl⟩:=l;rfl)
def Ey:OpR X (compareOp .IsNot) (λx y H Q=>y=.non/\Q (.bl (!decide (x=.non))) H):=by
 intro z s Z H x y v u Q i l j h;obtain⟨rfl,q⟩:=h;cases j;refine isnot_none_gen (zu i q ?_);cases x<;>first
  |(obtain⟨t,rfl⟩:=l;rfl)
def DP(b:Expr)(h:op≠.In:=by decide)(i:op≠.NotIn:=by decide):behindInMarks op b=T:=by
 have e1:(op==CmpOp.In)=T:=by cases op<;>first | rfl | exact absurd rfl h
 have e2:(op==CmpOp.NotIn)=T:=by cases op<;>first | rfl | exact absurd rfl i
 cases b<;>simp[behindInMarks,e1,e2]
def Ez{j:CmpOp}{r:R2}(F:OpR X (compareOp j) r)(M:PE X a ta)(G:PE X b tb)(B:behindInMarks j b=T):PE X (.Compare a [j] [b] pos) (LB r ta tb):=by intro l s Z H Q i h;exact wpAny_Compare1 (Iq M G i h λv u s2 x y E z L C q=>F l s2 Z E x y v u Q z L C q) B
def Mt(t:TE):TT:=λZ H Q=>t Z H λx i=>∃k,x=.bl k/\Q k i
def EA(M:OpR X (compareOp op) r)(W:PE X a ta)(S:PE X b tb)(L:behindInMarks op b=T):PT X (.Compare a [op] [b] pos) (Mt (LB r ta tb)):=by
 intro i s Z H Q j h
 refine wpAny_isTrue_Compare1 (kP (W i s Z H _ j h) λv s1 ⟨x,E,R,r1,l⟩=>kP (S i s1 Z E _ R l) λu s2 ⟨y,P,G,r2,C⟩ =>
  kP (M i s2 Z P x y v u _ G r1 r2 C) λc s3 ⟨z,B,F,r3,k,e,U⟩=>?_) L
 subst e;cases r3;exact wpAny_truthy_bool ⟨B,F,U⟩
def ze(r u:R2)(ta tb tc:TE):TE:=λZ H Q=>ta Z H λx B=>tb Z B λy j=>r x y j λz i=>∃k,z=.bl k /\
 (if k=I then tc Z i λC l=>u y C l Q else Q (.bl T) i)
def By(ho:OpR X (compareOp op) r)(l:OpR X (compareOp op') r')(ha:PE X a ta)(hb:PE X b tb)(M:PE X c tc)(R:lastMarks [op,op'] [b,c]=T:=by with_unfolding_all rfl):PE X (.Compare a [op,op'] [b,c] pos) (ze r r' ta tb tc):=by
 intro i s Z H Q j h
 refine Compare_chain (kP (ha i s Z H _ j h) λv s1 ⟨x,L,I1,r1,F⟩=>chain_link (kP (hb i s1 Z L _ I1 F) λu s2 ⟨y,H2,P,r2,G⟩ =>
  kP (ho i s2 Z H2 x y v u _ P r1 r2 G) λd s3 ⟨z,B,C,r3,k,e,E⟩=>?_)) R
 subst e;cases r3;refine wpAny_truthy_bool ?_
 cases k with
 |false=>exact ite_ff ⟨.bl T,B,C,rfl,E⟩
 |true=>exact ite_tt (chain_last (kP (M i s3 Z B _ C E) λU s4 ⟨W,S,I4,r4,q4⟩=>l i s4 Z S y W u U Q I4 r2 r4 q4))
def rg:(sizeLine:Nat)<2^63:=by rw[sizeLine_eq];decide
def yk:OpR X (binaryOp .Add) (λx y H Q=>∃i j,x=.str i/\y=.str j/\i.length+j.length<=sizeLine/\Q (.str (i++j)) H):=by intro F s Z H x y v u Q l E B h;obtain⟨i,j,rfl,rfl,C,q⟩:=h;obtain⟨t,rfl⟩:=E;obtain⟨z,rfl⟩:=B;exact add_str (λz tk=>⟨.str (i++j),H,l.tok _,⟨_,rfl⟩,q⟩) C
def fZ(r:aV [x] us):∃u,us=[u]/\bh x u:=by
 cases r with
 |cons r1 r2=>cases r2;exact⟨_,rfl,r1⟩
def vals2(r:aV [x,y] us):∃u i,us=[u,i]/\bh x u/\bh y i:=by
 cases r with
 |cons r1 r2 =>
  cases r2 with
  |cons r3 r4=>cases r4;exact⟨_,_,rfl,r1,r3⟩
def B5:dN X (.builtin "abs") (λxs H Q=>∃i,xs=[.int i]/\Q (.int (if i<0 then -i else i)) H):=by intro y s Z H xs l Q j r h;obtain⟨i,rfl,q⟩:=h;obtain⟨u,rfl,t,rfl⟩:=fZ r;exact call_abs_int λu tk=>⟨.int (if i<0 then -i else i),H,j.tok _,⟨_,rfl⟩,q⟩
def zE(z:X.calm=I):dN X (.builtin "min") (λxs H Q=>∃i j,xs=[.int i,.int j]/\Q (.int (if j<i then j else i)) H):=by
 intro B s Z H xs G Q l r h;obtain⟨i,j,rfl,q⟩:=h;obtain⟨u,E,rfl,⟨t,rfl⟩,⟨F,rfl⟩⟩:=vals2 r;refine min_two_ints (l.ok.hd z) λC tk k=>⟨_,H,l.kept k,?_,q⟩;by_cases y:j<i
 .rw[eT y,eT y];exact⟨_,rfl⟩
 .rw[hF y,hF y];exact⟨_,rfl⟩
def tH:dN X (.type "int") (λxs H Q=>(∃i,xs=[.int i]/\Q (.int i) H)\/∃k,xs=[.bl k]/\Q (.int (if k then 1 else 0)) H):=by
 intro y s Z H xs l Q j r h;rcases h with⟨i,rfl,q⟩|⟨k,rfl,q⟩
 .obtain⟨u,rfl,t,rfl⟩:=fZ r;exact call_int_int ⟨.int i,H,j,⟨_,rfl⟩,q⟩
 .obtain⟨u,rfl,r1⟩:=fZ r;cases r1;exact call_int_bool ⟨.int (if k then 1 else 0),H,j.tok _,⟨_,rfl⟩,q⟩
def vw:dN X (.type "str") (λxs H Q=>∃i,xs=[.int i]/\i.natAbs.log2<1920/\Q (.str (toString i)) H):=by intro z s Z H xs y Q j r h;obtain⟨i,rfl,l,q⟩:=h;obtain⟨u,rfl,t,rfl⟩:=fZ r;exact PySem.P.str_of_int l ⟨.str _,H,j.tok _,⟨_,rfl⟩,q⟩
def Rv(K:hW)(x:V)(H:Hp)(n:Nat):Prop :=
 match x with
 |.str y=>y.length<=sizeLine/\n=y.length
 |.byt y=>y.size<=sizeLine/\n=y.size
 |.ref p=>(∃xs,SqL K H p xs/\n=xs.length)\/∃xs,SqT K H p xs/\n=xs.length
 |_=>False
def mU:dN X (.builtin "len") (λxs H Q=>∃x n,xs=[x]/\Rv X.K x H n/\Q (.int n) H):=by
 intro M s Z H xs P Q i r h;obtain⟨x,n,rfl,e,q⟩:=h;obtain⟨u,rfl,F⟩:=fZ r;have R:=sizeLine_eq
 cases x with
 |str y =>
  obtain⟨t,rfl⟩:=F;obtain⟨G,l⟩:=e;subst l;exact len_str ⋯ ⟨.int _,H,i.tok _,⟨_,rfl⟩,q⟩
 |byt y =>
  obtain⟨t,rfl⟩:=F;obtain⟨G,l⟩:=e;subst l;exact PySem.W.len_bytes ⋯ ⟨.int _,H,i.tok _,⟨_,rfl⟩,q⟩
 |ref p =>
  cases F;have l:=e;rcases l with⟨xs,z,l⟩|⟨xs,z,l⟩
  .subst l;obtain⟨E,B,C,L⟩:=i.list z;have j:=B.length;exact Calls.call_len_list C.isList (by simp only[B_];lia) ⟨.int xs.length,H,i.tok _,⟨_,by simp only[B_];rw[j]⟩,q⟩
  .subst l;obtain⟨E,B,C,L⟩:=i.tuple z;have j:=B.length;exact len_tuple C (by simp only[B_];lia) ⟨.int xs.length,H,i.tok _,⟨_,by simp only[B_];rw[j]⟩,q⟩
 |_=>exact(e).elim
end
section
variable{X:Cx}{NN:List (Addr × Obj)}{Z:St}{H:Hp}{s:Shared}{a C dx:Addr}{fs:List (Str × V)}{f:Str}{v:V}{A:Around}{E:VX}
def EB(j:attributeBase e f env (eval e env)=eval e env)(h:wpAny (model prog w) A (eval e env) (λo i=>wpAny (model prog w) A (getAttr o f I) Q E i) E s):wpAny (model prog w) A (eval (.Attribute e f pos) env) Q E s :=
 Attribute_any_ h (by rw[arm_eval_Attribute,j])
end
structure Room(k:Nat)(A:Around):Prop where
 hd:A.handled=Y
 dp:A.depth+3*k+105<recursionLimit
 un:A.units+16*k+200<cLine
 gd:A.guards=J []
def Room.mono(r:Room k A)(h:j<=k):Room j A:=⟨r.hd,by have:=r.dp;lia,by have:=r.un;lia,r.gd⟩
def Room.deeper(r:Room (k+1) A)(env:Env):Room k (A.deeper env) :=
 ⟨r.hd,by have:=r.dp;show A.depth+1+3*k+105<_;lia,by have:=r.un;show A.units+3+16*k+200<_;lia,r.gd⟩
def xN{A:Around}{C:Addr}{j:VR}{i:List (Str×Value)}:(A.under (.builtin "type.__call__" ⟨.ref C::j,i⟩)).depth=A.depth+1:=rfl
def x4{A:Around}{C:Addr}{j:VR}{i:List (Str×Value)}:(A.under (.builtin "type.__call__" ⟨.ref C::j,i⟩)).units=A.units+1:=rfl
def Room.make(r:Room (k+1) A)(C:Addr)(j:VR)(i:List (Str×Value)):Room k (A.under (.builtin "type.__call__" ⟨.ref C::j,i⟩)) :=
 ⟨r.hd,by have:=r.dp;rw[xN];lia,by have:=r.un;rw[x4];lia,r.gd⟩
def Room.depth(r:Room k A):A.depth<recursionLimit:=by have:=r.dp;lia
def Room.units(r:Room k A):A.units+64<cLine:=by have:=r.un;lia
def Mu:TA:=λ_ H Q=>Q [] H
def yq(j:TE)(u:TA):TA:=λZ H Q=>j Z H λx l=>u Z l λxs i=>Q (x::xs) i
section
variable{X:Cx}{e:Expr}{es:VV}{te:TE}{t:TA}{pos:Pos}
def iX:PA X [] Mu:=λ_ _ _ _ H Q i h=>Calls.spliced_nil ⟨[],H,i,.nil,h⟩
def c8(G:PE X e te)(hr:PA X es t)(F:starEach (e::es) X.env=(T,eval e X.env)::starEach es X.env:=by rfl):PA X (e::es) (yq te t):=by intro pos j s Z H Q i h;rw[F];show wpAny _ _ (spliced ((T,eval e X.env)::backTo pos (starEach es X.env))) _ _ s;refine Calls.spliced_cons (kP (G j s Z H _ i h) λu s1 ⟨x,z,E,r1,l⟩=>?_);exact kP (hr pos j s1 Z z _ E l) λL s2 ⟨xs,C,B,r2,y⟩=>⟨x::xs,C,B,.cons r1 r2,y⟩
def Rx(t:TA):TE:=λZ H Q=>t Z H λxs i=>xs.length<=sizeLine/\∀p,i p=Y->Q (.ref p) (upd i p (.tup xs))
def Ry(t:TA):TE:=λZ H Q=>t Z H λxs i=>xs.length<=sizeLine/\∀p,i p=Y->Q (.ref p) (upd i p (.lst xs))
def zY{x1}(h:PA X es t):PE X (.Tuple es x1 pos) (Rx t):=by intro B s Z H Q i y;refine wpAny_Tuple_spliced (kP (h pos B s Z H _ i y) λC s1 ⟨xs,l,j,r,z,q⟩=>⟨by rw[<-r.length];exact z,?_⟩);have hf:=j.hok.fresh (mh _);refine⟨.ref s1.heap.objs.size,upd l s1.heap.objs.size (.tup xs),j.laid (t':=s1.toks) (λb u e=>r_ _ e) (mh _) ?_,rfl,q _ hf⟩;exact⟨z,C,r,⟨_,CL _ rfl,rfl,⟨_,rfl⟩,rfl⟩⟩
def Iy(h:PA X es t):PE X (.List es pos) (Ry t):=by intro B s Z H Q i y;refine wpAny_List_spliced (kP (h pos B s Z H _ i y) λC s1 ⟨xs,l,j,r,z,q⟩=>⟨by rw[<-r.length];exact z,?_⟩);have hf:=j.hok.fresh (mh _);refine⟨.ref s1.heap.objs.size,upd l s1.heap.objs.size (.lst xs),j.laid (t':=s1.toks) (λb u e=>r_ _ e) (mh _) ?_,rfl,q _ hf⟩;exact⟨z,C,0,r,CL _ rfl⟩
end
abbrev Sp:=List V->Hp->VK->XK->Prop
abbrev DQ:=List Env->Hp->Shared->XK->Value->Shared->Prop
structure Env0(P:Program)(w:World)(K:hW)(mg:VZ)(base:Heap)(A:Around)(outer:List Env)(s:Shared)(H:Hp):Prop where
 frames:A.frames=J outer
 mod:Mod K mg base
 bs:∀b o,base.get? b=J o->s.heap.get? b=J o/\H b=Y
 bsz:base.objs.size<=s.heap.objs.size
 funs:s.heap.FunFrames base outer
 frf:∀b∈BL outer,H b=Y
 hok:HOk P w H s.heap
 bare:AllBare s.gens
 tree:P.given.tree=Y
inductive CE(outer:List Env)(P:Program)(w:World)(H:Hp)(s:Shared)(Q:VK)(u:Value)(s':Shared):Prop
 |mk(v:V)(H':Hp)(o:s'.os=s.os)(b:AllBare s'.gens)(n:Un (BL outer) [] H H' s.heap s'.heap)(k:HOk P w H' s'.heap)(r:bh v u)(q:Q v H'):CE outer P w H s Q u s'
def CR(j:DQ)(outer:List Env)(P:Program)(w:World)(H:Hp)(s:Shared)(Q:VK)(E:XK)(r:Result)(i:Shared):Prop :=
 match r with
 |.ok (.ret u)=>CE outer P w H s Q u i
 |.ok _=>False
 |.error e=>j outer H s E e i
structure FnOk(P:Program)(w:World)(K:hW)(mg:VZ)(base:Heap)(CX:DQ)(k:Nat)(f:Addr)(fd:FuncData)(ps:VL)(sp:Sp):Prop where
 len:∀vs H Q E,sp vs H Q E->vs.length=ps.length
 run:∀(A:Around)(outer:List Env)(s:Shared)(H:Hp)(args:Args)(us:VR)(vs:List V)(Q:VK)(E:XK),Room k A->Env0 P w K mg base A outer s H->BindsTo s fd args (ps.zip us)->aV vs us->sp vs H Q E ->
  codeAny (model P w) A (.call (.ref f) args) (CR CX outer P w H s Q E) s
def FnOk.mono{P:Program}{w:World}{K:hW}{mg:VZ}{base:Heap}{l:DQ}{j k:Nat}{f:Addr}{fd:FuncData}{ps:VL}{sp:Sp}(F:FnOk P w K mg base l j f fd ps sp)(h:j<=k):
  FnOk P w K mg base l k f fd ps sp:=⟨F.len,λA outer s H i y u Q E hr=>F.run A outer s H i y u Q E (hr.mono h)⟩
def FnOk.imp{P:Program}{w:World}{K:hW}{mg:VZ}{base:Heap}{u:DQ}{k:Nat}{f:Addr}{fd:FuncData}{ps:VL}{sp l:Sp}(F:FnOk P w K mg base u k f fd ps sp)(h:∀i H Q E,l i H Q E->sp i H Q E):FnOk P w K mg base u k f fd ps l :=
 ⟨λi H Q E q=>F.len i H Q E (h _ _ _ _ q),λA outer s H j B i Q E hr y z hv C=>F.run A outer s H j B i Q E hr y z hv (h _ _ _ _ C)⟩
def Env0.make{P:Program}{w:World}{K:hW}{mg:VZ}{base:Heap}{A:Around}{outer:List Env}{s:Shared}{H:Hp}(e:Env0 P w K mg base A outer s H)(C:Addr)(i:VR)(j:List (Str×Value)):
  Env0 P w K mg base (A.under (.builtin "type.__call__" ⟨.ref C::i,j⟩)) outer s H:=⟨by first | exact e.frames | (simpa using e.frames),e.mod,e.bs,e.bsz,e.funs,e.frf,e.hok,e.bare,e.tree⟩
section
variable{X:Cx}{NN:List (Addr × Obj)}{Z:St}{H:Hp}{s s':Shared}
def Inv.env0(i:Inv X NN Z H s):Env0 X.prog X.w X.K X.mg X.base X.A X.stack s H :=
 ⟨i.ok.frames,i.ok.mod,i.bs,wy i.ok.bsz i.sz,i.stack,i.stkFree,i.hok,i.bare,i.ok.tree⟩
def Inv.after(i:Inv X NN Z H s)(h:CE X.stack X.prog X.w H s Q u s'):EP X NN Z Q u s':=by obtain⟨v,j,os,bare,un,hok,r,q⟩:=h;obtain⟨l,g,d,t,y⟩:=s';obtain rfl:=os;exact⟨v,j,i.call (h':=l) (g':=g) (d':=d) (t':=t) un hok bare (λb z=>absurd z (by simp)),r,q⟩
end
def lU(K:hW)(fd:FuncData)(ps:VL)(j:VR):Prop :=
 ∀(s:Shared)(i:VR),K.In s.heap->(i++j).length=ps.length->BindsTo s fd ⟨i,[]⟩ (ps.zip (i++j))
def lU.all{K:hW}{fd:FuncData}{ps:VL}(h:∀i:VR,i.length=ps.length->bindArgs fd ⟨i,[]⟩=pure (ps.zip i)):lU K fd ps []:=λs i _ hl=>by
 rw[HP]at hl ⊢;exact .of_eq (h i hl)
structure p_(N P:VL)(sc:Scope):Prop where
 kind:sc.kind=.function
 co:sc.isCoroutine=T
 gen:sc.isGenerator=T
 nd:N.Nodup
 pre:N.take P.length=P
 par:∀x∈P,sc.names.lookup x=J .local\/sc.names.lookup x=J .cell
 nofree:∀y∈sc.names,y.2≠.free
def tz{kindOf:Str->Option NameKind}{x:Str}:∀{binds:List (Str×Value)}{m:VZ},(∀v,(x,v)∉binds)->bindL kindOf binds m x=m x
 |[],_,_=>rfl
 |(n,v)::r,m,h=>by
  unfold bindL;rw[tz λw hw=>h w (pW _ hw)];split
  .have:x≠n:=by rintro rfl;exact h v C8
   simp[this]
  .rfl
def tq{kindOf:Str->Option NameKind}{x:Str}:∀{binds:List (Str×Value)}{m:VZ},(∀v,(x,v)∉binds)->bindC kindOf binds m x=m x
 |[],_,_=>rfl
 |(n,v)::r,m,h=>by
  unfold bindC;rw[tq λw hw=>h w (pW _ hw)];split
  .rfl
  .have:x≠n:=by rintro rfl;exact h v C8
   simp[this]
def sQ{kindOf:Str->Option NameKind}{x:Str}{v:Value}:∀{P:VL}{j:VR}{i:Nat}{m:VZ},P.Nodup->P[i]?=J x->j[i]?=J v->kindOf x=J .local ->
  bindL kindOf (P.zip j) m x=J v
 |p::P,w::j,0,m,nd,l,u,y=>by
  simp at l u;subst l;subst u;show bindL kindOf ((p,w)::P.zip j) m p=_;unfold bindL;rw[tz λv hv=>(L0.mp nd).1 (Q5 hv).1,eT y];simp
 |p::P,w::j,i+1,m,nd,l,u,y=>by
  unfold bindL;exact sQ (L0.mp nd).2 (by simpa using l) (by simpa using u) y
def tL{kindOf:Str->Option NameKind}{x:Str}{v:Value}:∀{P:VL}{j:VR}{i:Nat}{m:VZ},P.Nodup->P[i]?=J x->j[i]?=J v->kindOf x≠J .local ->
  bindC kindOf (P.zip j) m x=J v
 |p::P,w::j,0,m,nd,l,u,y=>by
  simp at l u;subst l;subst u;show bindC kindOf ((p,w)::P.zip j) m p=_;unfold bindC;rw[tq λv hv=>(L0.mp nd).1 (Q5 hv).1,hF y];simp
 |p::P,w::j,i+1,m,nd,l,u,y=>by
  unfold bindC;exact tL (L0.mp nd).2 (by simpa using l) (by simpa using u) y
def start(N:VL)(i:List V):St:=i.map J++List.replicate (N.length-i.length) Y
def rZ(y:DQ)(P:Program)(w:World)(K:hW)(mg:VZ)(base:Heap)(N:VL)(j:Str)(i:Scope)(f:Addr)(u:Value)(A:Around)(outer:List Env)(s:Shared)(H:Hp)(E:XK):Cx where
 prog:=P
 w:=w
 K:=K
 mg:=mg
 base:=base
 A:=A.deeper (envOfC j i s.heap.objs.size f u)
 N:=N
 s₀:=s
 H₀:=H
 env:=envOfC j i s.heap.objs.size f u
 outer:=outer
 stack:=envOfC j i s.heap.objs.size f u::outer
 ex:=[]
 calm:=I
 fn:=λ_=>I
 pn:=[]
 xe:=λe z=>wpAny (model P w) (A.deeper (envOfC j i s.heap.objs.size f u)) (leaving (envOfC j i s.heap.objs.size f u) e) (λ_ l=>y outer H s E e l) (λB l=>y outer H s E B l) z
def vQ{i:Scope}{n:Nat}{x:Str}(h:i.names.lookup x=J .cell):∃c,(cellsFrom n i.names []).lookup x=J c:=by have q:=PySem.W.cellsFrom_some i.names n [] (.inl h);exact Option.isSome_iff_exists.mp q
def AH{CX:DQ}{P:Program}{w:World}{K:hW}{mg:VZ}{base:Heap}{N ps:VL}{l:Str}{j:Scope}{f:Addr}{R:Value}{A:Around}{outer:List Env}{s s1:Shared}{H:Hp}{E:XK}{X:VR}{G:List V}(S:p_ N ps j)(hd:A.handled=Y)(C:Env0 P w K mg base A outer s H)(hl:G.length=ps.length)(r:aV G X)(x:InCallC s s.heap.objs.size (bindL (envOfC l j s.heap.objs.size f R).kindOf (ps.zip X) λ_=>Y) (cellsFrom (s.heap.objs.size+1) j.names []) (bindC (envOfC l j s.heap.objs.size f R).kindOf (ps.zip X) λ_=>Y) s1):
  Inv (rZ CX P w K mg base N l j f R A outer s H E) [] (start N G) H s1:=by
 have aa:ps.length<=N.length:=by have:=congrArg List.length S.pre;rw[QZ]at this;lia
 obtain⟨W,tk,rfl,Z⟩:=x.done;have F:∀b:Addr,b∉(rZ CX P w K mg base N l j f R A outer s H E).ex:=λb z=>absurd (show b∈([]:VQ)from z) (by simp)
 refine⟨⟨C.mod,S.kind,rfl,rfl,mh _,λy z c W B=>?_,λy L=>?_,λy c _ h=>?_,λ_=>hd,Around.frames_deeper C.frames,.inr ⟨rfl,rfl⟩,λb z=>absurd z (F b),C.bs,C.bsz,λb _ _=>F b,λb z=>absurd z (F b),C.funs,C.frf,C.tree,⟨_,_,rfl,S.gen,S.co,rfl,rfl⟩⟩,
  rfl,C.bare,Un.kept Z,⟨_,x.toInCall.ns,λi y v W B h3=>?_⟩,λy c h=>⟨_,x.cell y c h⟩,C.hok.fresh (mh _),λy c h=>?_,λp M=>absurd (show p∈([]:VS)from M) (by simp),C.hok.kept Z,?_⟩
 .exact name_of_addr x.apart (PySem.mem_of_lookup W) (PySem.mem_of_lookup B)
 .rcases L with L|L
  .exact vQ L
  .exact absurd rfl (S.nofree _ (PySem.mem_of_lookup L))
 .exact L7 (x.above y c (PySem.mem_of_lookup h))
 .have U:i<G.length:=by
   unfold start at B;by_cases U:i<G.length
   .exact U
   .rw[DC (by simpa using U)]at B;rw[Lu]at B
    split at B<;>cases B
  have ha:G[i]?=J v:=by
   unfold start at B;rw[BH (by simpa using U),CG]at B
   cases e:G[i]? with
   |none=>rw[e]at B;cases B
   |some a=>rw[e]at B;cases B;rfl
  obtain⟨u,hu,rv⟩:=r.get ha;have M:ps[i]?=J y:=by rw[<-S.pre,List.getElem?_take_of_lt ⋯];exact W
  have Q:ps.Nodup:=by rw[<-S.pre];exact S.nd.sublist (List.take_sublist _ _)
  refine⟨u,rv,?_⟩;rcases S.par y (Ek M)with k|k
  .exact .inl ⟨k,sQ Q M hu k⟩
  .obtain⟨c,e⟩:=vQ k;refine .inr ⟨.inl k,c,e,?_⟩;have q:=x.cell y c e;rw[tL Q M hu (by show j.names.lookup y≠_;rw[k];decide)]at q;exact q
 .exact C.hok.fresh (L7 (x.above y c (PySem.mem_of_lookup h)))
 .unfold start;show _=N.length;rw[Dc,CM,HJ];lia
def G2{CX:DQ}{P:Program}{w:World}{K:hW}{mg:VZ}{base:Heap}{k:Nat}{f:Addr}{L j:Str}{B:Arguments}{C:VB}{i:Scope}{dV kV X pm z ct oc:Value}{an od:VC}{ac:Array (VT)}{N ps:VL}{sp:Sp}(lk:K.lookup f=J ⟨oc,od,.func (PySem.W.fnOf L j B C i dV kV X pm an z ct),ac⟩)(ag:PySem.W.codeIn K z j=I)(S:p_ N ps i)(len:∀F H Q E,sp F H Q E->F.length=ps.length)(R:∀(A:Around)(outer:List Env)(s:Shared)(H:Hp)(F:List V)(Q:VK)(E:XK),Room k (A.deeper (envOfC j i s.heap.objs.size f z))->sp F H Q E ->
   ∃t,PSs (rZ CX P w K mg base N j i f z A outer s H E) C t/\t { nx:=λ_ G=>Q .non G,rt:=Q} (start N F) H):
  FnOk P w K mg base CX (k+1) f (PySem.W.fnOf L j B C i dV kV X pm an z ct) ps sp:=by
 refine⟨len,λA outer s H ak us F Q E hr W hb r Z=>?_⟩;have hl:=len _ _ _ _ Z;have KX:=W.mod.kin.keeps λb o e=>(W.bs b o e).1;have ab:=W.mod.nolimit.keeps λb o e=>(W.bs b o e).1;have M:∀y∈ps.zip us,i.names.lookup y.1=J .local\/(i.names.lookup y.1=J .cell/\((cellsFrom (s.heap.objs.size+1) i.names []).lookup y.1).isSome=I):=λ⟨n,v⟩ hy=>by
  rcases S.par n (Q5 hy).1 with q|q
  .exact .inl q
  .exact .inr ⟨q,PySem.W.cellsFrom_some _ _ _ (.inl q)⟩
 refine codeAny_call_function hr.depth (KX _ _ lk) rfl S.co S.gen rfl (PySem.W.codeRec_of KX ag) (hb _ _ _ _ ?_);refine wpAny_newFunctionEnv_cells S.kind M λenv he s1 x=>?_;subst he;refine⟨ab.keeps x.toInCall.keep,codeAny_func ?_⟩;obtain⟨t,ht,hq⟩:=R A outer s H F Q E (hr.deeper _) Z;have aa:Inv (rZ CX P w K mg base N j i f z A outer s H E) [] (start N F) H s1:=AH S hr.hd W hl r x;refine wpAny_mono (ht [] s1 (start N F) H _ aa hq) (λfl s' U=>?_) λe s' U=>U;have fin:∀{Z':St}{G:Hp}{v:V}{u:Value},Inv (rZ CX P w K mg base N j i f z A outer s H E) [] Z' G s'->bh v u->Q v G->CE outer P w H s Q u s' :=
  λ{Z' G v u} l rv q=>⟨v,G,l.os,l.bare,l.base,l.hok,rv,q⟩
 cases fl with
 |ret u =>
  obtain⟨v,Z',G,l,rv,q⟩:=U;exact fin l rv q
 |next =>
  obtain⟨Z',G,l,q⟩:=U;exact fin (v:=V.non) l rfl q
 |brk =>
  obtain⟨_,_,_,q⟩:=U;exact False.elim q
 |cont =>
  obtain⟨_,_,_,q⟩:=U;exact False.elim q
section
variable{X:Cx}{x:Str}{p pos:Pos}{e:Expr}{es:VV}{t:TA}{id T:String}{r:List V->Hp->VK->Prop}
def Rz(r:List V->Hp->VK->Prop)(t:TA):TE:=λZ H Q=>t Z H λi j=>r i j Q
def iq(C:dN X (.builtin id) r)(hg:Gl X x)(E:X.mg x=Y)(hv:bootBuiltins x=J (.builtin id))(P:PA X (e::es) t)(M:x≠"__name__":=by decide)(l:(x==("__debug__":Str))=false:=by decide)(B:starEach (e::es) X.env=(false,eval e X.env)::starEach es X.env:=by rfl)(j:(backTo pos (starEach es X.env)).any (·.1)=false:=by rfl):PE X (.Call (.Name x p) (e::es) [] pos) (Rz r t):=by
 intro u s Z H Q i h;refine wpAny_Call_Name_kw (lj i hg E hv ?_ M l);exact PyProof.Rows.callWith_builtin1 (kP (P pos u s Z H _ i h) λL s1 ⟨G,z,F,r1,y⟩=>C u s1 Z z G L Q F r1 y) B j
def sZ(C:dN X (.type T) r)(hg:Gl X x)(E:X.mg x=Y)(hv:bootBuiltins x=J (.type T))(P:PA X (e::es) t)(M:x≠"__name__":=by decide)(l:(x==("__debug__":Str))=false:=by decide)(B:starEach (e::es) X.env=(false,eval e X.env)::starEach es X.env:=by rfl)(j:(backTo pos (starEach es X.env)).any (·.1)=false:=by rfl):PE X (.Call (.Name x p) (e::es) [] pos) (Rz r t):=by
 intro u s Z H Q i h;refine wpAny_Call_Name_kw (lj i hg E hv ?_ M l);exact PyProof.Rows.callWith_type1 (kP (P pos u s Z H _ i h) λL s1 ⟨G,z,F,r1,y⟩=>C u s1 Z z G L Q F r1 y) B j
end
end L2
namespace HT
open PyProof.Rows
section
open PySem.SeqAt
open PySem.AutoSeq1 (wpAny_loadPart')
open PySem.MeetsSeq PySem.MeetsSeq2 PySem.MeetsSeq3
end
section
variable{prog:Program}{w:World}{A:Around}{E:VX}{s:Shared}
def EC(ht:IsTup s.heap t vs.toArray)(S:IsTup s.heap b ws.toArray)(hv:vs≠[])(R:ws=[]->Q (.ref t) s)(M:ws≠[]->Q (.ref s.heap.objs.size) { s with heap:=s.heap.push { cls:=.type "tuple",data:=.seq (vs++ws).toArray}})(y:vs.length+ws.length<=sizeLine):wpAny (model prog w) A (binaryOp .Add (.ref t) (.ref b)) Q E s:=by
 obtain⟨⟨cls,L,G,C⟩,u,P,n,hd⟩:=id ht;obtain⟨⟨F,l,data2,j⟩,i,B,H,z⟩:=id S;subst P hd B z;have e:vs.toArray++ws.toArray=(vs++ws).toArray:=by simp
 by_cases hw:ws=[]
 .exact concat_meets ⟨_,u,rfl⟩ ⟨_,i,rfl⟩ noFill_tuple_add seq_tuple_add PySem.F.slot_tuple_add PySem.F.entry_tuple_add (PySem.F.args_tuple_add_2 _ _)
   (tuple_addW1 t b vs.toArray ws.toArray n H L l C j (by simpa using hv) (by simp[hw])) ⟨u,i,R hw⟩
 .refine concat_meets ⟨_,u,rfl⟩ ⟨_,i,rfl⟩ noFill_tuple_add seq_tuple_add PySem.F.slot_tuple_add PySem.F.entry_tuple_add (PySem.F.args_tuple_add_2 _ _)
   (tuple_addW2 t b vs.toArray ws.toArray n H L l C j (by simpa using hv) (by simpa using hw) (by exact y)) ⟨u,i,?_⟩
  rw[e];exact M hw
def l_(n d:Nat):VU->Nat
 |none=>d
 |some v=>if v<0 then(v+(n:Int)).toNat else min v.toNat n
def xF(v:Int)(n d:Nat):(if v<0 then max (v+(n:Int)) 0 else min v (n:Int))=((l_ n d (J v):Nat):Int):=by
 show(if v<0 then max (v+(n:Int)) 0 else min v (n:Int))=(((if v<0 then(v+(n:Int)).toNat else min v.toNat n):Nat):Int)
 grind
def yc(lo i:VU)(n:Nat):Builtin.Slice.sliceAdjust lo i 1 (n:Int)=(((l_ n 0 lo:Nat):Int),((l_ n n i:Nat):Int)):=by
 refine Prod.ext ?_ ?_
 .cases lo with
  |none=>rfl
  |some v=>exact xF v n 0
 .cases i with
  |none=>rfl
  |some v=>exact xF v n n
def x5(i j:Nat):Builtin.Slice.slicePlaces (i:Int) (j:Int) 1=j-i:=by
 unfold Builtin.Slice.slicePlaces;have l:(1:Int)>0:=by lia
 simp only[l,if_true,Int.ediv_one]
 split<;>lia
def qT(p:IsPart v o)(h:Q o s):wpAny (model prog w) A (Builtin.Slice.slicePartIndex v) Q E s:=by
 cases p with
 |none=>exact slicePart_none h
 |int i t=>exact slicePart_int h
def qj{y:Addr}{u z:Value}{lo i:VU}{n:Nat}{Q:Int×Int×Nat->Shared->Prop}(B:s.heap.IsSliceOf y u z .none)(F:IsPart u lo)(C:IsPart z i)(h:Q (((l_ n 0 lo:Nat):Int),1,l_ n n i-l_ n 0 lo) s):wpAny (model prog w) A (Builtin.Slice.sliceApplied (.ref y) (pure (n:Int))) Q E s:=by
 obtain⟨os,j,G,l⟩:=id B;refine ir (ir (wpAny_field j l rfl (ir (wpAny_field j l rfl (ir (wpAny_field j l rfl (ph ?_)))))));refine ir (slicePart_none ?_);refine ir (qT F (ir (qT C (ir (ph ?_)))));show wpAny _ _ (match Builtin.Slice.sliceAdjust lo i 1 (n:Int)with | (lo,i)=>pure (lo,(1:Int),Builtin.Slice.slicePlaces lo i 1)) _ _ s;rw[yc lo i n];show wpAny _ _ (pure (((l_ n 0 lo:Nat):Int),(1:Int),Builtin.Slice.slicePlaces ((l_ n 0 lo:Nat):Int) ((l_ n n i:Nat):Int) 1)) _ _ s;rw[x5];exact ph h
def B3(xs:Array Value)(i k:Nat):((List.range k).filterMap λ(m:Nat)=>xs[((i:Int)+(m:Int)*1).toNat]?).toArray=((xs.toList.drop i).take k).toArray:=by
 have e:(λ(m:Nat)=>xs[((i:Int)+(m:Int)*1).toNat]?)=λm=>xs[i+m]?:=by grind
 rw[e]
 have:=pick_run xs i k
 rw[List.filterMap_map]at this;have e2:((λx=>xs[x]?)∘λx=>i+x)=λm=>xs[i+m]?:=rfl;rw[e2]at this;rw[this]
def o8{t u:Addr}{items:Array Value}{C G:Value}{lo i:VU}{Q:VX}(ht:IsTup s.heap t items)(F:s.heap.IsSliceOf u C G .none)(H:IsPart C lo)(P:IsPart G i)(hw:¬(l_ items.size 0 lo=0/\l_ items.size items.size i=items.size))(h:Q (.ref s.heap.objs.size) { s with heap:=s.heap.push { cls:=.type "tuple",data:=.seq ((items.toList.drop (l_ items.size 0 lo)).take (l_ items.size items.size i-l_ items.size 0 lo)).toArray}})(L:items.size<=sizeLine):wpAny (model prog w) A (getItem (.ref t) (.ref u)) Q E s:=by
 have j:sizeOk (.seq ((items.toList.drop (l_ items.size 0 lo)).take (l_ items.size items.size i-l_ items.size 0 lo)).toArray):=by show((items.toList.drop (l_ items.size 0 lo)).take (l_ items.size items.size i-l_ items.size 0 lo)).toArray.size<=sizeLine;rw[B_,QZ,List.length_drop,Array.length_toList];lia
 obtain⟨os,l,z,M⟩:=id F;have B:s.TypeIs (.ref u) "slice":=⟨os,l,z⟩;unfold getItem
 try with_reducible refine wpAny_holding ?_
 refine ir (wpAny_sequenceKey ht.typeIs (by decide) ?_)
 refine ir (wpAny_callSpecial?_slot ht.typeIs PyProof.Rows.slot_tuple_getitem
  (wpAny_call_entry PyProof.Rows.slot_tuple_getitem ht.typeIs entry_tuple_getitem ?_ (args_tuple_getitem _ _)))
 show wpAny _ _ (Builtin.Tuple.tupleItemsOf (.ref t) >>= _) _ _ s;refine ir (tupleItemsOf_ ht ?_);refine ir (wpAny_typeOf B ?_);refine ir (qj F H P ?_);have y:¬((((l_ items.size 0 lo:Nat):Int)==0&&(1:Int)==1&&(l_ items.size items.size i-l_ items.size 0 lo)==items.size)=I):=by intro q;rw[DD,DD]at q;have R:=eq_of_beq q.1.1;have S:=eq_of_beq q.2;exact hw ⟨⋯,⋯⟩
 show wpAny _ _ (if(((l_ items.size 0 lo:Nat):Int)==0&&(1:Int)==1&&(l_ items.size items.size i-l_ items.size 0 lo)==items.size)=I then _ else _) _ _ s;rw[hF y,B3]
 first
  |exact ir (m:=Builtin.Tuple.tupleExact _) (wpAny_newObj_type (ir (ph (ph ⟨_,rfl,ph h⟩))) j)
end
end HT
namespace L2
open PySem.Spec PyProof.Rows
abbrev TO:=St->Hp->(VU->Hp->Prop)->Prop
def PO(X:Cx)(e:Option Expr)(t:TO):Prop :=
 ∀(j:VS)(s:Shared)(Z:St)(H:Hp)(Q:VU->Hp->Prop),Inv X j Z H s->t Z H Q ->
  wpAny (model X.prog X.w) X.A (evalPart e X.env) (λu l=>∃o i,Inv X j Z i l/\IsPart u o/\Q o i) X.xe s
def EF:TO:=λ_ H Q=>Q Y H
def Mw(t:TE):TO:=λZ H Q=>t Z H λx j=>∃i,x=.int i/\Q (J i) j
def xU:∀{i:VR},aV (ns.map V.int) i->IntsAre i ns:=by
 induction ns with
 |nil=>intro i r;cases r;exact .nil
 |cons n ns j =>
  intro i r
  cases r with
  |cons r1 r2 =>
   obtain⟨t,e⟩:=r1;subst e;exact .cons n t (j r2)
section
variable{X:Cx}{e:Expr}{te:TE}{lo hi:Option Expr}{tl th:TO}{pos p2:Pos}
def EH:PO X Y EF:=by intro j s Z H Q i h;rw[evalPart_none];exact ph ⟨Y,H,i,.none,h⟩
def EJ(h:PE X e te):PO X (J e) (Mw te):=by intro z s Z H Q j hw;refine kP (h z s Z H _ j hw) λu s1 ⟨x,y,B,r1,l⟩=>?_;obtain⟨i,rfl,q⟩:=l;obtain⟨t,rfl⟩:=r1;exact⟨J i,y,B,.int i t,q⟩
def My(X:Cx)(r:V->VU->VU->Hp->VK->Prop):Prop :=
 ∀(j:VS)(s:Shared)(Z:St)(H:Hp)(x:V)(v l y:Value)(lo hi:VU)(u:Addr)(Q:VK),Inv X j Z H s->bh x v->s.heap.IsSliceOf u l y .none->IsPart l lo->IsPart y hi->r x lo hi H Q ->
  ∃i id,typeLookup (.type i) "__getitem__"=pure (J (.builtin id))/\s.TypeIs v i/\wpAny (model X.prog X.w) X.A (getItem v (.ref u)) (EP X j Z Q) X.xe s
def UB(r:V->VU->VU->Hp->VK->Prop)(te:TE)(tl th:TO):TE:=λZ H Q=>te Z H λx y=>tl Z y λl j=>th Z j λu i=>r x l u i Q
def vS(hr:My X r)(P:PE X e te)(hl:PO X lo tl)(hu:PO X hi th):PE X (.Subscript e (.Slice lo hi Y p2) pos) (UB r te tl th):=by intro j s Z H Q y h;refine Subscript_ (kP (P j s Z H _ y h) λv s1 ⟨x,M,I1,r1,G⟩=>?_);refine wpAny_Slice (kP (hl j s1 Z M _ I1 G) λz s2 ⟨l,W,S,U,L⟩=>kP (hu j s2 Z W _ S L) λB i ⟨u,C,R,pu,q3⟩=>?_);refine ph ?_;have I4:Inv X j Z C { i with heap:=i.heap.push { cls:=.type "slice",data:=.fields #[z,B,.none]}}:=R.kept (t':=i.toks) λb ob q=>r_ _ q;obtain⟨E,id,F,ht,hg⟩:=hr j { i with heap:=i.heap.push { cls:=.type "slice",data:=.fields #[z,B,.none]}} Z C x v z B l u i.heap.objs.size Q I4 r1 (Heap.IsSliceOf.new ..) U pu q3;exact tail_any ht F hg (by with_unfolding_all rfl)
def pV(xs:List V)(lo hi:VU):List V:=(xs.drop (HT.l_ xs.length 0 lo)).take (HT.l_ xs.length xs.length hi-HT.l_ xs.length 0 lo)
def pe(xs:List V)(lo hi:VU):(pV xs lo hi).length<=xs.length:=by unfold pV;rw[QZ,List.length_drop];lia
def RA(K:hW):V->VU->VU->Hp->VK->Prop:=λx lo hi H Q=>∃a xs,x=.ref a/\SqT K H a xs /\
 ¬(HT.l_ xs.length 0 lo=0/\HT.l_ xs.length xs.length hi=xs.length)/\∀p,H p=Y->Q (.ref p) (upd H p (.tup (pV xs lo hi)))
def Iz:My X (RA X.K):=by
 intro F s Z H x v M P lo hi L Q j E B z C h;obtain⟨a,xs,rfl,y,hw,q⟩:=h;cases E;obtain⟨l,r,ht,u⟩:=j.tuple y;have i:l.toArray.size=xs.length:=by exact r.length.symm
 refine⟨"tuple",_,PyProof.Rows.slot_tuple_getitem.lookup,ht.typeIs,?_⟩;refine HT.o8 ht B z C (by rw[i];exact hw) ?_ (by rw[i];exact u);rw[i];refine⟨.ref s.heap.objs.size,_,j.laid (t':=s.toks) (λb G q=>r_ _ q) (mh _) ?_,rfl,q _ (j.hok.fresh (mh _))⟩;exact⟨wy (pe xs lo hi) u,_,(r.drop (HT.l_ xs.length 0 lo)).take (HT.l_ xs.length xs.length hi-HT.l_ xs.length 0 lo),jc.new _ _⟩
def Mz(K:hW):R2:=λx y H Q=>∃a b xs ys,x=.ref a/\y=.ref b/\SqT K H a xs/\SqT K H b ys/\xs≠[]/\xs.length+ys.length<=sizeLine /\
 (ys=[]->Q (.ref a) H)/\(ys≠[]->∀p,H p=Y->Q (.ref p) (upd H p (.tup (xs++ys))))
def aV.nil_iff(r:aV xs us):us=[]↔xs=[]:=by
 cases r with
 |nil=>simp
 |cons _ _=>simp
def EK:OpR X (binaryOp .Add) (Mz X.K):=by intro S s Z H x y v u Q i P F h;obtain⟨a,b,xs,ys,rfl,rfl,R,M,E,l,B,C⟩:=h;cases P;cases F;obtain⟨G,r1,L,_⟩:=i.tuple R;obtain⟨j,r2,p2,_⟩:=i.tuple M;refine HT.EC L p2 (λz=>E (r1.nil_iff.mp z)) (λz=>⟨.ref a,H,i,rfl,B (r2.nil_iff.mp z)⟩) (λz=>?_) (by rw[<-r1.length,<-r2.length];exact l);refine⟨.ref s.heap.objs.size,_,i.laid (t':=s.toks) (λb U q=>r_ _ q) (mh _) ?_,rfl,C (λw=>z (r2.nil_iff.mpr w)) _ (i.hok.fresh (mh _))⟩;exact⟨by rw[Dc];exact l,_,r1.append r2,jc.new _ _⟩
end
def xS(n:Nat)(i:Int):Option Nat:=if 0<=i then(if i<n then J i.toNat else Y)else if -(n:Int)<=i then J (i+n).toNat else Y
def i_{α:Type}(xs:List α)(i:Int):Option α:=(xS xs.length i).bind λj=>xs[j]?
def xE(h:xS n i=J j):seqIndex? i n=J j/\j<n /\ -(n:Int)<=i/\i<n:=by
 unfold xS at h;by_cases u:0<=i
 .rw[eT u]at h;by_cases l:i<n
  .rw[eT l]at h;have e:=Option.some.inj h;exact⟨by rw[seqIndex_of u l,e],⋯,⋯,l⟩
  .rw[hF l]at h;cases h
 .rw[hF u]at h;by_cases l:-(n:Int)<=i
  .rw[eT l]at h;have e:=Option.some.inj h;exact⟨by rw[seqIndex_neg ⋯ l,e],⋯,l,⋯⟩
  .rw[hF l]at h;cases h
def sh(h:i_ xs i=J v):∃j,seqIndex? i xs.length=J j/\xs[j]?=J v/\j<xs.length /\ -(xs.length:Int)<=i/\i<xs.length:=by
 unfold i_ at h
 cases e:xS xs.length i with
 |none=>rw[e]at h;cases h
 |some j =>
  rw[e]at h;obtain⟨l,y,u,z⟩:=xE e;exact⟨j,l,h,y,u,z⟩
def lq{α:Type}{xs:List α}{j:Nat}{v:α}(h:xs[j]?=J v):i_ xs (j:Int)=J v:=by
 have i:=(w_.mp h).1;have e:xS xs.length (j:Int)=J j:=by
  unfold xS
  simp_all
 unfold i_;rw[e];exact h
def oX(b:Expr):Prop:=∀o i,subscripted b T o i=operate [o,i] (getItem o i)
def IxR(X:Cx)(r:R2):Prop :=
 ∀(j i:Expr)(l:VS)(s:Shared)(Z:St)(H:Hp)(x y:V)(v u:Value)(Q:VK),Inv X l Z H s->bh x v->bh y u->r x y H Q ->
  subscripted i T v u=operate [v,u] (getItem v u)->wpAny (model X.prog X.w) X.A (subscriptTail j i v u) (EP X l Z Q) X.xe s
def DR(X:Cx)(id:String)(r:V->List V->Hp->VK->Prop):Prop :=
 ∀(j:VS)(s:Shared)(Z:St)(H:Hp)(x:V)(xs:List V)(v:Value)(i:VR)(Q:VK),Inv X j Z H s->bh x v->aV xs i->r x xs H Q ->
  wpAny (model X.prog X.w) X.A (call (.builtin id) (v::i)) (EP X j Z Q) X.xe s
section
variable{X:Cx}{a b:Expr}{ta tb:TE}{pos:Pos}
def IxR.or(h:IxR X r)(F:IxR X r'):IxR X (λx y H Q=>r x y H Q\/r' x y H Q):=by
 intro i j z s Z H x y v u Q l E B q C;rcases q with q|q
 .exact h i j z s Z H x y v u Q l E B q C
 .exact F i j z s Z H x y v u Q l E B q C
def MB{r:R2}(hr:IxR X r)(G:PE X a ta)(C:PE X b tb)(E:oX b):PE X (.Subscript a b pos) (LB r ta tb):=by intro j s Z H Q i h;exact Subscript_ (Iq G C i h λv u s2 x y B l F z q=>hr a b j s2 Z B x y v u Q l F z q (E _ _))
def MC(K:hW):R2:=λx y H Q=>∃p xs i v,x=.ref p/\y=.int i/\SqL K H p xs/\i_ xs i=J v/\Q v H
def MD(K:hW):R2:=λx y H Q=>∃p xs i v,x=.ref p/\y=.int i/\SqT K H p xs/\i_ xs i=J v/\Q v H
def MF:R2:=λx y H Q=>∃z i c,x=.str z/\y=.int i/\z.length<=sizeLine/\i_ z.cps.toList i=J c/\Q (.str ⟨#[c]⟩) H
def EL:IxR X (MC X.K):=by
 intro L M NN s Z H x y v u Q l rx ry h S;obtain⟨p,xs,i,z,rfl,rfl,hq,W,q⟩:=h;cases rx;obtain⟨t,rfl⟩:=ry;obtain⟨G,r,E,hz⟩:=l.list hq;obtain⟨j,B,U,h3,h4,h5⟩:=sh W;obtain⟨w,R,F⟩:=r.get U;have hl:=r.length;have hn:=rg;have fin:EP X NN Z Q w s:=⟨z,H,l,F,q⟩;by_cases P:0<=i
 .have C:i.toNat=j:=by
   rw[seqIndex_of P h5]at B;exact Option.some.inj B
  exact item_listR E.isList P ⋯ (by rw[C];simpa using R) fin S
 .have C:(i+(G.toArray.size:Int)).toNat=j:=by
   rw[seqIndex_neg ⋯ h4]at B;rw[B_,<-hl];exact Option.some.inj B
  exact subscriptTail_builtinR E.isList.typeIs slot_list_getitem.lookup
   (wpAny_getItem_list_neg E.isList ⋯ (by rw[B_]<;>lia) ⋯ (by rw[C];simpa using R) ⟨rfl,fin⟩) S
def IA:IxR X (MD X.K):=by
 intro C E P s Z H x y v u Q l rx U h hs;obtain⟨p,xs,i,z,rfl,rfl,M,L,q⟩:=h;cases rx;obtain⟨t,rfl⟩:=U;obtain⟨W,r,F,hz⟩:=l.tuple M;obtain⟨j,R,G,h3,h4,h5⟩:=sh L;obtain⟨w,S,B⟩:=r.get G;have hl:=r.length;have hn:=rg;have fin:EP X P Z Q w s:=⟨z,H,l,B,q⟩;exact subscriptTail_builtinR F.typeIs slot_tuple_getitem.lookup
  (getItem_tuple F ⋯ ⋯ (by rw[B_,<-hl];exact R) (by simpa using S) ⟨rfl,fin⟩) hs
def IB:IxR X MF:=by
 intro B C U s Z H x y v u Q l S M h R;obtain⟨z,i,c,rfl,rfl,hz,G,q⟩:=h;obtain⟨t,rfl⟩:=S;obtain⟨W,rfl⟩:=M;obtain⟨j,E,F,h3,P,L⟩:=sh G;have hl:z.cps.toList.length=z.length:=by simp[Str.length]
 rw[hl]at E P L;have hn:=rg
 exact tail_any (typeIs_str s z t) slot_str_getitem.lookup (getItem_str (by
  have e1:decide (i < -(2^63:Int))=T:=decide_eq_false ⋯;have e2:decide (i>=2^63)=T:=decide_eq_false ⋯
  rw[e1,e2,Bool.or_false]) (by rw[E];simpa using F) ⟨.str ⟨#[c]⟩,H,l.tok _,⟨_,rfl⟩,q⟩) R
def UC(K:hW):R2:=λx y H Q=>MC K x y H Q\/MD K x y H Q\/MF x y H Q
def ID:IxR X (UC X.K):=EL.or (IA.or IB)
def xW(i:VR)(n j:Nat)(u:Value):Obj.mapSeq (·.setIfInBounds j u) { cls:=.type "list",data:=.seq i.toArray n}={ cls:=.type "list",data:=.seq (i.set j u).toArray n}:=by simp[Obj.mapSeq]
def Inv.lst{l:VS}{Z:St}{H:Hp}{s:Shared}{p:Addr}{xs:List V}(j:Inv X l Z H s)(h:H p=J (.lst xs)):
  ∃(i:VR) (n:Nat),aV xs i/\s.heap.get? p=J { cls:=.type "list",data:=.seq i.toArray n}/\xs.length<=sizeLine:=by
 obtain⟨z,i,n,r,e⟩:=j.hok p _ h;exact⟨i,n,r,e,z⟩
def Inv.lstUpd{z:VS}{Z:St}{H:Hp}{s:Shared}{p:Addr}{xs ys:List V}{j i:VR}{n y:Nat}{f:Obj->Obj}(l:Inv X z Z H s)(h:H p=J (.lst xs))(B:s.heap.get? p=J { cls:=.type "list",data:=.seq j.toArray n})(hf:f { cls:=.type "list",data:=.seq j.toArray n}={ cls:=.type "list",data:=.seq i.toArray y})(r:aV ys i)(E:ys.length<=sizeLine)(t:Nat):
  Inv X z Z (upd H p (.lst ys)) { s with heap:=s.heap.update p f,toks:=t}:=by
 have e:(s.heap.update p f).get? p=J { cls:=.type "list",data:=.seq i.toArray y}:=by rw[Pu f B (by rw[hf]<;>rfl),hf]
 refine l.write (by rw[h];trivial) (.inl rfl) (λb u C q=>(QQ _ _ (Ne.symm C)).trans q) ⟨_,e⟩ ?_;exact⟨E,i,y,r,e⟩
def MK:V->V->V->Hp->(Hp->Prop)->Prop:=λo i v H Q=>∃p xs k j,o=.ref p/\i=.int k/\H p=J (.lst xs)/\xS xs.length k=J j/\Q (upd H p (.lst (xs.set j v)))
def Cg:Mf X MK:=by
 intro NN s Z H o i v ov iv u Q l S W R h;obtain⟨p,xs,k,j,rfl,rfl,G,P,q⟩:=h;cases S;obtain⟨t,rfl⟩:=W;obtain⟨y,n,r,B,U⟩:=l.lst G;obtain⟨z,h2,M,L⟩:=xE P;have hl:=r.length;have hn:=rg;have E :=
  l.lstUpd G B (xW y n j u) (r.set R j) (by rw[L4];exact U) s.toks
 by_cases F:0<=k
 .have C:k.toNat=j:=by
   rw[seqIndex_of F L]at z;exact Option.some.inj z
  exact PySem.W.ki_setAt B F ⋯ (by rw[B_,<-hl];exact L) (by rw[C];exact⟨_,E,q⟩)
 .have C:(k+(y.toArray.size:Int)).toNat=j:=by
   rw[seqIndex_neg ⋯ M]at z;rw[B_,<-hl];exact Option.some.inj z
  exact PySem.W.ki_setBack B ⋯ (by rw[B_,<-hl];exact M) ⋯ (by rw[C];exact⟨_,E,q⟩)
def ux(lo j:VU)(n:Nat):(sliceBounds lo j Y n).1=((HT.l_ n 0 lo:Nat):Int)/\(sliceBounds lo j Y n).2.1=((HT.l_ n n j:Nat):Int)/\(sliceBounds lo j Y n).2.2=1:=by
 refine⟨?_,?_,rfl⟩
 .cases lo with
  |none=>simp[sliceBounds,HT.l_]
  |some i =>
   simp only[sliceBounds,HT.l_,Option.getD_none,show(1:Int)>0 by decide,if_true];by_cases h:i<0
   .simp only[h,if_true]<;>lia
   .simp only[h,if_false]<;>lia
 .cases j with
  |none=>simp[sliceBounds,HT.l_]
  |some i =>
   simp only[sliceBounds,HT.l_,Option.getD_none,show(1:Int)>0 by decide,if_true];by_cases h:i<0
   .simp only[h,if_true]<;>lia
   .simp only[h,if_false]<;>lia
def t7(i:VR)(lo j:VU):slicePick i.toArray lo j Y=((i.drop (HT.l_ i.length 0 lo)).take (HT.l_ i.length i.length j-HT.l_ i.length 0 lo)).toArray:=by obtain⟨u,y,l⟩:=ux lo j i.toArray.size;unfold slicePick;rw[u,y,l];simp only[sliceRange_one,pick_run]<;>rfl
def RB(K:hW):V->VU->VU->Hp->VK->Prop:=λx lo i H Q=>∃a xs,x=.ref a/\SqL K H a xs/\∀p,H p=Y->Q (.ref p) (upd H p (.lst (pV xs lo i)))
def xD:My X (RB X.K):=by intro G s Z H x v P R lo l M Q i F C y E h;obtain⟨a,xs,rfl,u,q⟩:=h;cases F;obtain⟨z,r,ht,B⟩:=i.list u;have j:=r.length;refine⟨"list",_,slot_list_getitem.lookup,ht.isList.typeIs,?_⟩;refine wpAny_getItem_list_slice ht.isList C y E .none (by simp) ?_ (by rw[B_]<;>lia);rw[t7,<-j];refine⟨.ref s.heap.objs.size,_,i.laid (t':=s.toks) (λb L q=>r_ _ q) (mh _) ?_,rfl,q _ (i.hok.fresh (mh _))⟩;exact⟨wy (pe xs lo l) B,_,0,(r.drop (HT.l_ xs.length 0 lo)).take (HT.l_ xs.length xs.length l-HT.l_ xs.length 0 lo),CL _ rfl⟩
def vc:dN X (.type "list") (λxs H Q=>∃p ys,xs=[.ref p]/\(SqL X.K H p ys\/SqT X.K H p ys)/\∀l,H l=Y->Q (.ref l) (upd H l (.lst ys))):=by
 intro R s Z H xs U Q y r h;obtain⟨p,ys,rfl,C,q⟩:=h;obtain⟨u,rfl,S⟩:=fZ r;cases S;have fin:∀(i:VR),aV ys i->ys.length<=sizeLine->∀(j:Heap)(B:Nat),(∀b P,s.heap.get? b=J P->j.get? b=J P) ->
   j.get? s.heap.objs.size=J { cls:=.type "list",dict:=Y,data:=.seq i.toArray B,slots:=#[]}->EP X R Z Q (.ref s.heap.objs.size) { s with heap:=j}:=λi z E j B kp e =>
  ⟨.ref s.heap.objs.size,_,y.laid (t':=s.toks) kp (mh _) (show ObjOk X.prog X.w _ j _ (.lst ys) from⟨E,i,B,z,e⟩),rfl,q _ (y.hok.fresh (mh _))⟩
 rcases C with C|C
 .obtain⟨i,z,L,E⟩:=y.list C;have F:=z.length;obtain⟨o,M,G,n,hd⟩:=L.isList;exact call_list_seq p (.inl rfl) M G hd (λj B kp e=>fin i z E j B kp e) (by simp only[B_]<;>lia)
 .obtain⟨i,z,L,E⟩:=y.tuple C;have F:=z.length;obtain⟨o,M,G,n,hd⟩:=L;exact call_list_seq p (.inr rfl) M G hd (λj B kp e=>fin i z E j B kp e) (by simp only[B_]<;>lia)
def nr:dN X (.type "tuple") (λxs H Q=>∃p ys,xs=[.ref p]/\((SqL X.K H p ys/\∀l,H l=Y->Q (.ref l) (upd H l (.tup ys)))\/(SqT X.K H p ys/\Q (.ref p) H))):=by
 intro P s Z H xs R Q i r h;obtain⟨p,ys,rfl,h⟩:=h;obtain⟨u,rfl,M⟩:=fZ r;cases M;rcases h with⟨y,q⟩|⟨y,q⟩
 .obtain⟨j,z,B,E⟩:=i.list y;have F:=z.length;refine call_tuple_list B.isList (λL kp=>?_) (by simp only[B_]<;>lia);have C:=i.kept (t':=s.toks) kp;have G :=
   C.laid (t':=s.toks) (λb o e=>r_ _ e) (mh _) (show ObjOk X.prog X.w _ _ _ (.tup ys) from⟨E,j,z,jc.new _ _⟩)
  exact⟨.ref L.objs.size,_,G,rfl,q _ (C.hok.fresh (mh _))⟩
 .obtain⟨j,z,B,E⟩:=i.tuple y;exact call_tuple_same B ⟨.ref p,H,i,rfl,q⟩
def RC(K:hW)(i:String)(x:V)(H:Hp):Prop:=match x with
 |.str _=>i="str"
 |.int _=>i="int"
 |.ref p=>(i="list"/\∃xs,SqL K H p xs)\/(i="tuple"/\∃o,K.lookup p=J o/\o.cls=.type "tuple"/\o.dict=Y) \/
   (i="dict"/\((∃j,H p=J (.dK j))\/∃j,H p=J (.dT j)))\/(i="set"/\∃S n,H p=J (.set S n))
 |_=>False
def IE{G:VS}{Z:St}{H:Hp}{s:Shared}{u:String}{x:V}{v:Value}(j:Inv X G Z H s)(r:bh x v)(ty:RC X.K u x H):
  s.TypeIs v u/\∀a,v=.ref a->∃B,s.heap.get? a=J B/\B.dict=Y:=by
 cases x with
 |str z =>
  obtain⟨t,rfl⟩:=r;cases(ty);exact⟨typeIs_str s z t,λ_ e=>nomatch e⟩
 |int i =>
  obtain⟨t,rfl⟩:=r;cases(ty);exact⟨typeIs_int s i t,λ_ e=>nomatch e⟩
 |ref p =>
  cases r;rcases ty with⟨rfl,xs,E⟩|⟨rfl,o,l,F,hd⟩|⟨rfl,l⟩|⟨rfl,S,n,l⟩
  .obtain⟨L,_,C,_⟩:=j.list E;refine⟨C.isList.typeIs,λa e=>?_⟩;cases e;obtain⟨o,n,e,c,hd,_⟩:=C;exact⟨o,e,hd⟩
  .refine⟨⟨o,j.kIn p o l,F⟩,λa e=>?_⟩;cases e;exact⟨o,j.kIn _ o l,hd⟩
  .have z:∃o,s.heap.get? p=J o/\o.ExactDict:=by
    rcases l with⟨y,l⟩|⟨y,l⟩
    .obtain⟨_,_,_,_,o,_,_,e,ex,_⟩:=j.hok p _ l;exact⟨o,e,ex⟩
    .obtain⟨_,_,_,_,o,_,_,e,ex,_⟩:=j.hok p _ l;exact⟨o,e,ex⟩
   obtain⟨o,e,ex⟩:=z;refine⟨⟨o,e,ex.1⟩,λa e2=>?_⟩;cases e2;exact⟨o,e,ex.2.1⟩
  .obtain⟨o,_,_,_,e,ex,_⟩:=j.hok p _ l;refine⟨⟨o,e,ex.1⟩,λa e2=>?_⟩;cases e2;exact⟨o,e,ex.2.1⟩
 |_=>exact False.elim ty
def UD(K:hW)(i:String)(r:V->List V->Hp->VK->Prop)(l:TE)(t:TA):TE:=λZ H Q=>l Z H λx j=>RC K i x j/\t Z j λxs u=>r x xs u Q
variable{o e:Expr}{es:VV}{to:TE}{t:TA}{name:Str}{apos cpos:Pos}{T id:String}{r:V->List V->Hp->VK->Prop}
def G3(L:PlainAttrs T)(slot:Slot T name id)(z:typeOf (.builtin id)=pure (.type "method_descriptor"))(S:DR X id r)(ho:PE X o to)(ha:PA X (e::es) t)(j:attributeBase o name X.env (eval o X.env)=eval o X.env:=by rfl)(u:((backTo cpos (starEach (e::es) X.env)).all (λx=>!x.1)&&(backToKw cpos (keywordEach [] X.env)).all (λx=>x.1.isSome)
   && decide ((e::es).length+([]:List Keyword).length+(if([]:List Keyword).isEmpty then 0 else 1)<30))=I:=by rfl)(l:(apos.endLine==cpos.line)=I:=by rfl)(hs:starEach (e::es) X.env=(false,eval e X.env)::starEach es X.env:=by rfl)(i:(backTo cpos (starEach es X.env)).any (·.1)=false:=by rfl):
  PE X (.Call (.Attribute o name apos) (e::es) [] cpos) (UD X.K T r to t):=by
 intro y s Z H Q B h;refine wpAny_Call_method_late j u l rfl (kP (ho y s Z H _ B h) λv s1 ⟨x,P,C,r1,ty,F⟩=>?_);obtain⟨U,G⟩:=IE C r1 ty;refine⟨T,id,L,slot,z,U,G,?_⟩;have E:=ha cpos y s1 Z P _ C F;rw[hs]at E ⊢;refine Calls.callWith_builtin (by show(false||(backTo cpos (starEach es X.env)).any (·.1))=false;rw[i]<;>rfl) (Calls.evalArgs_plain ?_);exact kP E λus s2 ⟨vs,W,R,r2,M⟩=>S y s2 Z W x vs v us Q R r1 r2 M
end
def UE(X:Cx)(id:String)(r:V->List V->Hp->VK->Prop):Prop :=
 ∀(j:VS)(s:Shared)(Z:St)(H:Hp)(x:V)(xs:List V)(v:Value)(i:VR)(Q:VK),Inv X j Z H s->bh x v->aV xs i->r x xs H Q ->
  wpAny (model X.prog X.w) X.A (call (.builtin id) (v::i)) (EP X j Z Q) X.xe s
def aV.zero(h:aV [] us):us=[]:=by cases h;rfl
def aV.one(h:aV [x] us):∃u,us=[u]/\bh x u:=by cases h with|cons r t=>exact⟨_,by rw[aV.zero t],r⟩
def aV.two(h:aV [x,y] us):∃u v,us=[u,v]/\bh x u/\bh y v:=by cases h with|cons r t=>obtain⟨v,e,q⟩:=aV.one t;exact⟨_,v,by rw[e],r,q⟩
def aV.rep(h:aV xs us):∀k:Nat,aV (List.replicate k xs).flatten (List.replicate k us).flatten
 |0=>.nil
 |k+1=>by
  exact aV.append h (aV.rep h k)
def sR(i:VR):∀(k:Nat)(j:VR),
  List.foldl (λl u=>l++u) j.toArray (List.replicate k i.toArray)=(j++(List.replicate k i).flatten).toArray
 |0,j=>by simp
 |k+1,j=>by
  have e:j.toArray++i.toArray=(j++i).toArray:=by simp
  have e2:(j++i)++(List.replicate k i).flatten=j++(List.replicate (k+1) i).flatten:=by rw[PB,List.flatten_cons,El]
  rw[<-e2,<-sR i k (j++i),<-e,PB,Q6]
section
variable{X:Cx}{NN:List (Addr × Obj)}{Z:St}{H:Hp}{s:Shared}{l b:Addr}{xs ys zs:List V}
def Inv.lset{i its':VR}{n:Nat}{f:Array Value->Array Value}{z:Nat}(j:Inv X NN Z H s)(B:H l=J (.lst xs))(e:s.heap.get? l=J { cls:=.type "list",data:=.seq i.toArray n})(hf:f i.toArray=its'.toArray)(hv:aV ys its')(y:ys.length<=sizeLine):
  Inv X NN Z (upd H l (.lst ys)) { s with heap:=s.heap.update l (Obj.mapSeq f),toks:=z}:=by
 have q:=PySem.IsL.update e f;rw[hf]at q;refine j.write (x:=l) (e:=l) (by rw[B];exact trivial) (.inl rfl) (λF u C E=>(QQ s.heap (Obj.mapSeq f) (Ne.symm C)).trans E) ⟨_,q⟩ ?_;exact⟨y,its',_,hv,q⟩
def Inv.lnew(i:Inv X NN Z H s)(hv:aV ys its)(j:ys.length<=sizeLine):
  Inv X NN Z (upd H s.heap.objs.size (.lst ys)) { s with heap:=s.heap.push { cls:=.type "list",data:=.seq its.toArray},toks:=t'} :=
 i.laid (λ_ _ q=>r_ _ q) (mh _) ⟨j,its,0,hv,CL _ rfl⟩
def Inv.fresh(i:Inv X NN Z H s):H s.heap.objs.size=Y:=i.hok.fresh (mh _)
def Inv.lstM(j:Inv X NN Z H s)(u:H l=J (.lst xs)):xs.length<=sizeLine/\∃(i:VR) (n:Nat),aV xs i/\xs.length=i.length/\s.heap.get? l=J { cls:=.type "list",data:=.seq i.toArray n}:=by obtain⟨z,i,n,r,e⟩:=j.hok l _ u;exact⟨z,i,n,r,r.length,e⟩
def B1(h:n<=sizeLine):Builtin.List.listTooLong n=T:=by unfold Builtin.List.listTooLong;exact decide_eq_false ⋯
end
section
variable{X:Cx}
def EM:V->List V->Hp->VK->Prop:=λx i H Q=>∃l xs y,x=.ref l/\i=[y]/\H l=J (.lst xs)/\xs.length<sizeLine/\Q .non (upd H l (.lst (xs++[y])))
def tO:UE X "list.append" EM:=by
 intro L s Z H x M v R Q i G E h;obtain⟨l,xs,y,rfl,rfl,B,P,q⟩:=h;cases G;obtain⟨u,rfl,C⟩:=E.one;obtain⟨z,j,n,r,hl,e⟩:=i.lstM B;refine call_meets F.slot_list_append ⟨_,e,rfl⟩ F.entry_list_append (F.args_list_append_2 _ _) (PySem.list_append l j.toArray n u (by rw[B_];lia)) ⟨e,?_⟩;refine⟨.non,_,i.lset (its':=j++[u]) B e (by simp) (r.append (.cons C .nil)) ?_,rfl,q⟩
 grind
def RD:R2:=λx y H Q=>∃l b xs i,x=.ref l/\y=.ref b/\H l=J (.lst xs)/\H b=J (.lst i)/\xs.length+i.length<=sizeLine/\∀p,H p=Y->Q (.ref p) (upd H p (.lst (xs++i)))
def IF:OpR X (binaryOp .Add) RD:=by
 intro R s Z H x y v u Q i L E h;obtain⟨l,b,xs,S,rfl,rfl,G,F,U,q⟩:=h;cases L;cases E;obtain⟨z,B,n,r,hl,e⟩:=i.lstM G;obtain⟨P,j,W,r2,C,e2⟩:=i.lstM F;refine PySem.P.add_list e e2 ?_ (by rw[B_,B_];lia);have M:B.toArray++j.toArray=(B++j).toArray:=by simp
 rw[M];exact⟨.ref _,_,i.lnew (t':=s.toks) (r.append r2) (by rw[Dc];lia),rfl,q _ i.fresh⟩
def RE:R2:=λx y H Q=>∃l k xs,x=.ref l/\y=.int k/\H l=J (.lst xs) /\ -(2^63)<=k/\k<2^63/\xs.length*k.toNat<=sizeLine /\
 ∀p,H p=Y->Q (.ref p) (upd H p (.lst (List.replicate k.toNat xs).flatten))
def xK{α:Type}(xs:List α)(k:Nat):(List.replicate k xs).flatten.length=k*xs.length:=by simp
def IG:OpR X (binaryOp .Mult) RE:=by
 intro NN s Z H x y v u Q B rx ry h;obtain⟨l,k,xs,rfl,rfl,hH,W,U,R,q⟩:=h;cases rx;obtain⟨t,rfl⟩:=ry;obtain⟨z,i,n,r,hl,e⟩:=B.lstM hH;have L:i.toArray.size*k.toNat<=sizeLine:=by rw[B_,<-hl];exact R
 have C:¬i.toArray.size*k.toNat>(2^63-1)/8:=by
  have:(sizeLine:Nat)<=(2^63-1)/8:=by decide
  lia
 have G:¬(!Builtin.List.listFitsIndex k)=I:=by rw[fitsIndex_both W U];exact QX
 have j:¬Builtin.List.listTooLong (i.toArray.size*k.toNat)=I:=by rw[B1 L];exact QX
 have E:List.foldl (λM P=>M++P) #[] (List.replicate (if i.toArray.isEmpty=I then 0 else k.toNat) i.toArray)=(List.replicate k.toNat i).flatten.toArray:=by
  have f0:∀m:Nat,List.foldl (λM P=>M++P) #[] (List.replicate m i.toArray)=(List.replicate m i).flatten.toArray:=λm=>by
   have:=sR i m []
   exact this
  rw[f0]
  cases i with
  |nil=>simp
  |cons a r'=>rw[hF (by simp)]
 refine wpAny_binaryOp_repeat_ref (by decide) ⟨_,e,rfl⟩ (λS=>typeIs_int S k t) noFill_list_mul F.fills_int_mul F.slot_int_rmul repeat_list F.slot_int_index.lookup
  (call_meets F.slot_int_rmul (typeIs_int s k t) F.entry_int_rmul (F.args_int_rmul_2 _ _) (int___rmul___int_list k t l i.toArray n)
   ⟨e,rfl,⟨_,e,rfl⟩,call_meets F.slot_list_mul ⟨_,e,rfl⟩ F.entry_list_mul (F.args_list_mul_2 _ _) (AutoListH.list___mul___list_int_3 l i.toArray n k t G C j) ⟨e,?_⟩⟩)
 rw[E];exact⟨.ref _,_,B.lnew (t':=s.toks) (r.rep k.toNat) (by rw[xK,Rb];exact R),rfl,q _ B.fresh⟩
end
end L2
namespace Att
open PySem.W PySem.Calls PyProof.Rows
def rj:∀(ns:VM)(i:VR),WellAll P h i (ns.map WData.int)->IntsAre i ns:=by
 intro ns
 induction ns with
 |nil =>
  intro i w;rw[List.map_nil]at w;cases w;exact .nil
 |cons n ns j =>
  intro i w;rw[yw]at w
  cases w with
  |cons a b =>
   cases a;exact .cons _ _ (j _ b)
def zM{l:OpenLaw}{n:Nat}(U:l.most=J n){P:Params}{h:Heap}{i:List WData}{u:VR}(j:l.row.toRowW.claim.pre i=I)(E:WellAll P h u i):
  ∃a F ns,u=[Value.ref a]/\i=[WData.list (ns.map WData.int)]/\h.get? a=J { cls:=.type "list",data:=.seq F.toArray}/\IntsAre F ns/\ns.length<=n:=by
 have C:=(pre_splitW j).1;have H:=(pre_splitW j).2;obtain⟨d,r,rfl,L,G⟩:=hasAllW_cons C;obtain rfl:=hasAllW_nil G;obtain⟨xs,rfl,R⟩:=hasW_list L;obtain⟨ns,rfl⟩:=items_int R;have z:ns.length<=n:=by
  have B:(WTm.not (.lt (.lit (.int (n:Int))) (.len (.arg 0)))).holds [] { args:=[.list (ns.map .int)]}=I:=by have B:=(holds_andW H).1;rw[U]at B;exact B
  have W:=condW_of B (w_not (w_lt w_lit (w_len_list (w_arg rfl))))
  simp_all
 cases E with
 |cons Q S =>
  cases S
  cases Q with
  |list M y=>exact⟨_,_,ns,rfl,rfl,M,rj ns _ y,z⟩
def zy(l:OpenLaw)(i:List WData):l.row.toRowW.claim.post i (.bool I) i=I :=
 postW_of
  (show WShape.has [] (.bool I) .bool=I by first | rfl | decide | simp)
  (w_eq_bool (w_res rfl) w_lit) rfl
def wq{l:OpenLaw}{n:Nat}{q:Program}{loose:VL}{XP:(Str->VT)->Heap->Prop}{W:World->Heap->Prop}{d:DefRec}(hn:l.most=J n)(S:d.params.defaults=[])(call:∀(w:World)(s₀ i:Shared)(mg mb:VZ)(E:Addr)(o:Obj)(R F u:Value)(a:Addr)(y:VR)(ns:VM),
   Ground q loose [] XP w s₀ mg mb i.heap->W w i.heap ->
   i.heap.get? E=J o->o.data=.func (docDef d.name d.params d.body d.scope R F u)->i.heap.CodeRec F d.name->mg d.name=J (.ref E) ->
   i.heap.get? a=J { cls:=.type "list",data:=.seq y.toArray}->IntsAre y ns->ns.length<=n->i.gens=#[] ->
   codeAny (model l.prog w) callerA (.call (.ref E) ⟨[.ref a],[]⟩) (λr H=>r=.ok (.ret (.bool I))/\OldK i.heap H.heap/\H.os=i.os/\AllBare H.gens) i):
  WalkO q loose XP W l.row.toRowW d [] (λf y=>PySem.call f y):=by
 intro w s₀ i mg mb G L E o R F u dV kV ho hd P hD Q hg X Z as B U ab M aa;obtain rfl:=Dflts.none hD S;obtain rfl:=Dflts.noKw hD;obtain⟨a,y,ns,rfl,rfl,z,j,C⟩:=zM hn B M;refine enter_call (codeAny_mono (call w s₀ i mg mb E o R F u a y ns G L ho (fd_plain hd) P Q z j C hg) λr H hq=>?_);obtain⟨rfl,h2,h3,h4⟩:=hq;exact⟨.inl ⟨.bool I,.bool I,[],rfl,λ_=>rfl,.bool I,zy l _,λ_=>⟨List.Pairwise.nil,λ_ hm=>(nomatch hm)⟩⟩,h2,h3,h4⟩
end Att
namespace L2
open PySem.Spec PyProof.Rows
def tE:∀{i:VR}{ns:VM},IntsAre i ns->aV (ns.map V.int) i
 |_,_,.nil=>.nil
 |_,_,.cons n t h=>.cons ⟨t,rfl⟩ (tE h)
def IH(H:Hp):Prop:=∀b,H b=Y\/∃o xs,H b=J (.frz o (.lst xs))
def BC{P:Program}{w:World}{K:hW}{mg mb:VZ}{CX:DQ}{k:Nat}{fa a:Addr}{fd:FuncData}{x:Str}{sp:Sp}{i:Shared}{Q:VR}{ns:VM}(KX:K.In i.heap)(aa:i.heap.Ns mainGlobals mg)(y:i.heap.Ns builtinsNs mb)(ak:∀x:Str,x≠"__name__"->mb x=bootBuiltins x)(U:i.heap.NoLimit)(L:i.heap.NoSeer)(an:P.given.tree=Y)(hg:i.gens=#[])(ha:i.heap.get? a=J { cls:=.type "list",data:=.seq Q.toArray})(hi:IntsAre Q ns)(hl:ns.length<=sizeLine)(hr:Room k callerA)(F:∀base:Heap,K.In base->base.Ns mainGlobals mg->FnOk P w K mg base CX k fa fd [x] sp)(R:∀(s:Shared) (u:Value),BindsTo s fd ⟨[u],[]⟩ [(x,u)])(ac:∀H:Hp,IH H->SqL K H a (ns.map V.int)->sp [.ref a] H (λv _=>v=.bl I) λ_ _ _=>False)(ag:∀H e B,CX [] H i (λ_ _ _=>False) e B->False):
  codeAny (model P w) callerA (.call (.ref fa) ⟨[.ref a],[]⟩) (λr B=>r=.ok (.ret (.bool I))/\OldK i.heap B.heap/\B.os=i.os/\AllBare B.gens) i:=by
 have rv:=tE hi;have X:=hi.length;have M:∀H:Hp,IH H->SqL K H a (ns.map V.int)->HOk P w H i.heap->(∀b,H b≠Y->b=a)->(H a≠Y->K.lookup a=Y) ->
   codeAny (model P w) callerA (.call (.ref fa) ⟨[.ref a],[]⟩) (λr B=>r=.ok (.ret (.bool I))/\OldK i.heap B.heap/\B.os=i.os/\AllBare B.gens) i:=by
  intro H hO hS hok hA hK;have j:∀{b:Addr}{o:Obj},i.heap.get? b=J o->H b=Y->(mJ i.heap H).get? b=J o:=λe n=>Ca e n;have ap:∀{b:Addr}{o:Obj}{es:Array DictEntry}{S:Nat},i.heap.get? b=J o->o.data=.dict es S->H b=Y:=λ{b o es S} e d=>by
   cases q:H b with
   |none=>rfl
   |some u =>
    have Z:b=a:=hA b (by rw[q];simp);subst Z;rw[ha]at e;cases e;have d':Data.seq Q.toArray _=Data.dict es S:=d;cases d'
  have l:∀{b:Addr}{m:VZ},i.heap.Ns b m->(mJ i.heap H).Ns b m:=λ{b m} ⟨o,es,S,e,d,r⟩=>⟨o,es,S,j e (ap e d),d,r⟩
  have ab:K.In (mJ i.heap H):=λb o e=>j (KX b o e) (by
   cases q:H b with
   |none=>rfl
   |some u =>
    have Z:b=a:=hA b (by rw[q];simp);subst Z
    rw[hK (by rw[q];simp)]at e;cases e)
  have hM:Mod K mg (mJ i.heap H):=⟨ab,l aa,⟨mb,l y,ak⟩,let ⟨E,G,C⟩:=U;⟨E,l G,C⟩,let ⟨E,G,C⟩:=L.statics;⟨E,l G,C⟩,let ⟨E,G,C⟩:=L.mods;⟨E,l G,C⟩,let ⟨E,G,C⟩:=L.imp;⟨E,l G,C⟩,let ⟨E,bm,ob,G,C,h3,h4,h5⟩:=L.main;⟨E,bm,ob,l G,C,j h3 (by
   cases q:H bm with
   |none=>rfl
   |some u =>
    have Z:bm=a:=hA bm (by rw[q];simp);subst Z;rw[ha]at h3;cases h3
    exact absurd (show Value.type "list"=Value.type "module" from h4) (by decide)),h4,h5⟩⟩
  have e0:Env0 P w K mg (mJ i.heap H) callerA [] i H:=⟨rfl,hM,λb o e=>En e,Nat.le_of_eq (AL _ _),trivial,λb y=>absurd (show b∈([]:VQ)from y) (by simp),hok,.of_eq hg,an⟩;refine codeAny_mono ((F _ ab (l aa)).run callerA [] i H ⟨[.ref a],[]⟩ [.ref a] [.ref a] _ _ hr e0 (R i (.ref a)) (.cons rfl .nil) (ac H hO hS)) λr B h=>?_
  cases r with
  |error e=>exact(ag H e B h).elim
  |ok fl =>
   cases fl with
   |next=>exact False.elim h
   |brk=>exact False.elim h
   |cont=>exact False.elim h
   |ret u =>
    obtain⟨v,H',os,bare,un,W,r',q⟩:=h;have q':v=.bl I:=q;subst q';obtain rfl:u=Value.bool I:=r';refine⟨rfl,OldK.of_keep λb o e=>?_,os,bare⟩
    cases q:H b with
    |none=>exact un.keep b o e q (by intro z;exact absurd (show b∈([]:VQ)from z) (by simp)) (by simp)
    |some u =>
     rcases hO b with z|⟨ob,xs,z⟩
     .rw[q]at z;cases z
     .have z2:=un.frzs b ob _ z;obtain⟨e1,_⟩:=hok b _ z;obtain⟨e2,_⟩:=W b _ z2;rw[e]at e1;cases e1;exact e2
 cases hk:K.lookup a with
 |some o =>
  have e:=KX a o hk;rw[ha]at e;cases e;refine M (λ_=>Y) (λ_=>.inl rfl) (.inr ⟨_,Q.toArray,_,hk,rfl,rfl,rfl,by rw[B_,X];exact hl,by simpa using rv⟩) (λb u z=>by have z':(Y:Option HO)=J u:=z;cases z') (λb z=>absurd rfl z) λz=>absurd rfl z
 |none =>
  refine M (λb=>if b=a then J (.frz { cls:=.type "list",data:=.seq Q.toArray} (.lst (ns.map V.int)))else Y) (λb=>?_) (.inl (.inr ⟨{ cls:=.type "list",data:=.seq Q.toArray},eT rfl⟩)) (λb u z=>?_) (λb z=>?_) λ_=>hk
  .by_cases y:b=a
   .exact .inr ⟨_,_,eT y⟩
   .exact .inl (hF y)
  .by_cases y:b=a
   .have z':=(eT y).symm.trans z;cases z';subst y;exact⟨ha,by rw[CM];exact hl,Q,_,rv,ha⟩
   .have z':=(hF y).symm.trans z;cases z'
  .by_cases y:b=a
   .exact y
   .exact absurd (hF y) z
abbrev nw{K:hW}{h:Heap}(_:K.In h):hW:=K
def EN{l:PySem.W.OpenLaw}{n k:Nat}{q:Program}{loose:VL}{XP:(Str->VT)->Heap->Prop}{U:World->Heap->Prop}{d:DefRec}{K:Params->hW}{CX:World->DQ}{sp:World->Sp}{x:Str}(hn:l.most=J n)(M:n<=sizeLine)(S:d.params.defaults=[])(hr:Room k callerA)(hi:PyProof.Rows.importsNone q=I)(R:l.prog.given.tree=Y)(hY:∀(w:World)(h:Heap),U w h->(K w.params).In h)(F:∀(w:World)(mg:VZ)(B:Addr)(h:Heap),(K w.params).In h->h.Ns mainGlobals mg->mg d.name=J (.ref B) ->
   ∃fd:FuncData,(∀(s:Shared)(u:Value),BindsTo s fd ⟨[u],[]⟩ [(x,u)]) /\
    ∀base:Heap,(K w.params).In base->base.Ns mainGlobals mg->FnOk l.prog w (K w.params) mg base (CX w) k B fd [x] (sp w))(Q:∀(w:World)(H:Hp)(a:Addr)(ns:VM),ns.length<=n->IH H->SqL (K w.params) H a (ns.map V.int)->sp w [.ref a] H (λv _=>v=.bl I) λ_ _ _=>False)(L:∀(w:World)(H:Hp)(s:Shared)(e:Value)(C:Shared),CX w [] H s (λ_ _ _=>False) e C->False):
  PySem.W.WalkO q loose XP U l.row.toRowW d [] (λf X=>PySem.call f X):=by
 refine Att.wq hn S λw s₀ y mg mb B o pm cd ab a X ns G E ho hd aa P z j i hg=>?_;have W:=hY w _ E;obtain⟨fd,hb,Z⟩:=F w mg B _ W G.T.g P;exact BC W G.T.g G.T.b G.T.builtins G.T.nolimit (G.T.seer hi) R hg z j (wy i M) hr Z hb (λH hO hS=>Q w H a ns i hO hS) λH e C=>L w H y e C
def iH(s:Stmt):Arguments:=match s with
 |.FunctionDef _ a _ _ _ _ _ _ _ _=>a
 |_=>{ posonlyargs:=[],args:=[],vararg:=Y,kwonlyargs:=[],kw_defaults:=[],kwarg:=Y,defaults:=[]}
def aT(s:Stmt):VB:=match s with
 |.FunctionDef _ _ b _ _ _ _ _ _ _=>b
 |_=>[]
def aE(s:Stmt):Scope:=match s with
 |.FunctionDef _ _ _ _ _ _ i _ _ _=>i
 |_=>{ kind:=.function,names:=[],isGenerator:=T,isCoroutine:=T}
abbrev LC:DQ:=λ_ _ _ _ _ _=>False
structure Fun(K:hW)(x qual:Str)(st:Stmt)(f:Addr)(fd:FuncData):Prop where
 ex:∃(oc:Value)(od:VC)(kV doc pm:Value)(an:VC)(cdv ct:Value)(osl:Array (VT)),
  fd=PySem.W.fnOf x qual (iH st) (aT st) (aE st) .none kV doc pm an cdv ct/\K.lookup f=J ⟨oc,od,.func fd,osl⟩/\PySem.W.codeIn K cdv qual=I
 kp:PySem.W.keepIn K (.ref f)=I
section
variable{P:Program}{w:World}{K:hW}{mg:VZ}{base:Heap}
def Fun.ok{x i:Str}{st:Stmt}{f:Addr}{fd:FuncData}{N ps:VL}{k:Nat}{sp:Sp}(F:Fun K x i st f fd)(S:p_ N ps (aE st))(len:∀l H Q E,sp l H Q E->l.length=ps.length)(u:∀(j:Value)(A:Around)(outer:List Env)(s:Shared)(H:Hp)(l:List V)(Q:VK)(E:XK),Room k (A.deeper (envOfC i (aE st) s.heap.objs.size f j))->sp l H Q E ->
   ∃t,PSs (rZ LC P w K mg base N i (aE st) f j A outer s H E).nox (aT st) t/\t { nx:=λ_ C=>Q .non C,rt:=Q} (start N l) H):FnOk P w K mg base LC (k+1) f fd ps sp:=by
 obtain⟨U,R,kV,G,M,L,j,ct,B,rfl,lk,y⟩:=F.ex;refine G2 lk y S len λA outer s H l Q E hr z=>?_;obtain⟨t,h,q⟩:=u j A outer s H l Q E hr z;exact⟨t,h.nox,q⟩
def Fun.binds{x i:Str}{st:Stmt}{f:Addr}{fd:FuncData}{ps:VL}(F:Fun K x i st f fd)(h:∀(kV l y:Value)(u:VC)(j ct:Value)(z:VR),z.length=ps.length->bindArgs (PySem.W.fnOf x i (iH st) (aT st) (aE st) .none kV l y u j ct) ⟨z,[]⟩=pure (ps.zip z)):lU K fd ps []:=by
 obtain⟨G,E,kV,l,y,u,j,ct,B,rfl,lk,C⟩:=F.ex;exact .all (h kV l y u j ct)
def Ac{x qual:Str}{st:Stmt}{f:Addr}{C:Value}{B y:VC}{u:Array (VT)}{kV j z i ct:Value}(l:K.lookup f=J ⟨C,B,.func (PySem.W.fnOf x qual (iH st) (aT st) (aE st) .none kV j z y i ct),u⟩)(c:PySem.W.codeIn K i qual=I)(k:PySem.W.keepIn K (.ref f)=I):Fun K x qual st f (PySem.W.fnOf x qual (iH st) (aT st) (aE st) .none kV j z y i ct):=⟨⟨C,B,kV,j,z,y,i,ct,u,rfl,l,c⟩,k⟩
end
def KD{α:Type}:Sem α->Prop
 |.pure _=>True
 |.raise _=>True
 |.unsupported _=>True
 |.finish _=>True
 |.rule _ k=>KD (k ())
 |.at _ k=>KD (k ())
 |.load _ _ k=>∀o,KD (k o)
 |.update _ _ f k=>(∀o,(f o).dict=o.dict)/\KD (k ())
 |.alloc _ k=>∀a,KD (k a)
 |.loadIfAlive _ k=>∀o,KD (k o)
 |.point _ k=>KD (k ())
 |.fresh k=>∀t,KD (k t)
 |.ask k=>∀t,KD (k t)
 |.handled _ k=>∀t,KD (k t)
 |.stack k=>∀t,KD (k t)
 |.thread k=>∀t,KD (k t)
 |.register _ _=>True
 |_=>False
def DK(e:Addr)(d:VC)(h:Heap):Prop:=∃o,h.objs[e]?=J o/\o.dict=d
def DK.push{e:Addr}{d:VC}{h:Heap}(k:DK e d h)(o:Obj):DK e d (h.push o):=by
 obtain⟨u,e1,e2⟩:=k
 exact⟨u,by
  have:=(Array.getElem?_eq_some_iff.mp e1).1
  show(h.objs.push o)[e]?=_;rw[Array.getElem?_push_lt this];rw[Array.getElem?_eq_getElem this]at e1
  exact e1,e2⟩
def DK.upd{e a:Addr}{d:VC}{h:Heap}{f:Obj->Obj}(k:DK e d h)(hf:∀o,(f o).dict=o.dict):DK e d (h.update a f):=by
 obtain⟨u,e1,e2⟩:=k
 cases h with
 |mk i =>
  by_cases z:a=e
  .subst z;exact⟨f u,by simp only[Heap.update,TD,if_true];rw[show i[a]?=J u from e1];rfl,(hf u).trans e2⟩
  .exact⟨u,by simp only[Heap.update,TD,hF z];exact e1,e2⟩
def KD.keep{α:Type}{M:Model}{Γ:PySem.Ctx}{e:Addr}{d:VC}{Q:α->Pos->Shared->Prop}{E:Value->Pos->Shared->Prop}:
  ∀(t:Sem α)(p:Pos)(s:Shared),KD t->DK e d s.heap->Sem.wp M Γ t Q E p s->Sem.wp M Γ t (λa p j=>Q a p j/\DK e d j.heap) (λv p j=>E v p j/\DK e d j.heap) p s:=by
 intro t
 induction t with
 |pure a=>intro p s _ k w;rw[Sem.wp]at w ⊢;exact⟨w,k⟩
 |raise v=>intro p s _ k w;rw[Sem.wp]at w ⊢;exact⟨w,k⟩
 |unsupported _=>intro p s _ k w;rw[Sem.wp]at w;exact w.elim
 |finish _=>intro p s _ k w;rw[Sem.wp]at w;exact w.elim
 |rule _ k i=>intro p s h g w;rw[Sem.wp]at w ⊢;exact i () p s h g w
 | «at» _ k i=>intro p s h g w;rw[Sem.wp]at w ⊢;exact i () _ s h g w
 |load a _ k i=>intro p s h g w;rw[Sem.wp]at w ⊢;obtain⟨o,e1,w⟩:=w;exact⟨o,e1,i o p s (h o) g w⟩
 |update a _ f k i=>intro p s h g w;rw[Sem.wp]at w ⊢;exact⟨w.1,i () p _ h.2 (g.upd h.1) w.2⟩
 |alloc o k i=>intro p s h g w;rw[Sem.wp]at w ⊢;exact i _ p _ (h _) (g.push o) w
 |loadIfAlive a k i=>intro p s h g w;rw[Sem.wp]at w ⊢;exact i _ p s (h _) g w
 |point _ k i=>intro p s h g w;rw[Sem.wp]at w ⊢;exact i () p s h g w
 |fresh k i=>intro p s h g w;rw[Sem.wp]at w ⊢;exact i _ p _ (h _) g w
 |ask k i=>intro p s h g w;rw[Sem.wp]at w ⊢;exact i _ p s (h _) g w
 |handled _ k i=>intro p s h g w;rw[Sem.wp]at w ⊢;exact i _ p s (h _) g w
 |stack k i=>intro p s h g w;rw[Sem.wp]at w ⊢;exact i _ p s (h _) g w
 |thread k i=>intro p s h g w;rw[Sem.wp]at w ⊢;exact i _ p s (h _) g w
 |register _ k i=>intro p s h g w;rw[Sem.wp]at w;exact w.elim
 |_=>intro p s h;exact h.elim
def KD.any{α:Type}{M:Model}{A:Around}{t:Sem α}{e:Addr}{d:VC}{Q:α->Shared->Prop}{E:VX}{s:Shared}(h:KD t)(k:DK e d s.heap)(w:wpAny M A t Q E s):
  wpAny M A t (λa i=>Q a i/\DK e d i.heap) (λv i=>E v i/\DK e d i.heap) s:=λΓ p hg=>KD.keep t p s h k (w Γ p hg)
def dX{α β:Type}:∀{m:Sem α}{f:α->Sem β},KD m->(∀a,KD (f a))->KD (m >>= f):=by
 intro m;show ∀{f:α->Sem β},KD m->(∀a,KD (f a))->KD (m.bind f)
 induction m with
 |pure a=>intro f _ h;exact h a
 |raise v=>intro f _ h;trivial
 |unsupported _=>intro f _ h;trivial
 |finish _=>intro f _ h;trivial
 |rule _ k i=>intro f g h;exact i () g h
 | «at» _ k i=>intro f g h;exact i () g h
 |load a _ k i=>intro f g h;exact λo=>i o (g o) h
 |update a _ u k i=>intro f g h;exact⟨g.1,i () g.2 h⟩
 |alloc o k i=>intro f g h;exact λo=>i o (g o) h
 |loadIfAlive a k i=>intro f g h;exact λo=>i o (g o) h
 |point _ k i=>intro f g h;exact i () g h
 |fresh k i=>intro f g h;exact λo=>i o (g o) h
 |ask k i=>intro f g h;exact λo=>i o (g o) h
 |handled _ k i=>intro f g h;exact λo=>i o (g o) h
 |stack k i=>intro f g h;exact λo=>i o (g o) h
 |thread k i=>intro f g h;exact λo=>i o (g o) h
 |register _ k i=>intro f g h;trivial
 |_=>intro f g;exact g.elim
def II{α:Type}{c:Prop}[Decidable c]{a b:Sem α}(i:KD a)(j:KD b):KD (if c then a else b):=by
 split
 .exact i
 .exact j
def rQ(f:Array Value->Array Value)(o:Obj):(Obj.mapFields f o).dict=o.dict:=by obtain⟨c,d,x,s⟩:=o;cases x<;>rfl
def sN(a:Addr):KD (load a):=λo=>trivial
def wc(a:Addr)(i:Nat)(v:Value):KD (updateField a i v):=by
 unfold updateField;refine dX (sN a) λo=>?_;split
 .exact II ⟨λo=>rQ _ o,trivial⟩ trivial
 .trivial
def pq(v:Value)(i:Nat)(x:Value):KD (setField v i x):=by
 unfold setField;split
 .exact wc _ _ _
 .trivial
local macro_rules | `(tactic| injections)=>`(tactic| repeat' (first | trivial | assumption | exact pq _ _ _ | exact sN _ | exact kd_pure _ | refine dX ?_ λ_=>?_ | split | exact⟨λ_=>rfl,trivial⟩ | (intro _)))
def mZ(v:Value)(i:Nat):KD (PySem.field v i):=by
 have h:KD (fieldsOf v):=by unfold fieldsOf;injections
 unfold PySem.field
 injections
def j3(v:Value)(f:VC):KD (setFlight v f):=by
 unfold setFlight;refine dX (mZ _ _) λ_=>?_
 injections
def EO(env:Env)(b:Bool):∀l,KD (keptBack env b l):=by
 have h:KD underTheClaimsCaller:=by unfold underTheClaimsCaller;injections
 intro l;cases l<;>unfold keptBack<;>injections
def AG(env:Env)(l:List Env):KD (behindIsImport env l):=by
 have h:=mZ env.code 12;unfold behindIsImport
 injections
def v5:∀l:List Env,KD (readyFrames l)
 |[]=>trivial
 |env::outer=>by
  have y:=v5 outer;have u:=AG env outer;have j:∀b,KD (keptBack env b outer):=λb=>EO env b outer;unfold readyFrames
  repeat' (first | trivial | assumption | exact j _ | exact sN _ | exact i _ | refine dX ?_ λ_=>?_ | split | exact⟨λ_=>rfl,trivial⟩)
def uw:KD stack:=λ_=>trivial
def yo(env:Env):KD (PySem.frameOf env):=by
 have h:KD frameEnvs:=by unfold frameEnvs;exact dX uw λ_=>trivial
 have i:∀l,KD (frameObject l):=λl=>by
  cases l with
  |nil=>trivial
  |cons a l=>unfold frameObject;exact dX (v5 _) λ_=>trivial
 unfold PySem.frameOf;refine dX h λ_=>dX (i _) λ_=>?_
 split<;>trivial
def Az(c:Value)(x:Data)(d:VC):KD (newObj c x d):=by
 unfold newObj
 injections
def BW(f:Addr)(b:Bool):KD (entryPlaceOf f b):=by
 unfold entryPlaceOf;refine dX uw λ_=>?_
 split<;>trivial
def xh(e:Value)(env:Env):KD (noteFrame e env):=by
 have y:=mZ e 1;have j:∀v,KD (PySem.field v 3):=λv=>mZ v 3;have u:=yo env;have l:∀f b,KD (entryPlaceOf f b):=BW;unfold noteFrame EntryCells.newEntry newFields
 repeat' (first | trivial | assumption | exact j _ | exact l _ _ | exact Az _ _ _ | exact pq _ _ _ | exact i _ | refine dX ?_ λ_=>?_ | split)
def yD(env:Env)(e:Value):KD (leaving env e):=dX (xh e env) λ_=>j3 e Y
end L2
namespace MM
open PySem.Spec PyProof.Rows L2
inductive PV where
 |non | bl (b:Bool) | int (i:Int) | str (x:Str) | tup (xs:List PV) | frl (xs:List PV) | loc (n:Nat)
abbrev _root_.UZ:=List PV
structure tr where
 cls:Str
 fs:List (Str×PV):=[]
inductive MO where
 |lst(xs:UZ)
 |dic(fz:Bool)(ks:VM)(xs:UZ)
 |exc(x:tr)
def MO.fzd:MO->Bool
 |.dic fz _ _=>fz
 |_=>T
abbrev MH:=List MO
abbrev n7:=List (Option PV)
inductive Out(α:Type) where
 |ok(a:α)(h:MH)
 |exc(x:tr)(h:MH)
 |bad
abbrev _root_.VW:=Out PV
def Out.bind{α β:Type}(o:Out α)(f:α->MH->Out β):Out β:=match o with
 |.ok a h=>f a h
 |.exc x h=>.exc x h
 |.bad=>.bad
@[simp]theorem Out.bind_ok(a:α)(h:MH)(f:α->MH->Out β):(Out.ok a h).bind f=f a h:=rfl
@[simp]theorem Out.bind_exc(x:tr)(h:MH)(f:α->MH->Out β):(Out.exc x h).bind f=.exc x h:=rfl
@[simp]theorem Out.bind_bad(f:α->MH->Out β):(Out.bad:Out α).bind f=.bad:=rfl
inductive SOut where
 |nx(Z:n7)(h:MH)
 |rt(v:PV)(h:MH)
 |bk(Z:n7)(h:MH)
 |ct(Z:n7)(h:MH)
 |exc(x:tr)(Z:n7)(h:MH)
 |rse(x:tr)(Z:n7)(h:MH)
 |bad
def Out.ne{α:Type}(o:Out α):Out α:=match o with
 |.exc _ _=>.bad
 |o=>o
@[simp]theorem Out.ne_ok(a:α)(h:MH):(Out.ok a h).ne=.ok a h:=rfl
@[simp]theorem Out.ne_bad:(Out.bad:Out α).ne=.bad:=rfl
@[simp]theorem Out.ne_ne(o:Out α):o.ne.ne=o.ne:=by cases o<;>rfl
def SqF(K:hW)(H:Hp)(a:Addr)(ys:List V):Prop :=
 (∃o,H a=J (.frz o (.lst ys))) \/
  ∃(o:Obj) (i:Array Value) (n:Nat),K.lookup a=J o/\o.cls=.type "list"/\o.dict=Y/\o.data=.seq i n/\i.size<=sizeLine/\aV ys i.toList
def SqF.sq{K:hW}{H:Hp}{a:Addr}{ys:List V}(h:SqF K H a ys):SqL K H a ys:=by
 rcases h with h|h
 .exact .inl (.inr h)
 .exact .inr h
mutual
inductive RP(K:hW)(U:VQ)(H:Hp):PV->V->Prop where
 |non:RP K U H .non .non
 |bl(b:Bool):RP K U H (.bl b) (.bl b)
 |int(i:Int):RP K U H (.int i) (.int i)
 |str(x:Str):RP K U H (.str x) (.str x)
 |tup{xs:UZ}{a:Addr}{ys:List V}(s:SqT K H a ys)(r:RPs K U H xs ys):RP K U H (.tup xs) (.ref a)
 |frl{xs:UZ}{a:Addr}{ys:List V}(s:SqF K H a ys)(r:RPs K U H xs ys):RP K U H (.frl xs) (.ref a)
 |loc{n:Nat}{a:Addr}(e:U[n]?=J a):RP K U H (.loc n) (.ref a)
inductive RPs(K:hW)(U:VQ)(H:Hp):UZ->List V->Prop where
 |nil:RPs K U H [] []
 |cons{x:PV}{y:V}{xs:UZ}{ys:List V}(r:RP K U H x y)(t:RPs K U H xs ys):RPs K U H (x::xs) (y::ys)
end
structure Le(U:VQ)(H:Hp)(U':VQ)(H':Hp):Prop where
 pre:∃m,U'=U++m
 tup:∀a xs,H a=J (.tup xs)->H' a=J (.tup xs)
 frz:∀a o u,H a=J (.frz o u)->H' a=J (.frz o u)
def Le.refl(U:VQ)(H:Hp):Le U H U H:=⟨⟨[],by simp⟩,λ_ _ h=>h,λ_ _ _ h=>h⟩
def Le.trans(a:Le U H U1 H1)(b:Le U1 H1 U2 H2):Le U H U2 H2:=by obtain⟨m,e⟩:=a.pre;obtain⟨i,j⟩:=b.pre;exact⟨⟨m++i,by rw[j,e,El]⟩,λc xs h=>b.tup c xs (a.tup c xs h),λc o u h=>b.frz c o u (a.frz c o u h)⟩
def Le.get{U i:VQ}{H j:Hp}(l:Le U H i j){n:Nat}{a:Addr}(e:U[n]?=J a):i[n]?=J a:=by obtain⟨m,u⟩:=l.pre;rw[u,BH (w_.mp e).1];exact e
def Le.sqt{K:hW}{U j:VQ}{H i:Hp}(l:Le U H j i){a:Addr}{xs:List V}(h:SqT K H a xs):SqT K i a xs:=by
 rcases h with(h|⟨o,h⟩)|h
 .exact .inl (.inl (l.tup _ _ h))
 .exact .inl (.inr ⟨o,l.frz _ _ _ h⟩)
 .exact .inr h
def Le.sqf{K:hW}{U j:VQ}{H i:Hp}(l:Le U H j i){a:Addr}{xs:List V}(h:SqF K H a xs):SqF K i a xs:=by
 rcases h with⟨o,h⟩|h
 .exact .inl ⟨o,l.frz _ _ _ h⟩
 .exact .inr h
section
variable{K:hW}{U U':VQ}{H H':Hp}
def RP.le(l:Le U H U' H'){x:PV}{y:V}(r:RP K U H x y):RP K U' H' x y :=
 RP.rec .non .bl .int .str (λs _ i=>.tup (l.sqt s) i) (λs _ i=>.frl (l.sqf s) i) (λe=>.loc (l.get e)) .nil (λ_ _ a b=>.cons a b) r
def RPs.le(l:Le U H U' H')(r:RPs K U H xs ys):RPs K U' H' xs ys:=by
 induction xs generalizing ys with
 |nil=>cases r;exact .nil
 |cons x xs i=>cases r with|cons a t=>exact .cons (a.le l) (i t)
def RPs.length(r:RPs K U H xs ys):xs.length=ys.length:=by
 induction xs generalizing ys with
 |nil=>cases r;rfl
 |cons x xs i=>cases r with|cons a t=>exact congrArg (·+1) (i t)
def RPs.get{xs:UZ}{ys:List V}{i:Nat}{x:PV}(r:RPs K U H xs ys)(e:xs[i]?=J x):∃y,ys[i]?=J y/\RP K U H x y:=by
 induction xs generalizing ys i with
 |nil=>cases e
 |cons x xs j =>
  cases r with
  |cons a t =>
   cases i with
   |zero=>cases e;exact⟨_,rfl,a⟩
   |succ i=>have z:=@j _ i t e;exact z
def RPs.set(r:RP K U H x u)(i:Nat)(q:RPs K U H xs us):RPs K U H (xs.set i x) (us.set i u):=by
 induction xs generalizing us i with
 |nil=>cases q;exact .nil
 |cons x xs j =>
  cases q with
  |cons a t =>
   cases i with
   |zero=>exact .cons r t
   |succ i=>exact .cons a (j i t)
def RPs.append(r:RPs K U H xs us)(s:RPs K U H ys ws):RPs K U H (xs++ys) (us++ws):=by
 induction xs generalizing us with
 |nil=>cases r;exact s
 |cons x xs i=>cases r with|cons a t=>exact .cons a (i t)
def RPs.take(n:Nat)(r:RPs K U H xs us):RPs K U H (xs.take n) (us.take n):=by
 induction n generalizing xs us with
 |zero=>exact .nil
 |succ n i =>
  cases xs with
  |nil=>cases r;exact .nil
  |cons x xs=>cases r with|cons a t=>exact .cons a (i t)
def RPs.drop(n:Nat)(r:RPs K U H xs us):RPs K U H (xs.drop n) (us.drop n):=by
 induction n generalizing xs us with
 |zero=>exact r
 |succ n i =>
  cases xs with
  |nil=>cases r;exact .nil
  |cons x xs=>cases r with|cons a t=>exact i t
def RPs.ints:∀(ns:VM),RPs K U H (ns.map PV.int) (ns.map V.int)
 |[]=>.nil
 |n::r=>.cons (.int n) (RPs.ints r)
end
def oM(a C:Addr)(h:Heap):Prop:=∃o i,h.get? a=J o/\o.cls=.ref C/\o.data=.fields i
abbrev CC:=Str->VT
def kz(i:VM)(ys:List V):List (CZ×V):=(i.map Sum.inl).zip ys
def dO(fz:Bool)(i:Option HO)(u:HO):Prop:=match fz with
 |false=>i=J u
 |true=>∃o,i=J (.frz o u)
def FD(d:Addr)(f:Str)(i:Int)(h:Heap):Prop:=∃t,h.Ns1 d (λy=>if y=f then J (.int i t)else Y)
def dk(a C d:Addr)(h:Heap):Prop:=∃o i,h.get? a=J o/\o.cls=.ref C/\o.data=.fields i/\o.dict=J d
def RO(K:hW)(mg:CC)(U:VQ)(H:Hp)(a:Addr):MO->Option HO->Prop
 |.lst xs,j=>∃ys,j=J (.lst ys)/\RPs K U H xs ys
 |.dic fz u xs,j=>∃ys:List V,ys.length=u.length/\RPs K U H xs ys/\dO fz j (.dK (kz u ys))
 |.exc x,j=>∃C,mg x.cls=J (.ref C)/\(x.fs=[]/\j=J (.ext (oM a C))\/∃f i l y,x.fs=[(f,PV.int i)]/\j=J (.ext (dk a C l))/\H l=J (.frz y (.ext (FD l f i))))
def ML{fz:Bool}{P:Program}{w:World}{H:Hp}{h:Heap}{a:Addr}{i:List (CZ×V)}(ok:HOk P w H h)(e:dO fz (H a) (.dK i)):i.length<=sizeLine/\(a==sysModules)=T/\∃j,KV i j/\h.DictOf (sx P w) a j:=by
 cases fz with
 |false=>exact(ok a _ e)
 |true =>
  obtain⟨o,e⟩:=e;exact(ok a _ e).2
structure RH(K:hW)(mg:CC)(U:VQ)(H:Hp)(h:MH):Prop where
 len:U.length=h.length
 nd:U.Nodup
 at':∀(n:Nat)(a:Addr)(o:MO),U[n]?=J a->h[n]?=J o->RO K mg U H a o (H a)
def RO.le{K:hW}{mg:CC}{U u:VQ}{H j:Hp}{a:Addr}(l:Le U H u j){o:MO}{y:Option HO}(r:RO K mg U H a o y):RO K mg u j a o y:=by
 cases o with
 |lst xs=>obtain⟨ys,e,r⟩:=r;exact⟨ys,e,r.le l⟩
 |dic fz L xs=>obtain⟨ys,e,r,q⟩:=r;exact⟨ys,e,r.le l,q⟩
 |exc x =>
  obtain⟨C,m,q|⟨f,i,G,E,z,B,F⟩⟩:=r
  .exact⟨C,m,.inl q⟩
  .exact⟨C,m,.inr ⟨f,i,G,E,z,B,l.frz _ _ _ F⟩⟩
def RO.some{K:hW}{mg:CC}{U:VQ}{H:Hp}{a:Addr}{o:MO}{i:Option HO}(r:RO K mg U H a o i):i≠Y:=by
 cases o with
 |lst xs=>obtain⟨ys,e,_⟩:=r;rw[e];simp
 |dic fz j xs =>
  obtain⟨ys,_,_,q⟩:=r
  cases fz with
  |false=>rw[show i=_ from q];simp
  |true=>obtain⟨o,q⟩:=q;rw[q];simp
 |exc x=>obtain⟨C,_,⟨_,e⟩ | ⟨_,_,_,_,_,e,_⟩⟩:=r<;>(rw[e];simp)
def RO.plain{K:hW}{mg:CC}{U:VQ}{H:Hp}{a:Addr}{o:MO}{i:Option HO}(r:RO K mg U H a o i)(hf:o.fzd=T):(∀xs,i≠Option.some (.tup xs))/\∀p u,i≠Option.some (.frz p u):=by
 cases o with
 |lst xs=>obtain⟨ys,e,_⟩:=r;rw[e];exact⟨(λ_ z=>nomatch z),(λ_ _ z=>nomatch z)⟩
 |dic fz j xs =>
  obtain⟨ys,_,_,q⟩:=r
  cases fz with
  |false=>rw[show i=_ from q];exact⟨(λ_ z=>nomatch z),(λ_ _ z=>nomatch z)⟩
  |true=>cases hf
 |exc x=>obtain⟨C,_,⟨_,e⟩ | ⟨_,_,_,_,_,e,_⟩⟩:=r<;>(rw[e];exact⟨(λ_ z=>nomatch z),(λ_ _ z=>nomatch z)⟩)
section
variable{K:hW}{mg:CC}{U:VQ}{H:Hp}{h:MH}
def RH.obj(r:RH K mg U H h){n:Nat}{a:Addr}(e:U[n]?=J a):∃o,h[n]?=J o/\RO K mg U H a o (H a):=by
 have i:n<h.length:=by rw[<-r.len];exact(w_.mp e).1
 exact⟨h[n],by simp,r.at' n a _ e (by simp)⟩
def RH.new(r:RH K mg U H h){p:Addr}(C:H p=Y){o:MO}{ho:HO}(L:RO K mg U H p o (J ho)):RH K mg (U++[p]) (upd H p ho) (h++[o])/\Le U H (U++[p]) (upd H p ho):=by
 have i:∀n a,U[n]?=J a->a≠p:=λn a e z=>by
  obtain⟨F,_,q⟩:=r.obj e;rw[z,C]at q;exact q.some rfl
 have l:Le U H (U++[p]) (upd H p ho):=⟨⟨[p],rfl⟩,λa xs e=>by rw[aJ (bP e C)];exact e,λa P u e=>by rw[aJ (bP e C)];exact e⟩;refine⟨⟨by simp[r.len],?_,λn a F e1 e2=>?_⟩,l⟩
 .rw[List.nodup_append];refine⟨r.nd,by simp,λa M b G=>?_⟩;obtain⟨n,e⟩:=Pw.mp M;have B:b=p:=by simpa using G
  rw[B];exact i n a e
 .by_cases j:n<U.length
  .rw[BH j]at e1;rw[BH (by rw[<-r.len];exact j)]at e2;rw[aJ (i n a e1)];exact(r.at' n a F e1 e2).le l
  .rw[DC ⋯]at e1;rw[DC (by rw[<-r.len];lia)]at e2;have E:n-U.length=0:=by
    grind
   rw[E]at e1;have y:n-h.length=0:=by have:=r.len;lia
   rw[y]at e2;simp at e1 e2;subst e1;subst e2;rw[ba];exact L.le l
def RH.put(r:RH K mg U H h){n:Nat}{a:Addr}(e:U[n]?=J a){o:MO}{ho:HO}(R:RO K mg U H a o (J ho))(hd:∃y,h[n]?=J y/\y.fzd=T:=by exact⟨_,by assumption,rfl⟩):RH K mg U (upd H a ho) (h.set n o)/\Le U H U (upd H a ho):=by
 obtain⟨y,B,q⟩:=r.obj e;obtain⟨X,i,hf⟩:=hd;rw[i]at B;cases B;obtain⟨C,F⟩:=q.plain hf
 have l:Le U H U (upd H a ho):=⟨⟨[],by simp⟩,λb xs z=>by
   have:b≠a:=by rintro rfl;exact C _ z
   rw[aJ this];exact z,λb W u z=>by
   have:b≠a:=by rintro rfl;exact F _ _ z
   rw[aJ this];exact z⟩
 refine⟨⟨by simp[r.len],r.nd,λm b Q e1 e2=>?_⟩,l⟩;by_cases j:m=n
 .subst j;rw[e]at e1;cases e1;rw[ba]
  have:m<h.length:=by rw[<-r.len];exact(w_.mp e).1
  rw[B6 this]at e2;cases e2;exact R.le l
 .rw[pk (λz=>j z.symm)]at e2;have P:b≠a:=by
   rintro rfl;have M:=w_.mp e;have E:=w_.mp e1;obtain⟨S,G⟩:=M;obtain⟨Z,L⟩:=E;exact j ((List.getElem_inj r.nd).mp (L.trans G.symm))
  rw[aJ P];exact(r.at' m b Q e1 e2).le l
def RH.tup(r:RH K mg U H h){p:Addr}(j:H p=Y)(ys:List V):RH K mg U (upd H p (.tup ys)) h/\Le U H U (upd H p (.tup ys)):=by
 have i:∀n a,U[n]?=J a->a≠p:=λn a e z=>by
  obtain⟨B,_,q⟩:=r.obj e;rw[z,j]at q;exact q.some rfl
 have l:Le U H U (upd H p (.tup ys)):=⟨⟨[],by simp⟩,λa xs e=>by rw[aJ (bP e j)];exact e,λa y u e=>by rw[aJ (bP e j)];exact e⟩;exact⟨⟨r.len,r.nd,λn a o e1 e2=>by rw[aJ (i n a e1)];exact(r.at' n a o e1 e2).le l⟩,l⟩
end
def RS(K:hW)(U:VQ)(H:Hp)(j:n7)(Z:L2.St):Prop :=
 Z.length=j.length/\∀(i:Nat)(v:PV),j[i]?=J (J v)->∃l,Z[i]?=J (J l)/\RP K U H v l
def RS.le{K:hW}{U y:VQ}{H u:Hp}{j:n7}{Z:L2.St}(l:Le U H y u)(r:RS K U H j Z):RS K y u j Z :=
 ⟨r.1,λi v e=>by obtain⟨z,B,q⟩:=r.2 i v e;exact⟨z,B,q.le l⟩⟩
def RS.set{K:hW}{U:VQ}{H:Hp}{l:n7}{Z:L2.St}(r:RS K U H l Z)(i:Nat){v:PV}{y:V}(q:RP K U H v y):RS K U H (l.set i (J v)) (Z.set i (J y)):=by
 refine⟨by simp[r.1],λj u e=>?_⟩;by_cases B:j=i
 .subst B;by_cases hl:j<l.length
  .rw[B6 hl]at e;cases e;exact⟨y,B6 (by rw[r.1];exact hl),q⟩
  .rw[QS (by simp;lia)]at e;cases e
 .rw[pk (λz=>B z.symm)]at e;obtain⟨E,F,C⟩:=r.2 j u e;exact⟨E,by rw[pk (λz=>B z.symm)];exact F,C⟩
def TJ(B:Heap)(fs:VQ)(h:Heap):Prop:=∀b o,h.get? b=J o->b∉fs->∃i,B.get? b=J i
def RF(l:List Env)(H:Hp)(i:Heap)(C j:Addr)(h:Heap):Prop :=
 ∃B t,Heap.FlyingW B l j (.ref C) (.ref t) h/\(∀b o,H b=J o->∃u,B.get? b=J u)/\TJ B (BL l) i/\H j=Y
structure DS(X:Cx)(h:Heap):Prop where
 old:∀b o,X.s₀.heap.get? b=J o->b∉X.ex->∃o',h.get? b=J o'
 cell:∀x c,X.env.cells.lookup x=J c->∃o,h.get? c=J o
 pin:∀p∈X.pn,∃o,h.get? p.1=J o
def Inv.bears{X:Cx}{l:VS}{Z:L2.St}{H:Hp}{s:Shared}(i:Inv X l Z H s):DS X s.heap :=
 ⟨λb o e n=>i.base.there b o e n,λx c e=>let⟨_,o,j,_⟩:=i.cell x c e;⟨o,j⟩,λp u=>⟨_,(i.pin p (C7 _ u)).1⟩⟩
def PZ(x:tr)(H:Hp)(j:VC):Prop:=x.fs=[]/\j=Y\/∃f i d,x.fs=[(f,PV.int i)]/\j=J d/\H d=J (.ext (FD d f i))
def DvA(i:VC)(e:Addr)(h:Heap):Prop:=∀d,i=J d->L2.DK e (J d) h
def DvA.none{e:Addr}{h:Heap}:DvA Y e h:=λd z=>by cases z
def zX{M:Model}{A:Around}{env:Env}{e:Addr}{j:VC}{Q:Unit->Shared->Prop}{E:VX}{s:Shared}(hd:DvA j e s.heap)(w:wpAny M A (leaving env (.ref e)) (λu i=>DvA j e i.heap->Q u i) E s):wpAny M A (leaving env (.ref e)) Q E s:=by
 cases j with
 |none=>exact wpAny_mono w (λu i h=>h DvA.none) λ_ _ h=>h
 |some d=>exact wpAny_mono (L2.KD.any (L2.yD _ _) (hd d rfl) w) (λu i h=>h.1 λl z=>by cases z;exact h.2) λ_ _ h=>h.1
def XP(X:Cx)(u:n7)(U:VQ)(H:Hp)(x:tr)(h:MH):Prop:=∀(z C:Addr)(y:VQ)(i:Hp)(B:L2.St)(l:Shared)(j:Heap)(E:VC),PZ x i E->X.mg x.cls=J (.ref C)->Le U H y i->RH X.K X.mg y i h->RS X.K y i u B ->
 Inv X [] B i l->DS X j->RF X.stack i j C z l.heap->DvA E z l.heap->X.xe (.ref z) l
structure G4(h h':Heap)(e C:Addr):Prop where
 keeps:∀b o,h.get? b=J o->h'.get? b=J o
 new:h.get? e=Y
 there:∃t dx,h'.get? e=J { cls:=.ref C,dict:=dx,data:=.fields #[.ref t,.none,.none,.none,.bool T,.none]}
def XM(X:Cx)(l:n7)(U:VQ)(H:Hp)(x:tr)(h:MH):Prop:=∀(y C:Addr)(u:VQ)(i:Hp)(B:L2.St)(j:Shared)(z:Heap)(E:VC),PZ x i E->X.mg x.cls=J (.ref C)->Le U H u i->RH X.K X.mg u i h->RS X.K u i l B ->
 Inv X [] B i { j with heap:=z}->G4 z j.heap y C->DvA E y j.heap->X.xe (.ref y) j
def XP.le(l:Le U H U' H')(q:XP X σp U H x h):XP X σp U' H' x h :=
 λB C j u E s2 i y e1 e2 z=>q B C j u E s2 i y e1 e2 (l.trans z)
def XM.le(l:Le U H U' H')(q:XM X σp U H x h):XM X σp U' H' x h :=
 λB C j u E s2 i y e1 e2 z=>q B C j u E s2 i y e1 e2 (l.trans z)
abbrev Rl(α β:Type):=VQ->Hp->α->β->Prop
def Ful{α β:Type}(X:Cx)(R:Rl α β)(j:n7)(U:VQ)(H:Hp)(o:Out α)(Q:β->Hp->Prop):Prop:=match o with
 |.ok v l=>∀u i y,Le U H u i->RH X.K X.mg u i l->R u i v y->Q y i
 |.exc x l=>XP X j U H x l
 |.bad=>False
def jR{α β:Type}(X:Cx)(R:Rl α β)(U:VQ)(H:Hp)(o:Out α)(Q:β->Hp->Prop):Prop:=match o with
 |.ok v u=>∀j i l,Le U H j i->RH X.K X.mg j i u->R j i v l->Q l i
 |_=>False
def Ful.zero(f:Ful X R σp U H o.ne Q):jR X R U H o Q:=by
 cases o with
 |ok v h=>exact f
 |exc x h=>exact f
 |bad=>exact f
def Ful.le(l:Le U H U1 H1)(f:Ful X R σp U H o Q):Ful X R σp U1 H1 o Q:=by
 cases o with
 |ok v h=>exact λy i u j=>f y i u (l.trans j)
 |exc x h=>exact XP.le l f
 |bad=>exact f
def Ful.bind{α β γ δ:Type}{X:Cx}{R:Rl α β}{S:Rl γ δ}{i:n7}{U:VQ}{H:Hp}{o:Out α}{f:α->MH->Out γ}{Q:δ->Hp->Prop}{B:β->Hp->Prop}(q:Ful X S i U H (o.bind f) Q)(k:∀y j v u z,o=.ok v z->Le U H y j->RH X.K X.mg y j z->R y j v u->Ful X S i y j (f v z) Q->B u j):Ful X R i U H o B:=by
 cases o with
 |ok v h=>exact λE C u l r w=>k E C v u h rfl l r w (Ful.le l q)
 |exc x h=>exact q
 |bad=>exact q
abbrev RV'(X:Cx):Rl PV V:=λU H=>RP X.K U H
abbrev RVs'(X:Cx):Rl (UZ) (List V):=λU H=>RPs X.K U H
abbrev MN{α:Type}:Rl α α:=λ_ _ x y=>x=y
abbrev Mx(α:Type):=n7->MH->Out α
inductive tM{α β:Type}(X:Cx)(R:Rl α β)(m:Mx α)(Z:L2.St)(H:Hp)(Q:β->Hp->Prop):Prop
 |mk(U:VQ)(σp:n7)(h:MH)(rs:RS X.K U H σp Z)(rh:RH X.K X.mg U H h)(q:Ful X R σp U H (m σp h) Q):tM X R m Z H Q
def ME(X:Cx)(e:Expr)(m:Mx PV):Prop:=PE X e (tM X (RV' X) m)
def MT(X:Cx)(e:Expr)(m:Mx Bool):Prop:=PT X e (tM X MN m)
def MW(X:Cx)(e:Expr)(m:Mx Bool):Prop:=PW X e (tM X MN m)
def MA(X:Cx)(i:VV)(m:Mx (UZ)):Prop:=PA X i (tM X (RVs' X) m)
def PE.imp(h:PE X e t)(i:∀Z H Q,t' Z H Q->t Z H Q):PE X e t':=λl s Z H Q j q=>h l s Z H Q j (i Z H Q q)
def PT.imp(h:PT X e t)(i:∀Z H Q,t' Z H Q->t Z H Q):PT X e t':=λl s Z H Q j q=>h l s Z H Q j (i Z H Q q)
def PW.imp(h:PW X e t)(i:∀Z H Q,t' Z H Q->t Z H Q):PW X e t':=λj u s Z H Q l q=>h j u s Z H Q l (i Z H Q q)
def PA.imp(h:PA X e t)(i:∀Z H Q,t' Z H Q->t Z H Q):PA X e t':=λl u s Z H Q j q=>h l u s Z H Q j (i Z H Q q)
def PS.imp(h:PS X e t)(i:∀D Z H,t' D Z H->t D Z H):PS X e t':=λl s Z H D j q=>h l s Z H D j (i D Z H q)
def PSs.imp(h:PSs X e t)(i:∀D Z H,t' D Z H->t D Z H):PSs X e t':=λl s Z H D j q=>h l s Z H D j (i D Z H q)
def bO(X:Cx)(U:VQ)(H:Hp)(o:SOut)(D:Ends):Prop:=match o with
 |.nx i u=>∀l j y,Le U H l j->RH X.K X.mg l j u->RS X.K l j i y->D.nx y j
 |.bk i u=>∀l j y,Le U H l j->RH X.K X.mg l j u->RS X.K l j i y->D.bk y j
 |.ct i u=>∀l j y,Le U H l j->RH X.K X.mg l j u->RS X.K l j i y->D.ct y j
 |.rt v u=>∀l j z,Le U H l j->RH X.K X.mg l j u->RP X.K l j v z->D.rt z j
 |.exc x i u=>XP X i U H x u
 |.rse x i u=>XM X i U H x u
 |.bad=>False
def bO.le(l:Le U H U1 H1)(f:bO X U H o D):bO X U1 H1 o D:=by
 cases o with
 |nx i h=>exact λz j y u=>f z j y (l.trans u)
 |bk i h=>exact λz j y u=>f z j y (l.trans u)
 |ct i h=>exact λz j y u=>f z j y (l.trans u)
 |rt v h=>exact λz j y u=>f z j y (l.trans u)
 |exc x i h=>exact XP.le l f
 |rse x i h=>exact XM.le l f
 |bad=>exact f
abbrev oh:=n7->MH->SOut
inductive P0(X:Cx)(m:oh)(D:Ends)(Z:L2.St)(H:Hp):Prop
 |mk(U:VQ)(σp:n7)(h:MH)(rs:RS X.K U H σp Z)(rh:RH X.K X.mg U H h)(q:bO X U H (m σp h) D):P0 X m D Z H
def MS(X:Cx)(st:Stmt)(m:oh):Prop:=PS X st (P0 X m)
def C0(X:Cx)(st:VB)(m:oh):Prop:=PSs X st (P0 X m)
section
variable{X:Cx}{N W G:VL}{k:Nat}
structure Good(X:Cx)(N W G:VL)(k:Nat):Prop where
 hN:X.N=N
 nd:N.Nodup
 loc:∀x∈N,Loc X.env.scope x
 fn:∀x∈W,X.fn x=I\/X.env.scope.names.lookup x=J .local
 gl:∀x∈G,Gl X x
 dbg:∀x∈N++G,(x==("__debug__":Str))=T/\(x==("__classdict__":Str))=T/\x≠"__name__"
 calm:X.calm=I
 room:Room k X.A
 po:PassesOwn (model X.prog X.w) X.A X.env X.xe
def Good.x(g:Good X N W G k){i:Nat}{x:Str}(j:N[i]?=J x):X.N[i]?=J x:=by rw[g.hN];exact j
def aP{l:VL}{i:Nat}{x:Str}(j:l[i]?=J x):x∈l:=Ek j
def rJ(X:Cx)(g:PV->PV->MH->VW):R2:=λi j H Q=>∃U h x y,RH X.K X.mg U H h/\RP X.K U H x i/\RP X.K U H y j/\jR X (RV' X) U H (g x y h) Q
abbrev Cp(X:Cx)(f:Value->Value->Sem Value)(g:PV->PV->MH->VW):Prop:=OpR X f (rJ X g)
def uJ(X:Cx)(g:PV->MH->VW):V->Hp->VK->Prop:=λi H Q=>∃U h x,RH X.K X.mg U H h/\RP X.K U H x i/\jR X (RV' X) U H (g x h) Q
abbrev TK(X:Cx)(f:Value->Sem Value)(g:PV->MH->VW):Prop:=PY X f (uJ X g)
def cJ(X:Cx)(g:UZ->MH->VW):List V->Hp->VK->Prop:=λi H Q=>∃U h xs,RH X.K X.mg U H h/\RPs X.K U H xs i/\jR X (RV' X) U H (g xs h) Q
abbrev dL(X:Cx)(f:Value)(g:UZ->MH->VW):Prop:=dN X f (cJ X g)
def ar(i:Nat):Mx PV:=λZ h=>match Z[i]? with
 |some (J v)=>.ok v h
 |_=>.bad
def mC(v:PV):Mx PV:=λ_ h=>.ok v h
def AK(g:Good X N W G k)(i:Nat){x:Str}{u:Pos}(l:N[i]?=J x):ME X (.Name x u) (ar i):=by
 have d:=g.dbg x (C7 _ (aP l));have hv:Eo X.env.scope x:=by
  rcases g.loc x (aP l)with q|q
  .exact .inl q
  .exact .inr (.inl q)
 refine PE.imp (lD (g.x l) hv d.1 d.2.1) λZ H Q ⟨U,j,h,C,z,f⟩=>?_;unfold ar at f
 cases e:j[i]? with
 |none=>rw[e]at f;exact f.elim
 |some o =>
  rw[e]at f
  cases o with
  |none=>exact f.elim
  |some v =>
   obtain⟨y,B,r⟩:=C.2 i v e;exact⟨y,B,f U H y (Le.refl _ _) z r⟩
def be:ME X (.Constant (.int i) j pos) (mC (.int i)):=PE.imp HW λ_ H _ ⟨U,_,_,_,l,f⟩=>f U H _ (Le.refl _ _) l (.int i)
def IJ:ME X (.Constant (.str i) j pos) (mC (.str i)):=PE.imp HY λ_ H _ ⟨U,_,_,_,l,f⟩=>f U H _ (Le.refl _ _) l (.str i)
def G5:ME X (.Constant (.bool i) j pos) (mC (.bl i)):=PE.imp L9 λ_ H _ ⟨U,_,_,_,l,f⟩=>f U H _ (Le.refl _ _) l (.bl i)
def IK:ME X (.Constant .none j pos) (mC .non):=PE.imp HX λ_ H _ ⟨U,_,_,_,i,f⟩=>f U H _ (Le.refl _ _) i .non
def aC(f:PV->PV->MH->VW)(l mb:Mx PV):Mx PV:=λZ h=>(l Z h).bind λx i=>(mb Z i).bind λy j=>(f x y j).ne
def DF(f:PV->MH->VW)(j:Mx PV):Mx PV:=λZ h=>(j Z h).bind λx i=>(f x i).ne
def qB{f:PV->PV->MH->VW}{u mb:Mx PV}{Z:L2.St}{H:Hp}{Q:VK}(q:tM X (RV' X) (aC f u mb) Z H Q):LB (rJ X f) (tM X (RV' X) u) (tM X (RV' X) mb) Z H Q:=by obtain⟨U,i,h,z,S,q⟩:=q;refine⟨U,i,h,z,S,Ful.bind q λU1 H1 x x' P _ F l rx B=>?_⟩;refine⟨U1,i,P,z.le F,l,Ful.bind B λL H2 y y' C _ M j R E=>?_⟩;exact⟨L,C,x,y,j,rx.le M,R,E.zero⟩
def bu(i:Cp X (binaryOp op) f)(l:ME X a ma)(j:ME X b mb):ME X (.BinOp a op b pos) (aC f ma mb) :=
 PE.imp (Mm i l j) λ_ _ _ q=>qB q
def MP(y:TK X (unaryOp op) f)(E:ME X a ma):ME X (.UnaryOp op a pos) (DF f ma) :=
 PE.imp (Mn y E) λ_ _ _ ⟨U,i,h,C,F,q⟩=>⟨U,i,h,C,F,Ful.bind q λB L x H l _ M j z u=>⟨B,l,x,j,z,u.zero⟩⟩
def IL(i:Cp X (compareOp op) f)(u:ME X a ma)(l:ME X b mb)(j:behindInMarks op b=T):ME X (.Compare a [op] [b] pos) (aC f ma mb) :=
 PE.imp (Ez i u l j) λ_ _ _ q=>qB q
def mB(m:Mx PV):Mx Bool:=λZ h=>(m Z h).bind λv i=>match v with
 |.bl b=>.ok b i
 |_=>.bad
def MQ(q:tM X MN (mB m) Z H Q):tM X (RV' X) m Z H λx j=>∃c,x=.bl c/\Q c j:=by
 obtain⟨U,i,h,C,y,q⟩:=q;refine⟨U,i,h,C,y,Ful.bind q λB j x E L _ F l z u=>?_⟩
 cases z with
 |bl b=>exact⟨b,rfl,u B j b (Le.refl _ _) l rfl⟩
 |_=>exact u.elim
def AJ(j:Cp X (compareOp op) f)(z:ME X a ma)(y:ME X b mb)(l:behindInMarks op b=T):MT X (.Compare a [op] [b] pos) (mB (aC f ma mb)) :=
 PT.imp (EA j z y l) λZ H Q q=>by
  obtain⟨U,i,h,u,B,q⟩:=MQ q;exact qB ⟨U,i,h,u,B,q⟩
def IM(h:ME X e m)(j:∀i,isTrue e X.env i=(do let v <-i;standAt e.pos;holding [v] (truthy v)):=by intro _;rfl):MT X e (mB m) :=
 PT.imp (HZ h j) λ_ _ _ q=>MQ q
def IN(m:Mx Bool):Mx Bool:=λZ h=>(m Z h).bind λb i=>.ok (!b) i
def IQ(h:MT X e m):MT X (.UnaryOp .Not e pos) (IN m) :=
 PT.imp (Ib h) λ_ _ _ ⟨U,i,h,B,C,q⟩=>⟨U,i,h,B,C,Ful.bind q λy z x F E _ H j u l=>by
  cases u;exact l y z _ (Le.refl _ _) j rfl⟩
def IR(a b:Mx Bool):Mx Bool:=λZ h=>(a Z h).bind λx i=>if x=I then b Z i else .ok T i
def DG(a b:Mx Bool):Mx Bool:=λZ h=>(a Z h).bind λx i=>if x=I then .ok I i else b Z i
section
variable{a b:Expr}{rest:VV}{ma mb:Mx Bool}{pos:Pos}
def ER(i:MT X a ma):MW X (.BoolOp .And [a] pos) ma:=Ep i
def IS(i:MT X a ma):MW X (.BoolOp .Or [a] pos) ma:=H_ i
def IT(M:MT X a ma)(E:MW X (.BoolOp .And (b::rest) pos) mb):MW X (.BoolOp .And (a::b::rest) pos) (IR ma mb) :=
 PW.imp (Ia M E) λZ H Q ⟨U,i,h,y,F,q⟩=>⟨U,i,h,y,F,Ful.bind q λu z x P C _ B j L l=>by
  cases L
  cases x with
  |true=>exact⟨u,i,C,y.le B,j,l⟩
  |false=>exact l u z _ (Le.refl _ _) j rfl⟩
def MR(M:MT X a ma)(E:MW X (.BoolOp .Or (b::rest) pos) mb):MW X (.BoolOp .Or (a::b::rest) pos) (DG ma mb) :=
 PW.imp (L_ M E) λZ H Q ⟨U,i,h,y,F,q⟩=>⟨U,i,h,y,F,Ful.bind q λu z x P C _ B j L l=>by
  cases L
  cases x with
  |true=>exact l u z _ (Le.refl _ _) j rfl
  |false=>exact⟨u,i,C,y.le B,j,l⟩⟩
def MW.mt(h:MW X e m):MT X e m:=PW.pt h
end
def yL(a b:Mx PV):Mx PV:=λZ h=>(a Z h).bind λx i=>match x with
 |.bl c=>if c=I then b Z i else .ok (.bl T) i
 |_=>.bad
def yC(a:Mx PV):Mx PV:=λZ h=>(a Z h).bind λx i=>match x with
 |.bl c=>.ok (.bl (!c)) i
 |_=>.bad
section
variable{a b:Expr}{rest:VV}{ma mb:Mx PV}{pos:Pos}
def IU(i:ME X a ma):ME X (.BoolOp op [a] pos) ma:=Ic i
def IV(M:ME X a ma)(E:ME X (.BoolOp .And (b::rest) pos) mb):ME X (.BoolOp .And (a::b::rest) pos) (yL ma mb) :=
 PE.imp (Ie M E) λZ H Q ⟨U,i,h,y,F,q⟩=>⟨U,i,h,y,F,Ful.bind q λu z x P C _ B j L l=>by
  cases L with
  |bl c =>
   refine⟨c,rfl,?_⟩
   cases c with
   |true=>exact⟨u,i,C,y.le B,j,l⟩
   |false=>exact l u z _ (Le.refl _ _) j (.bl T)
  |_=>exact l.elim⟩
def IW(E:ME X a ma):ME X (.UnaryOp .Not a pos) (yC ma) :=
 PE.imp (Ig E) λZ H Q ⟨U,i,h,C,y,q⟩=>⟨U,i,h,C,y,Ful.bind q λB u x F M _ L j z l=>by
  cases z with
  |bl c=>exact⟨c,rfl,l B u _ (Le.refl _ _) j (.bl _)⟩
  |_=>exact l.elim⟩
def IY(c:Mx Bool)(a b:Mx PV):Mx PV:=λZ h=>(c Z h).bind λx i=>if x=I then a Z i else b Z i
def IZ(C:MT X c mc)(M:ME X a ma)(E:ME X b mb):ME X (.IfExp c a b pos) (IY mc ma mb) :=
 PE.imp (A8 C M E) λZ H Q ⟨U,i,h,l,F,q⟩=>⟨U,i,h,l,F,Ful.bind q λB R x P z _ y j L u=>by
  cases L
  cases x with
  |true=>exact⟨B,i,z,l.le y,j,u⟩
  |false=>exact⟨B,i,z,l.le y,j,u⟩⟩
end
def c_:Mx (UZ):=λ_ h=>.ok [] h
def ai(a:Mx PV)(r:Mx (UZ)):Mx (UZ):=λZ h=>(a Z h).bind λx i=>(r Z i).bind λxs j=>.ok (x::xs) j
def fk:MA X [] c_:=PA.imp iX λZ H Q ⟨U,i,h,l,j,q⟩=>q U H _ (Le.refl _ _) j .nil
def cE(ha:ME X e m)(hr:MA X es ms)(S:starEach (e::es) X.env=(T,eval e X.env)::starEach es X.env:=by rfl):MA X (e::es) (ai m ms) :=
 PA.imp (c8 ha hr S) λZ H Q ⟨U,i,h,u,R,q⟩=>⟨U,i,h,u,R,Ful.bind q λU1 H1 x x' L _ C l rx z =>
  ⟨U1,i,L,u.le C,l,Ful.bind z λE P y y' h2 _ F j M B=>B E P _ (Le.refl _ _) j (.cons (rx.le F) M)⟩⟩
def vr(xs:UZ)(h:MH):VW:=if xs.length<=sizeLine then .ok (.loc h.length) (h++[.lst xs])else .bad
def yR(xs:UZ)(h:MH):VW:=if xs.length<=sizeLine then .ok (.tup xs) h else .bad
def oz{U:VQ}{H:Hp}{h:MH}{xs:UZ}{ys:List V}{Q:VK}(j:RH X.K X.mg U H h)(i:RPs X.K U H xs ys)(f:jR X (RV' X) U H (vr xs h) Q):ys.length<=sizeLine/\∀p,H p=Y->Q (.ref p) (upd H p (.lst ys)):=by
 unfold vr at f
 split at f
 .rename_i hl
  refine⟨by rw[<-i.length];exact hl,λp l=>?_⟩;obtain⟨r1,u⟩:=j.new l (o:=.lst xs) ⟨ys,rfl,i⟩;refine f _ _ _ u r1 (.loc ?_);rw[<-j.len];simp
 .exact f.elim
def wE{U:VQ}{H:Hp}{h:MH}{xs:UZ}{ys:List V}{Q:VK}(u:RH X.K X.mg U H h)(i:RPs X.K U H xs ys)(f:jR X (RV' X) U H (yR xs h) Q):ys.length<=sizeLine/\∀p,H p=Y->Q (.ref p) (upd H p (.tup ys)):=by
 unfold yR at f
 split at f
 .rename_i hl
  refine⟨by rw[<-i.length];exact hl,λp l=>?_⟩;obtain⟨r1,j⟩:=u.tup l ys;exact f _ _ _ j r1 (.tup (.inl (.inl ba)) (i.le j))
 .exact f.elim
def I0{i:n7}{U:VQ}{H:Hp}{h:MH}{xs:UZ}{Q:VK}(f:Ful X (RV' X) i U H (vr xs h) Q):jR X (RV' X) U H (vr xs h) Q:=by
 unfold vr at f ⊢
 split at f
 .rw[eT (by assumption)];exact f
 .exact f.elim
def I_{i:n7}{U:VQ}{H:Hp}{h:MH}{xs:UZ}{Q:VK}(f:Ful X (RV' X) i U H (yR xs h) Q):jR X (RV' X) U H (yR xs h) Q:=by
 unfold yR at f ⊢
 split at f
 .rw[eT (by assumption)];exact f
 .exact f.elim
def cQ(m:Mx (UZ)):Mx PV:=λZ h=>(m Z h).bind vr
def cZ(m:Mx (UZ)):Mx PV:=λZ h=>(m Z h).bind yR
def Ja(h:MA X es ms):ME X (.List es pos) (cQ ms) :=
 PE.imp (Iy h) λZ H Q ⟨U,i,h,z,u,q⟩=>⟨U,i,h,z,u,Ful.bind q λL C x B F _ E j y l=>oz j y (I0 l)⟩
def zt(h:MA X es ms):ME X (.Tuple es j pos) (cZ ms) :=
 PE.imp (zY h) λZ H Q ⟨U,i,h,B,y,q⟩=>⟨U,i,h,B,y,Ful.bind q λM E x C L _ F l z u=>wE l z (I_ u)⟩
def SOut.then(o:SOut)(k:oh):SOut:=match o with
 |.nx Z h=>k Z h
 |o=>o
def aZ(a b:oh):oh:=λZ h=>(a Z h).then b
def i5:oh:=λZ h=>.nx Z h
def o3:C0 X [] i5:=PSs.imp Es λD Z H ⟨U,i,h,j,l,q⟩=>q U H Z (Le.refl _ _) l j
def wF{st:Stmt}{m:oh}(h:MS X st m):C0 X [st] m:=rW h
def bO.then{U:VQ}{H:Hp}{o:SOut}{k:oh}{D:Ends}(q:bO X U H (o.then k) D):bO X U H o { D with nx:=λZ H=>P0 X k D Z H}:=by
 cases o with
 |nx i h=>exact λj u y l r s=>⟨j,i,h,s,r,bO.le l q⟩
 |_=>exact q
def pH{st:Stmt}{i:VB}{m u:oh}(l:MS X st m)(y:C0 X i u):C0 X (st::i) (aZ m u) :=
 PSs.imp (uS l y) λD Z H ⟨U,j,h,z,B,q⟩=>⟨U,j,h,z,B,bO.then q⟩
def bK(m:Mx PV):oh:=λZ h=>match m Z h with
 |.ok v i=>.rt v i
 |.exc x i=>.exc x Z i
 |.bad=>.bad
def ut(l:ME X e m):MS X (.Return (J e) pos) (bK m) :=
 PS.imp (Ih l) λD Z H ⟨U,i,h,j,y,q⟩=>⟨U,i,h,j,y,by
  unfold bK at q
  cases e:m i h with
  |ok v u=>rw[e]at q;exact q
  |exc x u=>rw[e]at q;exact q
  |bad=>rw[e]at q;exact q⟩
def CD{α:Type}(m:Mx α)(k:α->oh):oh:=λZ h=>match m Z h with
 |.ok v i=>k v Z i
 |.exc x i=>.exc x Z i
 |.bad=>.bad
def bO.ex{α β:Type}{R:Rl α β}{m:Mx α}{k:α->oh}{U:VQ}{H:Hp}{i:n7}{h:MH}{D:Ends}{Q:β->Hp->Prop}(q:bO X U H (CD m k i h) D)(w:∀u j v y C,Le U H u j->RH X.K X.mg u j C->R u j v y->bO X u j (k v i C) D->Q y j):Ful X R i U H (m i h) Q:=by
 unfold CD at q
 cases e:m i h with
 |ok v B=>rw[e]at q;exact λu j y l r z=>w u j v y B l r z (bO.le l q)
 |exc x B=>rw[e]at q;exact q
 |bad=>rw[e]at q;exact q
def q0(m:Mx PV):oh:=CD m λ_=>i5
def xq{e:Expr}{m:Mx PV}{i:Pos}(B:ME X e m)(E:swapsWith e Y i.line X.env=pure T:=by rfl):MS X (.Expr e i) (q0 m) :=
 PS.imp (w8 B E) λD Z H ⟨U,j,h,u,C,q⟩=>⟨U,j,h,u,C,bO.ex q λF y v L M l r z w=>w F y Z (Le.refl _ _) r (u.le l)⟩
def yS(c:Mx Bool)(a b:oh):oh:=CD c λx=>if x=I then a else b
def rf{c:Expr}{a b:VB}{y:Mx Bool}{B mb:oh}{j:Pos}(F:MT X c y)(P:C0 X a B)(L:C0 X b mb):MS X (.If c a b j) (yS y B mb) :=
 PS.imp (Md F P L) λD Z H ⟨U,i,h,u,M,q⟩=>⟨U,i,h,u,M,bO.ex q λE Q v R C l r z w=>by
  cases z
  cases v with
  |true=>exact⟨E,i,C,u.le l,r,w⟩
  |false=>exact⟨E,i,C,u.le l,r,w⟩⟩
def bq(i:Nat)(m:Mx PV):oh:=CD m λv Z h=>.nx (Z.set i (J v)) h
def qK(g:Good X N W G k)(i:Nat){x:Str}{e:Expr}{m:Mx PV}{u j:Pos}(B:N[i]?=J x)(hw:W[i]?=J x)(F:ME X e m)(M:swapsWith e (J (.Name x j)) u.line X.env=pure T:=by rfl):
  MS X (.Assign [.Name x j] e u) (bq i m):=by
 refine PS.imp (Af (by rw[g.hN];exact g.nd) (g.x B) (g.loc x (aP B)) F M (g.fn x (aP hw))) λD Z H ⟨U,y,h,C,L,q⟩=>?_;exact⟨U,y,h,C,L,bO.ex q λP E v Q R l r z w=>w P E _ (Le.refl _ _) r ((C.le l).set i z)⟩
end
section
variable{X:Cx}{N W G:VL}{k:Nat}
abbrev Mg:=PV->oh
def qu(X:Cx)(U:VQ)(H:Hp)(o:SOut)(Q:L2.St->Hp->Prop):Prop:=match o with
 |.nx i l=>∀u j y,Le U H u j->RH X.K X.mg u j l->RS X.K u j i y->Q y j
 |.exc x i l=>XP X i U H x l
 |_=>False
def qu.le(l:Le U H U1 H1)(f:qu X U H o Q):qu X U1 H1 o Q:=by
 cases o with
 |nx i h=>exact λz j y u=>f z j y (l.trans u)
 |exc x i h=>exact XP.le l f
 |_=>exact f
inductive tG(X:Cx)(g:Mg)(v':V)(Z:L2.St)(H:Hp)(Q:L2.St->Hp->Prop):Prop
 |mk(U:VQ)(σp:n7)(h:MH)(v:PV)(rs:RS X.K U H σp Z)(rh:RH X.K X.mg U H h)(rv:RP X.K U H v v')(q:qu X U H (g v σp h) Q):tG X g v' Z H Q
def MG(X:Cx)(i:Expr)(g:Mg):Prop:=PG X i (tG X g)
def PG.imp(h:PG X e t)(i:∀v Z H Q,t' v Z H Q->t v Z H Q):PG X e t':=λl s Z H v u Q j r q=>h l s Z H v u Q j r (i v Z H Q q)
def v1(i:Nat):Mg:=λv Z h=>.nx (Z.set i (J v)) h
def w5(g:Good X N W G k)(i:Nat)(j:N[i]?=J x)(hw:W[i]?=J x):MG X (.Name x pos) (v1 i) :=
 PG.imp (wG (by rw[g.hN];exact g.nd) (g.x j) (g.loc x (aP j)) (g.fn x (aP hw))) λB Z H Q ⟨U,u,h,v,y,z,l,q⟩=>q U H _ (Le.refl _ _) z (y.set i l)
abbrev ES:=UZ->oh
inductive TL(X:Cx)(g:ES)(v':List V)(Z:L2.St)(H:Hp)(Q:L2.St->Hp->Prop):Prop
 |mk(U:VQ)(σp:n7)(h:MH)(v:UZ)(rs:RS X.K U H σp Z)(rh:RH X.K X.mg U H h)(rv:RPs X.K U H v v')(q:qu X U H (g v σp h) Q):TL X g v' Z H Q
def MU(X:Cx)(i:VV)(g:ES):Prop:=PGs X i (TL X g)
def PGs.imp(h:PGs X e t)(i:∀v Z H Q,t' v Z H Q->t v Z H Q):PGs X e t':=λl s Z H v u Q j r q=>h l s Z H v u Q j r (i v Z H Q q)
def ET:ES:=λi Z h=>match i with
 |[]=>.nx Z h
 |_=>.bad
def DH(a:Mg)(r:ES):ES:=λi Z h=>match i with
 |v::j=>(a v Z h).then (r j)
 |[]=>.bad
def EU:MU X [] ET:=PGs.imp Et λy Z H Q ⟨U,j,h,v,l,u,i,q⟩=>by
 cases i with
 |nil=>exact⟨rfl,q U H Z (Le.refl _ _) u l⟩
 |cons _ _=>exact q.elim
def Bh(j:MG X e a)(u:MU X es r)(L:(assignEach (e::es) X.env).map (·.2)=assign e X.env::(assignEach es X.env).map (·.2):=by rfl):MU X (e::es) (DH a r) :=
 PGs.imp (AO j u L) λR Z H Q ⟨U,i,h,v,P,E,B,q⟩=>by
  cases B with
  |nil=>exact q.elim
  |@cons x y xs ys M C =>
   refine⟨_,_,rfl,U,i,h,x,P,E,M,?_⟩;dsimp only[DH]at q
   cases e:a x i h with
   |nx z j=>rw[e]at q;exact λF S Z' l r1 s1=>⟨F,z,j,xs,s1,r1,C.le l,qu.le l q⟩
   |_=>rw[e]at q;exact q
def EV(r:ES)(n:Nat):Mg:=λv Z h=>match v with
 |.tup xs=>if xs.length=n then r xs Z h else .bad
 |_=>.bad
def Jb(g:Good X N W G k){i:VV}{j:Nat}{r:ES}{n:Nat}{u:Pos}(h:MU X i r)(F:(assignEach i X.env).length=n:=by rfl)(y:(assignEach i X.env).findIdx? (·.1)=Y:=by rfl):
  MG X (.Tuple i j u) (EV r n) :=
 PG.imp (Ii g.calm h F y) λL Z H Q ⟨U,l,h,v,E,C,B,q⟩=>by
  cases B with
  |tup s z =>
   dsimp only[EV]at q
   split at q
   .rename_i hl
    exact⟨_,_,rfl,s,by rw[<-z.length];exact hl,U,l,h,_,E,C,z,q⟩
   .exact q.elim
  |_=>exact q.elim
def j9(m:Mx PV)(g:Mg):oh:=CD m λv Z h=>match g v Z h with
 |.nx j i=>.nx j i
 |.exc x j i=>.exc x j i
 |_=>.bad
def qL{j e:Expr}{m:Mx PV}{g:Mg}{u:Pos}(C:ME X e m)(hg:MG X j g)(F:swapsWithSole [j] e u.line X.env=pure T:=by rfl)(hw:swappedStores [j] e X.env=pure Y:=by rfl)(y:(assignEach [j] X.env).map (·.2)=[assign j X.env]:=by rfl):MS X (.Assign [j] e u) (j9 m g) :=
 PS.imp (Ik C hg F hw y) λD Z H ⟨U,i,h,B,E,q⟩=>⟨U,i,h,B,E,bO.ex q λL M v P y l r z w=>⟨L,i,y,v,B.le l,r,z,by
  cases e:g v i y with
  |_=>rw[e]at w;exact w⟩⟩
def Jc(i j:Nat)(m:Mx (UZ)):oh:=CD m λl Z h=>match l with
 |[v,w]=>.nx ((Z.set i (J v)).set j (J w)) h
 |_=>.bad
def Jd(g:Good X N W G k)(i j:Nat)(Q:N[i]?=J x)(M:N[j]?=J y)(B:i≠j)(ha:MA X [a,b] m)(L:X.env.scope.names.lookup x=J .local)(R:X.env.scope.names.lookup y=J .local)(hw:swappedStores [.Tuple [.Name x px,.Name y py] kt pt] (.Tuple [a,b] k2 pt2) X.env=pure (J [x,y]))(hs:swapsWithSole [.Tuple [.Name x px,.Name y py] kt pt] (.Tuple [a,b] k2 pt2) pos.line X.env=pure T:=by rfl):
  MS X (.Assign [.Tuple [.Name x px,.Name y py] kt pt] (.Tuple [a,b] k2 pt2) pos) (Jc i j m) :=
 PS.imp (Il g.calm (by rw[g.hN];exact g.nd) (g.x Q) (g.x M) B L R ha hw hs) λD Z H ⟨U,u,h,C,S,q⟩=>⟨U,u,h,C,S,bO.ex q λU1 F v v' h1 l r z w=>by
  cases z with
  |nil=>exact w.elim
  |cons E z =>
   cases z with
   |nil=>exact w.elim
   |cons P z =>
    cases z with
    |nil=>exact⟨_,_,rfl,w U1 F _ (Le.refl _ _) r (((C.le l).set i E).set j P)⟩
    |cons _ _=>exact w.elim⟩
def qo(o i v:PV)(h:MH):Option MH:=match o,i with
 |.loc n,.int j=>(match h[n]? with
  |some (.lst xs)=>(xS xs.length j).map λp=>h.set n (.lst (xs.set p v))
  |_=>Y)
 |_,_=>Y
def G6(mo l:Mx PV):Mg:=λv=>CD mo λo=>CD l λi Z h=>match qo o i v h with
 |some j=>.nx Z j
 |none=>.bad
def uM(ho:ME X o mo)(hi:ME X i mi)(ha:∀v,assign (.Subscript o i pos) X.env v=(do
   let z <-holding [v] (eval o X.env)
   let B <-holding [v,z] (eval i X.env)
   standAt pos
   holding [v,z,B] (setItem z B v)
   release [v,z,B] []):=by intro _;rfl):MG X (.Subscript o i pos) (G6 mo mi) :=
 PG.imp (Ij ho hi Cg ha) λv' Z H Q ⟨U,l,h,v,R,rh,rv,q⟩=>by
  refine⟨U,l,h,R,rh,?_⟩;unfold G6 CD at q
  cases e:mo l h with
  |exc x L=>rw[e]at q;exact q
  |bad=>rw[e]at q;exact q
  |ok z L =>
   rw[e]at q;intro U1 H1 o' u P ro;refine⟨U1,l,L,R.le u,P,?_⟩;dsimp only at q
   cases e2:mi l L with
   |exc x h2=>rw[e2]at q;exact XP.le u q
   |bad=>rw[e2]at q;exact q
   |ok B h2 =>
    rw[e2]at q;intro U2 H2 i' C y ri;have S:=ro.le C;have M:=(rv.le u).le C;unfold qo at q
    cases S with
    |@loc n a en =>
     cases ri with
     |int j =>
      dsimp only at q;obtain⟨ob,eo,F⟩:=y.obj en;rw[eo]at q
      cases ob with
      |dic fz ks xs=>exact q.elim
      |exc x=>exact q.elim
      |lst xs =>
       obtain⟨ys,ey,ry⟩:=F;dsimp only at q
       cases E:xS xs.length j with
       |none=>rw[E]at q;exact q.elim
       |some p =>
        rw[E]at q;refine⟨a,ys,j,p,rfl,rfl,ey,by rw[<-ry.length];exact E,?_⟩;obtain⟨r3,l3⟩:=y.put en (o:=.lst (xs.set p v)) ⟨_,rfl,RPs.set M p ry⟩;exact q U2 _ Z (u.trans (C.trans l3)) r3 (R.le (u.trans (C.trans l3)))
     |_=>exact q.elim
    |_=>exact q.elim
structure MIt where
 xs:UZ
 gd:List (Nat×UZ):=[]
def MIt.ok(i:MIt)(h:MH):Prop:=∀p∈i.gd,h[p.1]?=J (.lst p.2)
def uo(X:Cx):Rl MIt It:=λB C u j=>∀U H h (i:Nat),Le B C U H->RH X.K X.mg U H h->u.ok h ->
 (i<u.xs.length->j.go i H/\∀z l,j.yld i H z l->∃y x,Le U H y l/\RH X.K X.mg y l h/\u.xs[i]?=J x/\RP X.K y l x z)/\(u.xs.length<=i->j.stop i H)
def MI(X:Cx)(j i:Expr)(m:Mx MIt):Prop:=PI X j i (tM X (uo X) m)
def PI.imp(h:PI X tg e t)(i:∀Z H Q,t' Z H Q->t Z H Q):PI X tg e t':=λl s Z H Q j q=>h l s Z H Q j (i Z H Q q)
def AT(l:MIt)(g:Mg)(b:oh):UZ->oh
 |[]=>λZ h=>if l.ok h then .nx Z h else .bad
 |x::r=>λZ h=>if l.ok h then (match g x Z h with
   |.nx u y=>(match b u y with
    |.nx j i=>AT l g b r j i
    |.ct j i=>AT l g b r j i
    |.bk j i=>.nx j i
    |.rt v i=>.rt v i
    |.exc e j i=>.exc e j i
    |.rse e j i=>.rse e j i
    |.bad=>.bad)
   |.exc e u y=>.exc e u y
   |_=>.bad)else .bad
def fR(j:Mx MIt)(g:Mg)(b:oh):oh:=CD j λi=>AT i g b i.xs
def AF(gd:Good X N W G k)(hi:MI X tg iter mi)(hg:MG X tg g)(hb:C0 X body mb)(hs:∀x,foldedSetIterable iter X.env x=pure x:=by intro _;rfl):MS X (.For tg iter body [] pos) (fR mi g mb):=by
 refine PS.imp (Ip gd.po gd.calm hi hg hb hs) λD Z H ⟨U,B,h,rs,rh,q⟩=>⟨U,B,h,rs,rh,bO.ex q λU1 H1 u ak h1 l1 ab jr w=>?_⟩;refine⟨λi m Z H=>m=u.xs.length-i/\i<=u.xs.length/\∃U B h,Le U1 H1 U H/\RS X.K U H B Z/\RH X.K X.mg U H h/\bO X U H (AT u g mb (u.xs.drop i) B h) D,⟨_,rfl,CN _,U1,B,h1,Le.refl _ _,rs.le l1,ab,w⟩,?_⟩;rintro i m Z2 H2 ⟨rfl,hi,U2,F,h2,l2,aa,M,C⟩;by_cases E:i<u.xs.length
 .have ed:u.xs.drop i=u.xs[i]::u.xs.drop (i+1):=Tw E;rw[ed]at C;unfold AT at C
  split at C
  .rename_i hok
   obtain⟨j1,j2⟩:=jr U2 H2 h2 i l2 M hok;obtain⟨go,yl⟩:=j1 E;refine .inr ⟨go,λZ3 R=>∃U3 L h3,Le U1 H1 U3 R/\RS X.K U3 R L Z3/\RH X.K X.mg U3 R h3/\bO X U3 R (AT u g mb (u.xs.drop (i+1)) L h3) D,λZ3 R z=>⟨_,by ext,rfl,E,z⟩,λx' H' y=>?_⟩;obtain⟨U',x,l',ag,ex,rx⟩:=yl x' H' y;have ac:x=u.xs[i]:=by rw[C_ E]at ex;exact(Option.some.inj ex).symm
   subst ac;refine⟨U',F,h2,_,aa.le l',ag,rx,?_⟩;have l:=bO.le l' C
   cases eg:g u.xs[i] F h2 with
   |nx Z4 h4 =>
    rw[eg]at l;intro U5 H5 Z5 l5 r5 s5;refine⟨U5,Z4,h4,s5,r5,?_⟩;have j:=bO.le l5 l;have l6:Le U1 H1 U5 H5:=l2.trans (l'.trans l5);dsimp only at j
    cases em:mb Z4 h4 with
    |nx Q P=>rw[em]at j;exact λU7 H7 Z7 S r7 s7=>⟨U7,Q,P,l6.trans S,s7,r7,bO.le S j⟩
    |ct Q P=>rw[em]at j;exact λU7 H7 Z7 S r7 s7=>⟨U7,Q,P,l6.trans S,s7,r7,bO.le S j⟩
    |bk Q P=>rw[em]at j;exact j
    |rt v P=>rw[em]at j;exact j
    |exc e Q P=>rw[em]at j;exact j
    |rse e Q P=>rw[em]at j;exact j
    |bad=>rw[em]at j;exact j
   |exc e Z4 h4=>rw[eg]at l;exact l
   |_=>rw[eg]at l;exact l.elim
  .exact C.elim
 .have e:i=u.xs.length:=by ext
  rw[e,List.drop_length]at C;unfold AT at C
  split at C
  .rename_i hok
   obtain⟨j1,j2⟩:=jr U2 H2 h2 i l2 M hok;exact .inl ⟨j2 (by ext),C U2 H2 Z2 (Le.refl _ _) M aa⟩
  .exact C.elim
def G7(v:PV)(h:MH):Out MIt:=match v with
 |.loc n=>(match h[n]? with
  |some (.lst xs)=>.ok ⟨xs,[(n,xs)]⟩ h
  |_=>.bad)
 |.frl xs=>.ok ⟨xs,[]⟩ h
 |_=>.bad
def MV(m:Mx PV):Mx MIt:=λZ h=>(m Z h).bind G7
def xH(P:∀u j h,Le U H u j->RH X.K X.mg u j h->(⟨xs,gd⟩:MIt).ok h->∃ys,SqL X.K j a ys/\RPs X.K u j xs ys):uo X U H ⟨xs,gd⟩ (Rs X.K a):=by
 intro u j h i l L ok;obtain⟨ys,C,M⟩:=P u j h l L ok;refine⟨λB=>?_,λB=>⟨ys,C,by rw[<-M.length];exact B⟩⟩;have E:=C_ B;obtain⟨y,F,Q⟩:=M.get E;refine⟨⟨ys,y,C,F⟩,λR S ⟨e,z⟩=>?_⟩;subst e
 have:=z ys C
 rw[F]at this;cases this;exact⟨u,_,Le.refl _ _,L,E,Q⟩
def EW(hl:ME X l m):MI X tg l (MV m) :=
 PI.imp (Ev hl) λZ H Q ⟨U,y,h,rs,rh,q⟩=>⟨U,y,h,rs,rh,Ful.bind q λL F x x' h1 _ l1 j rx i=>by
  cases rx with
  |@loc n a e =>
   obtain⟨P,eo,B⟩:=j.obj e;dsimp only[G7]at i;rw[eo]at i
   cases P with
   |dic fz ks xs=>exact i.elim
   |exc x=>exact i.elim
   |lst xs =>
    obtain⟨ys,S,ry⟩:=B;refine⟨a,rfl,⟨ys,SqL.of S⟩,i L F _ (Le.refl _ _) j (xH λU' M R l u ok=>?_)⟩;obtain⟨E,C,z⟩:=u.at' n a _ (l.get e) (ok (n,xs) (by simp));exact⟨E,SqL.of C,z⟩
  |frl s r =>
   exact⟨_,rfl,⟨_,s.sq⟩,i L F _ (Le.refl _ _) j (xH λU' M R l u ok=>⟨_,(l.sqf s).sq,r.le l⟩)⟩
  |_=>exact i.elim⟩
def MX(m:Mx PV):Mx MIt:=λZ h=>(m Z h).bind λv i=>match v with
 |.tup xs=>.ok ⟨xs,[]⟩ i
 |_=>.bad
def Je(hl:ME X l m):MI X tg l (MX m) :=
 PI.imp (Io hl) λZ H Q ⟨U,u,h,rs,rh,q⟩=>⟨U,u,h,rs,rh,Ful.bind q λU1 R x P h1 _ l1 E rx F=>by
  cases rx with
  |@tup xs a ys s r =>
   refine⟨_,rfl,⟨_,s⟩,F U1 R _ (Le.refl _ _) E ?_⟩;intro U' H' h' i l C ok;have j:=l.sqt s;have S:=r.le l;refine⟨λB=>?_,λB=>⟨ys,j,by rw[<-r.length];exact B⟩⟩;have L:=C_ B;obtain⟨y,M,ry⟩:=S.get L;refine⟨⟨ys,y,j,M⟩,λP H2 ⟨e,z⟩=>?_⟩;subst e
   have:=z ys j
   rw[M]at this;cases this;exact⟨U',_,Le.refl _ _,C,L,ry⟩
  |_=>exact F.elim⟩
def cq(lo:Int)(n:Nat):UZ:=(List.range n).map λ(i:Nat)=>PV.int (lo+(i:Int))
def yn(lo:Int)(n:Nat):(cq lo n).length=n:=by simp[cq]
def wN(lo:Int)(n:Nat):uo X U H ⟨cq lo n,[]⟩ (Mi lo n):=by intro y z h i l u ok;have hl:=yn lo n;refine⟨λj=>⟨by rw[hl]at j;exact j,λB C ⟨e1,e2⟩=>?_⟩,λj=>by rw[hl]at j;exact j⟩;subst e1;subst e2;rw[hl]at j;exact⟨y,.int (lo+i),Le.refl _ _,u,by simp[cq,j],.int _⟩
def dm(m:Mx (UZ)):Mx MIt:=λZ h=>(m Z h).bind λi l=>match i with
 |[.int j]=>if -(2^62)<=j/\j<2^62 then .ok ⟨cq 0 j.toNat,[]⟩ l else .bad
 |_=>.bad
def G8(m:Mx (UZ)):Mx MIt:=λZ h=>(m Z h).bind λl u=>match l with
 |[.int i,.int j]=>if -(2^62)<=i/\i<2^62 /\ -(2^62)<=j/\j<2^62 then .ok ⟨cq i (j-i).toNat,[]⟩ u else .bad
 |_=>.bad
def tD(hg:Gl X "range")(B:X.mg "range"=Y)(R:MA X [a] m)(F:starEach [a] X.env=[(T,eval a X.env)]:=by rfl):MI X tg (.Call (.Name "range" p) [a] [] pos) (dm m):=by
 refine PI.imp (Ag hg B R F) λZ H Q ⟨U,l,h,P,E,q⟩=>⟨U,l,h,P,E,Ful.bind q λM z x S h1 _ l1 u L i=>?_⟩
 cases L with
 |nil=>exact i.elim
 |cons r1 C =>
  cases C with
  |nil =>
   cases r1 with
   |int j =>
    dsimp only at i
    split at i
    .rename_i y
     exact⟨j,rfl,y.1,y.2,i M z _ (Le.refl _ _) u (wN 0 j.toNat)⟩
    .exact i.elim
   |_=>exact i.elim
  |cons r2 t2=>cases r1<;>exact i.elim
def zm{M a b:Expr}{m:Mx (UZ)}{p u:Pos}(hg:Gl X "range")(E:X.mg "range"=Y)(ha:MA X [a,b] m)(P:starEach [a,b] X.env=[(T,eval a X.env),(T,eval b X.env)]:=by rfl)(l:starEach [b] X.env=[(T,eval b X.env)]:=by rfl):MI X M (.Call (.Name "range" p) [a,b] [] u) (G8 m):=by
 refine PI.imp (zH hg E ha P l) λZ H Q ⟨U,j,h,rs,L,q⟩=>⟨U,j,h,rs,L,Ful.bind q λS z x x' h1 _ l1 y R i=>?_⟩
 split at i
 .cases R with
  |cons r1 F =>
   cases F with
   |cons r2 C =>
    cases C;cases r1;cases r2
    split at i
    .rename_i B
     exact⟨_,_,rfl,B,i S z _ (Le.refl _ _) y (wN _ _)⟩
    .exact i.elim
 .exact i.elim
def cW(c:Mx Bool)(b:oh):Nat->oh
 |0=>λ_ _=>.bad
 |n+1=>CD c λx=>if x=I then (λZ h=>match b Z h with
   |.nx j i=>cW c b n j i
   |.ct j i=>cW c b n j i
   |.bk j i=>.nx j i
   |.rt v i=>.rt v i
   |.exc e j i=>.exc e j i
   |.rse e j i=>.rse e j i
   |.bad=>.bad)else i5
def Jf(c:Mx Bool)(b:oh):oh:=λZ h=>if z:∃n,cW c b n Z h≠.bad then cW c b (Classical.choose z) Z h else .bad
def nV:∀{n:Nat}{Z:n7}{h:MH},cW c b n Z h≠.bad->cW c b (n+1) Z h=cW c b n Z h
 |n+1,Z,h,q=>by
  rw[cW]at q;rw[cW]
  conv=>rhs;rw[cW]
  unfold CD at q ⊢
  cases e:c Z h with
  |exc x i=>rfl
  |bad=>rfl
  |ok x i =>
   rw[e]at q
   cases x with
   |false=>rfl
   |true =>
    simp only[if_true]at q ⊢
    cases em:b Z i with
    |nx l j=>rw[em]at q;exact nV q
    |ct l j=>rw[em]at q;exact nV q
    |_=>rfl
def wL(q:cW c b n Z h≠.bad)(l:n<=m):cW c b m Z h=cW c b n Z h:=by
 induction l with
 |refl=>rfl
 |step l i=>rw[nV (by rw[i];exact q),i]
def lO(q:cW c b n Z h≠.bad):Jf c b Z h=cW c b n Z h:=by
 have z:∃n,cW c b n Z h≠.bad:=⟨n,q⟩;unfold Jf;rw[dif_pos z];have i:=Classical.choose_spec z;rcases Nat.le_total n (Classical.choose z)with l|l
 .exact wL q l
 .exact (wL i l).symm
def BO(gd:Good X N W G k)(S:MT X c mc)(hb:C0 X body mb):MS X (.While c body [] pos) (Jf mc mb):=by
 refine PS.imp (Bm gd.po S hb) λD Z H ⟨U,i,h,rs,rh,q⟩=>?_;refine⟨λm Z H=>∃U i h,RS X.K U H i Z/\RH X.K X.mg U H h/\bO X U H (cW mc mb m i h) D,?_,?_⟩
 .unfold Jf at q
  split at q
  .exact⟨_,U,i,h,rs,rh,q⟩
  .exact q.elim
 .rintro m Z1 H1 ⟨U1,j,h1,u,L,M⟩
  cases m with
  |zero=>exact M.elim
  |succ m =>
   refine⟨U1,j,h1,u,L,bO.ex M λQ H2 v v' P R r2 z w=>?_⟩;cases z
   cases v with
   |false=>exact w Q H2 Z1 (Le.refl _ _) r2 (u.le R)
   |true =>
    rw[eT rfl]at w ⊢;refine⟨λZ H=>∃U i h,RS X.K U H i Z/\RH X.K X.mg U H h/\bO X U H (cW mc mb m i h) D,λZ' H' z=>⟨m,Q0 _,z⟩,Q,j,P,u.le R,r2,?_⟩
    cases em:mb j P with
    |nx y l=>rw[em]at w;exact λB H7 Z7 F E C=>⟨B,y,l,C,E,bO.le F w⟩
    |ct y l=>rw[em]at w;exact λB H7 Z7 F E C=>⟨B,y,l,C,E,bO.le F w⟩
    |bk y l=>rw[em]at w;exact w
    |rt v l=>rw[em]at w;exact w
    |exc e y l=>rw[em]at w;exact w
    |rse e y l=>rw[em]at w;exact w
    |bad=>rw[em]at w;exact w
def fM(f:PV->Option PyData):UZ->Option (List PyData)
 |[]=>J []
 |x::r=>match f x,fM f r with
  |some d,J i=>J (d::i)
  |_,_=>Y
def rd:Nat->MH->PV->Option PyData
 |0,_,v=>(match v with
  |.non=>J .none
  |.bl b=>J (.bool b)
  |.int i=>J (.int i)
  |.str x=>J (.str x)
  |_=>Y)
 |n+1,h,v=>(match v with
  |.non=>J .none
  |.bl b=>J (.bool b)
  |.int i=>J (.int i)
  |.str x=>J (.str x)
  |.tup xs=>(fM (rd n h) xs).map PyData.tuple
  |.frl xs=>(fM (rd n h) xs).map PyData.list
  |.loc m=>(match h[m]? with
   |some (.lst xs)=>(fM (rd n h) xs).map PyData.list
   |_=>Y))
def kR{z:Heap}{f:PV->Option PyData}{K:hW}{U:VQ}{H:Hp}(hf:∀v y u d,RP K U H v y->bh y u->f v=J d->∃l,Reads z u d l):
  ∀{xs:UZ}{ys:List V}{i:VR}{j:List PyData},RPs K U H xs ys->aV ys i->fM f xs=J j->∃l,ReadsAll z i j l:=by
 intro xs
 induction xs with
 |nil =>
  intro ys i j r v e;cases r;cases v;cases e;exact⟨_,.nil⟩
 |cons x xs C =>
  intro ys i j r v e;cases r with|cons r t=>cases v with|cons v w =>
  simp only[fM]at e
  split at e
  .rename_i d F e1 e2
   cases e;obtain⟨L,B⟩:=hf _ _ _ _ r v e1;obtain⟨M,E⟩:=C t w e2;exact⟨_,.cons B E⟩
  .cases e
def m5{P:VS}{Z:L2.St}{H:Hp}{s:Shared}{U:VQ}{h:MH}(j:Inv X P Z H s)(rh:RH X.K X.mg U H h):
  ∀(n:Nat)(v:PV)(C:V)(u:Value)(d:PyData),RP X.K U H v C->bh C u->rd n h v=J d->∃B,Reads s.heap u d B:=by
 intro n
 induction n with
 |zero =>
  intro v C u d rp r e
  cases rp with
  |non=>cases e;cases r;exact⟨_,.none⟩
  |bl b=>cases e;cases r;exact⟨_,.bool b⟩
  |int i=>cases e;obtain⟨t,rfl⟩:=r;exact⟨_,.int i t⟩
  |str i=>cases e;obtain⟨t,rfl⟩:=r;exact⟨_,.str i t⟩
  |_=>cases e
 |succ n E =>
  intro v C u d rp r e
  cases rp with
  |non=>cases e;cases r;exact⟨_,.none⟩
  |bl b=>cases e;cases r;exact⟨_,.bool b⟩
  |int i=>cases e;obtain⟨t,rfl⟩:=r;exact⟨_,.int i t⟩
  |str i=>cases e;obtain⟨t,rfl⟩:=r;exact⟨_,.str i t⟩
  |@tup xs a ys s L =>
   cases r;simp only[rd]at e
   cases q:fM (rd n h) xs with
   |none=>rw[q]at e;cases e
   |some M =>
    rw[q]at e;cases e;obtain⟨y,l,⟨o,e1,e2,m,e3⟩,_⟩:=j.tuple s;obtain⟨B,z⟩:=kR (E) L l q;exact⟨_,.tuple e1 e2 e3 (by simpa using z)⟩
  |@frl xs a ys s L =>
   cases r;simp only[rd]at e
   cases q:fM (rd n h) xs with
   |none=>rw[q]at e;cases e
   |some M =>
    rw[q]at e;cases e;obtain⟨y,l,⟨o,m,e1,e2,_,e3⟩,_⟩:=j.list s.sq;obtain⟨B,z⟩:=kR (E) L l q;exact⟨_,.list e1 e2 e3 (by simpa using z)⟩
  |loc en =>
   cases r;simp only[rd]at e;obtain⟨Q,eo,F⟩:=rh.obj en;rw[eo]at e
   cases Q with
   |dic fz ks xs=>cases e
   |exc x=>cases e
   |lst xs =>
    obtain⟨ys,R,S⟩:=F;dsimp only at e
    cases q:fM (rd n h) xs with
    |none=>rw[q]at e;cases e
    |some M =>
     rw[q]at e;cases e;obtain⟨y,l,⟨o,m',e1,e2,_,e3⟩,_⟩:=j.list (SqL.of (K:=X.K) R);obtain⟨B,z⟩:=kR (E) S l q;exact⟨_,.list e1 e2 e3 (by simpa using z)⟩
def Cu(x y:PV)(h:MH):VW:=match rd 60 h x,rd 60 h y with
 |some a,J b=>if SeqAt.shaped a=I/\SeqAt.shaped b=I then .ok (.bl (PyData.eqv a b)) h else .bad
 |_,_=>.bad
def n9(x y:PV)(h:MH):VW:=match rd 60 h x,rd 60 h y with
 |some a,J b=>if SeqAt.shaped a=I/\SeqAt.shaped b=I then .ok (.bl (!PyData.eqv a b)) h else .bad
 |_,_=>.bad
def G9(hr:Room k X.A):Cp X (compareOp .Eq) Cu:=by
 intro NN s Z H C E u v Q i z j ⟨U,h,x,y,l,P,L,q⟩;unfold Cu at q
 split at q
 .rename_i a b S F
  split at q
  .rename_i B
   obtain⟨_,R⟩:=m5 i l 60 x C u a P z S;obtain⟨_,M⟩:=m5 i l 60 y E v b L j F;exact eq_dataH R M B.1 B.2 hr.units ⟨.bl _,H,i,rfl,q U H _ (Le.refl _ _) l (.bl _)⟩
  .exact q.elim
 .exact q.elim
def MY(hr:Room k X.A):Cp X (compareOp .NotEq) n9:=by
 intro NN s Z H C E u v Q i z j ⟨U,h,x,y,l,P,L,q⟩;unfold n9 at q
 split at q
 .rename_i a b S F
  split at q
  .rename_i B
   obtain⟨_,R⟩:=m5 i l 60 x C u a P z S;obtain⟨_,M⟩:=m5 i l 60 y E v b L j F;exact ne_dataH R M B.1 B.2 hr.units ⟨.bl _,H,i,rfl,q U H _ (Le.refl _ _) l (.bl _)⟩
  .exact q.elim
 .exact q.elim
def qa(f:Int->Int->PV):PV->PV->MH->VW:=λx y h=>match x,y with
 |.int i,.int j=>.ok (f i j) h
 |_,_=>.bad
def qW(M:OpR X F (Ew f))(z:∀U H i j,RP X.K U H (g i j) (f i j)):Cp X F (qa g):=by
 intro E s Z H S y' u v Q B C l ⟨U,h,x,y,P,R,L,q⟩;unfold qa at q
 split at q
 .cases R;cases L;exact M E s Z H _ _ u v Q B C l ⟨_,_,rfl,rfl,q U H _ (Le.refl _ _) P (z U H _ _)⟩
 .exact q.elim
def DT:=qa λi j=>.bl (decide (i<j))
def Jg:=qa λi j=>.bl (decide (i<=j))
def DU:=qa λi j=>.bl (decide (j<i))
def Dy:=qa λi j=>.bl (decide (j<=i))
def G_:Cp X (compareOp .Lt) DT:=qW Mp λ_ _ _ _=>.bl _
def MZ:Cp X (compareOp .LtE) Jg:=qW Mq λ_ _ _ _=>.bl _
def Ha:Cp X (compareOp .Gt) DU:=qW Mr λ_ _ _ _=>.bl _
def Hb:Cp X (compareOp .GtE) Dy:=qW Ms λ_ _ _ _=>.bl _
def sM(i:Bool):PV->PV->MH->VW:=λx y h=>match y with
 |.non=>(match x with
  |.non=>.ok (.bl (!i)) h
  |_=>.ok (.bl i) h)
 |.bl b=>(match x with
  |.bl c=>.ok (.bl (if i then !(c==b)else c==b)) h
  |.non=>.ok (.bl i) h
  |.int _=>.ok (.bl i) h
  |.str _=>.ok (.bl i) h
  |.tup _=>.ok (.bl i) h
  |_=>.bad)
 |_=>.bad
def jl(x y:PV)(h:MH):VW:=match x,y with
 |.int i,.int j=>if IntMulOk i j then .ok (.int (i*j)) h else .bad
 |.loc n,.int j=>(match h[n]? with
  |some (.lst xs)=>if -(2^63)<=j/\j<2^63 then vr (List.flatten (List.replicate j.toNat xs)) h else .bad
  |_=>.bad)
 |_,_=>.bad
def Df(x y:PV)(h:MH):VW:=match x,y with
 |.int i,.int j=>if j≠0 then .ok (.int (i.fdiv j)) h else .bad
 |_,_=>.bad
def lx(x y:PV)(h:MH):VW:=match x,y with
 |.int i,.int j=>if j≠0 then .ok (.int (i.fmod j)) h else .bad
 |_,_=>.bad
def uq(x y:PV)(h:MH):VW:=match x,y with
 |.int i,.int j=>if gB i j then .ok (.int (i^j.toNat)) h else .bad
 |_,_=>.bad
def hU(x y:PV)(h:MH):VW:=match x,y with
 |.int i,.int j=>.ok (.int (i+j)) h
 |.str a,.str b=>if a.length+b.length<=sizeLine then .ok (.str (a++b)) h else .bad
 |.loc n,.loc m=>(match h[n]?,h[m]? with
  |some (.lst xs),J (.lst ys)=>vr (xs++ys) h
  |_,_=>.bad)
 |.tup xs,.tup ys=>if xs≠[]then yR (xs++ys) h else .bad
 |_,_=>.bad
def DV:=qa λi j=>.int (i-j)
def DW(x:PV)(h:MH):VW:=match x with
 |.int i=>.ok (.int (-i)) h
 |_=>.bad
def Jh:Cp X (binaryOp .Sub) DV:=qW Iu λ_ _ _ _=>.int _
def Ji:TK X (unaryOp .USub) DW:=by
 intro y s Z H C u Q j l ⟨U,h,x,B,z,q⟩
 cases z with
 |int i=>exact Iw y s Z H _ u Q j l ⟨i,rfl,q U H _ (Le.refl _ _) B (.int _)⟩
 |_=>exact q.elim
def UF{B:VS}{Z:L2.St}{H:Hp}{s:Shared}(hr:Room k X.A)(i:Inv X B Z H s):PylongRoom (model X.prog X.w) X.A s:=by obtain⟨e,l,u,z,j,C,y⟩:=i.ok.top;exact PylongRoom.of i.nolimit (by have:=hr.dp;show X.A.depth+100<_;ext) (SeerAt.of (i.ok.mod.seer.keeps i.bk) i.ok.tree (i.ok.frames.trans (congrArg J u)) z j C y)
def yd(hr:Room k X.A):Cp X (binaryOp .FloorDiv) Df:=by
 intro R s Z H M P u v Q l C B ⟨U,h,x,y,F,L,E,q⟩;unfold Df at q
 split at q
 .rename_i i j
  cases L;cases E;obtain⟨t,rfl⟩:=C;obtain⟨S,rfl⟩:=B;by_cases z:j≠0
  .rw[eT z]at q;exact floordiv_int z ⟨.int _,H,l.tok _,⟨_,rfl⟩,q U H _ (Le.refl _ _) F (.int _)⟩ (.inr (UF hr l))
  .rw[hF z]at q;exact q.elim
 .exact q.elim
def fe:Cp X (binaryOp .Mod) lx:=by
 intro M s Z H F L u v Q j l i ⟨U,h,x,y,C,E,B,q⟩;unfold lx at q
 split at q
 .cases E;cases B
  split at q
  .rename_i z
   obtain⟨t,rfl⟩:=l;obtain⟨P,rfl⟩:=i;exact mod_int' z ⟨.int _,H,j.tok _,⟨_,rfl⟩,q U H _ (Le.refl _ _) C (.int _)⟩
  .exact q.elim
 .exact q.elim
def uD:Cp X (binaryOp .Pow) uq:=by
 intro E s Z H P R u v Q z B l ⟨U,h,x,y,L,M,F,q⟩;unfold uq at q
 split at q
 .rename_i i j
  cases M;cases F
  split at q
  .rename_i C
   exact Iv E s Z H _ _ u v Q z B l ⟨i,j,rfl,rfl,C,q U H _ (Le.refl _ _) L (.int _)⟩
  .exact q.elim
 .exact q.elim
def fu:Cp X (binaryOp .Add) hU:=by
 intro L s Z H x' y' u v Q B C l ⟨U,h,x,y,E,rx,F,q⟩
 cases rx with
 |int i =>
  cases F with
  |int j=>exact Ir L s Z H _ _ u v Q B C l ⟨i,j,rfl,rfl,q U H _ (Le.refl _ _) E (.int _)⟩
  |_=>exact q.elim
 |str a =>
  cases F with
  |str b =>
   dsimp only[hU]at q
   split at q
   .rename_i hl
    exact yk L s Z H _ _ u v Q B C l ⟨a,b,rfl,rfl,hl,q U H _ (Le.refl _ _) E (.str _)⟩
   .exact q.elim
  |_=>exact q.elim
 |@loc n a e =>
  cases F with
  |@loc m b e2 =>
   dsimp only[hU]at q;obtain⟨o1,h1,r1⟩:=E.obj e;obtain⟨o2,h2,r2⟩:=E.obj e2;rw[h1,h2]at q
   cases o1 with
   |dic fz ks xs=>exact q.elim
   |exc x=>exact q.elim
   |lst xs =>
    cases o2 with
    |dic fz ks xs=>exact q.elim
    |exc x=>exact q.elim
    |lst ys =>
     obtain⟨M,ex,P⟩:=r1;obtain⟨ab,ey,ac⟩:=r2;obtain⟨R,S⟩:=oz E (P.append ac) q;exact IF L s Z H _ _ u v Q B C l ⟨a,b,M,ab,rfl,rfl,ex,ey,by rw[<-Dc];exact R,S⟩
  |_=>exact q.elim
 |tup s1 r1 =>
  cases F with
  |tup s2 r2 =>
   dsimp only[hU]at q
   split at q
   .rename_i aa
    obtain⟨R,S⟩:=wE E (r1.append r2) q;refine EK L s Z H _ _ u v Q B C l ⟨_,_,_,_,rfl,rfl,s1,s2,?_,by rw[<-Dc];exact R,λz=>?_,λ_=>S⟩
    .rintro rfl;cases r1;exact aa rfl
    .subst z;cases r2;unfold yR at q
     split at q
     .exact q U H _ (Le.refl _ _) E (by rw[HP];exact .tup s1 r1)
     .exact q.elim
   .exact q.elim
  |_=>exact q.elim
 |_=>cases F<;>exact q.elim
def RPs.rep{K:hW}{U:VQ}{H:Hp}{xs:UZ}{ys:List V}(r:RPs K U H xs ys):∀n:Nat,RPs K U H (List.replicate n xs).flatten (List.replicate n ys).flatten
 |0=>.nil
 |n+1=>by exact r.append (RPs.rep r n)
def ja:Cp X (binaryOp .Mult) jl:=by
 intro NN s Z H x' y' u v Q z B l ⟨U,h,x,y,L,rx,F,q⟩
 cases rx with
 |int i =>
  cases F with
  |int j =>
   dsimp only[jl]at q
   split at q
   .rename_i S
    obtain⟨t,rfl⟩:=B;obtain⟨t',rfl⟩:=l;exact PyProof.Rows.mul_int ⟨.int _,H,z.tok _,⟨_,rfl⟩,q U H _ (Le.refl _ _) L (.int _)⟩ S
   .exact q.elim
  |_=>exact q.elim
 |@loc n a e =>
  cases F with
  |int j =>
   dsimp only[jl]at q;obtain⟨o1,h1,r1⟩:=L.obj e;rw[h1]at q
   cases o1 with
   |dic fz ks xs=>exact q.elim
   |exc x=>exact q.elim
   |lst xs =>
    dsimp only at q
    split at q
    .rename_i P
     obtain⟨C,ex,E⟩:=r1;obtain⟨M,R⟩:=oz L (E.rep j.toNat) q;refine IG NN s Z H _ _ u v Q z B l ⟨a,j,C,rfl,rfl,ex,P.1,P.2,?_,R⟩;rw[xK]at M;rw[Rb];exact M
    .exact q.elim
  |_=>exact q.elim
 |_=>cases F<;>exact q.elim
def qF{j:VS}{Z:L2.St}{H:Hp}{s:Shared}{Q:VK}{x':V}{u:Value}{b c:Bool}(i:Inv X j Z H s)(r:bh x' u)(y:plainIs u (.bool b)=I)(l:(u == .bool b)=c)(q:Q (.bl c) H):
  wpAny (model X.prog X.w) X.A (compareOp .Is u (.bool b)) (EP X j Z Q) X.xe s:=by
 exact ir (wpAny_isSame_plain y (ph (by rw[l];exact⟨.bl c,H,i,rfl,q⟩)))
def nR{j:VS}{Z:L2.St}{H:Hp}{s:Shared}{Q:VK}{x':V}{u:Value}{b c:Bool}(i:Inv X j Z H s)(r:bh x' u)(y:plainIs u (.bool b)=I)(l:(!(u == .bool b))=c)(q:Q (.bl c) H):
  wpAny (model X.prog X.w) X.A (compareOp .IsNot u (.bool b)) (EP X j Z Q) X.xe s:=by
 exact ir (wpAny_isSame_plain y (ph (by rw[l];exact⟨.bl c,H,i,rfl,q⟩)))
def M0:Cp X (compareOp .Is) (sM T):=by
 intro E s Z H L M u v Q j l B ⟨U,h,x,y,z,C,F,q⟩
 cases F with
 |non =>
  refine Ix E s Z H _ _ u v Q j l B ⟨rfl,?_⟩;cases C<;>exact q U H _ (Le.refl _ _) z (by first | exact .bl I | exact .bl T)
 |bl b =>
  cases B
  cases C with
  |non=>cases l;exact qF (x':=.non) j rfl (by cases b<;>rfl) (by cases b<;>rfl) (q U H _ (Le.refl _ _) z (.bl T))
  |bl c=>cases l;exact qF (x':=.bl c) j rfl (by cases b<;>cases c<;>rfl) (by cases b<;>cases c<;>rfl) (q U H _ (Le.refl _ _) z (.bl _))
  |int i=>obtain⟨t,rfl⟩:=l;exact qF (x':=.int i) j ⟨_,rfl⟩ (by cases b<;>rfl) (by cases b<;>rfl) (q U H _ (Le.refl _ _) z (.bl T))
  |str i=>obtain⟨t,rfl⟩:=l;exact qF (x':=.str i) j ⟨_,rfl⟩ (by cases b<;>rfl) (by cases b<;>rfl) (q U H _ (Le.refl _ _) z (.bl T))
  |tup s1 r1=>cases l;exact qF (x':=.ref _) j rfl (by cases b<;>rfl) (by cases b<;>rfl) (q U H _ (Le.refl _ _) z (.bl T))
  |_=>exact q.elim
 |_=>exact q.elim
def Jj:Cp X (compareOp .IsNot) (sM I):=by
 intro E s Z H L M u v Q j l B ⟨U,h,x,y,z,C,F,q⟩
 cases F with
 |non =>
  refine Ey E s Z H _ _ u v Q j l B ⟨rfl,?_⟩;cases C<;>exact q U H _ (Le.refl _ _) z (by first | exact .bl I | exact .bl T)
 |bl b =>
  cases B
  cases C with
  |non=>cases l;exact nR (x':=.non) j rfl (by cases b<;>rfl) (by cases b<;>rfl) (q U H _ (Le.refl _ _) z (.bl I))
  |bl c=>cases l;exact nR (x':=.bl c) j rfl (by cases b<;>cases c<;>rfl) (by cases b<;>cases c<;>rfl) (q U H _ (Le.refl _ _) z (.bl _))
  |int i=>obtain⟨t,rfl⟩:=l;exact nR (x':=.int i) j ⟨_,rfl⟩ (by cases b<;>rfl) (by cases b<;>rfl) (q U H _ (Le.refl _ _) z (.bl I))
  |str i=>obtain⟨t,rfl⟩:=l;exact nR (x':=.str i) j ⟨_,rfl⟩ (by cases b<;>rfl) (by cases b<;>rfl) (q U H _ (Le.refl _ _) z (.bl I))
  |tup s1 r1=>cases l;exact nR (x':=.ref _) j rfl (by cases b<;>rfl) (by cases b<;>rfl) (q U H _ (Le.refl _ _) z (.bl I))
  |_=>exact q.elim
 |_=>exact q.elim
def ce(x y:PV)(h:MH):VW:=match y with
 |.int i=>(match x with
  |.loc n=>(match h[n]? with
   |some (.lst xs)=>(match i_ xs i with
    |some v=>.ok v h
    |none=>.bad)
   |_=>.bad)
  |.tup xs=>(match i_ xs i with
   |some v=>.ok v h
   |none=>.bad)
  |.frl xs=>(match i_ xs i with
   |some v=>.ok v h
   |none=>.bad)
  |.str z=>(match i_ z.cps.toList i with
   |some c=>if z.length<=sizeLine then .ok (.str ⟨#[c]⟩) h else .bad
   |none=>.bad)
  |_=>.bad)
 |_=>.bad
def sK{K:hW}{U:VQ}{H:Hp}{xs:UZ}{ys:List V}{i:Int}{v:PV}(r:RPs K U H xs ys)(e:i_ xs i=J v):∃l,i_ ys i=J l/\RP K U H v l:=by
 unfold i_ at e ⊢;rw[<-r.length]
 cases q:xS xs.length i with
 |none=>rw[q]at e;cases e
 |some j =>
  rw[q]at e;exact r.get e
def Hc{a b:Expr}{ma mb:Mx PV}{aa:Pos}(ha:ME X a ma)(hb:ME X b mb)(hs:oX b):ME X (.Subscript a b aa) (aC ce ma mb):=by
 refine PE.imp (MB ID ha hb hs) λZ H Q q=>?_;obtain⟨U,B,h,rs,rh,q⟩:=q;refine⟨U,B,h,rs,rh,Ful.bind q λU1 H1 x x' h1 _ l1 ab rx q1=>⟨U1,B,h1,rs.le l1,ab,Ful.bind q1 λM P y y' h2 _ l2 u ry j=>?_⟩⟩;have R:=rx.le l2
 cases ry with
 |int i =>
  cases R with
  |@loc n a e =>
   obtain⟨ob,eo,S⟩:=u.obj e;dsimp only[ce]at j;rw[eo]at j
   cases ob with
   |dic fz ks xs=>exact j.elim
   |exc x=>exact j.elim
   |lst xs =>
    obtain⟨ys,ey,F⟩:=S;dsimp only at j
    cases l:i_ xs i with
    |none=>rw[l]at j;exact j.elim
    |some v =>
     rw[l]at j;obtain⟨C,L,E⟩:=sK F l;exact .inl ⟨a,ys,i,C,rfl,rfl,SqL.of ey,L,j M P _ (Le.refl _ _) u E⟩
  |@tup xs a ys s1 F =>
   dsimp only[ce]at j
   cases l:i_ xs i with
   |none=>rw[l]at j;exact j.elim
   |some v =>
    rw[l]at j;obtain⟨C,L,E⟩:=sK F l;exact .inr (.inl ⟨_,_,i,C,rfl,rfl,s1,L,j M P _ (Le.refl _ _) u E⟩)
  |@frl xs a ys s1 F =>
   dsimp only[ce]at j
   cases l:i_ xs i with
   |none=>rw[l]at j;exact j.elim
   |some v =>
    rw[l]at j;obtain⟨C,L,E⟩:=sK F l;exact .inl ⟨_,_,i,C,rfl,rfl,s1.sq,L,j M P _ (Le.refl _ _) u E⟩
  |str z =>
   dsimp only[ce]at j
   cases l:i_ z.cps.toList i with
   |none=>rw[l]at j;exact j.elim
   |some c =>
    rw[l]at j;dsimp only at j
    split at j
    .rename_i hz
     exact .inr (.inr ⟨z,i,c,rfl,rfl,hz,l,j M P _ (Le.refl _ _) u (.str _)⟩)
    .exact j.elim
  |_=>exact j.elim
 |_=>exact j.elim
def xZ(f:UZ->MH->VW)(m:Mx (UZ)):Mx PV:=λZ h=>(m Z h).bind λxs i=>(f xs i).ne
section
variable{x:Str}{id T:String}{e:Expr}{es:VV}{f:UZ->MH->VW}{m:Mx (UZ)}{p pos:Pos}
def Hd{Z:L2.St}{H:Hp}{Q:VK}(q:tM X (RV' X) (xZ f m) Z H Q):Rz (cJ X f) (tM X (RVs' X) m) Z H Q:=by obtain⟨U,i,h,C,y,q⟩:=q;exact⟨U,i,h,C,y,Ful.bind q λB F x E u _ L j z l=>⟨B,u,x,j,z,l.zero⟩⟩
def vJ(g:Good X N W G k)(j:Nat)(l:G[j]?=J x)(u:dL X (.builtin id) f)(y:X.mg x=Y)(hv:bootBuiltins x=J (.builtin id))(B:MA X (e::es) m)(z:starEach (e::es) X.env=(false,eval e X.env)::starEach es X.env:=by rfl)(i:(backTo pos (starEach es X.env)).any (·.1)=false:=by rfl):ME X (.Call (.Name x p) (e::es) [] pos) (xZ f m) :=
 have d:=g.dbg x (se _ (aP l))
 PE.imp (iq u (g.gl x (aP l)) y hv B d.2.2 d.1 z i) λ_ _ _ q=>Hd q
def Ab(g:Good X N W G k)(j:Nat)(l:G[j]?=J x)(u:dL X (.type T) f)(y:X.mg x=Y)(hv:bootBuiltins x=J (.type T))(B:MA X (e::es) m)(z:starEach (e::es) X.env=(false,eval e X.env)::starEach es X.env:=by rfl)(i:(backTo pos (starEach es X.env)).any (·.1)=false:=by rfl):ME X (.Call (.Name x p) (e::es) [] pos) (xZ f m) :=
 have d:=g.dbg x (se _ (aP l))
 PE.imp (sZ u (g.gl x (aP l)) y hv B d.2.2 d.1 z i) λ_ _ _ q=>Hd q
end
def CO(xs:UZ)(h:MH):VW:=match xs with
 |[.int i]=>.ok (.int (if i<0 then -i else i)) h
 |_=>.bad
def C2(xs:UZ)(h:MH):VW:=match xs with
 |[.int i,.int j]=>.ok (.int (if j<i then j else i)) h
 |_=>.bad
def xc(xs:UZ)(h:MH):VW:=match xs with
 |[.int i]=>.ok (.int i) h
 |[.bl b]=>.ok (.int (if b then 1 else 0)) h
 |_=>.bad
def Jk(xs:UZ)(h:MH):VW:=match xs with
 |[.int i]=>if i.natAbs.log2<1920 then .ok (.str (toString i)) h else .bad
 |_=>.bad
def xg(xs:UZ)(h:MH):VW:=match xs with
 |[.loc n]=>(match h[n]? with
  |some (.lst ys)=>.ok (.int ys.length) h
  |_=>.bad)
 |[.tup ys]=>.ok (.int ys.length) h
 |[.frl ys]=>.ok (.int ys.length) h
 |[.str z]=>if z.length<=sizeLine then .ok (.int z.length) h else .bad
 |_=>.bad
def uP:dL X (.builtin "abs") CO:=by
 intro l s Z H xs z Q j r ⟨U,h,ps,y,rp,q⟩
 cases rp with
 |nil=>exact q.elim
 |cons r1 u =>
  cases u with
  |cons _ _=>cases r1<;>exact q.elim
  |nil =>
   cases r1 with
   |int i=>exact B5 l s Z H _ z Q j r ⟨i,rfl,q U H _ (Le.refl _ _) y (.int _)⟩
   |_=>exact q.elim
def Cb{f:UZ->MH->VW}{F:Int->Int->Int}{r:List V->Hp->VK->Prop}{u:Value}(hf:∀i j h,f [.int i,.int j] h=.ok (.int (F i j)) h)(L:∀xs h,(∀i j,xs≠[.int i,.int j])->f xs h=.bad)(y:dN X u (λxs H Q=>∃i j,xs=[.int i,.int j]/\Q (.int (F i j)) H)):dL X u f:=by
 intro B s Z H xs P Q l r ⟨U,h,ps,M,rp,q⟩;by_cases z:∃i j,ps=[.int i,.int j]
 .obtain⟨i,j,rfl⟩:=z
  cases rp with
  |cons r1 E=>cases E with
   |cons r2 C =>
    cases C;cases r1;cases r2;rw[hf]at q;exact y B s Z H _ P Q l r ⟨i,j,rfl,q U H _ (Le.refl _ _) M (.int _)⟩
 .rw[L ps h λi j e=>z ⟨i,j,e⟩]at q;exact q.elim
def vL(g:Good X N W G k):dL X (.builtin "min") C2:=Cb (r:=λ_ _ _=>True) (λ_ _ _=>rfl) (λxs h z=>by unfold C2;split<;>first | rfl | exact absurd rfl (z _ _)) (zE g.calm)
def Ai:dL X (.type "int") xc:=by
 intro l s Z H xs y Q j r ⟨U,h,ps,u,rp,q⟩
 cases rp with
 |nil=>exact q.elim
 |cons r1 z =>
  cases z with
  |cons _ _=>cases r1<;>exact q.elim
  |nil =>
   cases r1 with
   |int i=>exact tH l s Z H _ y Q j r (.inl ⟨i,rfl,q U H _ (Le.refl _ _) u (.int _)⟩)
   |bl b=>exact tH l s Z H _ y Q j r (.inr ⟨b,rfl,q U H _ (Le.refl _ _) u (.int _)⟩)
   |_=>exact q.elim
def Jl:dL X (.type "str") Jk:=by
 intro l s Z H xs B Q j r ⟨U,h,ps,y,rp,q⟩
 cases rp with
 |nil=>exact q.elim
 |cons r1 u =>
  cases u with
  |cons _ _=>cases r1<;>exact q.elim
  |nil =>
   cases r1 with
   |int i =>
    dsimp only[Jk]at q
    split at q
    .rename_i z
     exact vw l s Z H _ B Q j r ⟨i,rfl,z,q U H _ (Le.refl _ _) y (.str _)⟩
    .exact q.elim
   |_=>exact q.elim
def qH:dL X (.builtin "len") xg:=by
 intro u s Z H xs y Q i r ⟨U,h,ps,l,rp,q⟩
 cases rp with
 |nil=>exact q.elim
 |cons r1 E =>
  cases E with
  |cons _ _=>cases r1<;>exact q.elim
  |nil =>
   cases r1 with
   |@loc n a e =>
    obtain⟨C,M,B⟩:=l.obj e;dsimp only[xg]at q;rw[M]at q
    cases C with
    |dic fz P xs=>exact q.elim
    |exc x=>exact q.elim
    |lst xs =>
     obtain⟨ys,F,j⟩:=B;exact mU u s Z H _ y Q i r ⟨_,_,rfl,.inl ⟨ys,SqL.of F,rfl⟩,by rw[<-j.length];exact q U H _ (Le.refl _ _) l (.int _)⟩
   |tup s1 j=>exact mU u s Z H _ y Q i r ⟨_,_,rfl,.inr ⟨_,s1,rfl⟩,by rw[<-j.length];exact q U H _ (Le.refl _ _) l (.int _)⟩
   |frl s1 j=>exact mU u s Z H _ y Q i r ⟨_,_,rfl,.inl ⟨_,s1.sq,rfl⟩,by rw[<-j.length];exact q U H _ (Le.refl _ _) l (.int _)⟩
   |str z =>
    dsimp only[xg]at q
    split at q
    .rename_i L
     exact mU u s Z H _ y Q i r ⟨_,_,rfl,⟨L,rfl⟩,q U H _ (Le.refl _ _) l (.int _)⟩
    .exact q.elim
   |_=>exact q.elim
def Dn(h:MH):PV->Option String
 |.non=>J "NoneType"
 |.bl _=>J "bool"
 |.int _=>J "int"
 |.str _=>J "str"
 |.tup _=>J "tuple"
 |.frl _=>J "list"
 |.loc n=>match h[n]? with
  |some (.lst _)=>J "list"
  |some (.dic _ _ _)=>J "dict"
  |_=>Y
def jd(t:String)(i:String):Bool:=t==i||(t == "bool" && i == "int")
def ur(i:List String)(x:PV)(h:MH):VW:=match Dn h x with
 |some t=>.ok (.bl (i.any (jd t))) h
 |none=>.bad
def Jm(i:String):Prop:=∀K:hW,∀t∈["NoneType","bool","int","str","tuple","list","dict"],PySem.W.kitOne K (.type t) (.type i)=J (jd t i)
def qA(i:∀K,PySem.W.kitOne K (.type "NoneType") (.type a)=J (jd "NoneType" a))(l:∀K,PySem.W.kitOne K (.type "bool") (.type a)=J (jd "bool" a))(j:∀K,PySem.W.kitOne K (.type "int") (.type a)=J (jd "int" a))(B:∀K,PySem.W.kitOne K (.type "str") (.type a)=J (jd "str" a))(u:∀K,PySem.W.kitOne K (.type "tuple") (.type a)=J (jd "tuple" a))(y:∀K,PySem.W.kitOne K (.type "list") (.type a)=J (jd "list" a))(z:∀K,PySem.W.kitOne K (.type "dict") (.type a)=J (jd "dict" a)):Jm a:=by
 intro K t ht;simp only[ki,t_,or_false]at ht;rcases ht with rfl|rfl|rfl|rfl|rfl|rfl|rfl
 .exact i K
 .exact l K
 .exact j K
 .exact B K
 .exact u K
 .exact y K
 .exact z K
def EX:Jm "int":=qA (λ_=>rfl) (λ_=>rfl) (λ_=>rfl) (λ_=>rfl) (λ_=>rfl) (λ_=>rfl) (λ_=>rfl)
def A0:Jm "bool":=qA (λ_=>rfl) (λ_=>rfl) (λ_=>rfl) (λ_=>rfl) (λ_=>rfl) (λ_=>rfl) (λ_=>rfl)
def EY:Jm "str":=qA (λ_=>rfl) (λ_=>rfl) (λ_=>rfl) (λ_=>rfl) (λ_=>rfl) (λ_=>rfl) (λ_=>rfl)
def yY:Jm "tuple":=qA (λ_=>rfl) (λ_=>rfl) (λ_=>rfl) (λ_=>rfl) (λ_=>rfl) (λ_=>rfl) (λ_=>rfl)
def sI{P:VS}{Z:L2.St}{H:Hp}{s:Shared}{U:VQ}{h:MH}{x:PV}{E:V}{u:Value}{t:String}(j:Inv X P Z H s)(S:RH X.K X.mg U H h)(rx:RP X.K U H x E)(l:bh E u)(e:Dn h x=J t):
  t∈["NoneType","bool","int","str","tuple","list","dict"]/\u≠.builtin "__main__.__loader__#opaque"/\∃L,PySem.W.KitX X.K u (.type t) L/\L s.heap:=by
 cases rx with
 |non=>cases e;cases l;exact⟨by simp,(λz=>nomatch z),_,PySem.W.kitx_none,trivial⟩
 |bl b=>cases e;cases l;exact⟨by simp,(λz=>nomatch z),_,PySem.W.kitx_bool,trivial⟩
 |int i=>cases e;obtain⟨t,rfl⟩:=l;exact⟨by simp,(λz=>nomatch z),_,PySem.W.kitx_int,trivial⟩
 |str i=>cases e;obtain⟨t,rfl⟩:=l;exact⟨by simp,(λz=>nomatch z),_,PySem.W.kitx_str,trivial⟩
 |tup s1 r1 =>
  cases e;cases l;obtain⟨B,F,⟨o,e1,e2,_⟩,_⟩:=j.tuple s1;exact⟨by simp,(λz=>nomatch z),_,PySem.W.kitx_tuple,⟨o,e1,e2⟩⟩
 |frl s1 r1 =>
  cases e;cases l;obtain⟨B,F,⟨o,m,e1,e2,_,e3⟩,_⟩:=j.list s1.sq;exact⟨by simp,(λz=>nomatch z),_,PySem.W.kitx_list,⟨o,e1,e2⟩⟩
 |@loc n a en =>
  obtain⟨Q,eo,y⟩:=S.obj en;dsimp only[Dn]at e;rw[eo]at e;cases l
  cases Q with
  |lst xs =>
   cases e;obtain⟨ys,C,_⟩:=y;obtain⟨B,F,⟨o,m,e1,e2,_,e3⟩,_⟩:=j.list (SqL.of C);exact⟨by simp,(λz=>nomatch z),_,PySem.W.kitx_list,⟨o,e1,e2⟩⟩
  |dic fz ks xs =>
   cases e;obtain⟨zs,_,_,C⟩:=y;obtain⟨_,_,vs,_,p⟩:=ML j.hok C;obtain⟨o,es,ep,R,M,_⟩:=p;exact⟨by simp,(λz=>nomatch z),_,PySem.W.kitx_dict,⟨o,R,M.1⟩⟩
  |exc x=>cases e
def Jn(g:Good X N W G k){a:Expr}{m:Mx PV}{l:String}{c:Str}{i j:Nat}{p q B:Pos}(hi:G[i]?=J "isinstance")(hm:X.mg "isinstance"=Y)(hj:G[j]?=J c)(hc:X.mg c=Y)(hv:bootBuiltins c=J (.type l))(hT:Jm l)(ha:ME X a m)(he:starEach [a,.Name c q] X.env=(T,eval a X.env)::starEach [.Name c q] X.env:=by rfl)(M:starEach [.Name c q] X.env=[(T,eval (.Name c q) X.env)]:=by rfl)(F:(backTo B (starEach [.Name c q] X.env)).any (·.1)=T:=by rfl):
  ME X (.Call (.Name "isinstance" p) [a,.Name c q] [] B) (DF (ur [l]) m):=by
 have d1:=g.dbg _ (se _ (aP hi));have d:=g.dbg c (se _ (aP hj));have y:dN X (.builtin "isinstance") (λxs H Q=>∃z,xs=[z,.ty l]/\uJ X (ur [l]) z H Q):=by
  intro NN s Z H xs us Q u r ⟨z,e,U,h,x,C,S,q⟩;subst e
  cases r with
  |cons r1 t1=>cases t1 with
   |cons r2 t2 =>
    cases t2;obtain rfl:=(r2);unfold ur at q
    cases L:Dn h x with
    |none=>rw[L]at q;exact q.elim
    |some t =>
     rw[L]at q;obtain⟨ht,P,Hq,Za,hz⟩:=sI u C S r1 L
     exact PySem.W.kia_one Za u.kIn hz (hT X.K t ht) P λtk=>⟨.bl _,H,u.tok _,rfl,by
      have q':=q U H _ (Le.refl _ _) C (.bl _)
      simpa using q'⟩
 refine PE.imp (iq y (g.gl _ (aP hi)) hm PyProof.Rows.Boot.«isinstance» (c8 ha (c8 (xk (v:=.ty l) (g.gl c (aP hj)) hc hv rfl d.2.2 d.1) iX M) he) d1.2.2 d1.1 he F) λZ H Q ⟨U,E,h,rs,C,q⟩=>?_;exact⟨U,E,h,rs,C,Ful.bind q λU1 H1 x z h1 _ l1 R S q1=>⟨z,rfl,U1,h1,x,R,S,q1.zero⟩⟩
def Jo(K:hW)(mg:CC)(F:UZ->MH->VW):Sp:=λz H Q E=>∃U ps h,RPs K U H ps z/\RH K mg U H h/\match F ps h with
 |.ok v l=>∀j i u,Le U H j i->RH K mg j i l->RP K j i v u->Q u i
 |.exc x l=>∀C j i y,PZ x i y->mg x.cls=J (.ref C)->Le U H j i->RH K mg j i l->E (.ref C) y i
 |.bad=>False
def LD(P:Program)(w:World):DQ:=λouter H s E e i=>∃l C j u,e=.ref l/\i.os=s.os/\AllBare i.gens/\Un (BL outer) [] H j s.heap i.heap/\HOk P w j i.heap/\RF outer j s.heap C l i.heap/\DvA u l i.heap/\E (.ref C) u j
structure P1(X:Cx)(x:Str)(ps:VL)(F:UZ->MH->VW)(k:Nat):Prop where
 ex:∃f fd,X.mg x=J (.ref f)/\PySem.W.keepIn X.K (.ref f)=I/\lU X.K fd ps []/\FnOk X.prog X.w X.K X.mg X.base (LD X.prog X.w) k f fd ps (Jo X.K X.mg F)
def aY(F:UZ->MH->VW)(m:Mx (UZ)):Mx PV:=λZ h=>(m Z h).bind F
def wV(g:Good X N W G k){x:Str}{j:Nat}(hj:G[j]?=J x){ps:VL}{F:UZ->MH->VW}(C:P1 X x ps F k){e:Expr}{es:VV}{m:Mx (UZ)}{p aa:Pos}(ha:MA X (e::es) m)(he:starEach (e::es) X.env=(T,eval e X.env)::starEach es X.env:=by rfl)(ak:(backTo aa (starEach es X.env)).any (·.1)=T:=by rfl):ME X (.Call (.Name x p) (e::es) [] aa) (aY F m):=by
 obtain⟨f,fd,hm,hk,hb,F'⟩:=C.ex;have d:=g.dbg x (se _ (aP hj));intro NN s Z H Q S ⟨U,ab,h,rs,rh,q⟩;refine wpAny_Call_Name_kw (oZ S (g.gl x (aP hj)) hm ?_ d.1)
 refine PySem.W.callWith_K S.ok.mod.kin hk (kP (ha aa NN s Z H (λvs y=>∃B xs P,Le U H B y/\RH X.K X.mg B y P/\RPs X.K B y xs vs/\Ful X (RV' X) ab B y (F xs P) Q) S
  ⟨U,ab,h,rs,rh,Ful.bind q λB y xs vs P _ l1 L rx R=>⟨B,xs,P,l1,L,rx,R⟩⟩) λus s1 ⟨vs,y,I1,r,B,xs,P,l1,L,rx,R⟩=>⟨I1.kIn,?_⟩) he ak
 have run:∀E:XK,Jo X.K X.mg F vs y Q E->(∀ea C i l M,l.os=s1.os->AllBare l.gens->Un (BL X.stack) [] y i s1.heap l.heap->HOk X.prog X.w i l.heap->RF X.stack i s1.heap C ea l.heap->DvA M ea l.heap->E (.ref C) M i->X.xe (.ref ea) l) ->
   wpAny (model X.prog X.w) X.A (call (.ref f) us) (EP X NN Z Q) X.xe s1:=λE ac hE=>by
  have hl:(us++[]).length=ps.length:=by rw[HP,<-r.length];exact F'.len _ _ _ _ ac
  have ag:=hb s1 us I1.kIn hl;rw[HP]at ag;refine wpAny_call (codeAny_mono (F'.run X.A X.stack s1 y ⟨us,[]⟩ us vs Q E g.room I1.env0 ag r ac) λr l hq=>?_)
  cases r with
  |error e =>
   obtain⟨ea,C,i,M,rfl,a1,a2,a3,a4,a5,a7,a6⟩:=hq;exact hE ea C i l M a1 a2 a3 a4 a5 a7 a6
  |ok fl =>
   cases fl with
   |ret u=>exact I1.after hq
   |next=>exact False.elim hq
   |brk=>exact False.elim hq
   |cont=>exact False.elim hq
 cases eF:F xs P with
 |bad=>rw[eF]at R;exact R.elim
 |ok v h' =>
  rw[eF]at R;exact run (λ_ _ _=>False) ⟨B,xs,P,rx,L,by rw[eF];exact R⟩ λ_ _ _ _ _ _ _ _ _ _ _ z=>z.elim
 |exc x' h' =>
  rw[eF]at R;refine run (λc M i=>∃C U',c=.ref C/\PZ x' i M/\X.mg x'.cls=J (.ref C)/\Le B y U' i/\RH X.K X.mg U' i h') ⟨B,xs,P,rx,L,by rw[eF];exact λC U' i M a b c d=>⟨C,U',rfl,a,b,c,d⟩⟩ λea C i l M a1 a2 a3 a4 a5 a7 a6=>?_;obtain⟨C',U',eC,b1,b2,b3,b4⟩:=a6;cases eC;have IX:=I1.call' (s':=l) (ch:=[]) a1 a3 a4 a2 (λb z=>absurd z (by simp));have an:=Inv.unpinned (NN:=[]) (pl:=NN) IX;exact R ea C U' i Z l s1.heap M b1 b2 b3 b4 (rs.le (l1.trans b3)) an (Inv.bears I1) a5 a7
def cV(n:Nat)(ps:UZ):n7:=ps.map J++List.replicate (n-ps.length) Y
def fQ(n j:Nat)(m:oh):UZ->MH->VW:=λps h=>if ps.length=j then (match m (cV n ps) h with
 |.nx _ i=>.ok .non i
 |.rt v i=>.ok v i
 |.exc x _ i=>.exc x i
 |.rse x _ i=>.exc x i
 |_=>.bad)else .bad
def AX{K:hW}{U:VQ}{H:Hp}{N:VL}{ps:UZ}{l:List V}(r:RPs K U H ps l):RS K U H (cV N.length ps) (L2.start N l):=by
 have hl:=r.length;refine⟨by simp[cV,L2.start,hl],λi v e=>?_⟩;unfold cV at e;by_cases j:i<ps.length
 .rw[BH (by simpa using j),CG]at e
  cases q:ps[i]? with
  |none=>rw[q]at e;cases e
  |some x =>
   rw[q]at e;cases e;obtain⟨u,z,y⟩:=r.get q;refine⟨u,?_,y⟩;unfold L2.start;rw[BH (by simp;lia),CG,z];rfl
 .rw[DC (by simpa using j),Lu]at e
  split at e<;>cases e
def vo{B h:Heap}(k:B.StaysIn h){b:Addr}{o i:Obj}(e1:B.get? b=J i)(e2:h.get? b=J o):i=o:=by
 have:=k b i e1
 rw[e2]at this;exact(Option.some.inj this).symm
def wU{X:Cx}{Z':L2.St}{Q:Hp}{P:Shared}{E B:Heap}(i:Inv X [] Z' Q P)(R:X.ex=[])(hB:B.StaysIn P.heap)(F:B.StaysIn E)(sm:P.heap.UpToSlots E)(M:∀b o,X.s₀.heap.get? b=J o->b∉X.fs->∃j,B.get? b=J j)(C:∀b o,Q b=J o->∃j,B.get? b=J j):Un X.fs [] X.H₀ Q X.s₀.heap E/\HOk X.prog X.w Q E:=by
 have l:∀b:Addr,b∉X.ex:=λb=>by rw[R];simp
 have kp:∀b o j,B.get? b=J j->P.heap.get? b=J o->E.get? b=J o:=λb o j e1 e2=>by
  have:=vo hB e1 e2
  subst this;exact F b j e1
 refine⟨⟨λb o e n hf _=>?_,λb o e n hf _=>?_,λb o e n _=>i.base.free b o e n (l b),λb o e _=>?_,i.base.tups,i.base.frzs,i.base.tbls⟩,λa o e=>?_⟩
 .obtain⟨j,y⟩:=M b o e hf;exact kp b o j y (i.base.keep b o e n hf (l b))
 .obtain⟨sl,e1⟩:=i.base.slot b o e n hf (l b);obtain⟨_,oF,L,S⟩:=i.ok.funs.mem hf;rw[e]at L;cases L;obtain⟨H,e2⟩:=sm b _ e1 (λZ z=>S Z z);exact⟨H,e2⟩
 .by_cases hf:b∈X.fs
  .obtain⟨_,oF,L,S⟩:=i.ok.funs.mem hf;rw[e]at L;cases L;obtain⟨sl,e1⟩:=i.base.slot b o e (i.ok.frf b hf) hf (l b);obtain⟨H,e2⟩:=sm b _ e1 (λZ z=>S Z z);exact⟨_,e2⟩
  .obtain⟨j,y⟩:=M b o e hf;exact⟨j,F b j y⟩
 .refine (i.hok a o e).stay (λb u U z=>?_) (λ_ z=>z) λ_ _ z=>z;rcases U with rfl|U
  .obtain⟨j,y⟩:=C _ _ e;exact kp _ u j y z
  .obtain⟨j,y⟩:=C _ _ U;exact kp _ u j y z
def _root_.L2.ObjOk.has(x:ObjOk P w H h a o):∃u,h.get? a=J u:=by
 cases o with
 |lst xs=>obtain⟨_,_,_,_,e⟩:=x;exact⟨_,e⟩
 |tup xs=>obtain⟨_,_,_,o,e,_⟩:=x;exact⟨o,e⟩
 |dK i=>obtain⟨_,_,_,_,o,_,_,e,_⟩:=x;exact⟨o,e⟩
 |dT i=>obtain⟨_,_,_,_,o,_,_,e,_⟩:=x;exact⟨o,e⟩
 |set S n=>obtain⟨o,_,_,_,e,_⟩:=x;exact⟨o,e⟩
 |ins C z fs=>obtain⟨_,_,_,e,_⟩:=x;exact⟨_,e⟩
 |own y=>obtain⟨o,e⟩:=x;exact⟨o,e⟩
 |xd fs=>obtain⟨_,⟨o,_,_,e,_⟩,_⟩:=x;exact⟨o,e⟩
 |rng lo j=>obtain⟨_,_,_,e⟩:=x;exact⟨_,e⟩
 |frz l u=>obtain⟨e,_⟩:=x;exact⟨_,e⟩
 |tbl ps=>exact⟨_,(x)⟩
 |met f y=>exact⟨_,(x)⟩
 |ext φ=>obtain⟨_,⟨o,e⟩,_⟩:=x;exact⟨o,e⟩
def v6{M:Model}{A:Around}{E:VX}{s:Shared}{base h:Heap}{env:Env}{outer:List Env}{L e C:Addr}{Q:Unit->Shared->Prop}(y:A.frames=J (env::outer))(hf:env.frame=J L)(i:base.StaysIn h)(hl:h.FunFrames base (env::outer))(l:G4 h s.heap e C)(S:∀j t,Heap.FlyingW base outer e (.ref C) (.ref t) j->s.heap.UpToSlots j->Q () { s with heap:=j}):wpAny M A (leaving env (.ref e)) Q E s:=by
 obtain⟨t,U,H⟩:=l.there;have z:base.get? e=Y:=by
  cases q:base.get? e with
  |none=>rfl
  |some o=>have:=i e o q;rw[l.new]at this;cases this
 refine wpAny_leaving_firstW y (hl.of_keeps λb o u _=>⟨o,l.keeps b o u,rfl⟩) hf H (λb o u=>l.keeps b o (i b o u)) z rfl rfl rfl λj hL=>?_;obtain⟨B,⟨_,_,P⟩,R,F⟩:=hL;exact S j t ⟨B,z,P,R⟩ F
structure h_(X:Cx):Prop where
 stk:X.stack=X.env::X.outer
 fr:X.env.frame=J X.env.locals
 ex:X.ex=[]
def RG{P:Program}{w:World}{K:hW}{mg:VZ}{base:Heap}{x i:Str}{st:Stmt}{f:Addr}{fd:FuncData}{ps:VL}{m:oh}(Fu:Fun K x i st f fd)(S:p_ N ps (aE st))(hl:∀y∈N,Loc (aE st) y)(bm:∀y∈G,(aE st).names.lookup y=J .globalImplicit)(dbg:∀x∈N++G,(x==("__debug__":Str))=T/\(x==("__classdict__":Str))=T/\x≠"__name__")(hb:∀X:Cx,X.prog=P->X.w=w->X.K=K->X.mg=mg->X.base=base->X.env.scope=aE st->Good X N N G k->h_ X->C0 X (aT st) m):
  FnOk P w K mg base (LD P w) (k+1) f fd ps (Jo K mg (fQ N.length ps.length m)):=by
 have len:∀vs H Q E,Jo K mg (fQ N.length ps.length m) vs H Q E->vs.length=ps.length:=by
  rintro vs H Q E ⟨U,zs,h,r,rh,q⟩;rw[<-r.length];unfold fQ at q;by_cases hp:zs.length=ps.length
  .exact hp
  .rw[hF hp]at q;exact q.elim
 obtain⟨oc,od,kV,bt,pm,an,j,ct,b0,rfl,lk,a8⟩:=Fu.ex;refine G2 lk a8 S len λA outer s H vs Q E hr a5=>?_;obtain⟨U,zs,h,r,rh,q⟩:=a5;refine⟨_,hb _ rfl rfl rfl rfl rfl rfl ⟨rfl,S.nd,hl,λ_ _=>.inl rfl,bm,dbg,rfl,hr,PassesOwn.leaving⟩ ⟨rfl,rfl,rfl⟩,U,cV N.length zs,h,AX r,rh,?_⟩;unfold fQ at q;by_cases hp:zs.length=ps.length
 .rw[eT hp]at q
  cases e:m (cV N.length zs) h with
  |nx Z' h'=>rw[e]at q;exact λU' H' Z' l r' s'=>q U' H' .non l r' .non
  |rt v h'=>rw[e]at q;exact q
  |bk Z h'=>rw[e]at q;exact q.elim
  |ct Z h'=>rw[e]at q;exact q.elim
  |bad=>rw[e]at q;exact q.elim
  |exc x Z h' =>
   rw[e]at q;intro ea C U' H' Z' s' bw dv ax ak l ap a7 L a3 a2 as;obtain⟨B,t,a1,aa,a0,ag⟩:=a2;refine zX as ?_;refine wpAny_leaves_onW (base:=B) (env:=envOfC i (aE st) s.heap.objs.size f j) (outer:=outer) L.ok.frames rfl a1 λay F sm ab=>?_;have R:∀b o,s.heap.get? b=J o->b∉BL outer->∃ob,B.get? b=J ob:=λb o eb hf=>by
    obtain⟨o',e'⟩:=a3.old b o eb (by show b∉([]:VQ);simp);refine a0 b o' e' λhm=>?_;rcases ki.mp (L.stkSub b hm)with z|z
    .exact absurd (oy eb) (by rw[z];exact De _)
    .exact hf z
   obtain⟨un,ac⟩:=wU (B:=B) L rfl a1.1 F.1 sm R aa;exact⟨ea,C,H',dv,rfl,L.os,L.bare,un,ac,⟨B,t,F,aa,R,ag⟩,ab,q C U' H' dv ax ak l ap⟩
  |rse x Z h' =>
   rw[e]at q;intro ea C U' H' Z' s' h0 dv ax ak l ap a7 L M as;have a9:=L.stack;have a4:∀env∈(envOfC i (aE st) s.heap.objs.size f j::outer),∀b,env.frame=J b->b∈BL (envOfC i (aE st) s.heap.objs.size f j::outer):=λenv he b hb=>PC.mpr ⟨env,he,hb⟩;refine zX as ?_;refine v6 (base:=PySem.W.hideAll h0 (BL (envOfC i (aE st) s.heap.objs.size f j::outer))) (h:=h0) (env:=envOfC i (aE st) s.heap.objs.size f j) (outer:=outer) L.ok.frames rfl (λb o z=>PySem.W.of_hideAll _ z)
    (PySem.W.funFrames_hide (base:=base) a9 a4) M λay t F sm ab=>?_
   have sub:∀b,b∈BL (envOfC i (aE st) s.heap.objs.size f j::outer)->b=s.heap.objs.size\/b∈BL outer:=λb hm=>ki.mp (L.stkSub b hm);have R:∀b o,s.heap.get? b=J o->b∉BL outer->∃ob,(PySem.W.hideAll h0 (BL (envOfC i (aE st) s.heap.objs.size f j::outer))).get? b=J ob:=λb o eb hf=>by
    obtain⟨o',e'⟩:=L.base.there b o eb (by show b∉([]:VQ);simp);refine⟨o',PySem.W.hideAll_get _ e' λhm=>?_⟩;rcases sub b hm with z|z
    .exact absurd (oy eb) (by rw[z];exact De _)
    .exact hf z
   have aa:∀b o,H' b=J o->∃ob,(PySem.W.hideAll h0 (BL (envOfC i (aE st) s.heap.objs.size f j::outer))).get? b=J ob:=λb o eb=>by
    have bp:=L.hok.lt eb;obtain⟨u,eu⟩:∃u,h0.get? b=J u:=(L.hok b o eb).has;refine⟨u,PySem.W.hideAll_get _ eu λhm=>?_⟩
    have:=L.stkFree b hm
    rw[eb]at this;cases this
   have a6:h0.UpToSlots ay:=(Heap.UpToSlots.of_keeps M.keeps).trans sm;obtain⟨un,ac⟩:=wU (B:=PySem.W.hideAll h0 (BL (envOfC i (aE st) s.heap.objs.size f j::outer))) L rfl (λb o z=>PySem.W.of_hideAll _ z) F.1 a6 R aa;have ag:H' ea=Y:=by
    cases z:H' ea with
    |none=>rfl
    |some o =>
     obtain⟨u,eu⟩:=(L.hok ea o z).has;rw[M.new]at eu;cases eu
   exact⟨ea,C,H',dv,rfl,L.os,L.bare,un,ac,⟨_,t,F,aa,R,ag⟩,ab,q C U' H' dv ax ak l ap⟩
 .rw[hF hp]at q;exact q.elim
def AW(v:PV)(h:MH):Out MIt:=match v with
 |.loc n=>(match h[n]? with
  |some (.lst xs)=>.ok ⟨xs,[(n,xs)]⟩ h
  |_=>.bad)
 |.frl xs=>.ok ⟨xs,[]⟩ h
 |.tup xs=>.ok ⟨xs,[]⟩ h
 |_=>.bad
def kf(m:Mx PV):Mx MIt:=λZ h=>(m Z h).bind AW
def Jp(hl:ME X l m):MI X tg l (kf m):=by
 intro y s Z H R j ⟨U,i,h,C,B,q⟩;by_cases z:∃xs u,m i h=.ok (.tup xs) u
 .obtain⟨xs,u,e⟩:=z;refine Je hl y s Z H R j ⟨U,i,h,C,B,?_⟩;unfold kf at q;unfold MX;rw[e]at q ⊢;exact q
 .refine EW hl y s Z H R j ⟨U,i,h,C,B,?_⟩;unfold kf at q;unfold MV
  cases e:m i h with
  |ok v u =>
   rw[e]at q
   cases v with
   |tup xs=>exact absurd ⟨xs,u,e⟩ z
   |_=>exact q
  |exc x u=>rw[e]at q;exact q
  |bad=>rw[e]at q;exact q
def Inv.bigM{j:VS}{Z:L2.St}{H:Hp}{s:Shared}(i:Inv X j Z H s):sysModules<s.heap.objs.size:=by have h:mainGlobals<s.heap.objs.size:=(i.mod.glob.keeps i.bk).lt;exact DO (by decide) h
def Dz:Mx PV:=λ_ h=>.ok (.loc h.length) (h++[.dic T [] []])
def EZ:ME X (.Dict [] [] pos) Dz:=λy s Z H Q i ⟨U,l,h,z,j,q⟩=>by
 have hf:=i.hok.fresh (mh _);obtain⟨r1,u⟩:=j.new hf (o:=.dic T [] []) ⟨[],rfl,.nil,rfl⟩;refine wpAny_Dict_empty ⟨.ref s.heap.objs.size,_,i.laid (t':=s.toks) (λ_ _ q=>r_ _ q) (mh _) ?_,rfl,q _ _ _ u r1 (.loc (by rw[<-j.len];simp))⟩;exact⟨CN _,beq_eq_false_iff_ne.mpr (Ne.symm (yB (Inv.bigM i))),[],.nil,Heap.DictOf.new s.heap⟩
structure FnAt(P:Program)(w:World)(K:hW)(mg:VZ)(base:Heap)(x:Str)(ps:VL)(F:UZ->MH->VW)(k:Nat):Prop where
 ex:∃f fd,mg x=J (.ref f)/\PySem.W.keepIn K (.ref f)=I/\lU K fd ps []/\FnOk P w K mg base (LD P w) k f fd ps (Jo K mg F)/\∃oc od osl,K.lookup f=J ⟨oc,od,.func fd,osl⟩
def FnAt.mono{P:Program}{w:World}{K:hW}{mg:VZ}{base:Heap}{x:Str}{ps:VL}{F:UZ->MH->VW}{i j:Nat}(c:FnAt P w K mg base x ps F i)(h:i<=j):FnAt P w K mg base x ps F j :=
 let⟨f,fd,a,b,d,e,z⟩:=c.ex;⟨f,fd,a,b,d,e.mono h,z⟩
def FnAt.cal{P:Program}{w:World}{K:hW}{mg:VZ}{base:Heap}{x:Str}{ps:VL}{F:UZ->MH->VW}{i:Nat}(c:FnAt P w K mg base x ps F i){X:Cx}(e1:X.prog=P)(e2:X.w=w)(e3:X.K=K)(e4:X.mg=mg)(e5:X.base=base):P1 X x ps F i:=by subst e1;subst e2;subst e3;subst e4;subst e5;obtain⟨f,fd,a,b,d,e,_⟩:=c.ex;exact⟨f,fd,a,b,d,e⟩
structure g_(K:hW)(x:Str)(st:Stmt):Prop where
 ex:∃f fd,PySem.W.nsIn K mainGlobals x=J (J (.ref f))/\Fun K x x st f fd
def DX{K:hW}{x:Str}{st:Stmt}{f:Addr}{C:Value}{B j:VC}{z:Array (VT)}{kV y u i ct:Value}(a:PySem.W.nsIn K mainGlobals x=J (J (.ref f)))(l:K.lookup f=J ⟨C,B,.func (PySem.W.fnOf x x (iH st) (aT st) (aE st) .none kV y u j i ct),z⟩)(c:PySem.W.codeIn K i x=I)(kp:PySem.W.keepIn K (.ref f)=I):g_ K x st :=
 ⟨f,_,a,Ac l c kp⟩
def lJ(x:Str)(st:Stmt)(ps:VL):Prop:=∀(kV i y:Value)(u:VC)(l ct:Value)(j:VR),j.length=ps.length->bindArgs (PySem.W.fnOf x x (iH st) (aT st) (aE st) .none kV i y u l ct) ⟨j,[]⟩=pure (ps.zip j)
def Ay{P:Program}{w:World}{K:hW}{mg:VZ}{base:Heap}{x:Str}{st:Stmt}{ps:VL}{m:oh}(kin:K.In base)(ns:base.Ns mainGlobals mg)(D:g_ K x st)(S:p_ N ps (aE st))(B:lJ x st ps)(hl:∀y∈N,(aE st).names.lookup y=J .local\/(aE st).names.lookup y=J .cell)(j:∀y∈G,(aE st).names.lookup y=J .globalImplicit)(dbg:∀x∈N++G,(x==("__debug__":Str))=T/\(x==("__classdict__":Str))=T/\x≠"__name__")(C:∀X:Cx,X.prog=P->X.w=w->X.K=K->X.mg=mg->X.base=base->X.env.scope=aE st->Good X N N G k->h_ X->C0 X (aT st) m):
  FnAt P w K mg base x ps (fQ N.length ps.length m) (k+1):=by
 obtain⟨f,fd,a,i⟩:=D.ex;have z:=i.ex;obtain⟨H,E,kV,F,M,L,u,ct,l,e1,e2,_⟩:=z;exact⟨f,fd,PySem.W.mg_of kin ns a,i.kp,i.binds B,RG i S hl j dbg C,H,E,l,e2⟩
def Jq{P:Program}{w:World}{K:hW}{mg:VZ}{h:Heap}{x y:Str}{st:Stmt}{F:UZ->MH->VW}{C:Addr}(D:g_ K x st)(B:lJ x st [y])(j:mg x=J (.ref C))(kin:K.In h)(ns:h.Ns mainGlobals mg)(H:∀base:Heap,K.In base->base.Ns mainGlobals mg->FnAt P w K mg base x [y] F k):
  ∃fd:FuncData,(∀(s:Shared)(u:Value),BindsTo s fd ⟨[u],[]⟩ [(y,u)])/\∀base:Heap,K.In base->base.Ns mainGlobals mg->FnOk P w K mg base (LD P w) k C fd [y] (Jo K mg F):=by
 obtain⟨f,fd,a,Q⟩:=D.ex;have e:=j.symm.trans (PySem.W.mg_of kin ns a);obtain⟨oc,od,kV,l,U,L,i,ct,M,e1,e2,e3⟩:=Q.ex;refine⟨fd,λs u=>.of_eq ?_,λbase kb R=>?_⟩
 .rw[e1];exact B kV l U L i ct [u] rfl
 .obtain⟨f',E,g1,g2,g3,g4,Z,S,z,g5⟩:=(H base kb R).ex
  grind
def M1(K:hW):Sp:=λi H Q _=>∃(a:Addr)(ns:VM),i=[.ref a]/\SqF K H a (ns.map V.int)/\ns.length<=63/\∀j,Q (.bl I) j
def Jr{l:PySem.W.OpenLaw}{q:Program}{loose:VL}{XP:(Str->VT)->Heap->Prop}{P:World->Heap->Prop}{d:DefRec}{K:Params->hW}{x:Str}{F:UZ->MH->VW}(hn:l.most=J 63)(M:d.params.defaults=[])(hr:Room k callerA)(hi:PyProof.Rows.importsNone q=I)(L:l.prog.given.tree=Y)(hY:∀(w:World)(h:Heap),P w h->(K w.params).In h)(HF:∀(w:World)(mg:VZ)(i:Addr)(h:Heap),(K w.params).In h->h.Ns mainGlobals mg->mg d.name=J (.ref i) ->
   ∃fd:FuncData,(∀(s:Shared)(u:Value),BindsTo s fd ⟨[u],[]⟩ [(x,u)])/\∀base:Heap,(K w.params).In base->base.Ns mainGlobals mg->FnOk l.prog w (K w.params) mg base (LD l.prog w) k i fd [x] (Jo (K w.params) mg F))(ht:∀ns:VM,ns.length<=63->∃R,F [.frl (ns.map .int)] []=.ok (.bl I) R):
  PySem.W.WalkO q loose XP P l.row.toRowW d [] (λf S=>PySem.call f S):=by
 refine L2.EN (x:=x) (CX:=λw=>LD l.prog w) (sp:=λw=>M1 (K w.params)) hn (by decide) M hr hi L hY (λw mg i h hK j B=>?_) (λw H a ns hl hO Z=>?_) λw H s e s' z=>?_
 .obtain⟨fd,hb,U⟩:=HF w mg i h hK j B;refine⟨fd,hb,λbase kb nb=>(U base kb nb).imp λS H Q E z=>?_⟩;obtain⟨a,ns,rfl,C,hl,hq⟩:=z;obtain⟨R,e⟩:=ht ns hl;refine⟨[],[.frl (ns.map .int)],[],.cons (.frl C (RPs.ints ns)) .nil,⟨rfl,List.nodup_nil,λn a o z _=>by simp at z⟩,?_⟩;rw[e];intro U' H' v' _ _ r;cases r;exact hq H'
 .have C:SqF (K w.params) H a (ns.map V.int):=by
   rcases Z with(z|z)|z
   .rcases hO a with y|⟨o,xs,y⟩
    .rw[y]at z;cases z
    .rw[y]at z;cases z
   .exact .inl z
   .exact .inr z
  exact⟨a,ns,rfl,C,hl,λ_=>rfl⟩
 .obtain⟨_,_,_,_,_,_,_,_,_,_,_,z⟩:=z;exact z
end
section
variable{α:Type}{Z:n7}{h:MH}
@[simp]theorem TM:mC v Z h=.ok v h:=rfl
@[simp]theorem RI{v:PV}{r:n7}:ar 0 (J v::r) h=.ok v h:=rfl
@[simp]theorem RJ{i:Nat}{o:Option PV}{r:n7}:ar (i+1) (o::r) h=ar i r h:=by simp[ar]
@[simp]theorem P2:aC f a b Z h=(a Z h).bind λx h1=>(b Z h1).bind λy h2=>(f x y h2).ne:=rfl
@[simp]theorem RK:DF f a Z h=(a Z h).bind λx h1=>(f x h1).ne:=rfl
@[simp]theorem RL:xZ f a Z h=(a Z h).bind λx h1=>(f x h1).ne:=rfl
@[simp]theorem M2:aY f a Z h=(a Z h).bind f:=rfl
@[simp]theorem P4:c_ Z h=.ok [] h:=rfl
@[simp]theorem M3:ai a r Z h=(a Z h).bind λx h1=>(r Z h1).bind λxs h2=>.ok (x::xs) h2:=rfl
@[simp]theorem P5:cQ a Z h=(a Z h).bind vr:=rfl
@[simp]theorem P6:cZ a Z h=(a Z h).bind yR:=rfl
@[simp]theorem P7:Dz Z h=.ok (.loc h.length) (h++[.dic T [] []]):=rfl
@[simp]theorem TN:mB a Z h=(a Z h).bind λv h1=>match v with|.bl b=>.ok b h1|_=>.bad:=rfl
@[simp]theorem P8:IN a Z h=(a Z h).bind λb h1=>.ok (!b) h1:=rfl
@[simp]theorem P9:IR a b Z h=(a Z h).bind λx h1=>if x=I then b Z h1 else .ok T h1:=rfl
@[simp]theorem RM:DG a b Z h=(a Z h).bind λx h1=>if x=I then .ok I h1 else b Z h1:=rfl
@[simp]theorem M4:yL a b Z h=(a Z h).bind λx h1=>match x with|.bl c=>if c=I then b Z h1 else .ok (.bl T) h1|_=>.bad:=rfl
@[simp]theorem M5:yC a Z h=(a Z h).bind λx h1=>match x with|.bl c=>.ok (.bl (!c)) h1|_=>.bad:=rfl
@[simp]theorem P_:IY c a b Z h=(c Z h).bind λx h1=>if x=I then a Z h1 else b Z h1:=rfl
@[simp]theorem M6:i5 Z h=.nx Z h:=rfl
@[simp]theorem oG:aZ a b Z h=(a Z h).then b:=rfl
@[simp]theorem au:(SOut.nx Z h).then k=k Z h:=rfl
@[simp]theorem lr:(SOut.rt v h).then k=.rt v h:=rfl
@[simp]theorem then_bk:(SOut.bk Z h).then k=.bk Z h:=rfl
@[simp]theorem then_ct:(SOut.ct Z h).then k=.ct Z h:=rfl
@[simp]theorem Cr:(SOut.rse x Z h).then k=.rse x Z h:=rfl
@[simp]theorem Be:(SOut.exc x Z h).then k=.exc x Z h:=rfl
@[simp]theorem Ch:SOut.bad.then k=.bad:=rfl
def Out.rt(o:VW)(Z:n7):SOut:=match o with
 |.ok v i=>.rt v i
 |.exc x i=>.exc x Z i
 |.bad=>.bad
@[simp]theorem TQ:(Out.ok v h).rt Z=.rt v h:=rfl
@[simp]theorem RN:(Out.exc x h:VW).rt Z=.exc x Z h:=rfl
@[simp]theorem RQ:(Out.bad:VW).rt Z=.bad:=rfl
@[simp]theorem Qa:bK m Z h=(m Z h).rt Z:=rfl
def Out.go{α:Type}(o:Out α)(Z:n7)(k:α->oh):SOut:=match o with
 |.ok v i=>k v Z i
 |.exc x i=>.exc x Z i
 |.bad=>.bad
@[simp]theorem az:(Out.ok v h).go Z k=k v Z h:=rfl
@[simp]theorem go_exc:(Out.exc x h:Out α).go Z k=.exc x Z h:=rfl
@[simp]theorem go_bad:(Out.bad:Out α).go Z k=.bad:=rfl
@[simp]theorem RR:CD m k Z h=(m Z h).go Z k:=rfl
@[simp]theorem M7:q0 m Z h=(m Z h).go Z λ_=>i5:=rfl
@[simp]theorem RT:yS c a b Z h=(c Z h).go Z λx=>if x=I then a else b:=rfl
@[simp]theorem Qb:bq i m Z h=(m Z h).go Z λv Z h=>.nx (Z.set i (J v)) h:=rfl
@[simp]theorem Qc:Jc i j m Z h=(m Z h).go Z λvs Z h=>match vs with|[v,w]=>.nx ((Z.set i (J v)).set j (J w)) h|_=>.bad:=rfl
@[simp]theorem Qd:j9 m g Z h=(m Z h).go Z λv Z h=>match g v Z h with|.nx Z2 h2=>.nx Z2 h2|.exc x Z2 h2=>.exc x Z2 h2|_=>.bad:=rfl
@[simp]theorem RU:v1 i v Z h=.nx (Z.set i (J v)) h:=rfl
@[simp]theorem RV:ET [] Z h=.nx Z h:=rfl
@[simp]theorem RX:DH a r (v::vs) Z h=(a v Z h).then (r vs):=rfl
@[simp]theorem RY:EV r n (.tup xs) Z h=if xs.length=n then r xs Z h else .bad:=rfl
@[simp]theorem E0:fR mi g b Z h=(mi Z h).go Z λit=>AT it g b it.xs:=rfl
@[simp]theorem Qe:kf m Z h=(m Z h).bind AW:=rfl
@[simp]theorem M8:dm m Z h=(m Z h).bind λvs h1=>match vs with
 |[.int j]=>if -(2^62)<=j/\j<2^62 then .ok ⟨cq 0 j.toNat,[]⟩ h1 else .bad
 |_=>.bad:=rfl
@[simp]theorem M9:G8 m Z h=(m Z h).bind λvs h1=>match vs with
 |[.int i,.int j]=>if -(2^62)<=i/\i<2^62 /\ -(2^62)<=j/\j<2^62 then .ok ⟨cq i (j-i).toNat,[]⟩ h1 else .bad
 |_=>.bad:=rfl
@[simp]theorem RZ:G6 mo mi v Z h=(mo Z h).go Z λo=>CD mi λi Z h=>match qo o i v h with
 |some h2=>.nx Z h2
 |none=>.bad:=rfl
def SOut.fin(o:SOut):VW:=match o with
 |.nx _ i=>.ok .non i
 |.rt v i=>.ok v i
 |.exc x _ i=>.exc x i
 |.rse x _ i=>.exc x i
 |_=>.bad
@[simp]theorem fin_exc:(SOut.exc x Z h).fin=.exc x h:=rfl
@[simp]theorem fin_rse:(SOut.rse x Z h).fin=.exc x h:=rfl
@[simp]theorem bx:(SOut.rt v h).fin=.ok v h:=rfl
@[simp]theorem fin_nx:(SOut.nx Z h).fin=.ok .non h:=rfl
theorem o6(e:ps.length=np):fQ n np m ps h=(m (cV n ps) h).fin:=by unfold fQ;rw[eT e];rfl
end
section
variable{h:MH}{i j:Int}
@[simp]theorem M_:hU (.int i) (.int j) h=.ok (.int (i+j)) h:=rfl
@[simp]theorem Na:DV (.int i) (.int j) h=.ok (.int (i-j)) h:=rfl
@[simp]theorem Qf:DW (.int i) h=.ok (.int (-i)) h:=rfl
@[simp]theorem Qg:DT (.int i) (.int j) h=.ok (.bl (decide (i<j))) h:=rfl
@[simp]theorem Qh:Jg (.int i) (.int j) h=.ok (.bl (decide (i<=j))) h:=rfl
@[simp]theorem Qi:DU (.int i) (.int j) h=.ok (.bl (decide (j<i))) h:=rfl
@[simp]theorem Qj:Dy (.int i) (.int j) h=.ok (.bl (decide (j<=i))) h:=rfl
@[simp]theorem Qk:Cu (.int i) (.int j) h=.ok (.bl (decide (i=j))) h:=rfl
@[simp]theorem Ql:n9 (.int i) (.int j) h=.ok (.bl (!decide (i=j))) h:=rfl
@[simp]theorem Qm:Cu (.bl a) (.bl b) h=.ok (.bl (a==b)) h:=by simp[Cu,rd,SeqAt.shaped,PyData.canLay0,PyData.depth,PyData.eqv]
@[simp]theorem Qn:n9 (.bl a) (.bl b) h=.ok (.bl (!(a==b))) h:=by simp[n9,rd,SeqAt.shaped,PyData.canLay0,PyData.depth,PyData.eqv]
theorem ip(l:j≠0):lx (.int i) (.int j) h=.ok (.int (i.fmod j)) h:=by simp[lx,l]
def xy(l:j≠0):Df (.int i) (.int j) h=.ok (.int (i.fdiv j)) h:=by simp[Df,l]
def jF(hl:-(2^64)<i/\i<2^64):jl (.int i) (.int j) h=.ok (.int (i*j)) h:=by simp[jl,IntMulOk.of_left (intBits_le_64 hl.1 hl.2)]
def E1(hl:-(2^64)<j/\j<2^64):jl (.int i) (.int j) h=.ok (.int (i*j)) h:=by simp[jl,IntMulOk.of_right (intBits_le_64 hl.1 hl.2)]
def vb(l:0<=j/\j<=1000000/\i.natAbs<2^64):uq (.int i) (.int j) h=.ok (.int (i^j.toNat)) h:=by simp[uq,gB,l]
@[simp]theorem R0:CO [.int i] h=.ok (.int (if i<0 then -i else i)) h:=rfl
@[simp]theorem Qo:C2 [.int i,.int j] h=.ok (.int (if j<i then j else i)) h:=rfl
@[simp]theorem R1:xc [.int i] h=.ok (.int i) h:=rfl
@[simp]theorem R3:xc [.bl b] h=.ok (.int (if b then 1 else 0)) h:=rfl
@[simp]theorem Nb:xg [.frl xs] h=.ok (.int xs.length) h:=rfl
@[simp]theorem Nc:xg [.tup xs] h=.ok (.int xs.length) h:=rfl
theorem yj(hl:xs.length<=1000):vr xs h=.ok (.loc h.length) (h++[.lst xs]):=by unfold vr;rw[eT (wy hl (by decide))]
def lp(hl:m<n):xS n (m:Int)=J m:=by unfold xS;rw[eT ⋯,eT ⋯];simp
@[simp]theorem TR:i_ (a::r) 0=J a:=lq (j:=0) rfl
@[simp]theorem TU:i_ (a::b::r) 1=J b:=lq (j:=1) rfl
@[simp]theorem TV:i_ (a::b::c::r) 2=J c:=lq (j:=2) rfl
@[simp]theorem TW:i_ (a::b::c::d::r) 3=J d:=lq (j:=3) rfl
def Out.ofO(o:Option PV)(h:MH):VW:=match o with
 |some v=>.ok v h
 |none=>.bad
@[simp]theorem Nd:Out.ofO (J v) h=.ok v h:=rfl
@[simp]theorem Nf:ce (.tup xs) (.int i) h=Out.ofO (i_ xs i) h:=rfl
@[simp]theorem Ng:ce (.frl xs) (.int i) h=Out.ofO (i_ xs i) h:=rfl
theorem mI(e:h[n]?=J (.lst xs)):ce (.loc n) (.int i) h=Out.ofO (i_ xs i) h:=by simp only[ce,e];rfl
def qd(e:h[n]?=J (.lst xs)):qo (.loc n) (.int i) v h=(xS xs.length i).map λp=>h.set n (.lst (xs.set p v)):=by simp only[qo,e]
@[simp]theorem LF:AW (.tup xs) h=.ok ⟨xs,[]⟩ h:=rfl
@[simp]theorem LG:AW (.frl xs) h=.ok ⟨xs,[]⟩ h:=rfl
@[simp]theorem E2:(⟨xs,[]⟩:MIt).ok h↔True:=⟨λ_=>trivial,λ_ p hp=>nomatch hp⟩
@[simp]theorem Qp:(⟨xs,[(n,zs)]⟩:MIt).ok h↔h[n]?=J (.lst zs):=by
 constructor
 .intro q;exact q (n,zs) (by simp)
 .intro q p hp;have e:=yu.mp hp;subst e;exact q
end
def SOut.turn(o:SOut)(k:oh):SOut:=match o with
 |.nx j i=>k j i
 |.ct j i=>k j i
 |.bk j i=>.nx j i
 |.rt v i=>.rt v i
 |.exc e j i=>.exc e j i
 |.rse e j i=>.rse e j i
 |.bad=>.bad
@[simp]theorem B9:(SOut.rse x Z h).turn k=.rse x Z h:=rfl
@[simp]theorem Bo:(SOut.exc x Z h).turn k=.exc x Z h:=rfl
@[simp]theorem turn_nx:(SOut.nx Z h).turn k=k Z h:=rfl
@[simp]theorem turn_ct:(SOut.ct Z h).turn k=k Z h:=rfl
@[simp]theorem turn_bk:(SOut.bk Z h).turn k=.nx Z h:=rfl
@[simp]theorem turn_rt:(SOut.rt v h).turn k=.rt v h:=rfl
theorem E3(e:it.ok h):AT it g b [] Z h=.nx Z h:=by rw[AT];dsimp only;rw[eT e]
def AR(e:it.ok h)(i:g x Z h=.nx Z1 h1):AT it g b (x::r) Z h=(b Z1 h1).turn (AT it g b r):=by rw[AT];dsimp only;rw[eT e,i];rfl
def vg(y:Nat->Shared->Prop)(turn:∀n s,y n s->wpAny (model prog w) A (pyNext it) (λr u=>match r with
   |none=>R (.ok .next) u
   |some v=>wpAny (model prog w) A (letOwnedTupleGo target it v) (λ_ i=>wpAny (model prog w) A (assign target env v) (λ_ E =>
     wpAny (model prog w) A (forIn ifs I λc r=>if r=I then do let ok <-isTrue c env (eval c env);pure (ForInStep.yield ok)else pure (ForInStep.yield r)) (λok j =>
      if ok=I then wpAny (model prog w) A (eval elt env) (λx z =>
       wpAny (model prog w) A (call (.builtin "list.append") [acc,x]) (λ_ F=>∃m,m<n/\y m F) (λ_ _=>False) z) (λ_ _=>False) j
      else ∃m,m<n/\y m j) (λ_ _=>False) E) (λ_ _=>False) i) (λ_ _=>False) u) (λ_ _=>False) s)(n:Nat)(h:y n s):
  codeAny (model prog w) A (.compLoop (.ListComp elt [⟨target,iter,ifs,0⟩] scope pos) 0 it acc env) R s:=by
 refine codeAny_loop rfl y (λn s P=>?_) n h;refine wpAny_noted ?_;rw[compTurn_list];refine ir (wpAny_standAt (ir (wpAny_mono (turn n s P) (λr u B=>?_) λ_ _ l=>l.elim)))
 cases r with
 |none=>exact ph B
 |some v =>
  refine ir (wpAny_mono B (λ_ i G=>?_) λ_ _ l=>l.elim);refine ir (wpAny_mono G (λ_ E M=>ir (wpAny_mono M (λok j C=>?_) λ_ _ l=>l.elim)) λ_ _ l=>l.elim)
  cases ok with
  |false=>exact ph ⟨rfl,C⟩
  |true =>
   exact ir (ir (wpAny_mono C (λx z H=>ir (wpAny_mono H (λ_ F L=>ph (ph ⟨rfl,L⟩)) λ_ _ l=>l.elim)) λ_ _ l=>l.elim))
def lW(env:Env):List (Str×NameKind)->List (Str×Addr)->List (Str×Addr)
 |[],i=>i
 |(n,k)::r,i=>lW env r (if(k==NameKind.free)=I then(n,(env.cells.lookup n).getD 0)::i else i)
def t4(h:∀y∈scope.names,y.2=.free->∃c,env.cells.lookup y.1=J c):closureFor scope env=pure (lW env scope.names []):=by
 have u:∀(l:List (Str×NameKind))(i:List (Str×Addr)),(∀y∈l,y.2=.free->∃c,env.cells.lookup y.1=J c) ->
   (forIn l i λ(x:Str×NameKind)(r:List (Str×Addr))=>if(x.2==NameKind.free)=I then(do let a <-cellOf env x.1;pure (ForInStep.yield ((x.1,a)::r)):Sem _)else pure (ForInStep.yield r))=(pure (lW env l i):Sem _):=by
  intro l
  induction l with
  |nil=>intro i _;rfl
  |cons y l C =>
   intro i F;obtain⟨n,k⟩:=y;rw[List.forIn_cons];have hl:=λz G=>F z (pW _ G);by_cases j:(k==NameKind.free)=I
   .obtain⟨c,E⟩:=F (n,k) C8 (by simpa using j);rw[eT j];have B:cellOf env n=pure c:=by unfold cellOf;rw[E]
    rw[B];refine(C ((n,c)::i) hl).trans ?_;simp only[lW,j,if_true,E,Q1]
   .rw[hF j];refine(C i hl).trans ?_;simp[lW,j]
 exact(congrArg (λz=>z >>= λr=>pure r) (u scope.names [] h)).trans rfl
def pD:∀(l:List (Str×NameKind))(i:List (Str×Addr)),(∀a,i.lookup x=J a->a=(env.cells.lookup x).getD 0)->(∀a,(lW env l i).lookup x=J a->a=(env.cells.lookup x).getD 0)/\((∃k,(x,k)∈l/\k=.free)\/(∃a,i.lookup x=J a)->∃a,(lW env l i).lookup x=J a):=by
 intro l
 induction l with
 |nil =>
  intro i h;refine⟨h,λz=>?_⟩;rcases z with⟨k,z,_⟩|z
  .cases z
  .exact z
 |cons y r C =>
  intro i h;obtain⟨n,k⟩:=y;have E:∀a,(if(k==NameKind.free)=I then(n,(env.cells.lookup n).getD 0)::i else i).lookup x=J a->a=(env.cells.lookup x).getD 0:=λa j=>by
   split at j
   .rw[Em]at j
    split at j
    .rename_i e
     have:x=n:=by simpa using e
     subst this;exact(Option.some.inj j).symm
    .exact h a j
   .exact h a j
  obtain⟨B,F⟩:=C _ E;refine⟨B,λz=>F ?_⟩;rcases z with⟨G,z,u⟩|⟨a,z⟩
  .rcases ki.mp z with e|e
   .cases e;right;subst u;exact⟨(env.cells.lookup x).getD 0,by simp⟩
   .exact .inl ⟨G,e,u⟩
  .right;split
   .rw[Em];split
    .exact⟨_,rfl⟩
    .exact⟨a,z⟩
   .exact⟨a,z⟩
def dh{env:Env}(C:env.scope.kind=.function):∀{names:List (Str×NameKind)}{x:Str}{k:NameKind},names.lookup x=J k ->
  (names.map λ(n,k)=>if(k==NameKind.free&&env.scope.kind == .function&&env.kindOf n==J .cell)then(n,NameKind.cell)else(n,k)).lookup x=J (if k=.free/\env.kindOf x=J .cell then .cell else k):=by
 intro names
 induction names with
 |nil=>intro x k h;simp at h
 |cons y r j =>
  intro x k h;obtain⟨n,l⟩:=y;have u:=@j x k;show List.lookup x ((if(l==NameKind.free&&env.scope.kind == .function&&env.kindOf n==J .cell)=I then(n,NameKind.cell)else(n,l))::_)=_
  cases i:x==n with
  |true =>
   have e:x=n:=by simpa using i
   subst e;simp only[Em,i]at h;cases h;by_cases z:k=.free/\env.kindOf x=J .cell
   .rw[eT (by simp[z.1,z.2,C]),eT z];simp
   .rw[hF (by simp[C];intro E F;exact z ⟨E,F⟩),hF z];simp
  |false =>
   simp only[Em,i]at h;by_cases B:(l==NameKind.free&&env.scope.kind == .function&&env.kindOf n==J .cell)=I
   .rw[eT B];simp only[Em,i];exact u h
   .rw[hF B];simp only[Em,i];exact u h
def fA(X:Cx)(i:Scope)(cl:List (Str×Addr))(j:Shared)(l:Hp)(y:VQ)(u:VL):Cx :=
 { X with N:=u,s₀:=j,H₀:=l,env:=compEnvC i cl j.heap.objs.size X.env,outer:=X.stack,ex:=y,fn:=λx=>decide (i.names.lookup x=J .cell),pn:=[],xe:=λ_ _=>False}
structure Cv(X:Cx)(N:VL)(scope:Scope)(vars frees:VL)(fm:VN):Prop where
 kind:scope.kind=.function
 cell:∀y∈scope.names,y.2=.cell->scope.names.lookup y.1=J .cell
 names:∀y∈scope.names,y.2=.local->scope.names.lookup y.1=J .local
 hv:∀x∈vars,scope.names.lookup x=J .local\/scope.names.lookup x=J .cell
 hf:∀x∈frees,scope.names.lookup x=J .free
 all:∀y∈scope.names,y.2=.free->y.1∈frees
 fm:fm.map (λi=>N[i]?)=frees.map J
 cl:∀x∈frees,X.env.kindOf x=J .cell
def DY(j:Nat)(fm:VN)(Z:n7):n7:=List.replicate j Y++fm.map λi=>(Z[i]?).getD Y
def Do(j:MIt)(n:Nat)(gt:Mg)(mt:Mx Bool)(l:Mx PV):UZ->n7->MH->Out Unit
 |[],_,h=>if j.ok h then .ok () h else .bad
 |x::r,Z,h=>if j.ok h then (match gt x Z h with
  |.nx i z=>(mt i z).ne.bind λb u=>if b=I then (l i u).ne.bind λv y=>(match y[n]? with
    |some (.lst ys)=>if ys.length<sizeLine then Do j n gt mt l r i (y.set n (.lst (ys++[v])))else .bad
    |_=>.bad)else Do j n gt mt l r i u
  |_=>.bad)else .bad
def gh(u:Nat)(fm:VN)(z:Mx MIt)(gt:Mg)(mt:Mx Bool)(y:Mx PV):Mx PV:=λZ h =>
 (z Z h).bind λj i=>(Do j i.length gt mt y j.xs (DY u fm Z) (i++[.lst []])).bind λ_ l=>.ok (.loc i.length) l
def LH(X:Cx)(i:VV)(m:Mx Bool):Prop :=
 ∀(j:VS)(s:Shared)(Z:L2.St)(H:Hp)(Q:Bool->Hp->Prop),Inv X j Z H s->tM X MN m Z H Q ->
  wpAny (model X.prog X.w) X.A (forIn i I λc r=>if r=I then do let ok <-isTrue c X.env (eval c X.env);pure (ForInStep.yield ok)else pure (ForInStep.yield r)) (TP X j Z Q) X.xe s
def A9:Mx Bool:=λ_ h=>.ok I h
def E4:LH X [] A9:=λu s Z H Q i ⟨U,j,h,y,l,q⟩=>wpAny_tests_nil ⟨H,i,q U H I (Le.refl _ _) l rfl⟩
def E5(h:MT X c m):LH X [c] m:=λj s Z H Q i q=>wpAny_tests_one (h j s Z H Q i q)
inductive CS(X:Cx)(U:VQ)(H:Hp)(σp:n7)(gt:Mg)(mt:Mx Bool)(me:Mx PV)(Z0:n7)(Q:VK)(J:It)(H1:Hp):Prop
 |mk(U1:VQ)(it:MIt)(h1:MH)(l:Le U H U1 H1)(rh:RH X.K X.mg U1 H1 h1)(j:uo X U1 H1 it J)(q:Ful X (RV' X) σp U1 H1 ((Do it h1.length gt mt me it.xs Z0 (h1++[.lst []])).bind λ_ h3=>.ok (.loc h1.length) h3) Q):CS X U H σp gt mt me Z0 Q J H1
inductive CI(X Y:Cx)(it:MIt)(tn:Nat->Heap->Prop)(fp U0:VQ)(H0:Hp)(σp:n7)(n1:Nat)(gt:Mg)(mt:Mx Bool)(me:Mx PV)(Q:VK)(n:Nat)(s6:Shared):Prop
 |mk(i:Nat)(Z6:L2.St)(H6:Hp)(U6:VQ)(σp6:n7)(h6:MH)(e:n=it.xs.length-i)(l:i<=it.xs.length)(v:Inv Y [] Z6 H6 s6)(t:tn i s6.heap)(f:∀b∈fp,H6 b=none)(le:Le U0 H0 U6 H6)(rs:RS X.K U6 H6 σp6 Z6)(rh:RH X.K X.mg U6 H6 h6)
   (q:Ful X (RV' X) σp U6 H6 ((Do it n1 gt mt me (it.xs.drop i) σp6 h6).bind λ_ h3=>.ok (.loc n1) h3) Q):CI X Y it tn fp U0 H0 σp n1 gt mt me Q n s6
def tT(u:Q (newEnv scope s.heap.objs.size globals (cellsFrom (s.heap.objs.size+1) scope.names closure) qual Y .none (J env) builtinsNs) { s with heap:=pushCells (s.heap.push { cls:=.type "dict",data:=.dict #[]}) scope.names}):
  wpAny M A (newFunctionEnv scope globals closure [] qual Y .none (J env)) Q E s:=by
 simp only[newFunctionEnv,Option.isSome_some,if_true];refine ir (wpAny_alloc ?_);refine ir (wpAny_layCells _ (λj kind i=>by cases l:kind==NameKind.cell<;>simp) _ _ _ _ ?_);rw[show({ s with heap:=s.heap.push { cls:=.type "dict",data:=.dict #[]}}:Shared).heap.objs.size=s.heap.objs.size+1 from Ly ..];exact ir (ph (ph u))
def eO:∀(names:List (Str×NameKind))(n:Nat)(i:List (Str×Addr)),cellsFrom n names i=cellsFrom n names []++i
 |[],n,i=>rfl
 |(x,k)::r,n,i=>by
  unfold cellsFrom;split
  .rw[eO r (n+1) ((x,n)::i),eO r (n+1) [(x,n)]];simp
  .exact eO r n i
def hZ:∀(names:List (Str×NameKind))(n:Nat)(x:Str),(∃c,(x,c)∈cellsFrom n names [])↔(x,NameKind.cell)∈names
 |[],n,x=>by simp[cellsFrom]
 |(y,k)::r,n,x=>by
  unfold cellsFrom;split
  .rename_i l
   have j:k=NameKind.cell:=by simpa using l
   subst j;rw[eO];constructor
   .rintro⟨c,i⟩;rcases v_.mp i with i|i
    .exact pW _ ((hZ r (n+1) x).mp ⟨c,i⟩)
    .have:x=y:=by simp at i;exact i.1
     rw[this];exact C8
   .intro h;rcases ki.mp h with e|h
    .have:x=y:=by simpa using e
     subst this;exact⟨n,se _ (by simp)⟩
    .obtain⟨c,i⟩:=(hZ r (n+1) x).mpr h;exact⟨c,C7 _ i⟩
  .rw[hZ r n x];constructor
   .exact pW _
   .intro h;rcases ki.mp h with e|h
    .exfalso
     grind
    .exact h
def qq{α:Type}:∀(a b:List (Str×α))(x:Str),(a++b).lookup x=(a.lookup x).or (b.lookup x):= by grind
def B4{α:Type}:∀(a:List (Str×α))(x:Str),a.lookup x=Y->∀c,(x,c)∉a:= by grind
section
variable{X:Cx}{N W G:VL}{k:Nat}
def tN(g:Good X N W G k){tg ak cc:Expr}{ca:VV}{B:Scope}{dt:Pos}{E frees G':VL}{fm:VN}{mi:Mx MIt}{gt:Mg}{mt:Mx Bool}{me:Mx PV}(C:Cv X N B E frees fm)(nd:(E++frees).Nodup)(gn:∀x∈G',B.names.lookup x=J .globalImplicit)(dbg:∀x∈(E++frees)++G',(x==("__debug__":Str))=T/\(x==("__classdict__":Str))=T/\x≠"__name__")(hi:MI X tg ak mi)(hY:∀ag:Cx,ag.prog=X.prog->ag.w=X.w->ag.K=X.K->ag.mg=X.mg->ag.base=X.base->ag.env.scope=relabel B X.env->Good ag (E++frees) E G' k->MG ag tg gt/\LH ag ca mt/\ME ag cc me)(hs:∀x,foldedSetIterable ak X.env x=pure x){use:Option (Value->Sem Unit)}{Qv:VX}{pp:Pos}{NN:VS}{s:Shared}{Z:L2.St}{H:Hp}{Q:VK}(c3:Inv X NN Z H s)(tm:tM X (RV' X) (gh E.length fm mi gt mt me) Z H Q)(fin:∀(ec C:Addr) (H6:Hp) (s7:Shared) (m7:VZ),Inv X NN Z H6 s7->H6 C=Y->s7.heap.Ns C m7->C≠X.env.locals->X.s₀.heap.objs.size<=C->C∉X.fs->(∀x c,X.env.cells.lookup x=J c->c≠C)->(∀p∈X.pn++NN,p.1≠C)->Q (.ref ec) H6 ->
   compPost (model X.prog X.w) X.A X.xe use Qv (.ref ec) C (.ok .next) s7):
  wpAny (model X.prog X.w) X.A (comprehension (.ListComp cc [⟨tg,ak,ca,0⟩] B dt) B X.env pp (newList []) T (eval ak X.env) use) Qv X.xe s:=by
 obtain⟨U,ac,h,rs,rh,q⟩:=tm;have b0:∀y∈B.names,y.2=.free->∃c,X.env.cells.lookup y.1=J c:=λy hy e=>c3.ok.has y.1 (.inl (C.cl _ (C.all y hy e)));refine wpAny_comprehension_free (use:=use) rfl hs (t4 b0) C.kind C.names ?_;generalize c2:lW X.env B.names []=cl;have d2:∀x a,cl.lookup x=J a->X.env.cells.lookup x=J a\/((X.env.cells.lookup x)=Y/\a=0):=λx a e=>by
  rw[<-c2]at e
  have:=(pD (env:=X.env) (x:=x) B.names [] (λa z=>by simp at z)).1 a e
  cases z:X.env.cells.lookup x with
  |none=>right;rw[z]at this;exact⟨rfl,this⟩
  |some c=>left;rw[z]at this;rw[this];rfl
 have d0:∀x∈frees,∃c,cl.lookup x=J c/\X.env.cells.lookup x=J c:=λx hx=>by
  obtain⟨c,hc⟩:=c3.ok.has x (.inl (C.cl x hx));have hm:(∃kk,(x,kk)∈B.names/\kk=.free):=⟨.free,PySem.mem_of_lookup (C.hf x hx),rfl⟩;obtain⟨a,ha⟩:=(pD (env:=X.env) (x:=x) B.names [] (λa z=>by simp at z)).2 (.inl hm);rw[c2]at ha;rcases d2 x a ha with z|⟨z,_⟩
  .rw[hc]at z;cases z;exact⟨c,ha,hc⟩
  .rw[hc]at z;cases z
 have en:∀x a,cl.lookup x=J a->X.env.cells.lookup x=J a/\x∈frees:=λx a e=>by
   have only:∀(l:List (Str×NameKind))(cs:List (Str×Addr))(x:Str)(a:Addr),(lW X.env l cs).lookup x=J a->(x,NameKind.free)∈l\/cs.lookup x=J a:=by
    intro l
    induction l with
    |nil=>intro cs x a e;exact .inr e
    |cons y l ih =>
     intro cs x a e;obtain⟨n,kk⟩:=y;rcases ih _ x a e with z|z
     .exact .inl (pW _ z)
     .split at z
      .rename_i hk
       have f6:kk=NameKind.free:=by simpa using hk
       rw[Em]at z
       split at z
       .rename_i e'
        have:x=n:=by simpa using e'
        subst this;subst f6;exact .inl C8
       .exact .inr z
      .exact .inr z
   have e':=e;rw[<-c2]at e';rcases only _ _ x a e' with z'|z'
   .refine⟨?_,C.all _ z' rfl⟩;rcases d2 x a e with z|⟨z,_⟩
    .exact z
    .obtain⟨c,hc⟩:=b0 _ z' rfl;rw[z]at hc;cases hc
   .simp at z'
 have start:=hi NN s Z H (CS X U H ac gt mt me (DY E.length fm ac) Q) c3
  ⟨U,ac,h,rs,rh,Ful.bind q λU1 H1 it gi h1 _ l1 b9 jr q1=>⟨U1,it,h1,l1,b9,jr,q1⟩⟩
 refine wpAny_mono start (λx g4 eC=>wpAny_mono eC (λhu L et=>?_) λ_ _ e=>e) λ_ _ e=>e;obtain⟨ea,fp,tn,gi,H2,rfl,I2,aa,eW,f2,U1,it,h1,l1,b9,jr,q1⟩:=et;refine wpAny_newObj_type ?_;have gx:H2 L.heap.objs.size=Y:=I2.hok.fresh (mh _);have P:=I2.lnew (ys:=[]) (its:=[]) (t':=L.toks) .nil (CN _);obtain⟨e0,l3⟩:=b9.new gx (o:=.lst []) (ho:=.lst []) ⟨[],rfl,.nil⟩;generalize g0:({ L with heap:=L.heap.push { cls:=.type "list",data:=.seq ([]:VR).toArray},toks:=L.toks}:Shared)=F at P;generalize el:upd H2 L.heap.objs.size (.lst [])=M at P e0 l3;have g3:M L.heap.objs.size=J (.lst []):=by rw[<-el];exact ba
 have gb:F.heap=L.heap.push { cls:=.type "list",data:=.seq ([]:VR).toArray}:=by rw[<-g0]
 have cd:tn 0 F.heap:=aa.keep _ _ _ eW λb _ o e=>by rw[gb];exact r_ _ e
 have b5:∀b∈fp,k7 X NN M b:=λb hb=>by
  obtain⟨a0,a1⟩:=f2 b hb;refine⟨?_,a1⟩;obtain⟨o,eo,_⟩:=aa.obj _ _ eW b hb;rw[<-el,aJ (yB (oy eo))];exact a0
 have dr:wpAny (model X.prog X.w) X.A (newFunctionEnv B X.env.globals cl [] X.env.qual Y .none (J X.env)) (λv2 ey =>
    codeAny (model X.prog X.w) X.A (.compStart (.ListComp cc [⟨tg,ak,ca,0⟩] B dt) 0 (.ref ea) (.ref L.heap.objs.size) { v2 with scope:=relabel B X.env}) (compPost (model X.prog X.w) X.A X.xe use Qv (.ref L.heap.objs.size) v2.locals) ey) X.xe F:=by
  refine tT ?_;have R:∀b o,F.heap.get? b=J o->(pushCells (F.heap.push { cls:=.type "dict",data:=.dict #[]}) B.names).get? b=J o:=λb o e=>pushCells_keeps _ _ b o (r_ _ e);have ep:=(Heap.Ns.new F.heap (.type "dict")).keeps (pushCells_keeps B.names _);have a9:=cellsFrom_ok B.names (F.heap.push { cls:=.type "dict",data:=.dict #[]}) (F.heap.objs.size+1) [] ⟨λ_ _ hm=>(nomatch hm),List.Pairwise.nil⟩ (by rw[Ly];exact mh _);rw[Ly]at a9;rw[eO];have b8:=hZ B.names (F.heap.objs.size+1);generalize cellsFrom (F.heap.objs.size+1) B.names []=cn at a9 b8 ⊢;generalize pushCells (F.heap.push { cls:=.type "dict",data:=.dict #[]}) B.names=h' at R ep a9 ⊢;dsimp only[newEnv];have ay:∀x c,(cn++cl).lookup x=J c->((x,c)∈cn/\B.names.lookup x=J .cell/\F.heap.objs.size<c/\h'.IsCell c Y)\/(X.env.cells.lookup x=J c/\B.names.lookup x=J .free):=λx c e=>by
   rw[qq]at e
   cases z:cn.lookup x with
   |some c' =>
    rw[z]at e
    have:c'=c:=by simpa using e
    subst this;have m:=PySem.mem_of_lookup z;obtain⟨q1,q2⟩:=a9.empty x c' m;exact .inl ⟨m,C.cell _ ((b8 x).mp ⟨c',m⟩) rfl,q2,q1⟩
   |none =>
    rw[z]at e;obtain⟨q1,q2⟩:=en x c (by simpa using e);exact .inr ⟨q1,C.hf x q2⟩
  have eL:∀x c,x∈frees->cl.lookup x=J c->(cn++cl).lookup x=J c:=λx c hx e=>by
   rw[qq]
   cases z:cn.lookup x with
   |none=>simpa using e
   |some c' =>
    have:=C.cell _ ((b8 x).mp ⟨c',PySem.mem_of_lookup z⟩) rfl
    rw[C.hf x hx]at this;cases this
  have old:∀x c,X.env.cells.lookup x=J c->c<F.heap.objs.size:=λx c e=>by
   obtain⟨v,qc⟩:=P.cell x c e;exact qc.lt
  have ok:(fA X B (cn++cl) F M fp (E++frees)).Ok:=by
   refine⟨P.ok.mod,C.kind,P.ok.glob,P.ok.blt,mh _,λx y c h1 h2=>?_,λx hx=>?_,λx c hx e=>?_,P.ok.hd,P.ok.frames,.inl rfl,
    λb hb=>⟨?_,λx c e z=>?_⟩,P.bs,wy P.ok.bsz P.sz,λb o e hb=>?_,λb hb z=>?_,P.stack,P.stkFree,P.ok.tree,P.ok.top⟩
   .rcases ay x c h1 with⟨a1,_,a2,_⟩|⟨a1,_⟩<;>rcases ay y c h2 with⟨b1,_,b2,_⟩|⟨b1,_⟩
    .exact PySem.name_of_addr a9.apart a1 b1
    .exact absurd (DO a2 (old y c b1)) (De _)
    .exact absurd (DO b2 (old x c a1)) (De _)
    .exact P.ok.inj x y c a1 b1
   .
    have bp:(relabel B X.env).names.lookup x=J .cell\/(relabel B X.env).names.lookup x=J .free:=hx
    cases e:B.names.lookup x with
    |none =>
     exfalso;have nn:∀(l:List (Str×NameKind)),l.lookup x=Y->(l.map λ(n,k)=>if(k==NameKind.free&&X.env.scope.kind == .function&&X.env.kindOf n==J .cell)then(n,NameKind.cell)else(n,k)).lookup x=Y:=by
      intro l
      induction l with
      |nil=>intro _;rfl
      |cons y l ih =>
       intro hl;obtain⟨n,kk⟩:=y;rw[Em]at hl
       split at hl
       .cases hl
       .rename_i fx
        rw[yw];dsimp only
        split<;>(rw[Em];simp only[fx];exact ih hl)
     have e2:=nn B.names e;rcases bp with z|z
     .rw[show(relabel B X.env).names.lookup x=Y from e2]at z;cases z
     .rw[show(relabel B X.env).names.lookup x=Y from e2]at z;cases z
    |some kk =>
     have e2:=dh (env:=X.env) P.ok.kind e;have hk:kk=.free\/kk=.cell:=by
      rcases bp with z|z
      .rw[show(relabel B X.env).names.lookup x=_ from e2]at z;have z':=Option.some.inj z;by_cases zz:kk=.free/\X.env.kindOf x=J .cell
       .exact .inl zz.1
       .rw[hF zz]at z';exact .inr z'
      .rw[show(relabel B X.env).names.lookup x=_ from e2]at z;have z':=Option.some.inj z;by_cases zz:kk=.free/\X.env.kindOf x=J .cell
       .exact .inl zz.1
       .rw[hF zz]at z';exact .inl z'
     rcases hk with hk|hk
     .subst hk;have hf:=C.all _ (PySem.mem_of_lookup e) rfl;obtain⟨c,h1,_⟩:=d0 x hf;exact⟨c,eL x c hf h1⟩
     .subst hk;obtain⟨c,hc⟩:=(b8 x).mpr (PySem.mem_of_lookup e);show ∃c,(cn++cl).lookup x=J c;rw[qq]
      cases z:cn.lookup x with
      |some c'=>exact⟨c',rfl⟩
      |none=>exact absurd hc (B4 cn x z c)
   .have bp:=of_decide_eq_true hx;rcases ay x c e with⟨_,_,q,_⟩|⟨_,q⟩
    .exact L7 q
    .rw[q]at bp;cases bp
   .obtain⟨o,eo,_⟩:=aa.obj _ _ cd b hb;exact yB (oy eo)
   .rcases ay x c e with⟨_,_,q,_⟩|⟨q,_⟩
    .obtain⟨o,eo,_⟩:=aa.obj _ _ cd b hb;exact absurd (DO q (z▸oy eo)) (De _)
    .exact (b5 b hb).2.2.2.2.1 x c q z
   .obtain⟨_,_,_,h4,_⟩:=b5 b hb;rcases h4 with h4|h4
    .exact P.ok.noex b o e h4
    .exact absurd (vl (oy e) (wy P.ok.bsz h4)) (De _)
   .obtain⟨_,h2,h3,_⟩:=b5 b hb;rcases ki.mp (P.stkSub b z)with e|e
    .exact h2 e
    .exact h3 e
  obtain⟨mX,hq,lX⟩:=P.loc;have fl:Le U H (U1++[L.heap.objs.size]) M:=l1.trans l3
  let an:L2.St:=List.replicate E.length Y++fm.map λi=>(Z[i]?).getD Y
  have f0:fm.length=frees.length:=by have:=congrArg List.length C.fm;simpa using this
  have eF:Inv (fA X B (cn++cl) F M fp (E++frees)) [] an M { F with heap:=h',toks:=F.toks}:=by
   refine⟨ok,rfl,P.bare,Un.kept R,⟨_,ep,λi x v hN hv g5=>?_⟩,λx c e=>?_,?_,λx c e=>?_,λp hp=>absurd (show p∈([]:VS)from hp) (by simp),P.hok.kept R,?_⟩
   .have ds:(E++frees)[i]?=J x:=hN;have er:E.length<=i:=by
     by_cases z:E.length<=i
     .exact z
     .exfalso;have as:an[i]?=J (J v):=hv;rw[BH (by simp;ext),Lu]at as
      split at as<;>cases as
    have as:an[i]?=J (J v):=hv;rw[DC (by simpa using er),HJ,CG]at as;rw[DC er]at ds
    cases ej:fm[i-E.length]? with
    |none=>rw[ej]at as;cases as
    |some j =>
     rw[ej]at as;have ef:=congrArg (λl=>l[i-E.length]?) C.fm;simp only[CG,ej,ds,Q7]at ef;have f1:N[j]?=J x:=by simpa using ef
     have ev:Z[j]?=J (J v):=by
      have:(Z[j]?).getD Y=J v:=by simpa using as
      cases z:Z[j]? with
      |none=>rw[z]at this;cases this
      |some o=>rw[z]at this;simp at this;rw[this]
     have hx:x∈frees:=Ek ds;have e8:Eo X.env.scope x:=.inr (.inl (C.cl x hx));obtain⟨u,ru,eu⟩:=lX j x v (by rw[g.hN];exact f1) ev e8;refine⟨u,ru,.inr ⟨?_,?_⟩⟩
     .left;show(relabel B X.env).names.lookup x=J .cell
      have:=dh (env:=X.env) P.ok.kind (C.hf x hx)
      rw[eT ⟨rfl,C.cl x hx⟩]at this;exact this
     .rcases eu with⟨hk,_⟩|⟨_,c,hc,da⟩
      .rw[C.cl x hx]at hk;cases hk
      .obtain⟨c',h1,h2⟩:=d0 x hx;rw[hc]at h2;cases h2;obtain⟨o,eo,ed⟩:=da;exact⟨c,eL x c hx h1,o,R _ _ eo,ed⟩
   .rcases ay x c e with⟨_,_,_,q⟩|⟨q,_⟩
    .exact⟨Y,q⟩
    .obtain⟨v,o,eo,ed⟩:=P.cell x c q;exact⟨v,o,R _ _ eo,ed⟩
   .exact P.hok.fresh (mh _)
   .rcases ay x c e with⟨_,_,q,_⟩|⟨q,_⟩
    .exact P.hok.fresh (L7 q)
    .exact P.freeC x c q
   .show an.length=(E++frees).length;simp[an,f0]
  have gY:Good (fA X B (cn++cl) F M fp (E++frees)) (E++frees) E G' k:=by
   refine⟨rfl,nd,λx hx=>?_,λx hx=>?_,λx hx=>?_,dbg,g.calm,g.room,PassesOwn.never⟩
   .rcases v_.mp hx with z|z
    .rcases C.hv x z with z|z
     .left
      have:=dh (env:=X.env) P.ok.kind z
      rw[hF (λq=>nomatch q.1)]at this;exact this
     .right
      have:=dh (env:=X.env) P.ok.kind z
      rw[hF (λq=>nomatch q.1)]at this;exact this
    .right
     have:=dh (env:=X.env) P.ok.kind (C.hf x z)
     rw[eT ⟨rfl,C.cl x z⟩]at this;exact this
   .rcases C.hv x hx with z|z
    .right
     have:=dh (env:=X.env) P.ok.kind z
     rw[hF (λq=>nomatch q.1)]at this;exact this
    .exact .inl (decide_eq_true z)
   .have:=dh (env:=X.env) P.ok.kind (gn x hx)
    rw[hF (λq=>nomatch q.1)]at this;exact this
  obtain⟨hg,ht,he⟩:=hY (fA X B (cn++cl) F M fp (E++frees)) rfl rfl rfl rfl rfl rfl gY;have fa:RS X.K (U1++[L.heap.objs.size]) M (DY E.length fm ac) an:=by
   refine⟨by simp[an,DY],λi v e=>?_⟩;unfold DY at e;by_cases z:E.length<=i
   .rw[DC (by simpa using z),HJ,CG]at e
    cases ej:fm[i-E.length]? with
    |none=>rw[ej]at e;cases e
    |some j =>
     rw[ej]at e;have ev:ac[j]?=J (J v):=by
      have:(ac[j]?).getD Y=J v:=by simpa using e
      cases z:ac[j]? with
      |none=>rw[z]at this;cases this
      |some o=>rw[z]at this;simp at this;rw[this]
     obtain⟨v',e',rv⟩:=rs.2 j v ev;refine⟨v',?_,rv.le fl⟩;show an[i]?=_;rw[DC (by simpa using z),HJ,CG,ej];simp[e']
   .rw[BH (by simp;ext),Lu]at e
    split at e<;>cases e
  have q3:Ful X (RV' X) ac (U1++[L.heap.objs.size]) M ((Do it h1.length gt mt me it.xs (DY E.length fm ac) (h1++[.lst []])).bind λ_ h3=>.ok (.loc h1.length) h3) Q:=Ful.le l3 q1;have b4:(U1++[L.heap.objs.size])[h1.length]?=J L.heap.objs.size:=by rw[<-b9.len];simp
  have c0:∀bw:Shared,bw={ F with heap:=h',toks:=F.toks}->codeAny (model X.prog X.w) X.A (.compLoop (.ListComp cc [⟨tg,ak,ca,0⟩] B dt) 0 (.ref ea) (.ref L.heap.objs.size) (compEnvC B (cn++cl) F.heap.objs.size X.env))
    (compPost (model X.prog X.w) X.A X.xe use Qv (.ref L.heap.objs.size) F.heap.objs.size) bw:=by
   rintro bw rfl;refine vg (CI X (fA X B (cn++cl) F M fp (E++frees)) it tn fp (U1++[L.heap.objs.size]) M ac h1.length gt mt me Q) ?_ it.xs.length
    ⟨0,an,M,_,_,_,rfl,CN _,eF,aa.keep _ _ _ cd (λb _ o e=>R b o e),λb hb=>(b5 b hb).1,Le.refl _ _,fa,e0,by simpa using q3⟩
   rintro n s6 ⟨i,Z6,H6,U6,b3,h6,rfl,hh,I6,d1,es,l6,gs,dd,q6⟩;have bt:∀{H':Hp},(∀b∈fp,H' b=Y)->∀b∈fp,k7 (fA X B (cn++cl) F M fp (E++frees)) [] H' b:=λ{H'} hn b hb =>
    ⟨hn b hb,(ok.exf b hb).1,ok.exfs b hb,.inl hb,(ok.exf b hb).2,λp hp=>absurd (show p∈([]:VS)from hp) (by simp)⟩
   by_cases bm:i<it.xs.length
   .have ed:it.xs.drop i=it.xs[i]::it.xs.drop (i+1):=Tw bm;rw[ed]at q6;simp only[Do]at q6;by_cases hok:it.ok h6
    .rw[eT hok]at q6;obtain⟨j1,_⟩:=jr U6 H6 h6 i (l3.trans l6) dd hok;obtain⟨go,yl⟩:=j1 bm;refine kP (aa.item (fA X B (cn++cl) F M fp (E++frees)) rfl rfl rfl g.calm i [] s6 Z6 H6 (λ_ _=>False) I6 (bt es) d1 go) λr s7 ⟨u,hr,h7⟩=>?_;subst hr;refine kP h7 λ_ s8 ⟨x8,H8,I8,r8,y8,dv,f5⟩=>?_;obtain⟨U8,x,l8,g1,ex,rx⟩:=yl x8 H8 y8;have gg:x=it.xs[i]:=by rw[C_ bm]at ex;exact(Option.some.inj ex).symm
     subst gg;have gy:=I8.pinned (bt f5) (aa.obj _ _ dv);have q8:=Ful.le l8 q6;have cx:∀{Z9:L2.St}{H9:Hp}{s9:Shared},Inv (fA X B (cn++cl) F M fp (E++frees)) ([]++nZ fp s8.heap) Z9 H9 s9->Inv (fA X B (cn++cl) F M fp (E++frees)) [] Z9 H9 s9/\tn (i+1) s9.heap/\∀b∈fp,H9 b=Y:=λ{Z9 H9 s9} I9=>by
      refine⟨I9.unpinned,aa.keep _ _ _ dv λb hb o e=>(I9.pin (b,o) (se _ (se _ (jt hb e)))).1,λb hb=>?_⟩;obtain⟨o,e,d⟩:=aa.obj _ _ dv b hb;exact(I9.pin (b,o) (se _ (se _ (jt hb e)))).2.1
     cases eg:gt it.xs[i] b3 h6 with
     |nx S h9 =>
      rw[eg]at q8;dsimp only at q8
      refine kP (hg _ s8 Z6 H8 x8 u (λZ' H'=>∃U',Le U8 H8 U' H'/\RH X.K X.mg U' H' h9/\RS X.K U' H' S Z') gy r8 ⟨U8,b3,h6,_,gs.le l8,g1,rx,by
       show qu _ _ _ (gt it.xs[i] b3 h6) _
       rw[eg];exact λU' H' Z' l r s=>⟨U',l,r,s⟩⟩) λ_ s9 ⟨Z9,H9,I9,U9,l9,f3,b7⟩=>?_
      have q9:=Ful.le l9 q8
      cases em:mt S h9 with
      |ok b a3 =>
       rw[em,Out.ne_ok]at q9;rw[Out.bind_ok]at q9
       refine kP (ht _ s9 Z9 H9 (λb' H'=>b'=b/\∃U',Le U9 H9 U' H'/\RH X.K X.mg U' H' a3) I9 ⟨U9,S,h9,b7,f3,by
        show Ful _ _ _ _ _ (mt S h9) _
        rw[em];exact λU' H' v' l r e=>⟨e.symm,U',l,r⟩⟩) λb' e7 ⟨c1,e6,eb,c4,a7,cp⟩=>?_
       subst eb;have ab:=Ful.le a7 q9
       cases b' with
       |false =>
        rw[hF QX]at ab ⊢;obtain⟨eQ,ei,eh⟩:=cx e6;exact⟨_,by ext,i+1,Z9,c1,c4,S,a3,rfl,bm,eQ,ei,eh,l6.trans (l8.trans (l9.trans a7)),b7.le a7,cp,ab⟩
       |true =>
        rw[eT rfl]at ab ⊢
        cases ee:me S a3 with
        |ok v d5 =>
         rw[ee,Out.ne_ok]at ab;rw[Out.bind_ok]at ab
         refine kP (he _ e7 Z9 c1 (λv' H'=>∃U',Le c4 c1 U' H'/\RH X.K X.mg U' H' d5/\RP X.K U' H' v v') e6 ⟨c4,S,a3,b7.le a7,cp,by
          show Ful _ _ _ _ _ (me S a3) _
          rw[ee];exact λU' H' v' l r e=>⟨U',l,r,e⟩⟩) λge f7 ⟨v',dc,e9,eq,dF,dn,cB,ek⟩=>?_
         have ax:=Ful.le dn ab;have b6:Le (U1++[L.heap.objs.size]) M dF dc:=l6.trans (l8.trans (l9.trans (a7.trans dn)));obtain⟨oa,gk,gc⟩:=cB.obj (b6.get b4);rw[gk]at ax
         cases oa with
         |dic fz ks xs=>exact ax.elim
         |exc x=>exact ax.elim
         |lst ys =>
          dsimp only at ax;by_cases a8:ys.length<sizeLine
          .rw[eT a8]at ax;obtain⟨dx,f4,ry⟩:=gc;obtain⟨dV,db⟩:=cB.put (b6.get b4) (o:=.lst (ys++[v])) (ho:=.lst (dx++[v'])) ⟨_,rfl,ry.append (.cons ek .nil)⟩;have ap:=tO (X:=fA X B (cn++cl) F M fp (E++frees)) _ f7 Z9 dc (.ref L.heap.objs.size) [v'] (.ref L.heap.objs.size) [ge] (λ_ H'=>H'=upd dc L.heap.objs.size (.lst (dx++[v']))) e9 rfl (.cons eq .nil) ⟨L.heap.objs.size,dx,v',rfl,rfl,f4,by rw[<-ry.length];exact a8,rfl⟩;refine kP ap λ_ hj ⟨_,hz,g2,_,eH⟩=>?_;subst eH;obtain⟨eU,ez,ew⟩:=cx g2;exact⟨_,by ext,i+1,Z9,_,dF,S,_,rfl,bm,eU,ez,ew,b6.trans db,(b7.le a7).le (dn.trans db),dV,Ful.le db ax⟩
          .rw[hF a8]at ax;exact ax.elim
        |exc x d5=>rw[ee]at ab;exact ab.elim
        |bad=>rw[ee]at ab;exact ab.elim
      |exc x a3=>rw[em]at q9;exact q9.elim
      |bad=>rw[em]at q9;exact q9.elim
     |_=>rw[eg]at q8;exact q8.elim
    .rw[hF hok]at q6;exact q6.elim
   .have e:i=it.xs.length:=by ext
    rw[e,List.drop_length]at q6;simp only[Do]at q6;by_cases hok:it.ok h6
    .rw[eT hok]at q6;obtain⟨_,j2⟩:=jr U6 H6 h6 i (l3.trans l6) dd hok;refine kP (aa.done (fA X B (cn++cl) F M fp (E++frees)) rfl rfl rfl g.calm i [] s6 Z6 H6 (λ_ _=>False) I6 (bt es) d1 (j2 (by ext))) λr s7 ⟨hr,I7⟩=>?_;subst hr;obtain⟨m7,f8,_⟩:=I7.loc;have IX:=P.call' (s':=s7) (ch:=fp) I7.os I7.base I7.hok I7.bare λb hb=>by
      obtain⟨_,a2,_,a4,a5,a6⟩:=b5 b hb;exact⟨a4,a2,a5,a6⟩
     exact fin _ _ H6 s7 m7 IX I7.free f8 (Lz P.lt) P.sz (P.nofs (mh _)) (λx c e z=>by
      obtain⟨v,qc⟩:=P.cell x c e
      exact absurd qc.lt (by rw[z];exact De _)) (λp hp z=>absurd (oy (P.pin p hp).1) (by rw[z];exact De _)) (q6 U6 H6 _ (Le.refl _ _) dd (.loc (l6.get b4)))
    .rw[hF hok]at q6;exact q6.elim
  exact codeAny_compStart_list (c0 _ rfl) (aa.self X.A 0 _ _ _ (aa.keep _ _ _ cd (λb _ o e=>R b o e)) (c0 _ rfl))
 exact dr
def E6(g:Good X N W G k){S u z:Expr}{y:VV}{l:Scope}{R:Pos}{j frees P:VL}{fm:VN}{U:Mx MIt}{gt:Mg}{mt:Mx Bool}{me:Mx PV}(C:Cv X N l j frees fm)(nd:(j++frees).Nodup)(B:∀x∈P,l.names.lookup x=J .globalImplicit)(dbg:∀x∈(j++frees)++P,(x==("__debug__":Str))=T/\(x==("__classdict__":Str))=T/\x≠"__name__")(hi:MI X S u U)(hY:∀i:Cx,i.prog=X.prog->i.w=X.w->i.K=X.K->i.mg=X.mg->i.base=X.base->i.env.scope=relabel l X.env->Good i (j++frees) j P k->MG i S gt/\LH i y mt/\ME i z me)(hs:∀x,foldedSetIterable u X.env x=pure x:=by intro _;rfl):ME X (.ListComp z [⟨S,u,y,0⟩] l R) (gh j.length fm U gt mt me):=by
 intro NN s Z H Q M tm;refine tN g C nd B dbg hi hY hs M tm λL D H6 s7 m7 IX hC ns hL hz aa F hp q=>?_;refine⟨m7,ns,λab E=>⟨.ref L,H6,?_,rfl,q⟩⟩;exact IX.turned (t':=s7.toks) (λb o hb e=>E.extBut b o hb e) hC hL (.inr hz) F hp
def E7(g:Good X N W G k)(i:Nat){y:Str}{py F:Pos}{tg E P:Expr}{M:VV}{j:Scope}{R:Pos}{B frees G':VL}{fm:VN}{mi:Mx MIt}{gt:Mg}{mt:Mx Bool}{me:Mx PV}(Q:N[i]?=J y)(hw:W[i]?=J y)(ak:swapsWith (.ListComp P [⟨tg,E,M,0⟩] j R) (J (.Name y py)) F.line X.env=pure I)(C:Cv X N j B frees fm)(nd:(B++frees).Nodup)(ap:∀x∈G',j.names.lookup x=J .globalImplicit)(dbg:∀x∈(B++frees)++G',(x==("__debug__":Str))=T/\(x==("__classdict__":Str))=T/\x≠"__name__")(hi:MI X tg E mi)(hY:∀u:Cx,u.prog=X.prog->u.w=X.w->u.K=X.K->u.mg=X.mg->u.base=X.base->u.env.scope=relabel j X.env->Good u (B++frees) B G' k->MG u tg gt/\LH u M mt/\ME u P me)(hs:∀x,foldedSetIterable E X.env x=pure x:=by intro _;rfl):MS X (.Assign [.Name y py] (.ListComp P [⟨tg,E,M,0⟩] j R) F) (bq i (gh B.length fm mi gt mt me)):=by
 intro NN s Z H D ab tm;obtain⟨U,ac,h,rs,rh,q⟩:=tm;rw[exec_Assign_Name_used _ _ _ _ ak];refine ir (wpAny_standAt (ir ?_))
 refine ir (wpAny_mono (tN g C nd ap dbg hi hY hs ab
  ⟨U,ac,h,rs,rh,bO.ex q λU1 H1 v v' h1 l r z w=>w U1 H1 _ (Le.refl _ _) r ((rs.le l).set i z)⟩ λL S H6 s7 m7 IX hC ns hL hz as aa hp q6=>?_) (λ_ s' hq=>ph (ph hq)) λ_ _ e=>e)
 .obtain⟨o,es,ep,ho,hd,hr⟩:=id ns;have IP:Inv X (NN++[(S,o)]) Z H6 s7:=IX.pins_of λp an=>(v_.mp an).elim (λz=>IX.pin p (se _ z)) λz=>by
   have e:p=(S,o):=by simpa using z
   subst e;exact⟨ho,hC,hL,as,λv z=>by rw[hd]at z;cases z⟩
  have st:=wG (pos:=py) (by rw[g.hN];exact g.nd) (g.x Q) (g.loc y (aP Q)) (g.fn y (aP hw)) (NN++[(S,o)]) s7 Z H6 (.ref L) (.ref L) (λZ' H'=>Z'=Z.set i (J (.ref L))/\H'=H6) IP rfl ⟨rfl,rfl⟩;refine kP st λ_ s8 ⟨Z8,H8,I8,e1,e2⟩=>?_;subst e1;subst e2;have pn:=I8.pin (S,o) (se _ (se _ (by simp)));refine⟨m7,⟨o,es,ep,pn.1,hd,hr⟩,λax ag=>⟨_,_,?_,q6⟩⟩;exact(I8.unpinned).turned (t':=s8.toks) (λb o hb e=>ag.extBut b o hb e) hC hL (.inr hz) aa hp
end
@[inline]abbrev je:VR:=[.type "ValueError",.type "Exception",.type "BaseException",.type "object"]
structure Nh(K:hW)(mg:CC)(x:Str)(C:Addr):Prop where
 bd:mg x=J (.ref C)
 ok:PySem.W.excIn K C je "ValueError.__new__"=I
abbrev R4(X:Cx)(x:Str)(C:Addr):Prop:=Nh X.K X.mg x C
def E8{K:hW}{h:Heap}{C:Addr}{B:VR}{i:String}(M:K.In h)(q:PySem.W.excIn K C B i=I):
  ∃u N R q bs z P sub S j W H E L F G mN,h.get? C=J (excClassObj R q C N bs u z P sub S j W H E L F G i)/\h.Ns N mN/\mN "__init__"=Y/\OwnTail h B u/\∀base r,PySem.W.mroIn K C base=J r->(Value.ref C::u).contains base=r:=by
 unfold PySem.W.excIn at q
 split at q
 .rename_i W cd X Z
  split at q
  .rename_i C' u H E L F n G hm hs
   simp only[DD,beq_iff_eq,PJ]at q;obtain⟨⟨⟨⟨⟨rfl,rfl⟩,y⟩,ht⟩,hok⟩,U⟩:=q;obtain⟨R,bs,aa,ns,qn,hd,P,sub,S,j,ac⟩:=cd;subst hm y;have Q:X=#[H,E,L,F,J (.builtin n),G]:=by obtain⟨l⟩:=X;simp only at hs;rw[hs]
   subst Q
   exact⟨u,ns,R,qn,bs,hd,P,sub,S,j,W,H,E,L,F,G,_,M _ _ Z,.of_isNs (PySem.W.isNs_of_in M hok),PySem.W.nsMap_none_of_in M hok U,PySem.W.tail_of_in M ht,λbase r e=>by
    unfold PySem.W.mroIn PySem.W.clsIn at e;rw[Z]at e
    simpa using e⟩
  .cases q
 .cases q
section
variable{X:Cx}{N W G:VL}{k:Nat}
def rO{M:Model}{A:Around}{E:VX}{h:Heap}{gn:Array GenState}{d:Drawn}{t:Nat}{os:OsState}{ea C D N1 N2:Addr}{oe:Obj}{U q1 ak q2:Str}{aa l P i:VR}{LW Z:Bool}{L ac:VL}{u j:VR}{S ag:Bool}{y z:Option Bool}{R ab:VC}{a0 a1 a2 a3 a5 b0 b1 b2 b3 b5:VT}{n1 n2:String}{Q:Bool->Shared->Prop}(hC:h.get? C=J (excClassObj U q1 C N1 aa l LW L u S y R a0 a1 a2 a3 a5 n1))(hD:h.get? D=J (excClassObj ak q2 D N2 P i Z ac j ag z ab b0 b1 b2 b3 b5 n2))(he:h.get? ea=J oe)(B:oe.cls=.ref C)(hB:i.contains (.type "BaseException")=I)(F:(Value.ref C::l).contains (.ref D)=I)(hq:Q I ⟨h,gn,d,t,os⟩):wpAny M A (excMatches (.ref ea) (.ref D)) Q E ⟨h,gn,d,t,os⟩:=by
 have H:(Value.ref D::i).contains (.type "BaseException")=I:=by rw[PD,hB,Rc]
 have f:=tc_notTuple
 repeat (first | (rw[B]) | with_reducible refine wpAny_loadPart_at hD ?_ | (with_reducible refine wpAny_isSubtype_exc hD ?_;rw[H]) | (with_reducible refine wpAny_isSubtype_exc hC ?_;rw[F]) | wp_step)
 exact hq
end
section
variable{X:Cx}{N W G:VL}{k:Nat}{Z:L2.St}{H:Hp}{s:Shared}
abbrev sJ(X:Cx)(NN:VS)(E:VX):Cx:={ X with pn:=X.pn++NN,xe:=E}
def Js(ok:X.Ok):(sJ X NN E).Ok :=
 ⟨ok.mod,ok.kind,ok.glob,ok.blt,ok.above,ok.inj,ok.has,ok.cab,ok.hd,ok.frames,ok.stk,ok.exf,ok.bs,ok.bsz,ok.noex,ok.exfs,ok.funs,ok.frf,ok.tree,ok.top⟩
def BN(ok:(sJ X NN E).Ok):X.Ok :=
 ⟨ok.mod,ok.kind,ok.glob,ok.blt,ok.above,ok.inj,ok.has,ok.cab,ok.hd,ok.frames,ok.stk,ok.exf,ok.bs,ok.bsz,ok.noex,ok.exfs,ok.funs,ok.frf,ok.tree,ok.top⟩
def Inv.toPin(i:Inv X NN Z H s):Inv (sJ X NN E) [] Z H s :=
 ⟨Js i.ok,i.os,i.bare,i.base,i.loc,i.cell,i.free,i.freeC,λp j=>i.pin p (by simpa using j),i.hok,i.len⟩
def Inv.ofPin(i:Inv (sJ X NN E) [] Z H s):Inv X NN Z H s :=
 ⟨BN i.ok,i.os,i.bare,i.base,i.loc,i.cell,i.free,i.freeC,λp j=>i.pin p (by simpa using j),i.hok,i.len⟩
def rE{h i:Heap}{c:Addr}{v:VT}(j:h.UpToSlots i)(q:h.IsCell c v):i.IsCell c v:=by obtain⟨o,e,d⟩:=q;obtain⟨y,l⟩:=j c o e (λu z=>by rw[d]at z;cases z);exact⟨_,l,d⟩
def Inv.flown(j:Inv X [] Z H s){B h' aa:Heap}(hB:B.StaysIn s.heap)(M:B.StaysIn h')(L:s.heap.UpToSlots h')(P:DS X aa)(ab:TJ B (BL X.stack) aa)(F:∀b o,H b=J o->∃l,B.get? b=J l):Inv X [] Z H { s with heap:=h'}:=by
 have kp:∀b o l,B.get? b=J l->s.heap.get? b=J o->h'.get? b=J o:=λb o l e1 e2=>by
  have:=vo hB e1 e2
  subst this;exact M b l e1
 have nl:∀b o,X.s₀.heap.get? b=J o->b≠X.env.locals:=λb o e z=>absurd (vl (oy e) j.ok.above) (by rw[z];exact De _);have R:∀b o,X.s₀.heap.get? b=J o->b∉X.fs->b∉X.ex->∃l,B.get? b=J l:=λb o e hf y=>by
  obtain⟨o',e'⟩:=P.old b o e y;refine ab b o' e' λhm=>?_;rcases ki.mp (j.stkSub b hm)with z|z
  .exact nl b o e z
  .exact hf z
 obtain⟨m,hn,hl⟩:=j.loc;have Q:∀b o,X.s₀.heap.get? b=J o->b∈X.fs->∀E,o.data≠.fields E:=λb o e hf E z=>by
  obtain⟨_,oF,eF,dF⟩:=j.ok.funs.mem hf;rw[e]at eF;cases eF;exact dF E z
 refine⟨j.ok,j.os,j.bare,⟨λb o e n hf y=>?_,λb o e n hf y=>?_,j.base.free,λb o e y=>?_,j.base.tups,j.base.frzs,j.base.tbls⟩,⟨m,L.ns hn,λi x v e1 e2 e3=>?_⟩,λx c e=>?_,j.free,j.freeC,λp hp=>?_,λa o e=>?_,j.len⟩
 .obtain⟨l,C⟩:=R b o e hf y;exact kp b o l C (j.base.keep b o e n hf y)
 .obtain⟨sl,e1⟩:=j.base.slot b o e n hf y;obtain⟨U,e2⟩:=L b _ e1 (λE z=>Q b o e hf E z);exact⟨U,e2⟩
 .by_cases hf:b∈X.fs
  .obtain⟨sl,e1⟩:=j.base.slot b o e (j.ok.frf b hf) hf y;obtain⟨U,e2⟩:=L b _ e1 (λE z=>Q b o e hf E z);exact⟨_,e2⟩
  .obtain⟨l,C⟩:=R b o e hf y;exact⟨l,M b l C⟩
 .obtain⟨u,ru,S⟩:=hl i x v e1 e2 e3;refine⟨u,ru,?_⟩;rcases S with z|⟨z1,c,z2,z3⟩
  .exact .inl z
  .exact .inr ⟨z1,c,z2,rE L z3⟩
 .obtain⟨v,q⟩:=j.cell x c e;exact⟨v,rE L q⟩
 .obtain⟨e,n,ne,nf,d⟩:=j.pin p hp;refine⟨?_,n,ne,nf,d⟩;have ac:p∈X.pn:=by simpa using hp
  obtain⟨o',e'⟩:=P.pin p ac;obtain⟨l,C⟩:=ab p.1 o' e' λhm=>by
   rcases ki.mp (j.stkSub p.1 hm)with z|z
   .exact ne z
   .exact nf z
  exact kp p.1 p.2 l C e
 .refine (j.hok a o e).stay (λb u hb z=>?_) (λ_ z=>z) λ_ _ z=>z;rcases hb with rfl|hb
  .obtain⟨l,C⟩:=F _ _ e;exact kp _ u l C z
  .obtain⟨l,C⟩:=F _ _ hb;exact kp _ u l C z
def Inv.track(i:Inv X C Z H s)(ha:H a=Y)(M:X.s₀.heap.get? a=Y)(hL:a≠X.env.locals)(P:∀x c,X.env.cells.lookup x=J c->c≠a)(Q:∀p∈X.pn++C,p.1≠a)(B:ObjOk X.prog X.w (upd H a (.ext φ)) s.heap a (.ext φ)):Inv X C Z (upd H a (.ext φ)) s:=by
 have y:∀b o,X.s₀.heap.get? b=J o->b≠a:=λb o e z=>by rw[z,M]at e;cases e
 have t:∀b u,H b=J u->upd H a (.ext φ) b=J u:=λb u e=>by rw[aJ (bP e ha)];exact e
 refine⟨i.ok,i.os,i.bare,⟨i.base.keep,i.base.slot,λb o e n L=>by rw[aJ (y b o e)];exact i.base.free b o e n L,i.base.there,λb xs e=>t b _ (i.base.tups b xs e),λb o u e=>t b _ (i.base.frzs b o u e),λb ps e=>?_⟩,
  i.loc,i.cell,by rw[aJ (Ne.symm hL)];exact i.free,λx c e=>by rw[aJ (P x c e)];exact i.freeC x c e,λp l=>?_,λb u e=>?_,i.len⟩
 .obtain⟨j,S⟩:=i.base.tbls b ps e;exact⟨j,t b _ S⟩
 .obtain⟨F,R,U⟩:=i.pin p l;exact⟨F,by rw[aJ (Q p l)];exact R,U⟩
 .by_cases E:b=a
  .subst E;rw[ba]at e;cases e;exact B
  .rw[aJ E]at e;exact(i.hok b u e).stay (λc v _ q=>q) (λc q=>t c _ q) λc xs q=>t c _ q
def Jt{h:Heap}{a:Addr}{m i:VZ}(x:h.Ns a m)(y:h.Ns a i):m=i:=by obtain⟨o,F,E,e,d,_,f⟩:=x;obtain⟨L,C,u,l,j,_,B⟩:=y;rw[e]at l;cases l;rw[d]at j;cases j;funext z;rw[<-f z,<-B z]
def Inv.unbound(l:Inv X NN Z H s)(hN:X.N.Nodup)(U:X.N[i]?=J n)(hm:s.heap.Ns X.env.locals m)(M:h'.Ns X.env.locals (λx=>if x=n then v else m x))(C:Heap.SameBut X.env.locals s.heap h'):
  Inv X NN (Z.set i Y) H { s with heap:=h',toks:=t'}:=by
 obtain⟨S,P,hl⟩:=l.loc;have em:m=S:=Jt hm P;subst em;have lt:∀b o,X.s₀.heap.get? b=J o->b≠X.env.locals:=λb o e=>yB (vl (oy e) l.ok.above);refine⟨l.ok,l.os,l.bare,⟨λb o e n B E=>?_,λb o e n B E=>?_,l.base.free,λb o e E=>?_,l.base.tups,l.base.frzs,l.base.tbls⟩,⟨_,M,λj y R e1 e2 e3=>?_⟩,λy c e=>?_,l.free,l.freeC,λp hp=>?_,λa o e=>?_,by simpa using l.len⟩
 .exact (C.2 b (lt b o e)).trans (l.base.keep b o e n B E)
 .obtain⟨sl,e1⟩:=l.base.slot b o e n B E;exact⟨sl,(C.2 b (lt b o e)).trans e1⟩
 .obtain⟨o',e1⟩:=l.base.there b o e E;exact⟨o',(C.2 b (lt b o e)).trans e1⟩
 .by_cases F:j=i
  .subst F;exfalso;by_cases L:j<Z.length
   .rw[B6 L]at e2;cases e2
   .rw[QS (by simp;lia)]at e2;cases e2
  .rw[pk (Ne.symm F)]at e2;obtain⟨u',r',q⟩:=hl j y R e1 e2 e3;refine⟨u',r',?_⟩;rcases q with⟨k,e⟩|⟨k,c,e,z⟩
   .refine .inl ⟨k,?_⟩
    have:y≠n:=λe=>F (kc hN e1 (e▸U))
    simp[this,e]
   .exact .inr ⟨k,c,e,z.sameBut C (l.cne y c e)⟩
 .obtain⟨w',z⟩:=l.cell y c e;exact⟨w',z.sameBut C (l.cne y c e)⟩
 .obtain⟨e,n,ne,Q,d⟩:=l.pin p hp;exact⟨(C.2 p.1 ne).trans e,n,ne,Q,d⟩
 .have na:a≠X.env.locals:=λz=>by rw[z,l.free]at e;cases e
  refine(l.hok a o e).stay (λb u B z=>(C.2 b ?_).trans z) (λ_ z=>z) λ_ _ z=>z;rcases B with rfl|B
  .exact na
  .intro z;rw[z,l.free]at B;cases B
def RS.unset{K:hW}{U:VQ}{H:Hp}{l:n7}{Z:L2.St}(r:RS K U H l Z)(i:Nat):RS K U H (l.set i Y) (Z.set i Y):=by
 refine⟨by simp[r.1],λj u e=>?_⟩;by_cases B:j=i
 .subst B;exfalso;by_cases y:j<l.length
  .rw[B6 y]at e;cases e
  .rw[QS (by simp;lia)]at e;cases e
 .rw[pk (λz=>B z.symm)]at e ⊢;exact r.2 j u e
end
structure yT(K:hW)(C:Addr):Prop where
 ga:PySem.W.findIn K (.ref C) "__getattribute__"=J (J (.builtin "BaseException.__getattribute__"))
 cl:PySem.W.findIn K (.ref C) "__class__"=J (J (.builtin "object.__class__"))
 gt:PySem.W.findIn K (.ref C) "__getattr__"=J Y
 mo:PySem.W.mroIn K C (.type "object")=J I
 mb:PySem.W.mroIn K C (.type "BaseException")=J I
section
variable{prog:Program}{w:World}{A:Around}{E:VX}{h:Heap}{g:Array GenState}{d:Drawn}{t:Nat}{os:OsState}{a C:Addr}{o:Obj}{K:hW}
def Ni(y:K.In h)(q:yT K C)(u:h.get? a=J o)(j:o.cls=.ref C)(H:R (.ok (.ret (.ref C))) ⟨h,g,d,t,os⟩):
  codeAny (model prog w) A (.call (.builtin "getset_descriptor.__get__") ⟨[.builtin "object.__class__",.ref a,.ref C],[]⟩) R ⟨h,g,d,t,os⟩:=by
 have i:(⟨h,g,d,t,os⟩:Shared).TypeIs (.builtin "object.__class__") "getset_descriptor":=PySem.F.typeOf_object_class;have F:∀{B:Around} {G:VX} {l:Bool->Shared->Prop},l I ⟨h,g,d,t,os⟩->wpAny (model prog w) B (isSubtype (.ref C) (.type (".".intercalate ("object.__class__".cutAt '.').dropLast))) l G ⟨h,g,d,t,os⟩:=λz=>by
  rw[PySem.F.owner_object_class];exact(PySem.W.looks_mroIn (M:=model prog w) y q.mo).at z
 refine codeAny_call_builtin PySem.F.slot_gs_get.plain PySem.F.entry_gs_get (PySem.F.slot_gs_get.check _ _ _ _ _ _ _ _ i (PySem.F.args_gs_get _ _ _) ?_)
 repeat (any_goals (first | assumption | (with_reducible refine wpAny_loadPart_at u ?_;rw[j]) | with_reducible refine F ?_ | wp_step))
 refine⟨Code.quiet_builtin _ (by decide +kernel),codeAny_builtin PySem.F.entry_object_class ?_⟩
 repeat (any_goals (first | assumption | (with_reducible refine wpAny_loadPart_at u ?_;rw[j]) | wp_step))
def E9(j:K.In h)(q:yT K C)(u:h.get? a=J o)(i:o.cls=.ref C)(G:Q (.done (.ret (.ref C))) ⟨h,g,d,t,os⟩):
  wpAny (model prog w) A (Builtin.«object.__getattribute__» ⟨[.ref a,.str "__class__" tk],[]⟩) Q E ⟨h,g,d,t,os⟩:=by
 have y:∀{B:Around} {F:VX} {l:VT->Shared->Prop},l (J (.builtin "object.__class__")) ⟨h,g,d,t,os⟩->wpAny (model prog w) B (typeLookup (.ref C) "__class__") l F ⟨h,g,d,t,os⟩:=λz=>(PySem.W.looks_findIn (M:=model prog w) j q.cl).at z;have L:=PySem.F.typeOf_object_class;have H:=PySem.F.slot_gs_get.lookup;have P:=PySem.F.slot_gs_set.lookup
 repeat (any_goals (first | assumption | (with_reducible refine wpAny_loadPart_at u ?_;rw[i]) | with_reducible refine y ?_ | wp_step))
 refine Ni j q u i ?_
 repeat (any_goals (first | assumption | wp_step))
def Ju(F:K.In h)(q:yT K C)(G:h.get? a=J o)(B:o.cls=.ref C)(H:R (.ok (.ret (.ref C))) ⟨h,g,d,t,os⟩):
  codeAny (model prog w) A (.call (.builtin "BaseException.__getattribute__") ⟨[.ref a,.str "__class__" tk],[]⟩) R ⟨h,g,d,t,os⟩:=by
 have L:builtinKind "BaseException.__getattribute__"=J .slot:=by decide +kernel
 have i:splitId "BaseException.__getattribute__"=J ("BaseException","__getattribute__"):=by decide +kernel
 have Q:=PySem.F.args_bexc_ga (.ref a) (.str "__class__" tk);have P:∀{u:Around} {y:VX} {j:Bool->Shared->Prop},j I ⟨h,g,d,t,os⟩->wpAny (model prog w) u (isSubtype (.ref C) (.type "BaseException")) j y ⟨h,g,d,t,os⟩:=λz=>(PySem.W.looks_mroIn (M:=model prog w) F q.mb).at z;have l:∀{u:Around} {y:VX} {j:Unit->Shared->Prop},j () ⟨h,g,d,t,os⟩->wpAny (model prog w) u (checkBuiltinCall "BaseException.__getattribute__" ⟨[.ref a,.str "__class__" tk],[]⟩) j y ⟨h,g,d,t,os⟩:=λz=>by
  simp only[checkBuiltinCall,L,i];refine ir ?_
  .unfold isInstance
   repeat (first | (with_reducible refine wpAny_loadPart_at G ?_;rw[B]) | with_reducible refine P ?_ | wp_step)
   exact z
 exact codeAny_call_builtin PySem.F.excAttr_ValueError.ga.plain PySem.F.entry_bexc_ga (l (E9 F q G B H))
def R5(u:K.In h)(q:yT K C)(F:h.get? a=J o)(B:o.cls=.ref C)(P:Q (.ref C) ⟨h,g,d,t,os⟩):wpAny (model prog w) A (getAttrBy (.ref a) (.str "__class__" tk) T) Q E ⟨h,g,d,t,os⟩:=by
 have R:=PySem.F.excAttr_ValueError.ga.bind (.ref a);have l:(Value.builtin "BaseException.__getattribute__" == Value.builtin "object.__getattribute__")=T:=by decide +kernel
 have L:(onTheHeap (Value.ref C)&&Value.builtin "BaseException.__getattribute__" == Value.builtin "object.__getattribute__")=T:=by rw[l];rfl
 have H:∀{j:Around} {y:VX} {i:VT->Shared->Prop},i (J (.builtin "BaseException.__getattribute__")) ⟨h,g,d,t,os⟩->wpAny (model prog w) j (typeLookup (.ref C) "__getattribute__") i y ⟨h,g,d,t,os⟩:=λz=>(PySem.W.looks_findIn (M:=model prog w) u q.ga).at z;have G:∀{j:Around} {y:VX} {i:VT->Shared->Prop},i Y ⟨h,g,d,t,os⟩->wpAny (model prog w) j (typeLookup (.ref C) "__getattr__") i y ⟨h,g,d,t,os⟩:=λz=>(PySem.W.looks_findIn (M:=model prog w) u q.gt).at z
 repeat (any_goals (first | assumption | (with_reducible refine wpAny_loadPart_at F ?_;rw[B]) | with_reducible refine H ?_ | with_reducible refine G ?_ | wp_step))
 refine Ju u q F B ?_
 repeat (any_goals (first | assumption | wp_step))
def Jv(j:K.In h)(q:yT K C)(l:h.get? a=J o)(i:o.cls=.ref C)(u:Q (J (.ref C)) ⟨h,g,d,t+1,os⟩):wpAny (model prog w) A (getAttr? (.ref a) "__class__") Q E ⟨h,g,d,t,os⟩:=by
 unfold getAttr? getAttrBy?
 repeat (any_goals (first | assumption | with_reducible apply R5 j q l i | wp_step))
end
def uT{K:hW}{a C:Addr}(q:yT K C)(F:∃G,PySem.W.clsIn K C=J G):PySem.W.KitX K (.ref a) (.ref C) (oM a C) where
 ty:=λM h _ ⟨o,R,e,c,_⟩=>c▸(PySem.W.Looks.ld e).andThen .now
 it:=λ_ _ X _=>by
  obtain⟨j,i⟩:=F;unfold PySem.W.clsIn at i
  split at i
  .rename_i L P y B u
   intro A' U W S k q;exact ir (wpAny_loadPart (k _ _ (X _ _ u)) (ph q))
  .cases i
 ne:=λh Z dd H n sl X l=>by
  obtain⟨j,i⟩:=F;refine Bool.eq_false_iff.mpr λz=>?_;have e:=Value.ref.inj (beq_iff_eq.mp z);subst e;unfold PySem.W.clsIn at i
  split at i
  .rename_i L P y B u
   have z:=(X _ _ u).symm.trans l;cases z
  .cases i
 ca:=λ{prog w A E Q s} X ⟨o,R,e,c,_⟩ k=>by
  exact Jv X q e c k
def cL(j i:VL)(x:PV)(h:MH):VW:=match x with
 |.loc n=>(match h[n]? with
  |some (.exc e)=>if j.contains e.cls=I then .ok (.bl (i.contains e.cls)) h else .bad
  |some _=>.ok (.bl T) h
  |none=>.bad)
 |_=>.ok (.bl T) h
structure Cw(K:hW)(mg:CC)(T:Value)(cs sup:VL):Prop where
 ty:∀t∈["NoneType","bool","int","str","tuple","list","dict"],PySem.W.kitOne K (.type t) T=J false
 ex:∀x∈cs,∃C,mg x=J (.ref C)/\yT K C/\(∃cd,PySem.W.clsIn K C=J cd)/\PySem.W.kitOne K (.ref C) T=J (sup.contains x)
section
variable{X:Cx}{N W G:VL}{k:Nat}
def wS(IC:Cw X.K X.mg c cs sup)(hv:∀u,bh v u->u=c):dN X (.builtin "isinstance") (λxs H Q=>∃F,xs=[F,v]/\uJ X (cL cs sup) F H Q):=by
 intro NN s Z H xs us Q j r ⟨F,e,U,h,x,E,rx,q⟩;subst e
 cases r with
 |cons r1 t1=>cases t1 with
  |cons r2 t2 =>
   cases t2;obtain rfl:=hv _ r2;have plain:∀t,Dn h x=J t->cL cs sup x h=.ok (.bl T) h->wpAny (model X.prog X.w) X.A (call (.builtin "isinstance") [_,_]) (EP X NN Z Q) X.xe s:=λt et ef=>by
    rw[ef]at q;obtain⟨ht,M,Hq,Za,S⟩:=sI j E rx r1 et;exact PySem.W.kia_one Za j.kIn S (IC.ty t ht) M λtk=>⟨.bl _,H,j.tok _,rfl,q U H _ (Le.refl _ _) E (.bl _)⟩
   cases x with
   |non=>exact plain _ rfl rfl
   |bl b=>exact plain _ rfl rfl
   |int i=>exact plain _ rfl rfl
   |str i=>exact plain _ rfl rfl
   |tup i=>exact plain _ rfl rfl
   |frl i=>exact plain _ rfl rfl
   |loc n =>
    cases l:h[n]? with
    |none=>simp only[cL,l]at q;exact q.elim
    |some o =>
     cases o with
     |lst xs=>exact plain "list" (by simp[Dn,l]) (by simp[cL,l])
     |dic fz ks xs=>exact plain "dict" (by simp[Dn,l]) (by simp[cL,l])
     |exc ex =>
      simp only[cL,l]at q;by_cases L:cs.contains ex.cls=I
      .rw[eT L]at q;obtain⟨C,hm,EQ,P,hk⟩:=IC.ex ex.cls (by simpa using L)
       cases rx with
       |@loc n a e =>
        cases r1;obtain⟨o',B,ro⟩:=E.obj e;rw[l]at B;cases B;obtain⟨C',y,R⟩:=ro;rw[hm]at y;cases y;have S:oM a C s.heap:=by
         rcases R with⟨_,hH⟩|⟨_,_,_,_,_,hH,_⟩
         .exact (show ObjOk X.prog X.w H s.heap a (.ext (oM a C))from j.hok a _ hH).1
         .obtain⟨⟨o,vs,e1,e2,e3,_⟩,_⟩:=(show ObjOk X.prog X.w H s.heap a (.ext (dk a C _))from j.hok a _ hH);exact⟨o,vs,e1,e2,e3⟩
        exact PySem.W.kia_one (uT EQ P) j.kIn S hk (λz=>nomatch z) λtk=>⟨.bl _,H,j.tok _,rfl,q U H _ (Le.refl _ _) E (.bl _)⟩
      .rw[hF L]at q;exact q.elim
def E_(g:Good X N W G k){a:Expr}{m:Mx PV}{c:Str}{D:Addr}{R y:VL}{i j:Nat}{p q l:Pos}(M:G[i]?=J "isinstance")(hm:X.mg "isinstance"=Y)(L:G[j]?=J c)(hc:X.mg c=J (.ref D))(IC:Cw X.K X.mg (.ref D) R y)(ha:ME X a m)(F:starEach [a,.Name c q] X.env=(T,eval a X.env)::starEach [.Name c q] X.env:=by rfl)(C:starEach [.Name c q] X.env=[(T,eval (.Name c q) X.env)]:=by rfl)(B:(backTo l (starEach [.Name c q] X.env)).any (·.1)=T:=by rfl):
  ME X (.Call (.Name "isinstance" p) [a,.Name c q] [] l) (DF (cL R y) m):=by
 have P:=g.dbg _ (se _ (aP M));have d:=g.dbg c (se _ (aP L));refine PE.imp (iq (wS IC (v:=.ref D) λu r=>(show u=Value.ref D from r)) (g.gl _ (aP M)) hm PyProof.Rows.Boot.«isinstance» (c8 ha (c8 (ly (v:=.ref D) (u:=.ref D) (g.gl c (aP L)) hc rfl d.1) iX C) F) P.2.2 P.1 F B) λZ H Q ⟨U,z,h,rs,rh,q⟩=>?_;exact⟨U,z,h,rs,rh,Ful.bind q λU1 H1 x x' h1 _ l1 E rx S=>⟨x',rfl,U1,h1,x,E,rx,S.zero⟩⟩
def Fa(g:Good X N W G k){a:Expr}{m:Mx PV}{c:Str}{l:String}{S z:VL}{i j:Nat}{p q y:Pos}(P:G[i]?=J "isinstance")(hm:X.mg "isinstance"=Y)(M:G[j]?=J c)(hc:X.mg c=Y)(hv:bootBuiltins c=J (.type l))(IC:Cw X.K X.mg (.type l) S z)(ha:ME X a m)(L:starEach [a,.Name c q] X.env=(T,eval a X.env)::starEach [.Name c q] X.env:=by rfl)(E:starEach [.Name c q] X.env=[(T,eval (.Name c q) X.env)]:=by rfl)(C:(backTo y (starEach [.Name c q] X.env)).any (·.1)=T:=by rfl):
  ME X (.Call (.Name "isinstance" p) [a,.Name c q] [] y) (DF (cL S z) m):=by
 have R:=g.dbg _ (se _ (aP P));have d:=g.dbg c (se _ (aP M));refine PE.imp (iq (wS IC (v:=.ty l) λu r=>(show u=Value.type l from r)) (g.gl _ (aP P)) hm PyProof.Rows.Boot.«isinstance» (c8 ha (c8 (xk (v:=.ty l) (u:=.type l) (g.gl c (aP M)) hc hv rfl d.2.2 d.1) iX E) L) R.2.2 R.1 L C) λZ H Q ⟨U,B,h,rs,rh,q⟩=>?_;exact⟨U,B,h,rs,rh,Ful.bind q λU1 H1 x x' h1 _ l1 F rx q1=>⟨x',rfl,U1,h1,x,F,rx,q1.zero⟩⟩
end
def fj{K:hW}{D:Addr}(h:PySem.W.kitOne K (.type "NoneType") (.ref D)=J T):∀t∈["NoneType","bool","int","str","tuple","list","dict"],PySem.W.kitOne K (.type t) (.ref D)=J T:=by
 have j:((PySem.W.clsIn K D).isSome&&PySem.W.typeIn K (.ref D)==J (.type "type"))=I:=by
  cases z:((PySem.W.clsIn K D).isSome&&PySem.W.typeIn K (.ref D)==J (.type "type")) with
  |true=>rfl
  |false =>
   have e:PySem.W.kitOne K (.type "NoneType") (.ref D)=PySem.W.kitCls K (.type "NoneType") (.ref D):=rfl;rw[e]at h;unfold PySem.W.kitCls at h
   simp_all
 have i:∀t,PySem.W.kitOne K (.type t) (.ref D)=(if((PySem.W.clsIn K D).isSome&&PySem.W.typeIn K (.ref D)==J (.type "type"))=I then PySem.W.subIn K (.type t) (.ref D)else Y):=λt=>rfl;intro t ht;rw[i,eT j];simp only[ki,t_,or_false]at ht;rcases ht with rfl|rfl|rfl|rfl|rfl|rfl|rfl<;>rfl
def Nj:∀(K:hW),∀t∈["NoneType","bool","int","str","tuple","list","dict"],PySem.W.kitOne K (.type t) (.type "ValueError")=J T:=by intro K t ht;simp only[ki,t_,or_false]at ht;rcases ht with rfl|rfl|rfl|rfl|rfl|rfl|rfl<;>rfl
def yz{K:hW}{C:Addr}{b:Value}{r:Bool}(h:PySem.W.mroIn K C b=J r):∃i,PySem.W.clsIn K C=J i:=by
 unfold PySem.W.mroIn at h
 cases z:PySem.W.clsIn K C with
 |none=>rw[z]at h;cases h
 |some i=>exact⟨i,rfl⟩
def dA{K:hW}{mg:CC}{i:Value}{l j:VL}(ty:∀t∈["NoneType","bool","int","str","tuple","list","dict"],PySem.W.kitOne K (.type t) i=J T)(ex:∀x∈l,∃C,mg x=J (.ref C)/\yT K C/\PySem.W.kitOne K (.ref C) i=J (j.contains x)):Cw K mg i l j :=
 ⟨ty,λx u=>let⟨C,a,b,c⟩:=ex x u;⟨C,a,b,yz b.mo,c⟩⟩
def dy{p:Str->Prop}:∀x∈([]:VL),p x:=λ_ h=>nomatch h
def cr{p:Str->Prop}{a:Str}{l:VL}(h:p a)(t:∀x∈l,p x):∀x∈a::l,p x:=λx i=>by
 rcases ki.mp i with rfl|z
 .exact h
 .exact t x z
section
variable{X:Cx}{N W G:VL}{k:Nat}
def Fb(g:Good X N W G k){a:Expr}{m:Mx PV}{c:Str}{B u:VL}{i j:Nat}{p q l:Pos}(H:G[i]?=J "isinstance")(L:X.mg "isinstance"=Y)(E:G[j]?=J c)(F:∃D,X.mg c=J (.ref D)/\Cw X.K X.mg (.ref D) B u)(P:ME X a m)(C:starEach [a,.Name c q] X.env=(T,eval a X.env)::starEach [.Name c q] X.env:=by rfl)(z:starEach [.Name c q] X.env=[(T,eval (.Name c q) X.env)]:=by rfl)(y:(backTo l (starEach [.Name c q] X.env)).any (·.1)=T:=by rfl):
  ME X (.Call (.Name "isinstance" p) [a,.Name c q] [] l) (DF (cL B u) m):=let⟨_,h,M⟩:=F;E_ g H L E h M P C z y
end
def Jw(l:X.env.scope=sc)(B:scope.kind=.function)(F:∀y∈scope.names,y.2=.cell->scope.names.lookup y.1=J .cell)(z:∀y∈scope.names,y.2=.local->scope.names.lookup y.1=J .local)(L:∀x∈j,scope.names.lookup x=J .local\/scope.names.lookup x=J .cell)(E:∀x∈frees,scope.names.lookup x=J .free)(G:∀y∈scope.names,y.2=.free->y.1∈frees)(C:fm.map (λi=>N[i]?)=frees.map J)(u:∀x∈frees,sc.names.lookup x=J .cell):Cv X N scope j frees fm :=
 ⟨B,F,z,L,E,G,C,λx H=>by rw[<-l]at u;exact u x H⟩
section
variable{Z:n7}{h:MH}
@[simp]theorem Nk{nv:Nat}{fm:VN}{mi:Mx MIt}{gt:Mg}{mt:Mx Bool}{me:Mx PV}:gh nv fm mi gt mt me Z h =
 (mi Z h).bind λit h1=>(Do it h1.length gt mt me it.xs (DY nv fm Z) (h1++[.lst []])).bind λ_ h3=>.ok (.loc h1.length) h3:=rfl
def Nl{o:MO}{g:MH}:(h++o::g)[h.length]?=J o:=by simp
end
def Jx(f:Nat->UZ->MH->VW)(m:Mx PV)(u:Mx (UZ)):Mx PV:=λZ h=>(m Z h).bind λo i=>match o with
 |.loc n=>(match i[n]? with
  |some (.lst _)=>(u Z i).bind λj l=>(f n j l).ne
  |_=>.bad)
 |_=>.bad
def oC(n:Nat)(i:UZ)(h:MH):VW:=match i,h[n]? with
 |[v],J (.lst xs)=>if xs.length<sizeLine then .ok .non (h.set n (.lst (xs++[v])))else .bad
 |_,_=>.bad
section
variable{X:Cx}{N W G:VL}{k:Nat}
def Qq(X:Cx)(f:Nat->UZ->MH->VW):V->List V->Hp->VK->Prop:=λx i H Q=>∃U h n a ps,x=.ref a/\U[n]?=J a/\RH X.K X.mg U H h/\RPs X.K U H ps i/\jR X (RV' X) U H (f n ps h) Q
def Ao:DR X "list.append" (Qq X oC):=by
 intro z s Z H x S v P Q i R B ⟨U,h,n,a,ps,e,y,u,rp,q⟩;subst e;obtain⟨o,M,E⟩:=u.obj y;unfold oC at q
 cases rp with
 |nil=>exact q.elim
 |cons r1 F =>
  cases F with
  |cons _ _=>exact q.elim
  |nil =>
   rw[M]at q
   cases o with
   |lst xs =>
    dsimp only at q;by_cases hl:xs.length<sizeLine
    .rw[eT hl]at q;obtain⟨ys,L,l⟩:=E;obtain⟨j,C⟩:=u.put y (o:=.lst (xs++[_])) ⟨_,rfl,l.append (.cons r1 .nil)⟩;exact tO z s Z H _ _ v P Q i R B ⟨a,ys,_,rfl,rfl,L,by rw[<-l.length];exact hl,q U _ .non C j .non⟩
    .rw[hF hl]at q;exact q.elim
   |_=>exact q.elim
variable{o e:Expr}{es:VV}{name:Str}{apos cpos:Pos}{id:String}{f:Nat->UZ->MH->VW}{m:Mx PV}{ma:Mx (UZ)}
def Nm{C:TA}(z:∀Z H Q,tM X (RVs' X) ma Z H Q->C Z H Q){Z:L2.St}{H:Hp}{Q:VK}(tm:tM X (RV' X) (Jx f m ma) Z H Q):tM X (RV' X) m Z H (λx u=>RC X.K "list" x u/\C Z u λxs E=>Qq X f x xs E Q):=by
 obtain⟨U,j,h,L,rh,q⟩:=tm;refine⟨U,j,h,L,rh,?_⟩;refine Ful.bind q λU1 u x x' h1 _ R l rx i=>?_
 cases rx with
 |@loc n a F =>
  obtain⟨ob,eo,S⟩:=l.obj F;dsimp only at i;rw[eo]at i
  cases ob with
  |lst xs =>
   obtain⟨ys,ey,ry⟩:=S;refine⟨.inl ⟨rfl,ys,SqL.of ey⟩,z Z u _ ⟨U1,j,h1,L.le R,l,?_⟩⟩;exact Ful.bind i λU2 E vs aa M _ l2 B y P=>⟨U2,M,n,a,vs,rfl,l2.get F,B,y,P.zero⟩
  |_=>exact i.elim
 |_=>exact i.elim
def Nq(slot:Slot "list" name id)(y:typeOf (.builtin id)=pure (.type "method_descriptor"))(E:DR X id (Qq X f))(B:ME X o m)(F:MA X (e::es) ma)(l:attributeBase o name X.env (eval o X.env)=eval o X.env:=by rfl)(u:((backTo cpos (starEach (e::es) X.env)).all (λx=>!x.1)&&(backToKw cpos (keywordEach [] X.env)).all (λx=>x.1.isSome)
   && decide ((e::es).length+([]:List Keyword).length+(if([]:List Keyword).isEmpty then 0 else 1)<30))=I:=by rfl)(j:(apos.endLine==cpos.line)=I:=by rfl)(C:starEach (e::es) X.env=(T,eval e X.env)::starEach es X.env:=by rfl)(i:(backTo cpos (starEach es X.env)).any (·.1)=T:=by rfl):
  ME X (.Call (.Attribute o name apos) (e::es) [] cpos) (Jx f m ma) :=
 PE.imp (G3 PySem.F.plainAttrs_list slot y E B F l u j C i) λZ H Q q=>Nm (λ_ _ _ z=>z) q
@[simp]theorem R6:Jx f m ma Z h=(m Z h).bind λo h1=>match o with
 |.loc n=>(match h1[n]? with
  |some (.lst _)=>(ma Z h1).bind λvs h2=>(f n vs h2).ne
  |_=>.bad)
 |_=>.bad:=rfl
end
def dB(h:MH):PV->Option (UZ)
 |.tup xs=>J xs
 |.frl xs=>J xs
 |.loc n=>(match h[n]? with
  |some (.lst xs)=>J xs
  |_=>Y)
 |_=>Y
section
variable{X:Cx}{N W G:VL}{k:Nat}
def o4(y:RH X.K X.mg U H h)(C:RP X.K U H x x')(e:dB h x=J xs):∃a ys,x'=.ref a/\(SqL X.K H a ys\/SqT X.K H a ys)/\RPs X.K U H xs ys:=by
 cases C with
 |tup s r=>cases e;exact⟨_,_,rfl,.inr s,r⟩
 |frl s r=>cases e;exact⟨_,_,rfl,.inl s.sq,r⟩
 |@loc n a B =>
  obtain⟨o,z,j⟩:=y.obj B;simp only[dB,z]at e
  cases o with
  |lst ys =>
   cases e;obtain⟨l,i,u⟩:=j;exact⟨a,l,rfl,.inl (SqL.of i),u⟩
  |_=>cases e
 |_=>cases e
def qC(f g:PV->PV->MH->VW)(a b c:Mx PV):Mx PV:=λZ h=>(a Z h).bind λx j=>(b Z j).bind λy l=>(f x y l).ne.bind λz i=>match z with
 |.bl t=>if t=I then(c Z i).bind λw u=>(g y w u).ne else .ok (.bl T) i
 |_=>.bad
variable{a b c:Expr}{ma mb mc:Mx PV}{f g':PV->PV->MH->VW}{op op':CmpOp}{pos:Pos}
def AM{Z:L2.St}{H:Hp}{Q:VK}(q:tM X (RV' X) (qC f g' ma mb mc) Z H Q):ze (rJ X f) (rJ X g') (tM X (RV' X) ma) (tM X (RV' X) mb) (tM X (RV' X) mc) Z H Q:=by
 obtain⟨U,i,h,M,rh,q⟩:=q;refine⟨U,i,h,M,rh,Ful.bind q λU1 H1 x x' h1 _ S L rx q1=>?_⟩;refine⟨U1,i,h1,M.le S,L,Ful.bind q1 λU2 H2 y y' P _ l2 E ry q2=>?_⟩;refine⟨U2,P,x,y,E,rx.le l2,ry,?_⟩;have C:Ful X (RV' X) i U2 H2 (f x y P).ne (λz l=>∃k,z=.bl k/\(if k=I then tM X (RV' X) mc Z l λw' H4=>rJ X g' y' w' H4 Q else Q (.bl T) l)):=Ful.bind q2 λR l z z' h3 _ l3 j rz F=>by
  cases rz with
  |bl t =>
   refine⟨t,rfl,?_⟩
   cases t with
   |true =>
    exact⟨R,i,h3,M.le (S.trans (l2.trans l3)),j,Ful.bind F λU4 H4 w w' h4 _ l4 u B q4=>⟨U4,h4,y,w,u,(ry.le l3).le l4,B,q4.zero⟩⟩
   |false =>
    exact F R l _ (Le.refl _ _) j (.bl _)
  |_=>exact F.elim
 exact C.zero
def B0(l:Cp X (compareOp op) f)(i:Cp X (compareOp op') g')(z:ME X a ma)(y:ME X b mb)(j:ME X c mc)(u:lastMarks [op,op'] [b,c]=T:=by with_unfolding_all rfl):ME X (.Compare a [op,op'] [b,c] pos) (qC f g' ma mb mc) :=
 PE.imp (By l i z y j u) λ_ _ _ q=>AM q
@[simp]theorem LI:qC f g' ma mb mc Z h=(ma Z h).bind λx h1=>(mb Z h1).bind λy h2=>(f x y h2).ne.bind λz h3=>match z with
 |.bl t=>if t=I then(mc Z h3).bind λw h4=>(g' y w h4).ne else .ok (.bl T) h3
 |_=>.bad:=rfl
def Dp(xs:UZ)(h:MH):VW:=match xs with
 |[x]=>(match dB h x with
  |some ys=>vr ys h
  |none=>.bad)
 |_=>.bad
def CP(xs:UZ)(h:MH):VW:=match xs with
 |[x]=>(match dB h x with
  |some ys=>.ok (.tup ys) h
  |none=>.bad)
 |_=>.bad
def Fc:dL X (.type "list") Dp:=by
 intro C s Z H xs L Q l r ⟨U,h,ps,z,rp,q⟩
 cases rp with
 |nil=>exact q.elim
 |cons r1 F =>
  cases F with
  |cons _ _=>exact q.elim
  |nil =>
   rename_i x y
   unfold Dp at q
   cases u:dB h x with
   |none=>simp only[u]at q;exact q.elim
   |some ys =>
    simp only[u]at q;obtain⟨a,E,rfl,j,i⟩:=o4 z r1 u;obtain⟨_,B⟩:=oz z i q;exact vc C s Z H _ L Q l r ⟨a,E,rfl,j,B⟩
def Bn:dL X (.type "tuple") CP:=by
 intro F s Z H xs M Q j r ⟨U,h,ps,C,rp,q⟩
 cases rp with
 |nil=>exact q.elim
 |cons r1 R =>
  cases R with
  |cons _ _=>exact q.elim
  |nil =>
   rename_i x y
   unfold CP at q
   cases E:dB h x with
   |none=>simp only[E]at q;exact q.elim
   |some ys =>
    simp only[E]at q;obtain⟨a,z,rfl,B,i⟩:=o4 C r1 E;rcases B with u|u
    .refine nr F s Z H _ M Q j r ⟨a,z,rfl,.inl ⟨u,λl hl=>?_⟩⟩;obtain⟨P,L⟩:=C.tup hl z;exact q U _ _ L P (.tup (SqT.of ba) (i.le L))
    .exact nr F s Z H _ M Q j r ⟨a,z,rfl,.inr ⟨u,q U H _ (Le.refl _ _) C (.tup u i)⟩⟩
def ie(xs:UZ)(lo i:VU):UZ:=(xs.drop (HT.l_ xs.length 0 lo)).take (HT.l_ xs.length xs.length i-HT.l_ xs.length 0 lo)
def Fd(x:PV)(lo i:VU)(h:MH):VW:=match x with
 |.tup xs=>if HT.l_ xs.length 0 lo=0/\HT.l_ xs.length xs.length i=xs.length then .bad else .ok (.tup (ie xs lo i)) h
 |.frl xs=>.ok (.loc h.length) (h++[.lst (ie xs lo i)])
 |.loc n=>(match h[n]? with
  |some (.lst xs)=>.ok (.loc h.length) (h++[.lst (ie xs lo i)])
  |_=>.bad)
 |_=>.bad
def TX(X:Cx)(f:PV->VU->VU->MH->VW):V->VU->VU->Hp->VK->Prop:=λi lo j H Q=>∃U h x,RH X.K X.mg U H h/\RP X.K U H x i/\jR X (RV' X) U H (f x lo j h) Q
def sH{K:hW}{U:VQ}{H:Hp}{xs:UZ}{ys:List V}(r:RPs K U H xs ys)(lo i:VU):RPs K U H (ie xs lo i) (pV ys lo i):=by unfold ie pV;rw[r.length];exact(r.drop _).take _
def He:My X (TX X Fd):=by
 intro C s Z H x' v M vu lo i F Q j S P E R ⟨U,h,x,u,L,q⟩
 cases L with
 |tup s1 r1 =>
  unfold Fd at q;dsimp only at q
  rename_i xs a ys
  by_cases z:HT.l_ xs.length 0 lo=0/\HT.l_ xs.length xs.length i=xs.length
  .rw[eT z]at q;exact q.elim
  .rw[hF z]at q;refine Iz C s Z H _ v M vu lo i F Q j S P E R ⟨a,ys,rfl,s1,by rw[<-r1.length];exact z,λp B=>?_⟩;obtain⟨y,l⟩:=u.tup B (pV ys lo i);exact q U _ _ l y (.tup (SqT.of ba) ((sH r1 lo i).le l))
 |frl s1 r1 =>
  rename_i xs a ys
  refine xD C s Z H _ v M vu lo i F Q j S P E R ⟨a,ys,rfl,s1.sq,λp B=>?_⟩;obtain⟨y,l⟩:=u.new B (o:=.lst (ie xs lo i)) ⟨_,rfl,sH r1 lo i⟩;exact q _ _ _ l y (.loc (by rw[<-u.len];simp))
 |@loc n a en =>
  obtain⟨o,eo,ro⟩:=u.obj en;unfold Fd at q;dsimp only at q;rw[eo]at q
  cases o with
  |lst xs =>
   obtain⟨ys,ey,ry⟩:=ro;refine xD C s Z H _ v M vu lo i F Q j S P E R ⟨a,ys,rfl,SqL.of ey,λp B=>?_⟩;obtain⟨y,l⟩:=u.new B (o:=.lst (ie xs lo i)) ⟨_,rfl,sH ry lo i⟩;exact q _ _ _ l y (.loc (by rw[<-u.len];simp))
  |_=>exact q.elim
 |_=>exact q.elim
def MO'(X:Cx)(e:Option Expr)(m:Mx (VU)):Prop:=PO X e (tM X MN m)
def TY:Mx (VU):=λ_ h=>.ok Y h
def TZ(m:Mx PV):Mx (VU):=λZ h=>(m Z h).bind λv j=>match v with
 |.int i=>.ok (J i) j
 |_=>.bad
def Fe:MO' X Y TY:=λj s Z H Q i ⟨U,l,h,y,u,q⟩=>EH j s Z H Q i (q U H Y (Le.refl _ _) u rfl)
def Ff(h:ME X e m):MO' X (J e) (TZ m):=λB s Z H Q l ⟨U,j,E,M,F,q⟩=>EJ h B s Z H Q l ⟨U,j,E,M,F,Ful.bind q λL z v P S _ R u C y=>by
 cases C with
 |int i=>exact⟨i,rfl,y L z (J i) (Le.refl _ _) u rfl⟩
 |_=>exact y.elim⟩
def T0(m:Mx PV)(l z:Mx (VU)):Mx PV:=λZ h=>(m Z h).bind λx j=>(l Z j).bind λlo u=>(z Z u).bind λy i=>(Fd x lo y i).ne
def Nr{e:Expr}{lo j:Option Expr}{m:Mx PV}{F E:Mx (VU)}{p2:Pos}(he:ME X e m)(hl:MO' X lo F)(hu:MO' X j E):ME X (.Subscript e (.Slice lo j Y p2) pos) (T0 m F E) :=
 PE.imp (vS He he hl hu) λZ H Q ⟨U,i,h,z,rh,q⟩=>⟨U,i,h,z,rh,Ful.bind q λU1 H1 x x' h1 _ B u rx L=>⟨U1,i,h1,z.le B,u,Ful.bind L λU2 H2 lo ab M _ C l el P=>by
  subst el
  exact⟨U2,i,M,z.le (B.trans C),l,Ful.bind P λS H3 j aa h3 _ l3 y R q3=>by
   subst R
   exact⟨S,h3,x,y,(rx.le C).le l3,q3.zero⟩⟩⟩⟩
end
section
variable{X:Cx}{N W G:VL}{k:Nat}
def Cj{A:Around}{E:VX}{L:VS}{Z:L2.St}{H:Hp}{s:Shared}{a:Addr}{ys:List V}{Q:VX}(F:A.handled=Y)(y:Inv X L Z H s)(u:SqL X.K H a ys\/SqT X.K H a ys)(h:∀(j:VR)(B:Heap)(It:Addr)(St:Nat->Heap->Prop),aV ys j->Walks X.prog X.w A It [It,a] [It] j.toArray.size (λi v=>j.toArray[i]?=J v) St->St 0 B->(∀b∈[It,a],b<B.objs.size)->(∀b o,s.heap.get? b=J o->B.get? b=J o)->s.heap.objs.size=It->Q (.ref It) { s with heap:=B}):
  wpAny (model X.prog X.w) A (pyIter (.ref a)) Q E s:=by
 have sz:∀(o:Obj),a<s.heap.objs.size->∀b∈[s.heap.objs.size,a],b<(s.heap.push o).objs.size:=λo l b z=>by
  rw[Ly];rcases ki.mp z with rfl|z
  .exact Q0 _
  .rcases ki.mp z with rfl|z
   .exact Nat.lt_succ_of_lt l
   .cases z
 rcases u with u|u
 .obtain⟨j,C,M,_⟩:=y.list u;have hl:=M.isList;have l:a<s.heap.objs.size:=by obtain⟨_,e,_⟩:=hl;exact oy e
  exact wpAny_pyIter_list hl (h j _ _ _ C (Walks.list F _ a (yB l) j.toArray) ⟨⟨_,CL _ rfl,rfl,rfl⟩,hl.push _⟩ (sz _ l) (λb o e=>r_ _ e) rfl)
 .obtain⟨j,C,hl,_⟩:=y.tuple u;have l:a<s.heap.objs.size:=by obtain⟨_,e,_⟩:=hl;exact oy e
  exact wpAny_pyIter_tuple hl (h j _ _ _ C (Walks.tuple F _ a (yB l) j.toArray) ⟨⟨_,CL _ rfl,rfl,rfl⟩,hl.push _⟩ (sz _ l) (λb o e=>r_ _ e) rfl)
def Nt{s:Shared}{i j:Heap}{It:Addr}(l:∀b o,s.heap.get? b=J o->i.get? b=J o)(e:s.heap.objs.size=It)(y:∀b o,b∉[It]->i.get? b=J o->j.get? b=J o):∀b o,s.heap.get? b=J o->j.get? b=J o:=λb o q=>by
 refine y b o (λu=>?_) (l b o q)
 have:b=It:=by simpa using u
 exact absurd (oy q) (by rw[this,e];exact De _)
def qx:UZ->Option (List Bool)
 |[]=>J []
 |.bl b::r=>(qx r).map (b::·)
 |_=>Y
def Fg{K:hW}{U:VQ}{H:Hp}:∀{xs:UZ}{ys:List V}{bs:List Bool}{i:VR},RPs K U H xs ys->aV ys i->qx xs=J bs->i=bs.map Value.bool:=by
 intro xs
 induction xs with
 |nil=>intro ys bs i r v e;cases r;cases v;cases e;rfl
 |cons x xs j =>
  intro ys bs i r v e
  cases r with
  |cons r1 r2 =>
   cases v with
   |cons u z =>
    cases r1 with
    |bl b =>
     simp only[qx,Db]at e;obtain⟨l,y,rfl⟩:=e;rw[j r2 z y,show _=Value.bool b from u];rfl
    |_=>cases e
def v8(bs:List Bool):TruthOf X.prog X.w A (λi v=>(bs.map Value.bool).toArray[i]?=J v) (λi=>bs.getD i T):=λi v s Q E j l=>by
 have:v=.bool (bs.getD i T):=by
  have j:(List.map Value.bool bs).toArray[i]?=J v:=j;rw[List.getElem?_toArray,CG,Db]at j;obtain⟨b,e,rfl⟩:=j
  simp_all
 subst this;exact wpAny_truthy_bool l
def zL(bs:List Bool):(List.range bs.length).all (λi=>bs.getD i T)=bs.all id:=by
 induction bs with
 |nil=>rfl
 |cons b r j =>
  rw[n_,TB,List.all_cons,PP,List.all_cons,<-j];rfl
def Fh(xs:UZ)(h:MH):VW:=match xs with
 |[x]=>(match (dB h x).bind qx with
  |some bs=>.ok (.bl (bs.all id)) h
  |none=>.bad)
 |_=>.bad
def Jy(g:Good X N W G k):dL X (.builtin "all") Fh:=by
 intro NN s Z H xs us Q i r ⟨U,h,ps,C,rp,q⟩
 cases rp with
 |nil=>exact q.elim
 |cons r1 P =>
  cases P with
  |cons _ _=>exact q.elim
  |nil =>
   rename_i x y
   unfold Fh at q
   cases B:(dB h x).bind qx with
   |none=>simp only[B]at q;exact q.elim
   |some bs =>
    simp only[B]at q;obtain⟨ys,e1,e2⟩:=Lv.mp B;obtain⟨a,zs,rfl,u,l⟩:=o4 C r1 e1
    cases r with
    |cons F S =>
     cases S;cases F;refine call_all_walk (Cj g.room.hd i u λz h2 It St L M st fp kp j=>?_);have E:=Fg l L e2;refine⟨It,_,_,_,_,St,_,rfl,M,st,by rw[E];exact v8 bs,λh' tk R=>?_⟩;have el:z.toArray.size=bs.length:=by rw[E];simp
     rw[el,zL];exact⟨.bl _,H,i.kept (Nt kp j R),rfl,q U H _ (Le.refl _ _) C (.bl _)⟩
end
def RH.loose{K:hW}{mg:CC}{U:VQ}{H:Hp}{h:MH}(r:RH K mg U H h){p:Addr}(y:H p=Y)(j:HO):RH K mg U (upd H p j) h/\Le U H U (upd H p j):=by
 have i:∀n a,U[n]?=J a->a≠p:=λn a e z=>by
  obtain⟨C,_,q⟩:=r.obj e;rw[z,y]at q;exact q.some rfl
 have l:Le U H U (upd H p j):=⟨⟨[],by simp⟩,λa xs e=>by rw[aJ (bP e y)];exact e,λa B u e=>by rw[aJ (bP e y)];exact e⟩;exact⟨⟨r.len,r.nd,λn a o e1 e2=>by rw[aJ (i n a e1)];exact(r.at' n a o e1 e2).le l⟩,l⟩
section
variable{X:Cx}{N W G:VL}{k:Nat}
def Jz(g:Good X N W G k){x:Str}{j:Nat}{i:Int}{l:Pos}(y:G[j]?=J x)(u:∃t,X.mg x=J (.int i t)):ME X (.Name x l) (mC (.int i)):=by obtain⟨t,u⟩:=u;have d:=g.dbg x (se _ (aP y));exact PE.imp (ly (v:=.int i) (g.gl x (aP y)) u ⟨t,rfl⟩ d.1) λZ H Q ⟨U,z,h,C,B,q⟩=>q U H _ (Le.refl _ _) B (.int _)
def JA(g:Good X N W G k){x:Str}{j:Nat}{i:Str}{l:Pos}(y:G[j]?=J x)(u:∃t,X.mg x=J (.str i t)):ME X (.Name x l) (mC (.str i)):=by obtain⟨t,u⟩:=u;have d:=g.dbg x (se _ (aP y));exact PE.imp (ly (v:=.str i) (g.gl x (aP y)) u ⟨t,rfl⟩ d.1) λZ H Q ⟨U,z,h,C,B,q⟩=>q U H _ (Le.refl _ _) B (.str _)
end
end MM
namespace SetT
open PySem.SetTable
def base(M:Nat)(h:Int):Nat->Nat×Nat
 |0=>(bits h % (M+1),bits h)
 |b+1=>leap M (base M h b).1 (base M h b).2
end SetT
namespace SortT
open PyProof.Rows
end SortT
namespace SortT
open PyProof.Rows SetT PySem.W
section
variable{prog:Program}{w:World}{A:Around}{E:VX}{s:Shared}
def qz(l:h.get? a=J (seqObj "list" vs.toArray n))(i:Array Value):∃c,(sortedHeap h a vs i).get? a=J (seqObj "list" i c):=by obtain⟨e1,j⟩:∃e1,(h.update a (Obj.mapSeq λ_=>(#[]:Array Value))).get? a=J (seqObj "list" #[] e1):=⟨_,get?_update_seq l λ_=>#[]⟩;exact⟨_,get?_update_seq (r_ _ (r_ _ j)) λ_=>i⟩
def pE(j:b≠a)(l:h.get? b=J o)(i:Array Value):(sortedHeap h a vs i).get? b=J o:=by unfold sortedHeap;rw[Lw _ _ _ _ j];exact r_ _ (r_ _ ((Lw _ _ _ _ j).trans l))
end
end SortT
namespace MM
open PySem.Spec PyProof.Rows L2 SetT SortT
def Hf{K:hW}{U:VQ}{H:Hp}:∀{k:VM}{ys:List V},RPs K U H (k.map PV.int) ys->ys=k.map V.int
 |[],ys,h=>by cases h;rfl
 |i::k,ys,h=>by
  cases h with
  |cons r t =>
   cases r;rw[Hf t];rfl
section
variable{X:Cx}{N W G:VL}{k:Nat}
def jB(h:MH):PV->Option (UZ)
 |.frl xs=>J xs
 |.loc n=>(match h[n]? with
  |some (.lst xs)=>J xs
  |_=>Y)
 |_=>Y
def Fi{U:VQ}{H:Hp}{h:MH}{x:PV}{y:V}{xs:UZ}{K:hW}{mg:CC}(z:RH K mg U H h)(r:RP K U H x y)(e:jB h x=J xs):∃a i,y=.ref a/\SqL K H a i/\RPs K U H xs i:=by
 cases r with
 |frl s r=>cases e;exact⟨_,_,rfl,s.sq,r⟩
 |@loc n a C =>
  obtain⟨o,B,j⟩:=z.obj C;unfold jB at e;dsimp only at e;rw[B]at e
  cases o with
  |lst i =>
   cases e;obtain⟨ys,l,u⟩:=j;exact⟨a,ys,rfl,SqL.of l,u⟩
  |_=>cases e
 |_=>cases e
end
end MM
namespace SeqT
abbrev JB(tp:Bool):String:=if tp then "tuple_iterator" else "list_iterator"
abbrev T1(tp:Bool):String:=if tp then "tuple" else "list"
def SqI(l:Bool)(h:Heap)(j a:Addr)(i:Nat):Prop:=∃o,h.get? j=J o/\o.cls=.type (JB l)/\o.data=.fields #[.ref a,.int i 0]
def SqO(i:Bool)(h:Heap)(a:Addr)(xs:Array Value):Prop:=∃o,h.get? a=J o/\o.cls=.type (T1 i)/\∃n,o.data=.seq xs n
def SqI.at'(x:SqI tp h it a i)(k:∀o,h.get? it=J o->h'.get? it=J o):SqI tp h' it a i:=let⟨o,e,r⟩:=x;⟨o,k o e,r⟩
def SqO.at'(x:SqO tp h a xs)(k:∀o,h.get? a=J o->h'.get? a=J o):SqO tp h' a xs:=let⟨o,e,r⟩:=x;⟨o,k o e,r⟩
def SqI.lt(x:SqI tp h it a i):it<h.objs.size:=let⟨_,e,_⟩:=x;oy e
section
variable{prog:Program}{w:World}{A:Around}{E:VX}{s:Shared}
def zC(B:SqI tp s.heap it a i)(C:SqO tp s.heap a xs)(G:xs[i]?=J x)(H:∀u,SqI tp u it a (i+1)->Heap.SameBut it s.heap u->Q x { s with heap:=u}):wpAny (model prog w) A (Builtin.SmallTypes.nextOf (.ref it)) Q E s:=by
 cases tp with
 |false=>exact wpAny_nextOf_list_item (B) (C) G H
 |true =>
  obtain⟨o,e,y,hd⟩:=id B;obtain⟨M,j,_,L,l⟩:=C;have z:s.TypeIs (.ref it) "tuple_iterator":=⟨o,e,y⟩;refine ir (wpAny_callSpecial?_slot z F.slot_tuple_iterator_next (wpAny_call_entry F.slot_tuple_iterator_next z F.entry_tuple_iterator_next ?_ (F.args_tuple_iterator_next_1 _)));show wpAny _ _ (field (.ref it) 0 >>= _) _ _ s;refine ir (wpAny_field e hd rfl ?_);refine ir (wpAny_field e hd rfl ?_);refine ir (wpAny_seqItems j l ?_);simp only[Lx,G];refine ir (wpAny_setField e hd (by simp) (ph ⟨x,rfl,ph (H _ ?_ (Heap.SameBut.update ..))⟩));exact⟨_,Pu _ e (Obj.isFreed_of_fields (Obj.data_mapFields hd _)),(Obj.cls_mapFields ..).trans y,by rw[Obj.data_mapFields hd];simp[rawInt]⟩
def vF(z:A.handled=Y)(B:SqI tp s.heap it a i)(C:SqO tp s.heap a xs)(G:xs[i]?=Y)(H:∀u e,Heap.ExtBut it s.heap u->(∃o,u.get? e=J o/\o.cls=.type "StopIteration")->E (.ref e) { s with heap:=u}):wpAny (model prog w) A (Builtin.SmallTypes.nextOf (.ref it)) Q E s:=by
 cases tp with
 |false=>exact wpAny_nextOf_list_end z (B) (C) G H
 |true =>
  obtain⟨o,e,L,hd⟩:=id B;obtain⟨P,j,_,M,l⟩:=C;have y:s.TypeIs (.ref it) "tuple_iterator":=⟨o,e,L⟩;refine ir (wpAny_callSpecial?_slot y F.slot_tuple_iterator_next (wpAny_call_entry F.slot_tuple_iterator_next y F.entry_tuple_iterator_next ?_ (F.args_tuple_iterator_next_1 _)));show wpAny _ _ (field (.ref it) 0 >>= _) _ _ s;refine ir (wpAny_field e hd rfl ?_);refine ir (wpAny_field e hd rfl ?_);refine ir (wpAny_seqItems j l ?_);simp only[Lx,G];refine ir (wpAny_rule (ir (wpAny_setField e hd (by simp) ?_)));refine ir ?_;refine ir (m:=firstArgMember _ _) (wpAny_of_eq (by first | rfl | (simp only)) ?_);refine wpAny_newObj_type ?_ (by size_fits);refine ir (wpAny_handled ?_);rw[show A.in1.handled=Y from z];refine ir (ph (wpAny_throw ?_));exact H _ _ (((Heap.SameBut.update ..).extBut.push _).push _) ⟨_,CL _ rfl,rfl⟩
def rP(i:SqO tp s.heap a xs)(j:Q (.ref s.heap.objs.size) { s with heap:=s.heap.push { cls:=.type (JB tp),data:=.fields #[.ref a,.int 0 0]}}):wpAny (model prog w) A (pyIter (.ref a)) Q E s:=by
 cases tp with
 |false=>exact wpAny_pyIter_list (i) j
 |true=>exact wpAny_pyIter_tuple (i) j
end
def Nu(G:A.handled=Y)(z:Bool)(u a:Addr)(y:a≠u)(xs:Array Value):
  Draws prog w A u [u,a] xs.size (λi v=>xs[i]?=J v) (λi h=>SqI z h u a i/\SqO z h a xs) where
 live:=λ_ _ st=>let⟨o,H,_⟩:=st.1;⟨o,H⟩
 frame:=λ_ _ _ st B=>⟨st.1.at' λo e=>B u (by simp) o e,st.2.at' λo e=>B a (by simp) o e⟩
 item:=λi s Q E M st L=>by
  refine zC st.1 st.2 (x:=xs[i]) (by simp) λC j l=>?_;exact L _ C s.toks (by simp) ⟨j,st.2.at' λo e=>(l.2 a y).trans e⟩ l
 done:=λs Q E st F=>vF G st.1 st.2 (by simp) F
def B8(i:Bool)(a:Addr)(xs:Array Value)(n:Nat)(j:VC)(u:Array (VT)):
  Meets (Builtin.«enumerate.__new__» ⟨[.type "enumerate",.ref a],[]⟩) (λ_ R s=>s.heap.get? a=J { cls:=.type (T1 i),dict:=j,data:=.seq xs n,slots:=u} /\
   R (.ok (.ret (.ref (s.heap.push { cls:=.type (JB i),data:=.fields #[.ref a,.int 0 0]}).objs.size)))
    { s with heap:=(s.heap.push { cls:=.type (JB i),data:=.fields #[.ref a,.int 0 0]}).push { cls:=.type "enumerate",data:=.fields #[.none,.bool T,.ref s.heap.objs.size,rawInt 0,.none,.none]}}) :=
 .of_wp λprog w A R s h=>by
  obtain⟨y,g,d,tk,os⟩:=s;obtain⟨hl,h⟩:=h;have l:=sub_enumerate;have hL:SqO i (Shared.heap ⟨y,g,d,tk,os⟩) a xs:=⟨_,hl,rfl,n,rfl⟩
  wp_walk using AutoSeq1.wpAny_loadPart' hl
  refine wpAny_stack_any λst=>ph ?_;split
  .rename_i c _ _ _ _ _
   cases(c==Value.type "enumerate")
   .wp_walk using AutoSeq1.wpAny_loadPart' hl,rP hL
    exact⟨_,rfl,h⟩
   .wp_walk using AutoSeq1.wpAny_loadPart' hl,rP hL
    exact⟨_,rfl,h⟩
  .wp_walk using AutoSeq1.wpAny_loadPart' hl,rP hL
   exact⟨_,rfl,h⟩
section
variable{prog:Program}{w:World}{A:Around}{E:VX}{s:Shared}
def At(hL:SqO tp s.heap a xs)(h:∀i,IsEnum i (s.heap.objs.size+1) s.heap.objs.size 0 .none->SqI tp i s.heap.objs.size a 0->i.objs.size=s.heap.objs.size+2 ->
   (∀b o,s.heap.get? b=J o->i.get? b=J o)->Q (.ref (s.heap.objs.size+1)) { s with heap:=i}):
  wpAny (model prog w) A (call (.type "enumerate") [.ref a]) Q E s:=by
 obtain⟨⟨c,j,B,z⟩,hl,y,n,hd⟩:=hL;subst y hd;refine callType_new F.called_enumerate (by decide) (F.typeCall_enumerate_1 _) (F.newCall_enumerate_1 _) (λobj=>F.args_object_init_2 obj _) F.entry_enumerate_new (B8 tp a xs n j z) ⟨hl,?_⟩;have l:(s.heap.push { cls:=.type (JB tp),data:=.fields #[.ref a,.int 0 0]}).objs.size=s.heap.objs.size+1:=Ly ..;rw[l]
 have u:IsEnum ((s.heap.push { cls:=.type (JB tp),data:=.fields #[.ref a,.int 0 0]}).push
   { cls:=.type "enumerate",data:=.fields #[.none,.bool T,.ref s.heap.objs.size,rawInt 0,.none,.none]}) (s.heap.objs.size+1) s.heap.objs.size 0 .none:=by
  have:=CL (s.heap.push { cls:=.type (JB tp),data:=.fields #[.ref a,.int 0 0]})
   (o:={ cls:=.type "enumerate",data:=.fields #[.none,.bool T,.ref s.heap.objs.size,rawInt 0,.none,.none]}) rfl
  rw[l]at this;exact this
 exact⟨⟨_,u,rfl⟩,h _ u ⟨_,r_ _ (CL _ rfl),rfl,rfl⟩ (by rw[Ly,l]) λb o x=>r_ _ (r_ _ x)⟩
end
end SeqT
namespace MM
open PySem.Spec PyProof.Rows L2 SeqT
def Hg(i:Bool)(K:hW)(H:Hp)(a:Addr)(ys:List V):Prop:=match i with
 |true=>SqT K H a ys
 |false=>SqL K H a ys
section
variable{X:Cx}{NN:List (Addr × Obj)}{Z:L2.St}{H:Hp}{s:Shared}
def vj(j:Inv X NN Z H s)(h:Hg tp X.K H a ys):∃i:VR,aV ys i/\SqO tp s.heap a i.toArray/\ys.length<=sizeLine:=by
 cases tp with
 |true =>
  obtain⟨i,u,y,l⟩:=j.tuple h;exact⟨i,u,y,l⟩
 |false =>
  obtain⟨i,u,y,l⟩:=j.list h;exact⟨i,u,y.isList,l⟩
def Fj(i:Inv X NN Z H s)(h:Hg tp X.K H a xs)(j:Hg tp X.K H a ys):xs=ys:=by
 cases tp with
 |true=>exact i.tuple_inj h j
 |false=>exact i.list_inj h j
def qP(j:Inv X NN Z H s){B:Heap}{t':Nat}{y:VQ}(hf:∀b∈y,k7 X NN H b)(k:∀b o,b∉y->s.heap.get? b=J o->B.get? b=J o):
  Inv X NN Z H { s with heap:=B,toks:=t'}:=by
 have l:∀b u,H b=J u->b∉y:=λb u e z=>by rw[(hf b z).1]at e;cases e
 refine j.step (g':=s.gens) (d':=s.drawn) (λb P=>?_) (λb o _ _ i e _=>k b o i e) (λb o _ _ i e _=>⟨o.slots,k b o i e⟩) (λ_ _ _ _ n=>n)
  (λb o i e=>⟨o,k b o i e⟩) (λ_ _ e=>e) (λ_ _ _ e=>e) (λb ps e=>⟨#[],by rw[e];simp⟩) (λm L=>?_) (λb u e=>?_) j.bare
 .obtain⟨U,F,S,C,Q,G⟩:=hf b P;exact⟨C,F,Q,G⟩
 .obtain⟨o,R,E,M,r⟩:=L;exact⟨o,R,E,k _ o (λz=>(hf _ z).2.1 rfl) M,r⟩
 .refine (j.hok b u e).stay (λc v i q=>k c v ?_ q) (λ_ q=>q) λ_ _ q=>q;rcases i with z|z
  .rw[z];exact l b u e
  .exact l c _ z
def Fk(j:Inv X NN Z H s){h':Heap}{t':Nat}{ch:VQ}{ys:List V}{its:VR}(hf:∀b∈ch,k7 X NN H b)(F:aV ys its)(L:ys.length<=sizeLine)(E:s.heap.objs.size∉ch)(ht:h'.get? s.heap.objs.size=J { cls:=.type "tuple",data:=.seq its.toArray})(k:∀b o,b∉ch->s.heap.get? b=J o->h'.get? b=J o):
  Inv X NN Z (upd H s.heap.objs.size (.tup ys)) { s with heap:=h',toks:=t'}/\(∀b∈ch,(upd H s.heap.objs.size (.tup ys)) b=Y)/\H s.heap.objs.size=Y:=by
 have C:=j.hok.fresh (mh s.heap.objs.size);have y:∀b∈ch,b≠s.heap.objs.size:=λb i z=>E (by rw[<-z];exact i);have G:Inv X NN Z (upd H s.heap.objs.size (.tup ys)) { s with heap:=s.heap.push { cls:=.type "tuple",data:=.seq its.toArray},toks:=s.toks} :=
  j.laid (λb u q=>r_ _ q) (mh _) ⟨L,its,F,_,CL _ rfl,rfl,⟨_,rfl⟩,rfl⟩
 have l:∀b∈ch,(upd H s.heap.objs.size (.tup ys)) b=Y:=λb i=>by rw[aJ (y b i)];exact(hf b i).1
 refine⟨?_,l,C⟩;refine qP (t':=t') G (λb i=>⟨l b i,(hf b i).2⟩) λb o i e=>?_;by_cases z:b=s.heap.objs.size
 .have B:(s.heap.push { cls:=.type "tuple",data:=.seq its.toArray}).get? s.heap.objs.size=J { cls:=.type "tuple",data:=.seq its.toArray}:=CL _ rfl
  grind
 .have B:=e;rw[Heap.get?_push_ne _ _ _ z]at B;exact k b o i B
end
def UG(K:hW)(j:Bool)(a:Addr):It :=
 ⟨λi H=>∃ys y,Hg j K H a ys/\ys[i]?=J y,λi H x l=>∃p y,H p=Y/\x=.ref p/\l=upd H p (.tup [.int i,y])/\∀ys,Hg j K H a ys->ys[i]?=J y,λi H=>∃ys,Hg j K H a ys/\ys.length<=i⟩
def zp{P:Program}{w:World}{K:hW}{W:VV}{x1:Nat}{a5:Pos}(tp:Bool)(a e l:Addr)(M:e≠l)(a7:a≠e)(ay:a≠l):
  Dx P w K (.Tuple W x1 a5) (UG K tp a) [e,l] e (λi h=>(∃old,IsEnum h e l i old)/\SqI tp h l a i) where
 mem:=by simp
 obj:=λi h st b S=>by
  obtain⟨⟨old,B⟩,F⟩:=st
  have:b=e\/b=l:=by simpa using S
  rcases this with rfl|rfl
  .exact⟨_,B,λv z=>nomatch z⟩
  .obtain⟨o,ho,hc,hd⟩:=F;exact⟨o,ho,λv z=>by rw[hd]at z;cases z⟩
 keep:=λi h h' st k=>let⟨⟨old,B⟩,F⟩:=st;⟨⟨old,k e (by simp) _ B⟩,F.at' λo q=>k l (by simp) o q⟩
 item:=by
  intro X hP hw hK hc i NN s Z H E j hf st hg;subst hP hw hK;obtain⟨⟨old,B⟩,F⟩:=st;obtain⟨ys,y,hq,hy⟩:=hg;obtain⟨C,rv,so,hz⟩:=vj j hq;obtain⟨u,hu,ru⟩:=rv.get hy;have ag:i<C.toArray.size:=by
   have:=(w_.mp hu).1
   simpa using this
  have L:(X.A.in1).handled=Y:=by have:=j.ok.hd hc;simpa using this
  refine wpAny_pyNext_enum_itemD (Nu L tp l a ay C.toArray) B ⟨F,so⟩ ag M (by simp[M,Ne.symm a7]) λx h1 tk hx ac as ab a9 a2=>⟨_,rfl,?_⟩;have ak:x=u:=by
   have:C.toArray[i]?=J u:=by simpa using hu
   rw[this]at hx;exact(Option.some.inj hx).symm
  subst ak;refine wpAny_letOwnedTupleGo_enum (s:={ s with heap:=h1,toks:=tk+1}) ac λh2 ax R=>?_;have G:e<s.heap.objs.size:=oy B;have U:l<s.heap.objs.size:=F.lt;obtain⟨I2,a6,a1⟩:=Fk (t':=tk+1) (h':=h2) j (ch:=[e,l]) (ys:=[.int i,y]) (its:=[.int i tk,x]) hf (.cons ⟨tk,rfl⟩ (.cons ru .nil)) (by rw[sizeLine_eq];show 2<=_;decide)
   (by simp only[ki,t_,or_false,not_or];exact⟨Lz G,Lz U⟩)
   ((R.2 _ (Lz G)).trans ab)
   (λb o S q=>by
    have aa:b≠e:=λz=>S (by simp[z]);have a4:b≠l:=λz=>S (by simp[z])
    exact(R.2 b aa).trans (a2 b o aa a4 q))
  refine⟨.ref s.heap.objs.size,_,I2,rfl,⟨_,y,a1,rfl,rfl,λzs a3=>by rw[Fj j a3 hq];exact hy⟩,⟨⟨x,by simpa using ax⟩,?_⟩,a6⟩;exact as.1.at' λo q=>(R.2 l (Ne.symm M)).trans q
 done:=by
  intro X hP hw hK hc i NN s Z H E j hf st hg;subst hP hw hK;obtain⟨⟨old,B⟩,F⟩:=st;obtain⟨ys,hq,hy⟩:=hg;obtain⟨C,rv,so,hz⟩:=vj j hq;have L:(X.A.in1).handled=Y:=by have:=j.ok.hd hc;simpa using this
  have a8:=rv.length;have hT:s.TypeIs (.ref e) "enumerate":=⟨_,B,rfl⟩;unfold pyNext;refine ir (wpAny_attempt (wpAny_callSpecial?_slot (name:=Str.ofString "__next__") hT PySem.F.slot_enumerate_next (wpAny_call_entry PySem.F.slot_enumerate_next hT PySem.F.entry_enumerate_next ?_ (PySem.F.args_enumerate_next_1 _))));show wpAny _ _ (field (.ref e) 2 >>= _) _ _ _;refine ir (wpAny_field B rfl (x:=.ref l) rfl ?_);refine ir (vF L F so (by simp;ext) λh1 x a0 an=>?_);obtain⟨o,ho,ap⟩:=an;refine ir (wpAny_isInstance (T:="StopIteration") (b:=I) ⟨o,ho,ap⟩ isSubtype_stop ?_);refine ph ⟨rfl,qP (t':=s.toks) j hf λb o S q=>a0 b o (λz=>S (by simp[z])) q⟩
 self:=λA i s Q E st h=>let⟨⟨old,B⟩,_⟩:=st;wpAny_pyIter_enum B h
def iQ(v:PV)(h:MH):Option (Bool×UZ×List (Nat×UZ)):=match v with
 |.loc n=>(match h[n]? with
  |some (.lst xs)=>J (T,xs,[(n,xs)])
  |_=>Y)
 |.frl xs=>J (T,xs,[])
 |.tup xs=>J (I,xs,[])
 |_=>Y
def JC{X:Cx}{U:VQ}{H:Hp}{h:MH}{x:PV}{y:V}{B:Bool}{xs:UZ}{gd:List (Nat×UZ)}(P:RH X.K X.mg U H h)(r:RP X.K U H x y)(e:iQ x h=J (B,xs,gd)):
  ∃a,y=.ref a/\(∃ys,Hg B X.K H a ys)/\∀j i u,Le U H j i->RH X.K X.mg j i u->(∀p∈gd,u[p.1]?=J (.lst p.2))->∃ys,Hg B X.K i a ys/\RPs X.K j i xs ys:=by
 cases r with
 |frl s r=>cases e;exact⟨_,rfl,⟨_,s.sq⟩,λj i u l _ _=>⟨_,(l.sqf s).sq,r.le l⟩⟩
 |tup s r=>cases e;exact⟨_,rfl,⟨_,s⟩,λj i u l _ _=>⟨_,l.sqt s,r.le l⟩⟩
 |@loc n a G =>
  obtain⟨o,Q,L⟩:=P.obj G;unfold iQ at e;dsimp only at e;rw[Q]at e
  cases o with
  |lst R =>
   cases e;obtain⟨ys,M,S⟩:=L;refine⟨a,rfl,⟨ys,SqL.of M⟩,λj i u l E ok=>?_⟩;obtain⟨F,C,z⟩:=E.at' n a _ (l.get G) (ok (n,xs) (by simp));exact⟨F,SqL.of C,z⟩
  |_=>cases e
 |_=>cases e
def kB(xs:UZ):UZ:=xs.zipIdx.map λp=>.tup [.int (p.2:Int),p.1]
def yX{xs:UZ}{i:Nat}{x:PV}(h:xs[i]?=J x):(kB xs)[i]?=J (.tup [.int (i:Int),x]):=by unfold kB;rw[CG,List.getElem?_zipIdx,h];simp
def sT(xs:UZ):(kB xs).length=xs.length:=by simp[kB]
def R7(m:Mx (UZ)):Mx MIt:=λZ h=>(m Z h).bind λj i=>match j with
 |[x]=>(match iQ x i with
  |some (_,xs,gd)=>.ok ⟨kB xs,gd⟩ i
  |none=>.bad)
 |_=>.bad
section
variable{X:Cx}{N W G:VL}{k:Nat}
def Fl(g:Good X N W G k){ak:VV}{x1:Nat}{tp:Pos}{a:Expr}{m:Mx (UZ)}{p ay:Pos}{j:Nat}(hj:G[j]?=J "enumerate")(hm:X.mg "enumerate"=Y)(ha:MA X [a] m)(hs:starEach [a] X.env=[(T,eval a X.env)]:=by rfl):MI X (.Tuple ak x1 tp) (.Call (.Name "enumerate" p) [a] [] ay) (R7 m):=by
 have d:=g.dbg _ (se _ (aP hj));intro NN s Z H R ac ⟨U,an,h,rs,rh,q⟩;refine wpAny_Call_Name_kw (lj ac (g.gl _ (aP hj)) hm PyProof.Rows.Boot.«enumerate» ?_ d.2.2 d.1)
 refine PyProof.Rows.callWith_type1 (kP (ha ay NN s Z H (λvs C=>∃P Q xs,Le U H P C/\RH X.K X.mg P C Q/\RPs X.K P C xs vs/\Ful X (uo X) an P C ((match xs with
   |[x]=>(match iQ x Q with|some (_,xs,gd)=>.ok ⟨kB xs,gd⟩ Q|none=>.bad)
   |_=>.bad:Out MIt)) R) ac ⟨U,an,h,rs,rh,Ful.bind q λP C v v' Q _ l1 M rv L=>⟨P,Q,v,l1,M,rv,L⟩⟩) λus s1 ⟨vs,C,I1,r1,P,Q,xs,l1,M,rv,L⟩=>?_) hs rfl
 cases rv with
 |nil=>exact L.elim
 |@cons y y' ys bm ry t1 =>
  cases t1 with
  |cons _ _=>exact L.elim
  |nil =>
   dsimp only at L
   cases aa:iQ y Q with
   |none=>rw[aa]at L;exact L.elim
   |some z =>
    obtain⟨b,zs,gd⟩:=z;rw[aa]at L;obtain⟨ad,rfl,⟨ws,a3⟩,a1⟩:=JC M ry aa;obtain⟨u,rfl,rx⟩:=fZ r1;cases rx;obtain⟨a8,a7,so,hz⟩:=vj I1 a3;refine At so λh' he hi a6 hk=>?_;refine wpAny_pyIter_enum he ?_;have I2:Inv X NN Z C { s1 with heap:=h',toks:=s1.toks}:=I1.kept hk;obtain⟨oa,a2,a9,_⟩:=id so;have ag:ad<s1.heap.objs.size:=oy a2;have a0:=I1.hok.fresh (mh s1.heap.objs.size);have as:=I1.hok.fresh (GZ s1.heap.objs.size);refine⟨s1.heap.objs.size+1,_,_,_,C,rfl,I2,zp b ad _ s1.heap.objs.size (Lz (Q0 _)) (yB (Nat.lt_succ_of_lt ag)) (yB ag),⟨⟨_,he⟩,hi⟩,λc hc=>?_,?_⟩
    .have:c=s1.heap.objs.size+1\/c=s1.heap.objs.size:=by simpa using hc
     rcases this with rfl|rfl
     .have F:=Inv.fpOk I1 (H':=C) (b:=s1.heap.objs.size+1) (GZ _) as;exact F
     .exact Inv.fpOk I1 (H':=C) (mh _) a0
    .refine L P C _ (Le.refl _ _) M ?_;intro U' H' h2 i l ax ok;obtain⟨S,E,ab⟩:=a1 U' H' h2 l ax ok;refine⟨λB=>?_,λB=>⟨S,E,by rw[<-ab.length];rw[sT]at B;exact B⟩⟩;rw[sT]at B;have hx:zs[i]?=J (zs[i]'B):=C_ B;obtain⟨w',ew,a4⟩:=ab.get hx;refine⟨⟨S,w',E,ew⟩,λx' H3 ⟨pp,y2,hp,e1,e2,ap⟩=>?_⟩;subst e1;subst e2;have ey:y2=w':=by
      have:=ap S E
      rw[ew]at this;exact(Option.some.inj this).symm
     subst ey;obtain⟨a5,l3⟩:=ax.tup hp [.int i,y2];exact⟨U',_,l3,a5,yX hx,.tup (SqT.of ba) (.cons (.int _) (.cons (a4.le l3) .nil))⟩
end
end MM
namespace MM
open PySem.Spec PyProof.Rows L2 SetT SortT
def mz:UZ->Option (VM)
 |[]=>J []
 |.int i::r=>(mz r).map (i::·)
 |_=>Y
def w4:∀{xs:UZ}{k:VM},mz xs=J k->xs=k.map .int
 |[],k,h=>by cases h;rfl
 |x::r,k,h=>by
  cases x with
  |int i =>
   unfold mz at h
   cases hr:mz r with
   |none=>rw[hr]at h;cases h
   |some j =>
    rw[hr]at h;cases h;rw[w4 hr];rfl
  |_=>cases h
end MM
namespace MM
open PySem.Spec PyProof.Rows L2
def xo(i:Nat->n7->MH->Prop):∀(xs:UZ)(j:Nat)(Z:n7)(h:MH),i j Z h->(∀j Z h,i j Z h->it.ok h) ->
  (∀m Z h x,i (j+m) Z h->xs[m]?=J x->∃C E u l,g x Z h=.nx C E/\b C E=.nx u l/\i (j+m+1) u l) ->
  ∃u l,AT it g b xs Z h=.nx u l/\i (j+xs.length) u l
 |[],j,Z,h,B,hok,_=>⟨Z,h,E3 (hok _ _ _ B),B⟩
 |x::r,j,Z,h,B,hok,st=>by
  obtain⟨C,E,H,F,e1,e2,L⟩:=st 0 Z h x B rfl;obtain⟨P,M,e3,G⟩:=xo i r (j+1) H F L hok λm u l y q z=>by
   have:=st (m+1) u l y (by rw[show j+(m+1)=j+1+m by lia];exact q) (by simpa using z)
   rw[show j+(m+1)+1=j+1+m+1 by lia]at this;exact this
  refine⟨P,M,?_,by rw[n_,show j+(r.length+1)=j+1+r.length by lia];exact G⟩;rw[AR (hok _ _ _ B) e1,e2];exact e3
end MM
namespace MM
open PySem.Spec PyProof.Rows L2 SetT SortT
def itR1'(em:m Z h=.ok [.int j] h1)(z:-(2^62)<=j/\j<2^62):dm m Z h=.ok ⟨cq 0 j.toNat,[]⟩ h1:=by simp_all
def R8(em:m Z h=.ok [.int (n:Int)] h1)(j:n<=100000):dm m Z h=.ok ⟨cq 0 n,[]⟩ h1:=by
 have l:-(2^62)<=(n:Int):=Int.le_trans (by decide) (Int.natCast_nonneg n);have i:(n:Int)<2^62:=Int.lt_of_le_of_lt (Int.ofNat_le.mpr j) (by decide)
 have:=itR1' em ⟨l,i⟩
 rwa [Lx]at this
def Dg{K:hW}{n:Str}{i:Int}{t:Nat}(e:PySem.W.nsIn K mainGlobals n=J (J (.int i t))):∃t,PySem.W.nsIn K mainGlobals n=J (J (.int i t)):=⟨t,e⟩
end MM
namespace MM
open PySem.Spec PyProof.Rows L2
section
variable{X:Cx}{N W G:VL}{k:Nat}
inductive CH(K:hW)(mg:CC)(cs:VL):VQ->VL->Prop where
 |nil:CH K mg cs [] []
 |cons{D:Addr}{sup:VL}{Ds:VQ}{sups:VL}(h:Cw K mg (.ref D) cs sup)(t:CH K mg cs Ds sups):CH K mg cs (D::Ds) (sup++sups)
def UH(i:VQ):TA:=λZ H Q=>Q (i.map V.ref) H
def Nv(X:Cx)(u:VL)(l:VV)(i:VL):Prop:=∃j,CH X.K X.mg u j i/\PA X l (UH j)/\j.length=l.length
def Fm:Nv X cs [] []:=⟨[],.nil,PA.imp iX λZ H Q q=>q,rfl⟩
def AZ(g:Good X N W G k){c:Str}{z l i:VL}{j:Nat}{q:Pos}{y:VV}(B:G[j]?=J c)(E:∃D,X.mg c=J (.ref D)/\Cw X.K X.mg (.ref D) z l)(t:Nv X z y i)(C:starEach (.Name c q::y) X.env=(T,eval (.Name c q) X.env)::starEach y X.env:=by rfl):Nv X z (.Name c q::y) (l++i):=by
 obtain⟨D,L,F⟩:=E;obtain⟨M,R,P,hl⟩:=t;have d:=g.dbg c (se _ (aP B));exact⟨D::M,.cons F R,PA.imp (c8 (ly (v:=.ref D) (u:=.ref D) (g.gl c (aP B)) L rfl d.1) P C) λZ H Q q=>q,congrArg (·+1) hl⟩
def wd{K:hW}{mg:CC}{l:VL}{j:VQ}{i:VL}(h:CH K mg l j i){t:String}(ht:t∈["NoneType","bool","int","str","tuple","list","dict"]):PySem.W.kitAny K (.type t) (j.map Value.ref)=J T:=by
 induction h with
 |nil=>rfl
 |cons y _ u=>rw[yw];unfold PySem.W.kitAny;rw[y.ty t ht];exact u
def yM{K:hW}{mg:CC}{B:VL}{u:VQ}{i:VL}(h:CH K mg B u i){x:Str}(H:x∈B){C:Addr}(M:mg x=J (.ref C)):PySem.W.kitAny K (.ref C) (u.map Value.ref)=J (i.contains x):=by
 induction h with
 |nil=>rfl
 |@cons D j u i L _ E =>
  rw[yw];unfold PySem.W.kitAny;obtain⟨R,l,_,_,Q⟩:=L.ex x H;rw[M]at l;cases l;rw[Q]
  cases z:j.contains x with
  |true =>
   have:(j++i).contains x=I:=by rw[LY]at z ⊢;exact C7 _ z
   rw[this]
  |false =>
   have:(j++i).contains x=i.contains x:=by
    have P:x∉j:=λy=>by rw[<-LY]at y;rw[y]at z;cases z
    cases y:i.contains x with
    |true=>rw[LY]at y ⊢;exact se _ y
    |false =>
     have F:x∉i:=λq=>by rw[<-LY]at q;rw[q]at y;cases y
     cases w:(j++i).contains x with
     |false=>rfl
     |true=>rw[LY]at w;rcases v_.mp w with q | q;exact absurd q P;exact absurd q F
   rw[this];exact E
def zw{j:VQ}:∀{i:VR},aV (j.map V.ref) i->i=j.map Value.ref:=by
 induction j with
 |nil=>intro i r;cases r;rfl
 |cons D j l =>
  intro i r
  cases r with
  |cons r1 r2=>rw[l r2];cases r1;rfl
def Co(g:Good X N W G k){a:Expr}{m:Mx PV}{y:VV}{F l:VL}{i:Nat}{p ak pt:Pos}{kt}(hi:G[i]?=J "isinstance")(hm:X.mg "isinstance"=Y)(IC:Nv X F y l){c0:Str}{ab:VL}(ay:∃D,X.mg c0=J (.ref D)/\Cw X.K X.mg (.ref D) F ab)(hl:y.length<=100)(ha:ME X a m)(he:starEach [a,.Tuple y kt pt] X.env=(T,eval a X.env)::starEach [.Tuple y kt pt] X.env:=by rfl)(a6:starEach [.Tuple y kt pt] X.env=[(T,eval (.Tuple y kt pt) X.env)]:=by rfl)(a2:(backTo ak (starEach [.Tuple y kt pt] X.env)).any (·.1)=T:=by rfl):
  ME X (.Call (.Name "isinstance" p) [a,.Tuple y kt pt] [] ak) (DF (cL F l) m):=by
 obtain⟨Ds,u,a5,R⟩:=IC;obtain⟨D0,_,as⟩:=ay;have d1:=g.dbg _ (se _ (aP hi));have E:dN X (.builtin "isinstance") (λxs H Q=>∃S tp,xs=[S,.ref tp]/\SqT X.K H tp (Ds.map V.ref)/\uJ X (cL F l) S H Q):=by
  intro NN s Z H xs us Q j r ⟨S,tp,e,a7,U,h,x,L,rx,q⟩;subst e
  cases r with
  |cons r1 t1=>cases t1 with
   |cons r2 t2 =>
    cases t2;cases r2;obtain⟨a9,rv,ht,_⟩:=j.tuple a7;have ei:=zw rv;subst ei;obtain⟨⟨oc,od,bp,bm⟩,ho,M,nn,ac⟩:=ht;dsimp only at M ac;subst M;subst ac;have plain:∀t,Dn h x=J t->cL F l x h=.ok (.bl T) h->wpAny (model X.prog X.w) X.A (call (.builtin "isinstance") [_,_]) (EP X NN Z Q) X.xe s:=λt et ef=>by
     rw[ef]at q;obtain⟨a0,an,Hq,Za,hz⟩:=sI j L rx r1 et;exact PySem.W.kia_tup Za j.kIn hz ho (wd u a0) an λtk=>⟨.bl _,H,j.tok _,rfl,q U H _ (Le.refl _ _) L (.bl _)⟩
    cases x with
    |non=>exact plain _ rfl rfl
    |bl b=>exact plain _ rfl rfl
    |int i=>exact plain _ rfl rfl
    |str i=>exact plain _ rfl rfl
    |tup i=>exact plain _ rfl rfl
    |frl i=>exact plain _ rfl rfl
    |loc n =>
     cases B:h[n]? with
     |none=>simp only[cL,B]at q;exact q.elim
     |some o =>
      cases o with
      |lst xs=>exact plain "list" (by simp[Dn,B]) (by simp[cL,B])
      |dic fz ks xs=>exact plain "dict" (by simp[Dn,B]) (by simp[cL,B])
      |exc ex =>
       simp only[cL,B]at q;by_cases hc:F.contains ex.cls=I
       .rw[eT hc]at q
        cases rx with
        |@loc n a e =>
         cases r1;obtain⟨o',ag,ro⟩:=L.obj e;rw[B]at ag;cases ag;obtain⟨C,P,ax⟩:=ro;have hx:ex.cls∈F:=by simpa using hc
         obtain⟨C',aa,EQ,a8,_⟩:=as.ex ex.cls hx;rw[P]at aa;cases aa;have hz:oM a C s.heap:=by
          rcases ax with⟨_,hH⟩|⟨_,_,_,_,_,hH,_⟩
          .exact (show ObjOk X.prog X.w H s.heap a (.ext (oM a C))from j.hok a _ hH).1
          .obtain⟨⟨o,vs,e1,e2,e3,_⟩,_⟩:=(show ObjOk X.prog X.w H s.heap a (.ext (dk a C _))from j.hok a _ hH);exact⟨o,vs,e1,e2,e3⟩
         exact PySem.W.kia_tup (uT EQ a8) j.kIn hz ho (yM u hx P) (λz=>nomatch z) λtk=>⟨.bl _,H,j.tok _,rfl,q U H _ (Le.refl _ _) L (.bl _)⟩
       .rw[hF hc]at q;exact q.elim
 refine PE.imp (iq E (g.gl _ (aP hi)) hm PyProof.Rows.Boot.«isinstance» (c8 ha (c8 (zY a5) iX a6) he) d1.2.2 d1.1 he a2) λZ H Q ⟨U,a1,h,rs,L,q⟩=>?_;refine⟨U,a1,h,rs,L,Ful.bind q λU1 H1 x S h1 _ l1 a4 rx q1=>?_⟩;refine⟨by rw[CM,R];exact wy hl (by decide),λtp ap=>?_⟩;obtain⟨a3,l2⟩:=a4.tup ap (Ds.map V.ref);exact⟨S,tp,rfl,SqT.of ba,U1,h1,x,a3,rx.le l2,(Ful.le l2 q1).zero⟩
end
end MM
namespace MM
open PySem.Spec PyProof.Rows L2 PySem.W
end MM
namespace MM
open PySem.Spec PyProof.Rows L2
section
variable{X:Cx}
def kv:UZ->Option (VL)
 |[]=>J []
 |.str x::r=>(kv r).map (x::·)
 |_=>Y
def sY{K:hW}{U:VQ}{H:Hp}:∀{xs:UZ}{ys:List V}{i:VR}{j:VL},RPs K U H xs ys->aV ys i->kv xs=J j->∃l:List (Str×Tok),i=strValues l/\l.map (·.1)=j:=by
 intro xs
 induction xs with
 |nil =>
  intro ys i j r v e;cases r;cases v;cases e;exact⟨[],rfl,rfl⟩
 |cons x xs u =>
  intro ys i j r v e
  cases r with
  |cons r1 r2 =>
   cases v with
   |cons y C =>
    cases r1 with
    |str z =>
     unfold kv at e;rw[Db]at e;obtain⟨B,e1,rfl⟩:=e;obtain⟨l,e2,e3⟩:=u r2 C e1;obtain⟨t,rfl⟩:=y;exact⟨(z,t)::l,by rw[e2];rfl,by rw[<-e3];rfl⟩
    |_=>cases e
def cj(z:Str)(xs:UZ)(h:MH):VW:=match xs with
 |[.loc n]=>(match h[n]? with
  |some (.lst ys)=>(match kv ys with
   |some i=>if JoinOk z i=I then .ok (.str (Txt.join z i)) h else .bad
   |none=>.bad)
  |_=>.bad)
 |_=>.bad
def vW(z:Str)(xs:UZ)(h:MH):VW:=match xs with
 |[.int i]=>if PadOk i=I then .ok (.str (Txt.zfill z i)) h else .bad
 |_=>.bad
def CW(f:Str->UZ->MH->VW)(m:Mx PV)(u:Mx (UZ)):Mx PV:=λZ h=>(m Z h).bind λo j=>match o with
 |.str x=>(u Z j).bind λi l=>(f x i l).ne
 |_=>.bad
def JD(X:Cx)(f:Str->UZ->MH->VW):V->List V->Hp->VK->Prop:=λj i H Q=>∃U h z xs,j=.str z/\RH X.K X.mg U H h/\RPs X.K U H xs i/\jR X (RV' X) U H (f z xs h) Q
def Fo:DR X "str.join" (JD X cj):=by
 intro NN s Z H x vs v us Q i rx E ⟨U,h,z,ps,e,y,rp,q⟩;subst e;obtain⟨t,rfl⟩:=rx
 cases rp with
 |nil=>exact q.elim
 |cons r1 G =>
  cases G with
  |cons _ _=>cases r1<;>exact q.elim
  |nil =>
   cases r1 with
   |@loc n a W =>
    dsimp only[cj]at q;obtain⟨o,S,F⟩:=y.obj W;rw[S]at q
    cases o with
    |lst xs =>
     obtain⟨ys,L,P⟩:=F;obtain⟨u,rfl,B⟩:=E.one;cases B;obtain⟨_,R,n',r,hl,e⟩:=i.lstM L;dsimp only at q
     cases j:kv xs with
     |none=>rw[j]at q;exact q.elim
     |some ts =>
      rw[j]at q;dsimp only at q
      split at q
      .rename_i C
       obtain⟨l,rfl,el⟩:=sY P r j;exact SC.join ⟨_,e,rfl,_,rfl⟩ el C λM k=>⟨.str _,H,i.tok k,⟨M,rfl⟩,q U H _ (Le.refl _ _) y (.str _)⟩
      .exact q.elim
    |_=>exact q.elim
   |_=>exact q.elim
def Ci:DR X "str.zfill" (JD X vW):=by
 intro L s Z H x P v R Q j G y ⟨U,h,z,ps,e,F,rp,q⟩;subst e;obtain⟨t,rfl⟩:=G
 cases rp with
 |nil=>exact q.elim
 |cons r1 B =>
  cases B with
  |cons _ _=>cases r1<;>exact q.elim
  |nil =>
   cases r1 with
   |int i =>
    obtain⟨u,rfl,l⟩:=y.one;obtain⟨M,rfl⟩:=l;dsimp only[vW]at q
    split at q
    .rename_i E
     exact SC.zfill E λC k=>⟨.str _,H,j.tok k,⟨C,rfl⟩,q U H _ (Le.refl _ _) F (.str _)⟩
    .exact q.elim
   |_=>exact q.elim
variable{o e:Expr}{es:VV}{name:Str}{apos cpos:Pos}{id:String}{f:Str->UZ->MH->VW}{m:Mx PV}{ma:Mx (UZ)}
def Nw(slot:Slot "str" name id)(C:typeOf (.builtin id)=pure (.type "method_descriptor"))(W:DR X id (JD X f))(ho:ME X o m)(ha:MA X (e::es) ma)(j:attributeBase o name X.env (eval o X.env)=eval o X.env:=by rfl)(y:((backTo cpos (starEach (e::es) X.env)).all (λx=>!x.1)&&(backToKw cpos (keywordEach [] X.env)).all (λx=>x.1.isSome)
   && decide ((e::es).length+([]:List Keyword).length+(if([]:List Keyword).isEmpty then 0 else 1)<30))=I:=by rfl)(l:(apos.endLine==cpos.line)=I:=by rfl)(hs:starEach (e::es) X.env=(T,eval e X.env)::starEach es X.env:=by rfl)(i:(backTo cpos (starEach es X.env)).any (·.1)=T:=by rfl):
  ME X (.Call (.Attribute o name apos) (e::es) [] cpos) (CW f m ma) :=
 PE.imp (G3 PySem.F.plainAttrs_str slot C W ho ha j y l hs i) λZ H Q tm=>by
  obtain⟨U,u,h,L,rh,q⟩:=tm;refine⟨U,u,h,L,rh,?_⟩;refine Ful.bind q λU1 H1 x x' h1 _ R F rx G=>?_
  cases rx with
  |str z =>
   refine⟨rfl,U1,u,h1,L.le R,F,?_⟩;exact Ful.bind G λS H2 vs aa M _ l2 E B P=>⟨S,M,z,vs,rfl,E,B,P.zero⟩
  |_=>exact G.elim
@[simp]theorem R9:CW f m ma Z h=(m Z h).bind λo h1=>match o with
 |.str x=>(ma Z h1).bind λvs h2=>(f x vs h2).ne
 |_=>.bad:=rfl
def R_(c:Str)(v:PV)(h:MH):VW:=match v with
 |.int i=>if i.natAbs.log2<1920/\(Str.empty++(toString i:Str)).length<=sizeLine/\(Str.empty++(toString i:Str)++c).length<=sizeLine then .ok (.str (Str.empty++(toString i:Str)++c)) h else .bad
 |_=>.bad
def Nx(E:ME X e m):ME X (.JoinedStr [.FormattedValue e (-1) Y p1,.Constant (.str c) j p2] pos) (DF (R_ c) m):=by
 intro F s Z H Q B ⟨U,y,h,R,M,q⟩;refine wpAny_JoinedStr ?_;refine wpAny_FormattedValue_plain ?_;refine kP (E F s Z H (λx u=>∃i,x=.int i/\(i.natAbs.log2<1920/\(Str.empty++(toString i:Str)).length<=sizeLine/\(Str.empty++(toString i:Str)++c).length<=sizeLine)/\Q (.str (Str.empty++(toString i:Str)++c)) u) B ⟨U,y,h,R,M,?_⟩) λv s1 ⟨x,u,L,r1,i,e1,z,l⟩=>?_
 .refine Ful.bind q λP u v S h1 _ W C G l=>?_
  cases G with
  |int i =>
   dsimp only[R_]at l
   split at l
   .rename_i z
    exact⟨i,rfl,z,l P u _ (Le.refl _ _) C (.str _)⟩
   .exact l.elim
  |_=>exact l.elim
 .subst e1;obtain⟨t,rfl⟩:=r1;refine wpAny_formatField_int z.1 ⟨_,_,rfl,z.2.1,?_⟩;show wpAny _ _ (eval (.Constant (.str c) j p2) X.env) _ _ _;exact Calls.Constant_str ⟨_,_,rfl,z.2.2,z.2.2,.str _,u,((L.tok _).tok _).tok _,⟨_,rfl⟩,l⟩
end
end MM
namespace DcT
open PyProof.Rows
end DcT
namespace MM
open PySem.Spec PyProof.Rows L2 DcT
section
variable{X:Cx}{N W G:VL}{k:Nat}
local instance inhPV:Inhabited PV:=⟨.non⟩
def rB(K:hW)(x:Str)(i j:Int):Prop:=∃(a:Addr) (t l:Tok) (n:Nat) (u:Array (VT)),PySem.W.nsIn K mainGlobals x=J (J (.ref a))/\K.lookup a=J ⟨.type "tuple",Y,.seq #[.int i t,.int j l] n,u⟩
def Fp(K:hW)(mg:CC)(x:Str)(i j:Int):Prop:=∃(a:Addr) (t l:Tok) (n:Nat) (u:Array (VT)),mg x=J (.ref a)/\K.lookup a=J ⟨.type "tuple",Y,.seq #[.int i t,.int j l] n,u⟩
def Fq{K:hW}{x:Str}{i j:Int}{a:Addr}{t u:Tok}{n:Nat}{y:Array (VT)}(h:PySem.W.nsIn K mainGlobals x=J (J (.ref a)))(l:K.lookup a=J ⟨.type "tuple",Y,.seq #[.int i t,.int j u] n,y⟩):rB K x i j:=⟨a,t,u,n,y,h,l⟩
def rB.mg{K:hW}{mg:CC}{base:Heap}{x:Str}{i j:Int}(z:rB K x i j)(kin:K.In base)(ns:base.Ns mainGlobals mg):Fp K mg x i j:=by obtain⟨a,t,u,n,y,h,l⟩:=z;exact⟨a,t,u,n,y,PySem.W.mg_of kin ns h,l⟩
def JE(g:Good X N W G k){x:Str}{q:Nat}{i j:Int}{u:Pos}(y:G[q]?=J x)(l:Fp X.K X.mg x i j):ME X (.Name x u) (mC (.tup [.int i,.int j])):=by obtain⟨a,t,B,n,E,l,hl⟩:=l;have d:=g.dbg x (se _ (aP y));exact PE.imp (ly (v:=.ref a) (g.gl x (aP y)) l rfl d.1) λZ H Q ⟨U,z,h,F,C,q⟩=>q U H _ (Le.refl _ _) C (.tup (ys:=[.int i,.int j]) (.inr ⟨_,_,n,hl,rfl,⟨rfl,rfl⟩,by show 2<=sizeLine;decide,.cons ⟨t,rfl⟩ (.cons ⟨B,rfl⟩ .nil)⟩) (.cons (.int _) (.cons (.int _) .nil)))
end
end MM
namespace MM
open PySem.Spec PyProof.Rows L2
end MM
namespace MM
open PySem.Spec PyProof.Rows L2 SetT SortT
def x6(ns:VM):Nat:=(firstMet (λi=>ns.getD i 0) ns.length).length
def Fs(ns:VM):x6 ns<=ns.length:=firstMet_length_le _ _
def JF(prog:Program)(w:World)(S:Addr)(n:Nat)(h:Heap):Prop:=∃f,h.SetOf (intKind prog w) S f n
def ym{prog:Program}{w:World}{S:Addr}{n:Nat}{i j:Heap}(p:JF prog w S n i)(k:∀o,i.get? S=J o->j.get? S=J o):JF prog w S n j:=by obtain⟨f,o,l,y,t,u,r⟩:=p;exact⟨f,o,l,y,t,k o u,r⟩
section
variable{X:Cx}{N W G:VL}{k:Nat}
def zc(U:X.calm=I):dN X (.type "set") (λxs H Q=>∃l ns,xs=[.ref l]/\SqL X.K H l (ns.map V.int)/\ns.length<=1000/\∀S,H S=Y->Q (.ref S) (upd H S (.ext (JF X.prog X.w S (x6 ns))))):=by
 intro NN s Z H xs us Q i r ⟨l,ns,e,M,hl,q⟩;subst e;obtain⟨u,rfl,rx⟩:=fZ r;cases rx;obtain⟨y,E,P,hz⟩:=i.list M;have z:y.length=ns.length:=by have:=E.length;rw[CM]at this;exact this.symm
 have L:=xU E;have C:=i.hok.fresh (mh s.heap.objs.size);refine call_set_list (i.ok.hd U) P.isList L (by rw[B_];unfold scanBound;ext) λR tk j x=>?_;have B:y.toArray.size=ns.length:=by rw[B_,z]
 rw[B]at j;have sp:JF X.prog X.w s.heap.objs.size (x6 ns) R:=⟨_,j⟩;obtain⟨f,o,es,ep,t,ho,F⟩:=id sp;exact⟨.ref s.heap.objs.size,_,i.laid (o:=.ext (JF X.prog X.w s.heap.objs.size (x6 ns))) (λb o e=>x b o (oy e) e) (mh _) ⟨sp,⟨o,ho⟩,λh1 h2 a b=>ym a b⟩,rfl,q _ C⟩
def AE:dN X (.builtin "len") (λxs H Q=>∃S n,xs=[.ref S]/\H S=J (.ext (JF X.prog X.w S n))/\n<=1000/\Q (.int n) H):=by intro L s Z H xs U Q i r ⟨S,n,e,y,hn,q⟩;subst e;obtain⟨u,rfl,C⟩:=fZ r;cases C;obtain⟨sp,_,_⟩:=(i.hok S _ y);obtain⟨f,o,es,F,t,B,E,z,R,p5,P,l,j⟩:=sp;refine call_len_set B E z l (by ext) ?_;rw[j];exact⟨.int n,H,i.kept λb M q=>q,⟨_,rfl⟩,q⟩
def UI(m:Mx (UZ)):Mx PV:=λZ h=>(m Z h).bind λxs i=>match xs with
 |[x]=>(match (jB i x).bind mz with
  |some ns=>if ns.length<=1000 then .ok (.int (x6 ns)) i else .bad
  |none=>.bad)
 |_=>.bad
def zT(g:Good X N W G k){a:Expr}{m:Mx (UZ)}{p M P u:Pos}(i j:Nat)(hm:X.mg "len"=Y)(L:X.mg "set"=Y)(ha:MA X [a] m)(hi:G[i]?=J "len":=by rfl)(hj:G[j]?=J "set":=by rfl)(hs:starEach [a] X.env=[(T,eval a X.env)]:=by rfl)(he:starEach [.Call (.Name "set" M) [a] [] u] X.env=[(T,eval (.Call (.Name "set" M) [a] [] u) X.env)]:=by rfl):
  ME X (.Call (.Name "len" p) [.Call (.Name "set" M) [a] [] u] [] P) (UI m):=by
 have d:=g.dbg _ (se _ (aP hi));have d':=g.dbg _ (se _ (aP hj));refine PE.imp (iq AE (g.gl _ (aP hi)) hm PyProof.Rows.Boot.«len» (c8 (sZ (zc g.calm) (g.gl _ (aP hj)) L PyProof.Rows.Boot.«set» ha d'.2.2 d'.1 hs rfl) iX he) d.2.2 d.1 he rfl) λZ H Q ⟨U,F,h,rs,rh,q⟩=>?_;refine⟨U,F,h,rs,rh,Ful.bind q λU1 H1 x x' h1 ex l1 E rx l=>?_⟩
 cases rx with
 |nil=>exact l.elim
 |@cons y y' _ _ r1 t1 =>
  cases t1 with
  |cons _ _=>exact l.elim
  |nil =>
   dsimp only at l
   cases hl:jB h1 y with
   |none=>rw[hl]at l;exact l.elim
   |some xs =>
    rw[hl]at l
    cases hk:mz xs with
    |none=>simp only[HM,hk]at l;exact l.elim
    |some ns =>
     simp only[HM,hk]at l;by_cases z:ns.length<=1000
     .rw[eT z]at l;obtain⟨la,zs,rfl,C,B⟩:=Fi E r1 hl;rw[w4 hk]at B;rw[Hf B]at C;refine⟨la,ns,rfl,C,z,λS hS=>?_⟩;obtain⟨R,l2⟩:=E.loose hS (.ext (JF X.prog X.w S (x6 ns)));exact⟨S,x6 ns,rfl,ba,wy (Fs ns) z,l U1 _ _ l2 R (.int _)⟩
     .rw[hF z]at l;exact l.elim
end
end MM
namespace MM
open PySem.Spec PyProof.Rows L2 DcT
section
variable{X:Cx}{N W G:VL}{k:Nat}
local instance inhPV2:Inhabited PV:=⟨.non⟩
end
end MM
namespace PU
open MM
def ys{α:Type}{a b:α}(h:a=b):a=b:=h
inductive D where
 |non | bl (b:Bool) | int (i:Int) | str (x:Str) | tup (xs:List D) | lst (xs:List D) | dic (fz:Bool) (ks:VM) (ds:List D) | exc (c:tr) | pen
abbrev _root_.VP:=List D
abbrev _root_.VA:=Option D
abbrev f_:=Int×Int×Int
abbrev aN:=List (VA)
def cN(h:MH)(p:Nat)(s:f_):Prop:=h[p]?=J (.lst [.int s.1,.int s.2.1,.int s.2.2])
inductive Sa(P:UZ->Prop)(v:PV):Prop
 |mk(xs:UZ)(e:v=.tup xs)(r:P xs):Sa P v
inductive T4(h:MH)(O:VN)(P:UZ->Prop)(v:PV):Prop
 |mk(n:Nat)(xs:UZ)(e:v=.loc n)(no:n∉O)(g:h[n]?=J (.lst xs))(r:P xs):T4 h O P v
inductive T5(h:MH)(O:VN)(fz:Bool)(ks:VM)(P:UZ->Prop)(v:PV):Prop
 |mk(n:Nat)(xs:UZ)(e:v=.loc n)(no:n∉O)(g:h[n]?=J (.dic fz ks xs))(r:P xs):T5 h O fz ks P v
inductive T6(h:MH)(O:VN)(o:MO)(v:PV):Prop
 |mk(n:Nat)(e:v=.loc n)(no:n∉O)(g:h[n]?=J o):T6 h O o v
inductive Sb(P:PV->Prop)(Q:UZ->Prop)(vs:UZ):Prop
 |mk(x:PV)(r:UZ)(e:vs=x::r)(a:P x)(b:Q r):Sb P Q vs
mutual
def Rp(p:Nat)(h:MH)(O:VN):D->PV->Prop
 |.non,v=>v=.non
 |.bl b,v=>v=.bl b
 |.int i,v=>v=.int i
 |.str x,v=>v=.str x
 |.tup j,v=>Sa (Rps p h O j) v
 |.lst j,v=>T4 h O (Rps p h O j) v
 |.dic fz l j,v=>T5 h O fz l (Rps p h O j) v
 |.exc c,v=>T6 h O (.exc c) v
 |.pen,v=>v=.loc p
def Rps(p:Nat)(h:MH)(O:VN):VP->UZ->Prop
 |[],i=>i=[]
 |d::j,i=>Sb (Rp p h O d) (Rps p h O j) i
end
def bN{h:MH}{n:Nat}{o:MO}(e:h[n]?=J o):n<h.length:=(w_.mp e).1
structure Mv(O:VN)(h:MH)(O':VN)(h':MH):Prop where
 keep:∀n:Nat,n<h.length->n∉O->h'[n]?=h[n]?
 new:∀o∈O',o∈O\/h.length<=o
def Mv.get{O i:VN}{h j:MH}(s:Mv O h i j){n:Nat}{o:MO}(e:h[n]?=J o)(no:n∉O):n∉i/\j[n]?=J o:=by
 have hl:=bN e;refine⟨λz=>?_,(s.keep n hl no).trans e⟩;rcases s.new n z with q|q
 .exact no q
 .lia
section
variable{p:Nat}{O O':VN}{h h':MH}
def Rp.mv(s:Mv O h O' h')(r:Rp p h O d v):Rp p h' O' d v:=by
 refine D.rec (motive_2:=λl=>∀u,Rps p h O l u->Rps p h' O' l u)
  (λ_ r=>r) (λ_ _ r=>r) (λ_ _ r=>r) (λ_ _ r=>r) (λl i _ r=>?_) (λl i _ r=>?_) (λ_ _ l i _ r=>?_) (λ_ _ r=>?_) (λ_ r=>r) (λ_ r=>r) (λ_ _ i j _ r=>?_) d v r
 .obtain⟨xs,e,r⟩:=r;exact⟨xs,e,i _ r⟩
 .obtain⟨n,xs,e,no,g,r⟩:=r;exact⟨n,xs,e,(s.get g no).1,(s.get g no).2,i _ r⟩
 .obtain⟨n,xs,e,no,g,r⟩:=r;exact⟨n,xs,e,(s.get g no).1,(s.get g no).2,i _ r⟩
 .obtain⟨n,e,no,g⟩:=r;exact⟨n,e,(s.get g no).1,(s.get g no).2⟩
 .obtain⟨x,t,e,a,b⟩:=r;exact⟨x,t,e,i _ a,j _ b⟩
def Rps.mv(s:Mv O h O' h')(r:Rps p h O i vs):Rps p h' O' i vs:=by
 induction i generalizing vs with
 |nil=>exact r
 |cons d i j=>obtain⟨x,t,e,a,b⟩:=r;exact⟨x,t,e,a.mv s,j b⟩
def Rps.length(r:Rps p h O i vs):vs.length=i.length:=by
 induction i generalizing vs with
 |nil=>rw[show vs=[]from r];rfl
 |cons d i j=>obtain⟨x,t,e,a,b⟩:=r;rw[e,n_,n_,j b]
def Rps.get{j:VP}{l:UZ}{i:Nat}{d:D}(r:Rps p h O j l)(g:j[i]?=J d):∃v,l[i]?=J v/\Rp p h O d v:=by
 induction j generalizing l i with
 |nil=>cases g
 |cons d j u =>
  obtain⟨x,t,e,a,b⟩:=r;subst e
  cases i with
  |zero=>cases g;exact⟨x,rfl,a⟩
  |succ i=>have z:=@u t i b g;exact z
def Rps.app(r:Rps p h O i vs)(s:Rps p h O es ws):Rps p h O (i++es) (vs++ws):=by
 induction i generalizing vs with
 |nil=>rw[show vs=[]from r];exact s
 |cons d i j=>obtain⟨x,t,e,a,b⟩:=r;subst e;exact⟨x,t++_,rfl,a,j b⟩
def Rps.take(n:Nat)(r:Rps p h O i vs):Rps p h O (i.take n) (vs.take n):=by
 induction i generalizing vs n with
 |nil=>rw[show vs=[]from r];cases n<;>rfl
 |cons d i j =>
  obtain⟨x,t,e,a,b⟩:=r;subst e
  cases n with
  |zero=>rfl
  |succ n=>exact⟨x,t.take n,rfl,a,j n b⟩
def Rps.drop(n:Nat)(r:Rps p h O i vs):Rps p h O (i.drop n) (vs.drop n):=by
 induction i generalizing vs n with
 |nil=>rw[show vs=[]from r];cases n<;>rfl
 |cons d i j =>
  cases n with
  |zero=>exact r
  |succ n=>obtain⟨x,t,e,a,b⟩:=r;subst e;exact j n b
def Rps.set(i:Nat)(r:Rps p h O j vs)(q:Rp p h O d v):Rps p h O (j.set i d) (vs.set i v):=by
 induction j generalizing vs i with
 |nil=>rw[show vs=[]from r];rfl
 |cons u j l =>
  obtain⟨x,t,e,a,b⟩:=r;subst e
  cases i with
  |zero=>exact⟨v,t,rfl,q,b⟩
  |succ i=>exact⟨x,t.set i v,rfl,a,l i b⟩
end
def dl:Option (VM)->VP->D
 |none,i=>.lst i
 |some j,i=>.dic T j i
def mo:Option (VM)->UZ->MO
 |none,xs=>.lst xs
 |some i,xs=>.dic T i xs
def gQ(e:D.lst ds=dl k es):k=Y/\ds=es:=by
 cases k with
 |none=>cases e;exact⟨rfl,rfl⟩
 |some _=>cases e
inductive T7(p:Nat)(h:MH)(L:Nat)(O:VN)(d:D)(v:PV):Prop
 |mk(n:Nat)(k:Option (VM))(xs:UZ)(ds:VP)(e:d=dl k ds)(e':v=.loc n)(o:n∈O)(l:L<=n)(g:h[n]?=J (mo k xs))(r:Rps p h O ds xs):T7 p h L O d v
def Vw(p:Nat)(h:MH)(L:Nat)(O:VN)(d:D)(v:PV):Prop:=Rp p h O d v\/T7 p h L O d v
def Hh(p:Nat)(h:MH)(L:Nat)(O:VN):VP->UZ->Prop
 |[],i=>i=[]
 |d::j,i=>Sb (Vw p h L O d) (Hh p h L O j) i
inductive Ny(p:Nat)(L:Nat)(O:VN)(h:MH)(k:Option (VM))(ds:VP)(v:PV):Prop
 |mk(n:Nat)(xs:UZ)(e:v=.loc n)(l:L<=n)(g:h[n]?=J (mo k xs))(r:Rps p h (n::O) ds xs):Ny p L O h k ds v
def Frs(p:Nat)(L:Nat)(O:VN)(h:MH)(d:D)(v:PV):Prop:=∀k i,d=dl k i->Ny p L O h k i v
structure KB(p:Nat)(h h':MH):Prop where
 len:h.length<=h'.length
 keep:∀n:Nat,n<h.length->n≠p->h'[n]?=h[n]?
def KB.refl(p:Nat)(h:MH):KB p h h:=⟨mh _,λ_ _ _=>rfl⟩
def KB.trans(a:KB p h h1)(b:KB p h1 h2):KB p h h2 :=
 ⟨wy a.len b.len,λn j i=>(b.keep n (vl j a.len) i).trans (a.keep n j i)⟩
def KB.app(p:Nat)(h g:MH):KB p h (h++g):=⟨by simp,λn i _=>BH i⟩
def KB.mv(k:KB p h h')(j:p∈O):Mv O h O h' :=
 ⟨λn l no=>k.keep n l λz=>no (z▸j),λo i=>.inl i⟩
def cN.app{p:Nat}{h g:MH}{s:f_}(e:cN h p s):cN (h++g) p s:=by unfold cN at *;rw[BH (bN e)];exact e
def Vw.kb{p L:Nat}{h i:MH}{O:VN}{d:D}{v:PV}(k:KB p h i)(j:p∈O)(hL:p<L)(w:Vw p h L O d v):Vw p i L O d v:=by
 rcases w with r|⟨n,y,xs,u,e1,e2,l,z,g,r⟩
 .exact .inl (r.mv (k.mv j))
 .exact .inr ⟨n,y,xs,u,e1,e2,l,z,(k.keep n (bN g) ⋯).trans g,r.mv (k.mv j)⟩
inductive PR(α:Type) where
 |ok(a:α)(s:f_)
 |exc(c:tr)(s:f_)
 |bad
def PR.bind{α β:Type}(r:PR α)(f:α->f_->PR β):PR β:=match r with
 |.ok a s=>f a s
 |.exc c s=>.exc c s
 |.bad=>.bad
@[simp]theorem Pb(a:α)(s:f_)(f:α->f_->PR β):(PR.ok a s).bind f=f a s:=rfl
@[simp]theorem Pe(c:tr)(s:f_)(f:α->f_->PR β):(PR.exc c s).bind f=.exc c s:=rfl
@[simp]theorem Pd(f:α->f_->PR β):(PR.bad:PR α).bind f=.bad:=rfl
def PR.of{α:Type}(o:Option α)(s:f_):PR α:=match o with
 |some a=>.ok a s
 |none=>.bad
@[simp]theorem Pf(a:α)(s:f_):PR.of (J a) s=.ok a s:=rfl
@[simp]theorem Pn(s:f_):PR.of (Y:Option α) s=.bad:=rfl
inductive T8{α β:Type}(p:Nat)(h:MH)(o:Out β)(a:α)(s:f_)(R:MH->α->β->Prop):Prop
 |mk(b:β)(h':MH)(e:o=.ok b h')(k:KB p h h')(n:cN h' p s)(r:R h' a b):T8 p h o a s R
inductive T9{β:Type}(p:Nat)(h:MH)(o:Out β)(c:tr)(s:f_):Prop
 |mk(h':MH)(e:o=.exc c h')(k:KB p h h')(n:cN h' p s):T9 p h o c s
def Ok{α β:Type}(p:Nat)(h:MH)(o:Out β)(r:PR α)(R:MH->α->β->Prop):Prop:=match r with
 |.ok a s=>T8 p h o a s R
 |.exc c s=>T9 p h o c s
 |.bad=>True
def Ok.bind{α β γ δ:Type}{p:Nat}{h:MH}{o:Out β}{r:PR α}{R:MH->α->β->Prop}{f:β->MH->Out δ}{g:α->f_->PR γ}{S:MH->γ->δ->Prop}(q:Ok p h o r R)(k:∀a b i s,KB p h i->cN i p s->R i a b->Ok p i (f b i) (g a s) S):Ok p h (o.bind f) (r.bind g) S:=by
 cases r with
 |ok a s =>
  obtain⟨b,i,rfl,kb,pn,y⟩:=q
  have:=k a b i s kb pn y
  rw[Pb]
  cases e:g a s with
  |ok c s2 =>
   rw[e]at this;obtain⟨d,u,e2,j,l,r2⟩:=this;exact⟨d,u,e2,kb.trans j,l,r2⟩
  |exc c s2 =>
   rw[e]at this;obtain⟨u,e2,j,l⟩:=this;exact⟨u,e2,kb.trans j,l⟩
  |bad=>trivial
 |exc c s =>
  obtain⟨i,rfl,kb,pn⟩:=q;exact⟨i,rfl,kb,pn⟩
 |bad=>trivial
def Ok.imp{α β:Type}{p:Nat}{h:MH}{o:Out β}{r:PR α}{R S:MH->α->β->Prop}(q:Ok p h o r R)(k:∀i a b,KB p h i->R i a b->S i a b):Ok p h o r S:=by
 cases r with
 |ok a s=>obtain⟨b,l,e,kb,pn,j⟩:=q;exact⟨b,l,e,kb,pn,k _ _ _ kb j⟩
 |exc c s=>exact q
 |bad=>trivial
structure SR(p:Nat)(h:MH)(L:Nat)(O:VN)(ws:VN)(Z:n7)(env:aN):Prop where
 len:Z.length=env.length
 fz:∀i d,env[i]?=J (J d)->i∉ws->∃v,Z[i]?=J (J v)/\Rp p h O d v
 ow:∀i d,env[i]?=J (J d)->i∈ws->∃n k xs ds,d=dl k ds/\Z[i]?=J (J (.loc n))/\n∈O/\L<=n/\h[n]?=J (mo k xs)/\Rps p h O ds xs
structure Cx(p:Nat)(h:MH)(L:Nat)(B O:VN)(ws:VN)(Z:n7)(env:aN)(s:f_):Prop where
 bd:∀o∈O,o<h.length
 sub:∀o∈B,o∈O
 bb:∀o∈B,o<L
 pb:p∈B
 hL:L<=h.length
 pen:cN h p s
 sr:SR p h L O ws Z env
section
variable{p L:Nat}{h h':MH}{B O ws:VN}{Z:n7}{env:aN}{s s':f_}
def Cx.pO(c:Cx p h L B O ws Z env s):p∈O:=c.sub p c.pb
def Cx.pL(c:Cx p h L B O ws Z env s):p<L:=c.bb p c.pb
def SR.mv{l:VN}(m:Mv O h l h')(z:∀o∈O,o∈l)(u:∀n:Nat,n<h.length->L<=n->n∈O->h'[n]?=h[n]?)(r:SR p h L O ws Z env):SR p h' L l ws Z env :=
 ⟨r.len,λi d e j=>let⟨v,e1,q⟩:=r.fz i d e j;⟨v,e1,q.mv m⟩,λi d e j=>let⟨n,k,xs,y,e1,e2,a,b,g,q⟩:=r.ow i d e j;⟨n,k,xs,y,e1,e2,z n a,b,(u n (bN g) b a).trans g,q.mv m⟩⟩
def Cx.kb(c:Cx p h L B O ws Z env s)(k:KB p h h')(pn:cN h' p s'):Cx p h' L B O ws Z env s' :=
 ⟨λo i=>vl (c.bd o i) k.len,c.sub,c.bb,c.pb,wy c.hL k.len,pn,c.sr.mv (k.mv c.pO) (λ_ h=>h) λn j hl _=>k.keep n j (by have:=c.pL;lia)⟩
def Vw.base(w:Vw p h L O d v)(sub:∀o∈B,o∈O)(bb:∀o∈B,o<L):Rp p h B d v:=by
 have m:Mv O h B h:=⟨λ_ _ _=>rfl,λo i=>.inl (sub o i)⟩;rcases w with r|⟨n,k,xs,j,rfl,rfl,_,l,g,r⟩
 .exact r.mv m
 .cases k<;>exact⟨n,xs,rfl,λz=>by have:=bb n z;lia,g,r.mv m⟩
def Frs.rp(f:Frs p L' O h d v)(bd:∀o∈O,o<L')(e:d=dl k ds):Rp p h O d v:=by obtain⟨n,xs,e1,j,g,r⟩:=f k ds e;subst e;cases k<;>exact⟨n,xs,e1,λz=>by have:=bd n z;lia,g,r.mv ⟨λ_ _ _=>rfl,λo i=>.inl (pW _ i)⟩⟩
def Frs.le(f:Frs p L2 O h d v)(hl:L1<=L2):Frs p L1 O h d v:=λk i e =>
 let⟨n,xs,e1,j,g,r⟩:=f k i e;⟨n,xs,e1,wy hl j,g,r⟩
end
abbrev Bd(h:MH)(O:VN):Prop:=∀o∈O,o<h.length
inductive Gv(p:Nat)(h:MH)(O:VN)(fr:Bool)(o:VW)(d:D):Prop
 |mk(v:PV)(g:MH)(e:o=.ok v (h++g))(r:Rp p (h++g) O d v)(f:fr=I->Frs p h.length O (h++g) d v):Gv p h O fr o d
structure Hi where
 m:PV->MH->VW
 p:D->VA
 fr:Bool
 ok:∀{q h L O a x d},Bd h O->Vw q h L O a x->p a=J d->Gv q h O fr (m x h) d
structure A_ where
 m:PV->PV->MH->VW
 p:D->D->VA
 fr:Bool
 ok:∀{q h L O a x b y d},Bd h O->Vw q h L O a x->Vw q h L O b y->p a b=J d->Gv q h O fr (m x y h) d
structure C9 where
 k:UZ->MH->VW
 p:VP->VA
 fr:Bool
 ok:∀{q h L O as xs d},Bd h O->Hh q h L O as xs->p as=J d->Gv q h O fr (k xs h) d
structure Fn where
 m:UZ->MH->VW
 p:VP->f_->PR D
 fr:Bool
 ok:∀{q h O vs ds s},Bd h O->q∈O->cN h q s->Rps q h O ds vs->Ok q h (m vs h) (p ds s) (λh' d v=>Rp q h' O d v/\(fr=I->Frs q h.length O h' d v))
mutual
def flat:D->Bool
 |.lst _ | .dic _ _ _ | .exc _ | .pen=>T
 |.tup i=>Bg i
 |_=>I
def Bg:VP->Bool
 |[]=>I
 |d::i=>flat d&&Bg i
end
section
variable{p:Nat}{h h':MH}{O O':VN}
mutual
def Rp.flat:∀{d:D}{v:PV},PU.flat d=I->Rp p h O d v->Rp p h' O' d v
 |.non,_,_,r=>r
 |.bl _,_,_,r=>r
 |.int _,_,_,r=>r
 |.str _,_,_,r=>r
 |.tup i,_,f,⟨xs,e,r⟩=>⟨xs,e,Rps.flat (by simpa [PU.flat]using f) r⟩
 |.lst i,_,f,_=>by simp[PU.flat]at f
 |.dic _ _ _,_,f,_=>by simp[PU.flat]at f
 |.exc _,_,f,_=>by simp[PU.flat]at f
 |.pen,_,f,_=>by simp[PU.flat]at f
def Rps.flat:∀{i:VP}{j:UZ},PU.Bg i=I->Rps p h O i j->Rps p h' O' i j
 |[],_,_,r=>r
 |_::_,_,f,⟨x,t,e,a,b⟩=>⟨x,t,e,Rp.flat (by simp[PU.Bg]at f;exact f.1) a,Rps.flat (by simp[PU.Bg]at f;exact f.2) b⟩
end
end
structure Xe(ws:VN) where
 m:Mx PV
 p:aN->f_->PR D
 fz:Bool
 fr:Bool
 ok:∀{q h L B O Z env s},Cx q h L B O ws Z env s->Ok q h (m Z h) (p env s) (λh' d v=>Vw q h' L O d v/\(fz=I->Rp q h' O d v)/\(fr=I->Frs q h.length O h' d v))
structure Xs(ws:VN) where
 m:Mx (UZ)
 p:aN->f_->PR (VP)
 fz:Bool
 ok:∀{q h L B O Z env s},Cx q h L B O ws Z env s->Ok q h (m Z h) (p env s) (λh' ds vs=>Hh q h' L O ds vs/\(fz=I->Rps q h' O ds vs))
structure Xt(ws:VN) where
 m:Mx Bool
 p:aN->f_->PR Bool
 ok:∀{q h L B O Z env s},Cx q h L B O ws Z env s->Ok q h (m Z h) (p env s) (λ_ a b=>a=b)
noncomputable section
variable{ws:VN}
def C3{q L:Nat}{h i:MH}{O:VN}{o:VW}{d:D}{s:f_}{fr:Bool}(le:h.length<=i.length)(pn:cN i q s)(g:Gv q i O fr o d):
  Ok q i o (.ok d s) (λj d v=>Vw q j L O d v/\(I=I->Rp q j O d v)/\(fr=I->Frs q h.length O j d v)):=by
 obtain⟨v,g,e,r,f⟩:=g;exact⟨v,i++g,e,KB.app _ _ _,pn.app,.inl r,λ_=>r,λz=>(f z).le le⟩
def af(i:Nat):Xe ws where
 m:=ar i
 p:=λenv s=>match env[i]? with
  |some (J d)=>.ok d s
  |_=>.bad
 fz:=!ws.contains i
 fr:=T
 ok {q h L B O Z env s} c:=by
  show Ok q h _ (match env[i]? with|some (J d)=>PR.ok d s|_=>.bad) _
  cases e:env[i]? with
  |none=>trivial
  |some o =>
   cases o with
   |none=>trivial
   |some d =>
    by_cases z:i∈ws
    .obtain⟨n,k,xs,j,e1,e2,a,b,g,r⟩:=c.sr.ow i d e z;exact⟨.loc n,h,by simp[ar,e2],KB.refl _ _,c.pen,.inr ⟨n,k,xs,j,e1,rfl,a,b,g,r⟩,λf=>by simp[z]at f,λf=>by simp at f⟩
    .obtain⟨v,e1,r⟩:=c.sr.fz i d e z;exact⟨v,h,by simp[ar,e1],KB.refl _ _,c.pen,.inl r,λ_=>r,λf=>by simp at f⟩
inductive Cn where
 |non | bl (b:Bool) | int (i:Int) | str (x:Str)
def Cn.v:Cn->PV
 |.non=>.non
 |.bl b=>.bl b
 |.int i=>.int i
 |.str x=>.str x
def Cn.d:Cn->D
 |.non=>.non
 |.bl b=>.bl b
 |.int i=>.int i
 |.str x=>.str x
def Cn.rp(c:Cn){q:Nat}{h:MH}{O:VN}:Rp q h O c.d c.v:=by cases c<;>rfl
def xC(k:Cn):Xe ws where
 m:=mC k.v
 p:=λ_ s=>.ok k.d s
 fz:=I
 fr:=I
 ok {q h L B O Z env s} c:=⟨k.v,h,rfl,KB.refl _ _,c.pen,.inl k.rp,λ_=>k.rp,λ_ i j e=>by cases k<;>cases i<;>cases e⟩
def ah(o:A_)(a b:Xe ws):Xe ws where
 m:=aC o.m a.m b.m
 p:=λenv s=>(a.p env s).bind λx s1=>(b.p env s1).bind λy s2=>.of (o.p x y) s2
 fz:=I
 fr:=o.fr
 ok {q h L B O Z env s} c:=by
  refine(a.ok c).bind λx v H s1 i l ⟨E,_,_⟩=>?_;refine(b.ok (c.kb i l)).bind λy w G s2 j z ⟨F,_,_⟩=>?_
  cases e:o.p x y with
  |none=>trivial
  |some d =>
   have C:=(c.kb i l).kb j z;obtain⟨u,g,e1,r,f⟩:=o.ok C.bd (E.kb j c.pO c.pL) F e;exact C3 (wy i.len j.len) z ⟨u,g,by rw[e1];rfl,r,f⟩
def nz(o:Hi)(a:Xe ws):Xe ws where
 m:=DF o.m a.m
 p:=λenv s=>(a.p env s).bind λx s1=>.of (o.p x) s1
 fz:=I
 fr:=o.fr
 ok {q h L B O Z env s} c:=by
  refine(a.ok c).bind λx v y s1 i j ⟨l,_,_⟩=>?_
  cases e:o.p x with
  |none=>trivial
  |some d =>
   obtain⟨u,g,e1,r,f⟩:=o.ok (c.kb i j).bd l e;exact C3 i.len j ⟨u,g,by rw[e1];rfl,r,f⟩
def a_:Xs ws where
 m:=c_
 p:=λ_ s=>.ok [] s
 fz:=I
 ok {q h L B O Z env s} c:=⟨[],h,rfl,KB.refl _ _,c.pen,rfl,λ_=>rfl⟩
def ae(a:Xe ws)(r:Xs ws):Xs ws where
 m:=ai a.m r.m
 p:=λenv s=>(a.p env s).bind λx s1=>(r.p env s1).bind λy s2=>.ok (x::y) s2
 fz:=a.fz&&r.fz
 ok {q h L B O Z env s} c:=by refine(a.ok c).bind λx v H s1 l E ⟨C,u,_⟩=>?_;refine(r.ok (c.kb l E)).bind λy w j s2 i G ⟨F,z⟩=>?_;refine⟨v::w,j,rfl,KB.refl _ _,G,⟨v,w,rfl,C.kb i c.pO c.pL,F⟩,λf=>?_⟩;rw[DD]at f;exact⟨v,w,rfl,(u f.1).mv (i.mv c.pO),z f.2⟩
def k4(o:C9)(a:Xs ws):Xe ws where
 m:=λZ h=>(a.m Z h).bind o.k
 p:=λenv s=>(a.p env s).bind λx s1=>.of (o.p x) s1
 fz:=I
 fr:=o.fr
 ok {q h L B O Z env s} c:=by
  refine(a.ok c).bind λx v u s1 i j ⟨l,_⟩=>?_
  cases e:o.p x with
  |none=>trivial
  |some d=>exact C3 i.len j (o.ok (c.kb i j).bd l e)
def av(f:Fn)(a:Xs ws)(u:a.fz=I:=by exact ys rfl):Xe ws where
 m:=aY f.m a.m
 p:=λenv s=>(a.p env s).bind f.p
 fz:=I
 fr:=f.fr
 ok {q h L B O Z env s} c:=by refine(a.ok c).bind λx v C s1 i l ⟨_,z⟩=>?_;have j:=c.kb i l;refine(f.ok j.bd j.pO l (z u)).imp λy d v kb ⟨r,fr⟩=>⟨.inl r,λ_=>r,λz=>(fr z).le i.len⟩
def lZ:100000<=sizeLine:=by decide
def ot(bd:Bd h O)(r:Rps q h O ds xs)(hl:ds.length<=100000):Gv q h O I (vr xs h) (.lst ds):=by
 have y:=r.length;have m:Mv O h O (h++[MO.lst xs]):=⟨λn j _=>BH j,λo i=>.inl i⟩
 have u:Mv O h (h.length::O) (h++[MO.lst xs]):=⟨λn j _=>BH j,λo i=>by
  rcases ki.mp i with z|z
  .exact .inr ⋯
  .exact .inl z⟩
 have g:(h++[MO.lst xs])[h.length]?=J (.lst xs):=by simp
 refine⟨.loc h.length,[.lst xs],?_,⟨_,_,rfl,λz=>by have:=bd _ z;lia,g,r.mv m⟩,λ_ k l e=>?_⟩
 .unfold vr;have:=lZ;lia
 .obtain⟨rfl,rfl⟩:=gQ e;exact⟨_,_,rfl,mh _,g,r.mv u⟩
def wJ(r:Rps q h O ds xs)(hl:ds.length<=100000):Gv q h O I (yR xs h) (.tup ds):=by
 have j:=r.length;refine⟨.tup xs,[],?_,?_,λ_ k i e=>by cases k<;>cases e⟩
 .unfold yR;rw[eT (by have:=lZ;lia)];simp
 .simpa using⟨xs,rfl,r⟩
def aU(a:Xs ws)(l:a.fz=I:=by exact ys rfl):Xe ws where
 m:=cQ a.m
 p:=λenv s=>(a.p env s).bind λx s1=>if x.length<=100000 then .ok (.lst x) s1 else .bad
 fz:=I
 fr:=I
 ok {q h L B O Z env s} c:=by
  refine(a.ok c).bind λx v u s1 i j ⟨_,z⟩=>?_;by_cases hl:x.length<=100000
  .rw[eT hl];exact C3 i.len j (ot (c.kb i j).bd (z l) hl)
  .rw[hF hl];trivial
def cR(a:Xs ws)(i:a.fz=I:=by exact ys rfl):Xe ws where
 m:=cZ a.m
 p:=λenv s=>(a.p env s).bind λx s1=>if x.length<=100000 then .ok (.tup x) s1 else .bad
 fz:=I
 fr:=I
 ok {q h L B O Z env s} c:=by
  refine(a.ok c).bind λx v u s1 j l ⟨_,z⟩=>?_;by_cases hl:x.length<=100000
  .rw[eT hl];exact C3 j.len l (wJ (z i) hl)
  .rw[hF hl];trivial
def DZ:Xe ws where
 m:=Dz
 p:=λ_ s=>.ok (.dic T [] []) s
 fz:=I
 fr:=I
 ok {q h L B O Z env s} c:=by
  have g:(h++[MO.dic T [] []])[h.length]?=J (.dic T [] []):=by simp
  have r:Rp q (h++[MO.dic T [] []]) O (.dic T [] []) (.loc h.length):=⟨_,[],rfl,λz=>by have:=c.bd _ z;lia,g,rfl⟩
  exact⟨.loc h.length,h++[.dic T [] []],rfl,KB.app _ _ _,c.pen.app,.inl r,λ_=>r,λ_ k i e=>by
   cases k with
   |none=>cases e
   |some j=>cases e;exact⟨_,[],rfl,mh _,g,rfl⟩⟩
def Vw.bl(w:Vw q h L O (.bl b) v):v=.bl b:=by
 rcases w with r|⟨n,k,xs,i,e,_⟩
 .exact r
 .cases k<;>cases e
def PR.bl(r:PR D):PR Bool:=r.bind λd s=>match d with
 |.bl b=>.ok b s
 |_=>.bad
@[simp]theorem Pl:(PR.ok (D.bl b) s).bl=.ok b s:=rfl
def xB(a:Xe ws):Xt ws where
 m:=mB a.m
 p:=λenv s=>(a.p env s).bl
 ok {q h L B O Z env s} c:=by
  refine(a.ok c).bind λx v i s1 l j ⟨w,_,_⟩=>?_
  cases x with
  |bl b=>rw[w.bl];exact⟨b,i,rfl,KB.refl _ _,j,rfl⟩
  |_=>trivial
def iC(a:Xt ws):Xt ws where
 m:=IN a.m
 p:=λenv s=>(a.p env s).bind λb s=>.ok (!b) s
 ok {q h L B O Z env s} c:=(a.ok c).bind λx v i s1 l j e=>⟨!v,i,rfl,KB.refl _ _,j,by rw[e]⟩
def j7(a b:Xt ws):Xt ws where
 m:=IR a.m b.m
 p:=λenv s=>(a.p env s).bind λx s=>if x=I then b.p env s else .ok T s
 ok {q h L B O Z env s} c:=(a.ok c).bind λx v j s1 l i e=>by
  subst e
  cases x with
  |true=>simpa using b.ok (c.kb l i)
  |false=>exact⟨T,j,rfl,KB.refl _ _,i,rfl⟩
def yF(a b:Xt ws):Xt ws where
 m:=DG a.m b.m
 p:=λenv s=>(a.p env s).bind λx s=>if x=I then .ok I s else b.p env s
 ok {q h L B O Z env s} c:=(a.ok c).bind λx v j s1 l i e=>by
  subst e
  cases x with
  |false=>simpa using b.ok (c.kb l i)
  |true=>exact⟨I,j,rfl,KB.refl _ _,i,rfl⟩
def i4:Xt ws where
 m:=A9
 p:=λ_ s=>.ok I s
 ok {q h L B O Z env s} c:=⟨I,h,rfl,KB.refl _ _,c.pen,rfl⟩
def Ok.after{α β:Type}{p:Nat}{h y:MH}{o:Out β}{r:PR α}{R:MH->α->β->Prop}(k:KB p h y)(q:Ok p y o r R):Ok p h o r R:=by
 cases r with
 |bad=>trivial
 |exc C s2=>obtain⟨j,i,l,u⟩:=q;exact⟨j,i,k.trans l,u⟩
 |ok E s2=>obtain⟨B,j,i,l,u,z⟩:=q;exact⟨B,j,i,k.trans l,u,z⟩
def Hj(pn:cN h q s):Ok q h (.ok (.bl b) h) (.ok (.bl b) s) (λi d v=>Vw q i L O d v/\(I=I->Rp q i O d v)/\(I=I->Frs q l O i d v)) :=
 ⟨.bl b,h,rfl,KB.refl _ _,pn,.inl rfl,λ_=>rfl,λ_ k j e=>by cases k<;>cases e⟩
def JG(k:Ok q h o r (λi d v=>Vw q i L O d v/\(fz=I->Rp q i O d v)/\(fr=I->Frs q l' O i d v))):
  Ok q h o (r.bl.bind λb s=>.ok (.bl b) s) (λi d v=>Vw q i L O d v/\(I=I->Rp q i O d v)/\(I=I->Frs q l O i d v)):=by
 cases r with
 |bad=>trivial
 |exc c s=>exact k
 |ok d s =>
  obtain⟨v,i,e,kb,pn,w,_,_⟩:=k
  cases d with
  |bl b=>exact⟨v,i,e,kb,pn,w,λ_=>by rw[w.bl];rfl,λ_ k j e=>by cases k<;>cases e⟩
  |_=>trivial
def fH(a b:Xe ws):Xe ws where
 m:=yL a.m b.m
 p:=λenv s=>(a.p env s).bl.bind λx s=>if x=I then(b.p env s).bl.bind λy s=>.ok (.bl y) s else .ok (.bl T) s
 fz:=I
 fr:=I
 ok {q h L B O Z env s} c:=by
  have k:=a.ok c;show Ok q h ((a.m Z h).bind _) _ _
  cases e:a.p env s with
  |bad=>trivial
  |exc x s1 =>
   rw[e]at k;obtain⟨u,e1,i,j⟩:=k;rw[e1];exact⟨u,rfl,i,j⟩
  |ok d s1 =>
   rw[e]at k;obtain⟨v,u,e1,i,j,w,_,_⟩:=k
   cases d with
   |bl x =>
    rw[w.bl]at e1;rw[e1]
    cases x with
    |true =>
     exact Ok.after i (JG (l:=h.length) (b.ok (c.kb i j)))
    |false =>
     obtain⟨H,C,z,F,G,E⟩:=Hj (L:=L) (l:=h.length) (O:=O) (b:=T) j;exact⟨H,C,z,i.trans F,G,E⟩
   |_=>trivial
def uh(a:Xe ws):Xe ws where
 m:=yC a.m
 p:=λenv s=>(a.p env s).bl.bind λx s=>.ok (.bl (!x)) s
 fz:=I
 fr:=I
 ok {q h L B O Z env s} c:=by
  have k:=a.ok c;show Ok q h ((a.m Z h).bind _) _ _
  cases e:a.p env s with
  |bad=>trivial
  |exc x s1 =>
   rw[e]at k;obtain⟨u,e1,i,j⟩:=k;rw[e1];exact⟨u,rfl,i,j⟩
  |ok d s1 =>
   rw[e]at k;obtain⟨v,u,e1,i,j,w,_,_⟩:=k
   cases d with
   |bl x =>
    rw[w.bl]at e1;rw[e1];obtain⟨G,z,y,E,F,C⟩:=Hj (L:=L) (l:=h.length) (O:=O) (b:=!x) j;exact⟨G,z,y,i.trans E,F,C⟩
   |_=>trivial
def iz(t:Xt ws)(a b:Xe ws)(fz:Bool)(hf:fz=(a.fz&&b.fz):=by exact ys rfl):Xe ws where
 m:=IY t.m a.m b.m
 p:=λenv s=>(t.p env s).bind λx s=>if x=I then a.p env s else b.p env s
 fz:=fz
 fr:=T
 ok {q h L B O Z env s} c:=(t.ok c).bind λx v u s1 i j e=>by
  subst e
  cases x with
  |true=>exact(a.ok (c.kb i j)).imp λl d v kb r=>⟨r.1,λf=>r.2.1 (by rw[hf,DD]at f;exact f.1),λf=>by simp at f⟩
  |false=>exact(b.ok (c.kb i j)).imp λl d v kb r=>⟨r.1,λf=>r.2.1 (by rw[hf,DD]at f;exact f.2),λf=>by simp at f⟩
def g7(f g:A_)(a b e:Xe ws):Xe ws where
 m:=qC f.m g.m a.m b.m e.m
 p:=λenv s=>(a.p env s).bind λx s1=>(b.p env s1).bind λy s2=>match f.p x y with
  |some (.bl t)=>if t=I then(e.p env s2).bind λz P=>.of (g.p y z) P else .ok (.bl T) s2
  |_=>.bad
 fz:=I
 fr:=T
 ok {q h L B O Z env s} c:=by
  refine(a.ok c).bind λx v h1 s1 E G ⟨W,_,_⟩=>?_;refine(b.ok (c.kb E G)).bind λy w i s2 H C ⟨R,_,_⟩=>?_;have F:=(c.kb E G).kb H C
  cases e1:f.p x y with
  |none=>trivial
  |some d =>
   cases d with
   |bl t =>
    obtain⟨u,l,e2,r,_⟩:=f.ok F.bd (W.kb H c.pO c.pL) R e1;have hu:u=.bl t:=r;subst hu;rw[e2];have j:=KB.app q i l;have Q:=F.kb j C.app
    cases t with
    |true =>
     refine Ok.after j ?_;show Ok q (i++l) ((e.m Z (i++l)).bind _) _ _;refine(e.ok Q).bind λz u h3 P M S ⟨X,_,_⟩=>?_
     cases e4:g.p y z with
     |none=>trivial
     |some d =>
      obtain⟨u2,U,e5,r2,_⟩:=g.ok (Q.kb M S).bd ((R.kb j c.pO c.pL).kb M c.pO c.pL) X e4;refine⟨u2,h3++U,by rw[e5];rfl,KB.app _ _ _,S.app,.inl r2,λ_=>r2,λf=>by simp at f⟩
    |false=>exact⟨.bl T,i++l,rfl,j,C.app,.inl rfl,λ_=>rfl,λf=>by simp at f⟩
   |_=>trivial
end
structure Xi(ws:VN) where
 m:Mx MIt
 p:aN->f_->PR (VP)
 fz:Bool
 ok:∀{q h L B O Z env s},Cx q h L B O ws Z env s->Ok q h (m Z h) (p env s) (λh' ds it=>Rps q h' O ds it.xs/\(∀g∈it.gd,h'[g.1]?=J (.lst g.2)/\g.1≠q)/\(fz=I->∀g∈it.gd,g.1∉O))
inductive GI(q:Nat)(h:MH)(O:VN)(ds as:VP)(xs:UZ)(o:Out MIt):Prop
 |mk(it:MIt)(e:o=.ok it h)(r:Rps q h O ds it.xs)(g:∀g∈it.gd,h[g.1]?=J (.lst g.2)/\g.1≠q)(z:Rps q h O as xs->∀g∈it.gd,g.1∉O):GI q h O ds as xs o
structure Nz where
 k:UZ->MH->Out MIt
 p:VP->Option (VP)
 ok:∀{q h L O as xs ds},q<L->q∈O->Bd h O->Hh q h L O as xs->p as=J ds->GI q h O ds as xs (k xs h)
def D.items:D->Option (VP)
 |.lst i=>J i
 |.tup i=>J i
 |_=>Y
@[simp]theorem LJ:(D.lst ds).items=J ds:=rfl
@[simp]theorem LK:(D.tup ds).items=J ds:=rfl
noncomputable section
variable{ws:VN}
def iw(o:Nz)(a:Xs ws):Xi ws where
 m:=λZ h=>(a.m Z h).bind o.k
 p:=λenv s=>(a.p env s).bind λx s1=>.of (o.p x) s1
 fz:=a.fz
 ok {q h L B O Z env s} c:=by
  refine(a.ok c).bind λx v y s1 j i ⟨w,z⟩=>?_
  cases e:o.p x with
  |none=>trivial
  |some E =>
   obtain⟨C,e1,r,l,u⟩:=o.ok c.pL c.pO (c.kb j i).bd w e;exact⟨C,y,e1,KB.refl _ _,i,r,l,λf=>u (z f)⟩
def Vw.seq(G:q<L)(F:q∈O)(w:Vw q h L O d v)(e:d.items=J ds):∃xs gd,AW v h=.ok ⟨xs,gd⟩ h/\Rps q h O ds xs/\(∀g∈gd,h[g.1]?=J (.lst g.2)/\g.1≠q)/\(Rp q h O d v->∀g∈gd,g.1∉O):=by
 have one:∀n xs,h[n]?=J (MO.lst xs)->n≠q->(∀g∈[(n,xs)],h[g.1]?=J (MO.lst g.2)/\g.1≠q):=λn xs g C y i=>by
  have:y=(n,xs):=by simpa using i
  subst this;exact⟨g,C⟩
 cases d with
 |lst u =>
  have:u=ds:=by simpa using e
  subst this;rcases w with⟨n,xs,e1,no,g,r⟩|⟨n,B,xs,j,l,e1,_,C,g,r⟩
  .subst e1;refine⟨xs,[(n,xs)],by simp only[AW,g],r,one n xs g (λz=>no (z▸F)),λ_ y i=>?_⟩
   have:y=(n,xs):=by simpa using i
   subst this;exact no
  .obtain⟨rfl,rfl⟩:=gQ l;subst e1;replace g:h[n]?=J (.lst xs):=g;refine⟨xs,[(n,xs)],by simp only[AW,g],r,one n xs g ⋯,λ⟨H,E,e1,no,_,_⟩ y i=>?_⟩
   grind
 |tup u =>
  have:u=ds:=by simpa using e
  subst this;rcases w with⟨xs,e1,r⟩|⟨n,B,xs,j,l,_⟩
  .subst e1;exact⟨xs,[],rfl,r,(λ_ i=>nomatch i),λ_ _ i=>nomatch i⟩
  .cases B<;>cases l
 |_=>simp[D.items]at e
def fB(a:Xe ws):Xi ws where
 m:=kf a.m
 p:=λenv s=>(a.p env s).bind λx s1=>.of x.items s1
 fz:=a.fz
 ok {q h L B O Z env s} c:=by
  refine(a.ok c).bind λx v l s1 y u ⟨w,z,_⟩=>?_
  cases e:x.items with
  |none=>trivial
  |some C =>
   obtain⟨xs,gd,e1,r,i,j⟩:=w.seq c.pL c.pO e;exact⟨⟨xs,gd⟩,l,e1,KB.refl _ _,u,r,i,λf=>j (z f)⟩
structure Xg(ws:VN) where
 m:Mg
 p:D->aN->Option aN
 ok:∀{q h L O Z env d v env'},SR q h L O ws Z env->Rp q h O d v->p d env=J env'->∃Z',m v Z h=.nx Z' h/\SR q h L O ws Z' env'/\∀i∈ws,Z'[i]?=Z[i]?/\env'[i]?=env[i]?
structure Hk(ws:VN) where
 m:ES
 p:VP->aN->Option aN
 ok:∀{q h L O Z env ds vs env'},SR q h L O ws Z env->Rps q h O ds vs->p ds env=J env'->∃Z',m vs Z h=.nx Z' h/\SR q h L O ws Z' env'/\∀i∈ws,Z'[i]?=Z[i]?/\env'[i]?=env[i]?
def SR.set(r:SR q h L O ws Z env)(B:i∉ws)(w:Rp q h O d v):SR q h L O ws (Z.set i (J v)) (env.set i (J d))/\∀j∈ws,(Z.set i (J v))[j]?=Z[j]?/\(env.set i (J d))[j]?=env[j]?:=by
 have ne:∀j∈ws,i≠j:=λj l z=>B (z▸l);refine⟨⟨by simp[r.len],λj e l hw=>?_,λj e l hw=>?_⟩,λj l=>⟨pk (ne j l),pk (ne j l)⟩⟩
 .by_cases z:i=j
  .subst z;have hl:i<env.length:=by
    have:=(w_.mp l).1;simpa using this
   rw[B6 hl]at l;cases l;exact⟨v,B6 (by rw[r.len];exact hl),w⟩
  .rw[pk z]at l;obtain⟨u,e1,F⟩:=r.fz j e l hw
   simp_all
 .rw[pk (ne j hw)]at l;obtain⟨n,E,xs,C,e1,e2,y⟩:=r.ow j e l hw;exact⟨n,E,xs,C,e1,by rw[pk (ne j hw)];exact e2,y⟩
def n3(i:Nat)(l:ws.contains i=T:=by exact ys rfl):Xg ws where
 m:=v1 i
 p:=λd env=>J (env.set i (J d))
 ok {q h L O Z env d v env'} r w e:=by
  cases e;have j:i∉ws:=λz=>by simp[z]at l
  obtain⟨a,b⟩:=r.set j w;exact⟨_,rfl,a,b⟩
def Dh:Hk ws where
 m:=ET
 p:=λi env=>match i with
  |[]=>J env
  |_=>Y
 ok {q h L O Z env i vs env'} r w e:=by
  cases i with
  |nil =>
   cases e
   have:vs=[]:=w
   subst this;exact⟨Z,rfl,r,λ_ _=>⟨rfl,rfl⟩⟩
  |cons _ _=>cases e
def yV(a:Xg ws)(t:Hk ws):Hk ws where
 m:=DH a.m t.m
 p:=λl env=>match l with
  |d::l=>(a.p d env).bind λj=>t.p l j
  |[]=>Y
 ok {q h L O Z env l vs env'} r w e:=by
  cases l with
  |nil=>cases e
  |cons d l =>
   obtain⟨x,y,rfl,r1,r2⟩:=w;dsimp only at e
   cases e1:a.p d env with
   |none=>rw[e1]at e;cases e
   |some j =>
    rw[e1]at e;obtain⟨G,F,s1,z⟩:=a.ok r r1 e1;obtain⟨C,E,s2,B⟩:=t.ok s1 r2 e;exact⟨C,by show(a.m x Z h).then (t.m y)=_;rw[F];exact E,s2,λi u=>⟨(B i u).1.trans (z i u).1,(B i u).2.trans (z i u).2⟩⟩
def Di(t:Hk ws)(n:Nat):Xg ws where
 m:=EV t.m n
 p:=λd env=>match d with
  |.tup i=>if i.length=n then t.p i env else Y
  |_=>Y
 ok {q h L O Z env d v env'} r w e:=by
  cases d with
  |tup i =>
   obtain⟨xs,rfl,w⟩:=w;dsimp only at e;by_cases z:i.length=n
   .rw[eT z]at e;obtain⟨j,a,b⟩:=t.ok r w e;exact⟨j,by show(if xs.length=n then t.m xs Z h else .bad)=_;rw[eT (by rw[w.length];exact z)];exact a,b⟩
   .rw[hF z]at e;cases e
  |_=>cases e
def DI(i:Nat)(fm ws:VN):VN:=((List.range fm.length).filter λj=>ws.contains (fm.getD j 0)).map (i+·)
def v2(j:Nat)(fm:VN)(env:aN):aN:=List.replicate j Y++fm.map λi=>(env[i]?).getD Y
def PR.ne{α:Type}(r:PR α):PR α:=match r with
 |.exc _ _=>.bad
 |r=>r
@[simp]theorem PR.ne_ok(a:α)(s:f_):(PR.ok a s).ne=.ok a s:=rfl
def cG(g:D->aN->Option aN)(t:aN->f_->PR Bool)(e:aN->f_->PR D):VP->aN->f_->PR (VP)
 |[],_,s=>.ok [] s
 |d::j,env,s=>match g d env with
  |none=>.bad
  |some i=>(t i s).bind λb s1=>if b=I then(e i s1).bind λx s2=>(cG g t e j i s2).bind λr l=>.ok (x::r) l else cG g t e j i s1
def NA{l:Nat}{fm:VN}{α:Type}{env:List (Option α)}{i:Nat}{d:α}(e:(List.replicate l Y++fm.map λi=>(env[i]?).getD Y)[i]?=J (J d)):∃j k,i=l+j/\fm[j]?=J k/\env[k]?=J (J d):=by
 by_cases z:i<l
 .rw[BH (by simpa using z)]at e;simp[z]at e
 .rw[DC (by simp;lia)]at e;simp only[HJ,CG]at e
  cases u:fm[i-l]? with
  |none=>rw[u]at e;cases e
  |some k =>
   rw[u]at e;simp only[Q7]at e;refine⟨i-l,k,⋯,u,?_⟩
   cases y:env[k]? with
   |none=>rw[y]at e;cases e
   |some o=>rw[y]at e;simp at e;rw[e]
def NB{l:Nat}{fm:VN}{α:Type}{Z:List (Option α)}{j k:Nat}{v:α}(e1:fm[j]?=J k)(e2:Z[k]?=J (J v)):(List.replicate l Y++fm.map λi=>(Z[i]?).getD Y)[l+j]?=J (J v):=by rw[DC (by simp)];simp[e1,e2]
def xI(e:fm[j]?=J k):nv+j∈DI nv fm ws↔k∈ws:=by
 have i:=(w_.mp e).1;unfold DI
 simp_all
def SR.comp{q:Nat}{h:MH}{L:Nat}{O:VN}{Z:n7}{env:aN}(u:Nat)(fm:VN)(r:SR q h L O ws Z env):SR q h L O (DI u fm ws) (DY u fm Z) (v2 u fm env):=by
 refine⟨by simp[DY,v2],λi d e l=>?_,λi d e l=>?_⟩
 .obtain⟨j,k,rfl,e1,e2⟩:=NA e;obtain⟨v,e3,w⟩:=r.fz k d e2 λz=>l ((xI e1).mpr z);exact⟨v,NB e1 e3,w⟩
 .obtain⟨j,k,rfl,e1,e2⟩:=NA e;obtain⟨n,C,xs,B,y,e3,w⟩:=r.ow k d e2 ((xI e1).mp l);exact⟨n,C,xs,B,y,NB e1 e3,w⟩
def JH(gt:Xg E)(t:Xt E)(e:Xe E)(hz:e.fz=I)(hq:q<h1.length)(gd:∀g∈it.gd,h1[g.1]?=J (.lst g.2)/\g.1≠q):
  ∀(S:VP)(xs:UZ)(env:aN)(Z:n7)(h:MH)(C:VP)(l:UZ)(s:f_)(r:VP)(s':f_),(∀i∈E,∀d,env[i]?=J (J d)->∀n,Z[i]?=J (J (.loc n))->n<h1.length)->KB q h1 h->Cx q h L B (h1.length::O) E Z env s->Rps q h (h1.length::O) S xs->h[h1.length]?=J (.lst l)->Rps q h (h1.length::O) C l->C.length+S.length<=100000 ->
  cG gt.p t.p e.p S env s=.ok r s'->∃F W,Do it h1.length gt.m t.m e.m xs Z h=.ok () F/\KB q h1 F/\cN F q s'/\F[h1.length]?=J (.lst W)/\Rps q F (h1.length::O) (C++r) W:=by
 intro S
 induction S with
 |nil =>
  intro xs env Z h C l s r s' on kb c rx ga ra hl j
  have:xs=[]:=rx
  subst this;cases j;have ok:it.ok h:=λg hg=>(kb.keep _ (bN (gd g hg).1) (gd g hg).2).trans (gd g hg).1;exact⟨h,l,by rw[Do,eT ok],kb,c.pen,ga,by simpa using ra⟩
 |cons d S ih =>
  intro xs env Z h C l s r s' on kb c rx ga ra hl j;obtain⟨x,xr,rfl,r1,r2⟩:=rx;have ok:it.ok h:=λg hg=>(kb.keep _ (bN (gd g hg).1) (gd g hg).2).trans (gd g hg).1;rw[cG]at j
  cases eg:gt.p d env with
  |none=>rw[eg]at j;cases j
  |some u =>
   rw[eg]at j;dsimp only at j;obtain⟨Z1,f1,ac,k1⟩:=gt.ok c.sr r1 eg;have R:∀i∈E,∀d,u[i]?=J (J d)->∀n,Z1[i]?=J (J (.loc n))->n<h1.length:=λi M d e n z=>on i M d ((k1 i M).2▸e) n ((k1 i M).1▸z);have c1:Cx q h L B (h1.length::O) E Z1 u s:=⟨c.bd,c.sub,c.bb,c.pb,c.hL,c.pen,ac⟩;have kt:=t.ok c1
   cases et:t.p u s with
   |bad=>rw[et]at j;cases j
   |exc _ _=>rw[et]at j;cases j
   |ok b s1 =>
    rw[et]at j kt;obtain⟨b',h2,f2,k2,p2,eb⟩:=kt;subst eb;have c2:=c1.kb k2 p2;have G:Mv (h1.length::O) h (h1.length::O) h2:=k2.mv c.pO;have hn:h1.length<h.length:=bN ga;have U:h2[h1.length]?=J (.lst l):=(k2.keep _ hn ⋯).trans ga;rw[Pb]at j
    cases b with
    |false =>
     rw[hF (by simp)]at j;obtain⟨F,W,a1,a2⟩:=ih xr u Z1 h2 C l s1 r s' R (kb.trans k2) c2 (r2.mv G) U (ra.mv G) (by simp at hl;lia) j;refine⟨F,W,?_,a2⟩;rw[Do,eT ok,f1];simp only[f2,Out.ne_ok,Out.bind_ok,ol,if_false];exact a1
    |true =>
     rw[eT rfl]at j;have ke:=e.ok c2
     cases ee:e.p u s1 with
     |bad=>rw[ee]at j;cases j
     |exc _ _=>rw[ee]at j;cases j
     |ok y s2 =>
      rw[ee]at j ke;obtain⟨v,P,f3,k3,p3,_,rv,_⟩:=ke;have rv:=rv hz;have Q:=c2.kb k3 p3;have X:Mv (h1.length::O) h2 (h1.length::O) P:=k3.mv c.pO;have ab:P[h1.length]?=J (.lst l):=(k3.keep _ (bN U) ⋯).trans U;have H:Mv (h1.length::O) P (h1.length::O) (P.set h1.length (.lst (l++[v]))) :=
       ⟨λn hn no=>pk (λz=>no (by simp[z])),λo ho=>.inl ho⟩
      have ag:Rps q P (h1.length::O) (C++[y]) (l++[v]):=((ra.mv G).mv X).app ⟨v,[],rfl,rv,rfl⟩;rw[Pb]at j
      cases er:cG gt.p t.p e.p S u s2 with
      |bad=>rw[er]at j;cases j
      |exc _ _=>rw[er]at j;cases j
      |ok r' s3 =>
       rw[er]at j;cases j;have aa:KB q h1 P:=(kb.trans k2).trans k3;have c4:Cx q (P.set h1.length (.lst (l++[v]))) L B (h1.length::O) E Z1 u s2:=by
        refine⟨λo ho=>by simpa using Q.bd o ho,Q.sub,Q.bb,Q.pb,by simpa using Q.hL,?_,?_⟩
        .unfold cN;rw[pk ⋯];exact p3
        .refine⟨Q.sr.len,λi d e M=>let⟨v,e1,q1⟩:=Q.sr.fz i d e M;⟨v,e1,q1.mv H⟩,λi d e M=>?_⟩;obtain⟨n,kd,ys,es,b1,b2,b3,b4,b5,b6⟩:=Q.sr.ow i d e M;have z:=R i M d e n b2;exact⟨n,kd,ys,es,b1,b2,b3,b4,by rw[pk ⋯];exact b5,b6.mv H⟩
       obtain⟨F,W,a1,a2,a3,a4,a5⟩:=ih xr u Z1 (P.set h1.length (.lst (l++[v]))) (C++[y]) (l++[v]) s2 r' _ R ⟨by simpa using aa.len,λn hn hp=>by rw[pk ⋯];exact aa.keep n hn hp⟩ c4 (((r2.mv G).mv X).mv H) (B6 (bN ab)) (ag.mv H) (by simp at hl ⊢;lia) er;refine⟨F,W,?_,a2,a3,a4,by simpa using a5⟩;rw[Do,eT ok,f1];simp only[f2,Out.ne_ok,Out.bind_ok,if_true,f3,ab];rw[eT (by have:=lZ;have:=ra.length;simp at hl;lia)];exact a1
def c6(j:Nat)(fm:VN)(i:Xi ws){ws':VN}(g:Xg ws')(t:Xt ws')(e:Xe ws')(hw:DI j fm ws=ws':=by exact ys rfl)(hz:e.fz=I:=by exact ys rfl):Xe ws where
 m:=gh j fm i.m g.m t.m e.m
 p:=λenv s=>(i.p env s).bind λy s1=>if y.length<=100000 then (match cG g.p t.p e.p y (v2 j fm env) s1 with
  |.ok r s2=>.ok (.lst r) s2
  |_=>.bad)else .bad
 fz:=I
 fr:=I
 ok {q h L B O Z env s} c:=by
  subst hw;refine(i.ok c).bind λy it l s1 G E ⟨rx,gd,_⟩=>?_;have C:=c.kb G E;by_cases hl:y.length<=100000
  .rw[eT hl]
   cases Q:cG g.p t.p e.p y (v2 j fm env) s1 with
   |bad=>trivial
   |exc _ _=>trivial
   |ok r s2 =>
    have mv:Mv O l (l.length::O) (l++[MO.lst []]):=⟨λn F _=>BH F,λo u=>by
     rcases ki.mp u with z|z
     .exact .inr ⋯
     .exact .inl z⟩
    have sr:=(C.sr.comp j fm).mv mv (λo u=>pW _ u) λn F _ _=>BH F;have c2:Cx q (l++[MO.lst []]) L B (l.length::O) (DI j fm ws) (DY j fm Z) (v2 j fm env) s1:=by
     refine⟨λo u=>?_,λo u=>pW _ (c.sub o u),c.bb,c.pb,by have:=C.hL;simp;lia,E.app,sr⟩;rcases ki.mp u with z|z
     .subst z;simp
     .have:=C.bd o z;simp;lia
    have W:q<l.length:=bN E
    obtain⟨M,zs,R,a2,a3,S,U⟩:=JH g t e hz (L:=L) (B:=B) (O:=O) W gd y it.xs (v2 j fm env) (DY j fm Z) (l++[MO.lst []]) [] [] s1 r s2 (λi hi d X n P=>by
     obtain⟨n',_,_,_,_,b2,_,_,b5,_⟩:=(C.sr.comp j fm).ow i d X hi;rw[b2]at P;cases P
     exact bN b5) (KB.app _ _ _) c2 (rx.mv mv) (by simp) rfl (by simpa using hl) Q
    have f:Frs q h.length O M (.lst r) (.loc l.length):=λk y e=>by
     obtain⟨rfl,rfl⟩:=gQ e;exact⟨_,zs,rfl,G.len,S,by simpa using U⟩
    have H:=f.rp (k:=Y) c.bd rfl;exact⟨.loc l.length,M,by show(Do _ _ _ _ _ _ _ _).bind _=_;rw[R];rfl,a2,a3,.inl H,λ_=>H,λ_=>f⟩
  .rw[hF hl];trivial
end
inductive PS where
 |nx(e:aN)(s:f_)
 |rt(d:D)(s:f_)
 |bk(e:aN)(s:f_)
 |ct(e:aN)(s:f_)
 |exc(c:tr)(e:aN)(s:f_)
 |rse(c:tr)(e:aN)(s:f_)
 |bad
structure Stp(q L:Nat)(h:MH)(O:VN)(h':MH)(O':VN):Prop where
 len:h.length<=h'.length
 mv:Mv O h O' h'
 sub:∀o∈O,o∈O'
 base:∀n:Nat,n<L->n≠q->h'[n]?=h[n]?
def Stp.refl(q L:Nat)(h:MH)(O:VN):Stp q L h O h O:=⟨mh _,⟨λ_ _ _=>rfl,λ_ h=>.inl h⟩,λ_ h=>h,λ_ _ _=>rfl⟩
def Stp.trans(a:Stp q L h O h1 O1)(b:Stp q L h1 O1 h2 O2):Stp q L h O h2 O2:=by
 refine⟨wy a.len b.len,⟨λn i no=>?_,λo j=>?_⟩,λo j=>b.sub o (a.sub o j),λn i l=>(b.base n i l).trans (a.base n i l)⟩
 .have u:n∉O1:=λz=>by
   rcases a.mv.new n z with q|q
   .exact no q
   .lia
  exact(b.mv.keep n (vl i a.len) u).trans (a.mv.keep n i no)
 .rcases b.mv.new o j with z|z
  .exact a.mv.new o z
  .exact .inr (wy a.len z)
def Dis(l:VN)(Z:n7)(env:aN):Prop:=∀i j,i∈l->j∈l->i≠j->∀d u n,env[i]?=J (J d)->env[j]?=J (J u)->Z[i]?=J (J (.loc n))->Z[j]?≠J (J (.loc n))
inductive Nxt(q L:Nat)(h:MH)(B O ws:VN)(Z':n7)(h':MH)(env:aN)(s:f_):Prop
 |mk(O':VN)(a:Stp q L h O h' O')(c:Cx q h' L B O' ws Z' env s)(d:Dis ws Z' env):Nxt q L h B O ws Z' h' env s
inductive LL(q L:Nat)(h:MH)(B O ws:VN)(f:n7->MH->SOut)(o:SOut)(env:aN)(s:f_):Prop
 |mk(Z':n7)(h':MH)(e:o=f Z' h')(n:Nxt q L h B O ws Z' h' env s):LL q L h B O ws f o env s
inductive T_(q L:Nat)(h:MH)(B:VN)(fr:Bool)(o:SOut)(d:D)(s:f_):Prop
 |mk(v:PV)(h':MH)(e:o=.rt v h')(l:h.length<=h'.length)(b:∀n:Nat,n<L->n≠q->h'[n]?=h[n]?)(p:cN h' q s)(r:Rp q h' B d v)(f:fr=I->Frs q L B h' d v):T_ q L h B fr o d s
def SOk(q L:Nat)(h:MH)(B O i:VN)(fr:Bool)(o:SOut)(r:PS):Prop:=match r with
 |.nx env s=>LL q L h B O i .nx o env s
 |.bk env s=>LL q L h B O i .bk o env s
 |.ct env s=>LL q L h B O i .ct o env s
 |.exc c env s=>LL q L h B O i (.exc c) o env s
 |.rse c env s=>LL q L h B O i (.rse c) o env s
 |.rt d s=>T_ q L h B fr o d s
 |.bad=>True
structure Xd(ws:VN) where
 m:oh
 p:aN->f_->PS
 fr:Bool
 ok:∀{q h L B O Z env s},Cx q h L B O ws Z env s->Dis ws Z env->SOk q L h B O ws fr (m Z h) (p env s)
def Nxt.after(a:Stp q L h O h1 O1)(n:Nxt q L h1 B O1 ws Z' h' env s):Nxt q L h B O ws Z' h' env s :=
 let⟨i,b,c,d⟩:=n;⟨i,a.trans b,c,d⟩
def SOk.after(a:Stp q L h O h1 O1)(k:SOk q L h1 B O1 ws fr o r):SOk q L h B O ws fr o r:=by
 cases r with
 |nx env s=>obtain⟨j,i,e,n⟩:=k;exact⟨j,i,e,n.after a⟩
 |bk env s=>obtain⟨j,i,e,n⟩:=k;exact⟨j,i,e,n.after a⟩
 |ct env s=>obtain⟨j,i,e,n⟩:=k;exact⟨j,i,e,n.after a⟩
 |exc c env s=>obtain⟨j,i,e,n⟩:=k;exact⟨j,i,e,n.after a⟩
 |rse c env s=>obtain⟨j,i,e,n⟩:=k;exact⟨j,i,e,n.after a⟩
 |rt d s=>obtain⟨v,i,e,l,b,r1,r2,r3⟩:=k;exact⟨v,i,e,wy a.len l,λn y u=>(b n y u).trans (a.base n y u),r1,r2,r3⟩
 |bad=>trivial
def SOk.fr(hf:f'=I->f=I)(k:SOk q L h B O ws f o r):SOk q L h B O ws f' o r:=by
 cases r with
 |rt d s=>obtain⟨v,i,e,l,b,p,r,z⟩:=k;exact⟨v,i,e,l,b,p,r,λy=>z (hf y)⟩
 |nx env s=>exact k
 |bk env s=>exact k
 |ct env s=>exact k
 |exc c env s=>exact k
 |rse c env s=>exact k
 |bad=>trivial
def KB.stp(c:Cx q h L B O ws Z env s)(k:KB q h h'):Stp q L h O h' O :=
 ⟨k.len,k.mv c.pO,λ_ h=>h,λn j i=>k.keep n (vl j c.hL) i⟩
def PR.go{α:Type}(r:PR α)(env:aN)(k:α->aN->f_->PS):PS:=match r with
 |.ok a s=>k a env s
 |.exc c s=>.exc c env s
 |.bad=>.bad
@[simp]theorem Pg(a:α)(s:f_)(env:aN)(k:α->aN->f_->PS):(PR.ok a s).go env k=k a env s:=rfl
@[simp]theorem PR.go_exc(c:tr)(s:f_)(env:aN)(k:α->aN->f_->PS):(PR.exc c s:PR α).go env k=.exc c env s:=rfl
@[simp]theorem PR.go_bad(env:aN)(k:α->aN->f_->PS):(PR.bad:PR α).go env k=.bad:=rfl
theorem SOk.ex{α β:Type}{q L:Nat}{h:MH}{B O j:VN}{fr:Bool}{Z:n7}{env:aN}{s:f_}{o:Out β}{r:PR α}{R:MH->α->β->Prop}{f:β->oh}{g:α->aN->f_->PS}(c:Cx q h L B O j Z env s)(d:Dis j Z env)(k:Ok q h o r R)(n:∀a b i s1,KB q h i->Cx q i L B O j Z env s1->R i a b->SOk q L i B O j fr (f b Z i) (g a env s1)):
  SOk q L h B O j fr (o.go Z f) (r.go env g):=by
 cases r with
 |ok a s1 =>
  obtain⟨b,i,rfl,kb,pn,l⟩:=k;exact(n a b i s1 kb (c.kb kb pn) l).after (kb.stp c)
 |exc x s1 =>
  obtain⟨i,rfl,kb,pn⟩:=k;exact⟨Z,i,rfl,O,kb.stp c,c.kb kb pn,d⟩
 |bad=>trivial
noncomputable section
variable{ws:VN}
def PS.then(r:PS)(k:aN->f_->PS):PS:=match r with
 |.nx env s=>k env s
 |r=>r
@[simp]theorem au:(PS.nx env s).then k=k env s:=rfl
@[simp]theorem lr:(PS.rt d s).then k=.rt d s:=rfl
@[simp]theorem then_bk:(PS.bk env s).then k=.bk env s:=rfl
@[simp]theorem then_ct:(PS.ct env s).then k=.ct env s:=rfl
@[simp]theorem Be:(PS.exc c env s).then k=.exc c env s:=rfl
@[simp]theorem Cr:(PS.rse c env s).then k=.rse c env s:=rfl
@[simp]theorem Ch:PS.bad.then k=.bad:=rfl
def aw(a b:Xd ws):Xd ws where
 m:=aZ a.m b.m
 p:=λenv s=>(a.p env s).then b.p
 fr:=a.fr&&b.fr
 ok {q h L B O Z env s} c d:=by
  have k:=a.ok c d;show SOk q L h B O ws _ ((a.m Z h).then b.m) _
  cases e:a.p env s with
  |nx i s1 =>
   rw[e]at k;obtain⟨C,E,e1,z,st,u,y⟩:=k;rw[e1];exact((b.ok u y).fr (by simp)).after st
  |rt x s1=>rw[e]at k;obtain⟨v,j,e1,r1,r2,r3,r4,r5⟩:=k;rw[e1];exact SOk.fr (f:=a.fr) (by simp;exact λh _=>h) (show SOk q L h B O ws a.fr (.rt v j) (.rt x s1) from⟨v,j,rfl,r1,r2,r3,r4,r5⟩)
  |bk i s1=>rw[e]at k;obtain⟨l,j,e1,r⟩:=k;rw[e1];exact⟨l,j,rfl,r⟩
  |ct i s1=>rw[e]at k;obtain⟨l,j,e1,r⟩:=k;rw[e1];exact⟨l,j,rfl,r⟩
  |exc x i s1=>rw[e]at k;obtain⟨l,j,e1,r⟩:=k;rw[e1];exact⟨l,j,rfl,r⟩
  |rse x i s1=>rw[e]at k;obtain⟨l,j,e1,r⟩:=k;rw[e1];exact⟨l,j,rfl,r⟩
  |bad=>trivial
def e_:Xd ws where
 m:=i5
 p:=.nx
 fr:=I
 ok {q h L B O Z env s} c d:=⟨Z,h,rfl,O,Stp.refl _ _ _ _,c,d⟩
def JI{m:Mx PV}{Z:n7}{h:MH}:bK m Z h=(m Z h).go Z λv _ i=>.rt v i:=by unfold bK;cases m Z h<;>rfl
def aW(e:Xe ws):Xd ws where
 m:=bK e.m
 p:=λenv s=>(e.p env s).go env λd _ s=>.rt d s
 fr:=e.fr
 ok {q h L B O Z env s} c d:=by
  rw[JI];refine SOk.ex (f:=λv _ C=>.rt v C) (g:=λd _ s=>.rt d s) c d (e.ok c) λx v E s1 kb i ⟨w,z,f⟩=>?_;refine⟨v,E,rfl,mh _,λ_ _ _=>rfl,i.pen,w.base i.sub i.bb,λy=>?_⟩;intro k G u;obtain⟨n,xs,j,M,H,l⟩:=f y k G u
  have:=c.hL
  exact⟨n,xs,j,⋯,H,l.mv ⟨λ_ _ _=>rfl,λo F=>.inl (by
   rcases ki.mp F with z|z
   .subst z;simp
   .exact pW _ (c.sub o z))⟩⟩
def ua(i:Nat)(E:ws.contains i=I:=by exact ys rfl):Xd ws where
 m:=bK (ar i)
 p:=λenv s=>match env[i]? with
  |some (J d)=>.rt d s
  |_=>.bad
 fr:=I
 ok {q h L B O Z env s} c d:=by
  show SOk q L h B O ws _ _ (match env[i]? with|some (J d)=>PS.rt d s|_=>.bad)
  cases e:env[i]? with
  |none=>trivial
  |some o =>
   cases o with
   |none=>trivial
   |some x =>
    obtain⟨n,l,xs,u,e1,e2,a,b,g,r⟩:=c.sr.ow i x e (by simpa using E);subst e1
    have C:Mv O h (n::B) h:=⟨λ_ _ _=>rfl,λo F=>.inl (by
     rcases ki.mp F with z|z
     .subst z;exact a
     .exact c.sub o z)⟩
    have f:Frs q L B h (dl l u) (.loc n):=λy j e=>by
     have:y=l/\j=u:=by cases l<;>cases y<;>cases e<;>exact⟨rfl,rfl⟩
     obtain⟨rfl,rfl⟩:=this;exact⟨n,xs,rfl,b,g,r.mv C⟩
    refine⟨.loc n,h,by simp[bK,ar,e2],mh _,λ_ _ _=>rfl,c.pen,f.rp c.bb rfl,λ_=>f⟩
def mH(e:Xe ws):Xd ws where
 m:=q0 e.m
 p:=λenv s=>(e.p env s).go env λ_=>.nx
 fr:=I
 ok {q h L B O Z env s} c d:=SOk.ex (f:=λ_=>i5) (g:=λ_=>.nx) c d (e.ok c) λx v i s1 kb j _=>⟨Z,i,rfl,O,Stp.refl _ _ _ _,j,d⟩
def kr(t:Xt ws)(a b:Xd ws):Xd ws where
 m:=yS t.m a.m b.m
 p:=λenv s=>(t.p env s).go env λx env s=>if x=I then a.p env s else b.p env s
 fr:=a.fr&&b.fr
 ok {q h L B O Z env s} c d:=SOk.ex (f:=λx=>if x=I then a.m else b.m) (g:=λx env s=>if x=I then a.p env s else b.p env s) c d (t.ok c) λx v j s1 kb i e=>by
  subst e
  cases x with
  |true=>exact(a.ok i d).fr (by simp;exact λh _=>h)
  |false=>exact(b.ok i d).fr (by simp)
def Dis.keep(d:Dis ws Z env)(k:∀i∈ws,Z'[i]?=Z[i]?/\env'[i]?=env[i]?):Dis ws Z' env':=λi j l u ne x y n a b e=>by
 rw[(k i l).1]at e;rw[(k i l).2]at a;rw[(k j u).2]at b;rw[(k j u).1];exact d i j l u ne x y n a b e
def aQ(i:Nat)(e:Xe ws)(l:ws.contains i=T:=by exact ys rfl)(y:e.fz=I:=by exact ys rfl):Xd ws where
 m:=bq i e.m
 p:=λenv s=>(e.p env s).go env λd env s=>.nx (env.set i (J d)) s
 fr:=I
 ok {q h L B O Z env s} c d:=by refine SOk.ex (f:=λv Z h=>.nx (Z.set i (J v)) h) (g:=λd env s=>.nx (env.set i (J d)) s) c d (e.ok c) λx v u s1 kb j ⟨_,z,_⟩=>?_;obtain⟨a,b⟩:=j.sr.set (i:=i) (λz=>by simp[z]at l) (z y);exact⟨_,u,rfl,O,Stp.refl _ _ _ _,⟨j.bd,j.sub,j.bb,j.pb,j.hL,j.pen,a⟩,d.keep b⟩
def D.mine:D->Bool
 |.lst _=>I
 |.dic fz _ _=>!fz
 |_=>T
def jx(i:Nat)(e:Xe ws)(hi:ws.contains i=I:=by exact ys rfl)(hz:e.fr=I:=by exact ys rfl):Xd ws where
 m:=bq i e.m
 p:=λenv s=>(e.p env s).go env λd env s=>if d.mine=I then .nx (env.set i (J d)) s else .bad
 fr:=I
 ok {q h L B O Z env s} c d:=by
  show SOk q L h B O ws _ _ _;have k:=e.ok c;show SOk q L h B O ws _ ((e.m Z h).go Z λv Z h=>.nx (Z.set i (J v)) h) _
  cases X:e.p env s with
  |bad=>trivial
  |exc x s1 =>
   rw[X]at k;obtain⟨M,e1,kb,pn⟩:=k;rw[e1];exact⟨Z,M,rfl,O,kb.stp c,c.kb kb pn,d⟩
  |ok x s1 =>
   rw[X]at k;obtain⟨v,M,e1,kb,pn,_,_,f⟩:=k;rw[e1];by_cases u:x.mine=I
   .obtain⟨H,C,rfl⟩:∃H C,x=dl H C:=by
     cases x with
     |lst C=>exact⟨Y,C,rfl⟩
     |dic fz ks C =>
      cases fz with
      |false=>exact⟨J ks,C,rfl⟩
      |true=>cases u
     |_=>cases u
    obtain⟨n,xs,rfl,hn,g,r⟩:=f hz H C rfl;show SOk q L h B O ws _ _ (if(dl H C).mine=I then _ else _);rw[eT u];have c1:=c.kb kb pn;have Q:i∈ws:=by simpa using hi
    have mv:Mv O h (n::O) M:=⟨λm u no=>kb.keep m u λz=>no (z▸c.pO),λo E=>by
     rcases ki.mp E with z|z
     .exact .inr ⋯
     .exact .inl z⟩
    have S:n∉O:=λz=>by have:=c.bd n z;lia
    refine⟨Z.set i (J (.loc n)),M,rfl,n::O,⟨kb.len,mv,λo E=>pW _ E,λm u hq=>kb.keep m (vl u c.hL) hq⟩,⟨λo E=>?_,λo E=>pW _ (c.sub o E),c.bb,c.pb,c1.hL,pn,?_⟩,?_⟩
    .rcases ki.mp E with z|z
     .subst z;exact bN g
     .exact c1.bd o z
    .have sr:=c.sr.mv mv (λo E=>pW _ E) λm u hl _=>kb.keep m u (by have:=c.pL;lia);refine⟨by simp[sr.len],λj x l F=>?_,λj x l F=>?_⟩
     .have ne:i≠j:=λz=>F (z▸Q);rw[pk ne]at l;rw[pk ne];exact sr.fz j x l F
     .by_cases z:i=j
      .subst z;have hl:i<env.length:=by have:=(w_.mp l).1;simpa using this
       rw[B6 hl]at l;cases l;exact⟨n,H,xs,C,rfl,B6 (by rw[sr.len];exact hl),by simp,by have:=c.hL;lia,g,r⟩
      .rw[pk z]at l;rw[pk z];exact sr.ow j x l F
    .have old:∀j d,j∈ws->i≠j->(env.set i (J (dl H C)))[j]?=J (J d)->(Z.set i (J (.loc n)))[j]?≠J (J (.loc n)):=λj d F ne l z=>by
      rw[pk ne]at l z;obtain⟨n',_,_,_,_,b2,b3,_⟩:=c.sr.ow j d l F;rw[z]at b2;cases b2;exact S b3
     intro a b ha hb ne x y m U R G;by_cases P:i=a
     .subst P;have hl:i<Z.length:=by have:=(w_.mp G).1;simpa using this
      rw[B6 hl]at G;cases G;exact old b y hb ne R
     .by_cases W:i=b
      .subst W;intro z;have hl:i<Z.length:=by have:=(w_.mp z).1;simpa using this
       rw[B6 hl]at z;cases z;exact old a x ha P U G
      .rw[pk P]at U G;rw[pk W]at R ⊢;exact d a b ha hb ne x y m U R G
   .show SOk q L h B O ws _ _ (if x.mine=I then _ else _);rw[hF u];trivial
def pS(e:Xe ws)(g:Xg ws)(G:e.fz=I:=by exact ys rfl):Xd ws where
 m:=j9 e.m g.m
 p:=λenv s=>(e.p env s).go env λd env s=>match g.p d env with
  |some i=>.nx i s
  |none=>.bad
 fr:=I
 ok {q h L B O Z env s} c d:=by
  refine SOk.ex (f:=λv Z h=>match g.m v Z h with|.nx u l=>.nx u l|.exc x u l=>.exc x u l|_=>.bad) (g:=λd env s=>match g.p d env with|some i=>.nx i s|none=>.bad) c d (e.ok c) λx v F s1 kb j ⟨_,z,_⟩=>?_
  cases E:g.p x env with
  |none=>trivial
  |some i =>
   obtain⟨y,C,sr,k⟩:=g.ok j.sr (z G) E;rw[C];exact⟨y,F,rfl,O,Stp.refl _ _ _ _,⟨j.bd,j.sub,j.bb,j.pb,j.hL,j.pen,sr⟩,d.keep k⟩
end
end PU
namespace PU
open MM
open L2 (xS)
noncomputable section
variable{ws:VN}
def PS.turn(r:PS)(k:aN->f_->PS):PS:=match r with
 |.nx e s=>k e s
 |.ct e s=>k e s
 |.bk e s=>.nx e s
 |r=>r
@[simp]theorem turn_nx:(PS.nx e s).turn k=k e s:=rfl
@[simp]theorem turn_ct:(PS.ct e s).turn k=k e s:=rfl
@[simp]theorem turn_bk:(PS.bk e s).turn k=.nx e s:=rfl
@[simp]theorem turn_rt:(PS.rt d s).turn k=.rt d s:=rfl
@[simp]theorem Bo:(PS.exc c e s).turn k=.exc c e s:=rfl
@[simp]theorem B9:(PS.rse c e s).turn k=.rse c e s:=rfl
@[simp]theorem NC:PS.bad.turn k=.bad:=rfl
def DJ(g:D->aN->Option aN)(b:aN->f_->PS):VP->aN->f_->PS
 |[],env,s=>.nx env s
 |d::j,env,s=>match g d env with
  |none=>.bad
  |some i=>(b i s).turn (DJ g b j)
def JJ(g:Xg ws)(b:Xd ws):∀(G:VP)(xs:UZ)(env:aN)(Z:n7)(h:MH)(O:VN)(s:f_),Cx q h L B O ws Z env s->Dis ws Z env->Rps q h O G xs->(∀y∈it.gd,h[y.1]?=J (.lst y.2)/\y.1∉O) ->
  SOk q L h B O ws b.fr (AT it g.m b.m xs Z h) (DJ g.p b.p G env s):=by
 intro G
 induction G with
 |nil =>
  intro xs env Z h O s c d r gd
  have:xs=[]:=r
  subst this;have ok:it.ok h:=λy u=>(gd y u).1;refine⟨Z,h,by rw[AT];dsimp only;rw[eT ok],O,Stp.refl _ _ _ _,c,d⟩
 |cons x G P =>
  intro xs env Z h O s c d r gd;obtain⟨v,F,rfl,r1,r2⟩:=r;have ok:it.ok h:=λy u=>(gd y u).1;rw[DJ]
  cases U:g.p x env with
  |none=>trivial
  |some l =>
   obtain⟨Q,R,sr,k⟩:=g.ok c.sr r1 U;have S:Cx q h L B O ws Q l s:=⟨c.bd,c.sub,c.bb,c.pb,c.hL,c.pen,sr⟩;have kb:=b.ok S (d.keep k)
   have em:AT it g.m b.m (v::F) Z h=(match b.m Q h with
    |.nx j i=>AT it g.m b.m F j i
    |.ct j i=>AT it g.m b.m F j i
    |.bk j i=>.nx j i
    |.rt v i=>.rt v i
    |.exc e j i=>.exc e j i
    |.rse e j i=>.rse e j i
    |.bad=>.bad):=by rw[AT];dsimp only;(rw[eT ok,R])<;>rfl
   rw[em];have E:∀{i:MH}{C:VN},Stp q L h O i C->∀y∈it.gd,i[y.1]?=J (.lst y.2)/\y.1∉C:=λst y u=>by
    obtain⟨a,b⟩:=st.mv.get (gd y u).1 (gd y u).2;exact⟨b,a⟩
   dsimp only
   cases z:b.p l s with
   |bad=>trivial
   |nx e2 s2 =>
    rw[z]at kb;obtain⟨j,i,e1,C,st,H,M⟩:=kb;rw[e1];exact(P F e2 j i C s2 H M (r2.mv st.mv) (E st)).after st
   |ct e2 s2 =>
    rw[z]at kb;obtain⟨j,i,e1,C,st,H,M⟩:=kb;rw[e1];exact(P F e2 j i C s2 H M (r2.mv st.mv) (E st)).after st
   |bk e2 s2=>rw[z]at kb;obtain⟨j,i,e1,r⟩:=kb;rw[e1];exact⟨j,i,rfl,r⟩
   |exc x e2 s2=>rw[z]at kb;obtain⟨j,i,e1,r⟩:=kb;rw[e1];exact⟨j,i,rfl,r⟩
   |rse x e2 s2=>rw[z]at kb;obtain⟨j,i,e1,r⟩:=kb;rw[e1];exact⟨j,i,rfl,r⟩
   |rt x s2=>rw[z]at kb;obtain⟨v,i,e1,r1,r2,r3,r4,r5⟩:=kb;rw[e1];exact⟨v,i,rfl,r1,r2,r3,r4,r5⟩
def mG(i:Xi ws)(g:Xg ws)(b:Xd ws)(z:i.fz=I:=by exact ys rfl):Xd ws where
 m:=fR i.m g.m b.m
 p:=λenv s=>(i.p env s).go env λj env s=>DJ g.p b.p j env s
 fr:=b.fr
 ok {q h L B O Z env s} c d:=SOk.ex (f:=λl=>AT l g.m b.m l.xs) (g:=λj env s=>DJ g.p b.p j env s) c d (i.ok c) λj l C s1 kb E r =>
  JJ g b j l.xs env Z C O s1 E d r.1 λy u=>⟨(r.2.1 y u).1,r.2.2 z y u⟩
def eJ(t:aN->f_->PR Bool)(b:aN->f_->PS):Nat->aN->f_->PS
 |0,_,_=>.bad
 |n+1,env,s=>(t env s).go env λx env s=>if x=I then(b env s).turn (eJ t b n)else .nx env s
def sB(t:Xt ws)(b:Xd ws):∀(n:Nat)(env:aN)(Z:n7)(h:MH)(O:VN)(s:f_),Cx q h L B O ws Z env s->Dis ws Z env->SOk q L h B O ws b.fr (cW t.m b.m n Z h) (eJ t.p b.p n env s)
 |0,env,Z,h,O,s,c,d=>trivial
 |n+1,env,Z,h,O,s,c,d=>by
  refine SOk.ex c d (t.ok c) λx v E s1 kb C e=>?_;subst e
  cases x with
  |false=>exact⟨Z,E,rfl,O,Stp.refl _ _ _ _,C,d⟩
  |true =>
   have k:=b.ok C d;rw[eT rfl]
   cases l:b.p env s1 with
   |bad=>trivial
   |nx e2 s2 =>
    rw[l]at k;obtain⟨j,i,e1,y,st,u,z⟩:=k;rw[e1];exact(sB t b n e2 j i y s2 u z).after st
   |ct e2 s2 =>
    rw[l]at k;obtain⟨j,i,e1,y,st,u,z⟩:=k;rw[e1];exact(sB t b n e2 j i y s2 u z).after st
   |bk e2 s2=>rw[l]at k;obtain⟨j,i,e1,r⟩:=k;rw[e1];exact⟨j,i,rfl,r⟩
   |exc x e2 s2=>rw[l]at k;obtain⟨j,i,e1,r⟩:=k;rw[e1];exact⟨j,i,rfl,r⟩
   |rse x e2 s2=>rw[l]at k;obtain⟨j,i,e1,r⟩:=k;rw[e1];exact⟨j,i,rfl,r⟩
   |rt x s2=>rw[l]at k;obtain⟨v,i,e1,r1,r2,r3,r4,r5⟩:=k;rw[e1];exact⟨v,i,rfl,r1,r2,r3,r4,r5⟩
def LM(N:Nat)(t:Xt ws)(b:Xd ws)(i:∀{Z h n},cW t.m b.m n Z h≠.bad->Jf t.m b.m Z h=cW t.m b.m n Z h):Xd ws where
 m:=Jf t.m b.m
 p:=eJ t.p b.p N
 fr:=b.fr
 ok {q h L B O Z env s} c d:=by
  have k:=sB t b N env Z h O s c d;by_cases z:cW t.m b.m N Z h=.bad
  .rw[z]at k
   cases e:eJ t.p b.p N env s with
   |bad=>trivial
   |nx e2 s2=>rw[e]at k;obtain⟨_,_,e1,_⟩:=k;cases e1
   |ct e2 s2=>rw[e]at k;obtain⟨_,_,e1,_⟩:=k;cases e1
   |bk e2 s2=>rw[e]at k;obtain⟨_,_,e1,_⟩:=k;cases e1
   |exc x e2 s2=>rw[e]at k;obtain⟨_,_,e1,_⟩:=k;cases e1
   |rse x e2 s2=>rw[e]at k;obtain⟨_,_,e1,_⟩:=k;cases e1
   |rt x s2=>rw[e]at k;obtain⟨_,_,e1,_⟩:=k;cases e1
  .rw[i z];exact k
structure JK where
 m:Nat->UZ->MH->VW
 p:VP->VP->Option (D×VP)
 ok:∀{q:Nat}{h:MH}{O:VN}{n:Nat}{xs:UZ}{ds as:VP}{vs:UZ}{d:D}{ds':VP},h[n]?=J (.lst xs)->Rps q h O ds xs->Rps q h O as vs->p ds as=J (d,ds')->∃v xs',m n vs h=.ok v (h.set n (.lst xs'))/\Rps q h O ds' xs'/\Rp q h O d v
def BZ{q h L B O Z env s n xs' ds' i d0 kd}(c:Cx q h L B O ws Z env s)(d:Dis ws Z env)(E:i∈ws)(e:env[i]?=J (J d0))(P:Z[i]?=J (J (.loc n)))(r:Rps q h O ds' xs'):
  Nxt q L h B O ws Z (h.set n (mo kd xs')) (env.set i (J (dl kd ds'))) s:=by
 obtain⟨n',k0,xs,U,e0,e2,a,b,g,r0⟩:=c.sr.ow i _ e E;rw[P]at e2;cases e2;have mv:Mv O h O (h.set n (mo kd xs')):=⟨λm W no=>pk (λ(z:n=m)=>no (z▸a)),λo H=>.inl H⟩;have hp:=c.pL;have Q:=(w_.mp e).1;refine⟨O,⟨by simp,mv,λ_ h=>h,λm W _=>pk ⋯⟩,⟨λo H=>by simpa using c.bd o H,c.sub,c.bb,c.pb,by simpa using c.hL,?_,⟨by simp[c.sr.len],λj x l u=>?_,λj x l u=>?_⟩⟩,?_⟩
 .unfold cN;rw[pk ⋯];exact c.pen
 .have ne:i≠j:=λz=>u (z▸E);rw[pk ne]at l;obtain⟨v,e1,w⟩:=c.sr.fz j x l u;exact⟨v,e1,w.mv mv⟩
 .by_cases z:i=j
  .subst z;rw[B6 Q]at l;cases l;exact⟨n,kd,xs',ds',rfl,P,a,b,B6 (bN g),r.mv mv⟩
  .rw[pk z]at l;obtain⟨m,S,ys,F,e1,e3,b3,b4,b5,X⟩:=c.sr.ow j x l u
   have:n≠m:=λy=>d i j E u z _ _ n e l P (y▸e3)
   exact⟨m,S,ys,F,e1,e3,b3,b4,by rw[pk this];exact b5,X.mv mv⟩
 .intro j k u hk ne x y m l ek e1;have up:∀j x,(env.set i (J (dl kd ds')))[j]?=J (J x)->∃C,env[j]?=J (J C):=λj x l=>by
   by_cases z:i=j
   .subst z;exact⟨_,e⟩
   .rw[pk z]at l;exact⟨x,l⟩
  obtain⟨C,G⟩:=up j x l;obtain⟨R,M⟩:=up k y ek;exact d j k u hk ne C R m G M e1
def wX{q h L B O Z env s n xs' ds' i ds}(c:Cx q h L B O ws Z env s)(d:Dis ws Z env)(l:i∈ws)(e:env[i]?=J (J (D.lst ds)))(j:Z[i]?=J (J (.loc n)))(r:Rps q h O ds' xs'):
  Nxt q L h B O ws Z (h.set n (.lst xs')) (env.set i (J (.lst ds'))) s:=BZ (kd:=Y) c d l e j r
def ND(o:JK)(i:Nat)(a:Xs ws)(C:i∈ws)(M:a.fz=I){q h L B O Z env s}(c:Cx q h L B O ws Z env s)(d:Dis ws Z env)(Q:a.p env s=.ok as s1)(E:env[i]?=J (J (.lst ds)))(P:o.p ds as=J (r,ds')):∃v l n j,KB q h l/\Cx q l L B O ws Z env s1/\Z[i]?=J (J (.loc n))/\Jx o.m (ar i) a.m Z h=.ok v (l.set n (.lst j))/\Rps q l O ds' j/\Rp q l O r v:=by
 obtain⟨n,S,xs,F,H,e2,b1,b2,g,r0⟩:=c.sr.ow i _ E C;obtain⟨rfl,rfl⟩:=gQ H;replace g:h[n]?=J (.lst xs):=g;have u:=a.ok c;rw[Q]at u;obtain⟨R,l,e3,kb,pn,_,z⟩:=u;have G:=c.kb kb pn;have y:=(kb.keep n (bN g) (by have:=c.pL;lia)).trans g;obtain⟨v,j,e4,r1,r2⟩:=o.ok y (r0.mv (kb.mv c.pO)) (z M) P;refine⟨v,l,n,j,kb,G,e2,?_,r1,r2⟩;have em:ar i Z h=.ok (.loc n) h:=by simp[ar,e2]
 simp_all
def DL(o:JK)(i:Nat)(a:aN->f_->PR (VP))(env:aN)(s:f_)(k:D->aN->f_->PS):PS:=match a env s with
 |.ok u s1=>(match env[i]? with
  |some (J (.lst l))=>(match o.p l u with
   |some (r,j)=>k r (env.set i (J (.lst j))) s1
   |none=>.bad)
  |_=>.bad)
 |_=>.bad
def Au(e1:a env s=.ok as s1)(e2:env[i]?=J (J (.lst ds)))(e3:o.p ds as=J (r,ds')):DL o i a env s k=k r (env.set i (J (.lst ds'))) s1:=by simp only[DL,e1,e2,e3]
def Ft:DL o i a env s k=.bad\/∃u s1 j r l,a env s=.ok u s1/\env[i]?=J (J (.lst j))/\o.p j u=J (r,l)/\DL o i a env s k=k r (env.set i (J (.lst l))) s1:=by
 cases e1:a env s with
 |bad=>left;simp only[DL,e1]
 |exc _ _=>left;simp only[DL,e1]
 |ok u s1 =>
  cases e2:env[i]? with
  |none=>left;simp only[DL,e1,e2]
  |some x =>
   cases x with
   |none=>left;simp only[DL,e1,e2]
   |some d =>
    cases d with
    |lst j =>
     cases e3:o.p j u with
     |none=>left;simp only[DL,e1,e2,e3]
     |some y=>exact .inr ⟨u,s1,j,y.1,y.2,rfl,rfl,e3,Au e1 e2 e3⟩
    |_=>left;simp only[DL,e1,e2]
def Ed(o:JK)(i:Nat)(a:Xs ws)(u:ws.contains i=I:=by exact ys rfl)(E:a.fz=I:=by exact ys rfl):Xd ws where
 m:=q0 (Jx o.m (ar i) a.m)
 p:=λenv s=>DL o i a.p env s λ_=>.nx
 fr:=I
 ok {q h L B O Z env s} c d:=by
  rcases Ft (o:=o) (i:=i) (a:=a.p) (env:=env) (s:=s) (k:=λ_=>.nx)with z|⟨H,s1,M,r,G,e1,e2,e3,z⟩
  .rw[z];trivial
  .rw[z];have j:i∈ws:=by simpa using u
   obtain⟨v,C,n,l,kb,y,F,em,r1,r2⟩:=ND o i a j E c d e1 e2 e3;refine⟨Z,C.set n (.lst l),?_,(wX y d j e2 F r1).after (kb.stp c)⟩;unfold q0 CD;rw[em];rfl
def gw(i:Nat)(e u:aN->f_->PR D)(env:aN)(s:f_):PS:=match e env s with
 |.ok v s1=>(match u env s1 with
  |.ok (.int j) s2=>(match env[i]? with
   |some (J (.lst l))=>(match xS l.length j with
    |some n=>.nx (env.set i (J (.lst (l.set n v)))) s2
    |none=>.bad)
   |_=>.bad)
  |_=>.bad)
 |_=>.bad
def oU(e1:e env s=.ok v s1)(e2:ix env s1=.ok (.int j) s2)(e3:env[i]?=J (J (.lst ds)))(e4:xS ds.length j=J n):gw i e ix env s=.nx (env.set i (J (.lst (ds.set n v)))) s2:=by simp only[gw,e1,e2,e3,e4]
def Cc:gw i e ix env s=.bad\/∃v s1 j s2 l n,e env s=.ok v s1/\ix env s1=.ok (.int j) s2/\env[i]?=J (J (.lst l))/\xS l.length j=J n/\gw i e ix env s=.nx (env.set i (J (.lst (l.set n v)))) s2:=by
 cases e1:e env s with
 |bad=>left;simp only[gw,e1]
 |exc _ _=>left;simp only[gw,e1]
 |ok v s1 =>
  cases e2:ix env s1 with
  |bad=>left;simp only[gw,e1,e2]
  |exc _ _=>left;simp only[gw,e1,e2]
  |ok k s2 =>
   cases k with
   |int j =>
    cases e3:env[i]? with
    |none=>left;simp only[gw,e1,e2,e3]
    |some x =>
     cases x with
     |none=>left;simp only[gw,e1,e2,e3]
     |some d =>
      cases d with
      |lst l =>
       cases e4:xS l.length j with
       |none=>left;simp only[gw,e1,e2,e3,e4]
       |some n=>exact .inr ⟨v,s1,j,s2,l,n,rfl,e2,rfl,e4,oU e1 e2 e3 e4⟩
      |_=>left;simp only[gw,e1,e2,e3]
   |_=>left;simp only[gw,e1,e2]
def Vw.int(w:Vw q h L O (.int b) v):v=.int b:=by
 rcases w with r|⟨n,i,xs,j,e,_⟩
 .exact r
 .cases i<;>cases e
def sE(i:Nat)(e F:Xe ws)(hi:ws.contains i=I:=by exact ys rfl)(hz:e.fz=I:=by exact ys rfl):Xd ws where
 m:=j9 e.m (G6 (ar i) F.m)
 p:=gw i e.p F.p
 fr:=I
 ok {q h L B O Z env s} c d:=by
  rcases Cc (i:=i) (e:=e.p) (ix:=F.p) (env:=env) (s:=s)with z|⟨v,s1,j,s2,ds,n,e1,e2,e3,e4,z⟩
  .rw[z];trivial
  .rw[z];have E:i∈ws:=by simpa using hi
   have W:=e.ok c;rw[e1]at W;obtain⟨x,H,f1,G,P,_,rx,_⟩:=W;have R:=c.kb G P;have Q:=F.ok R;rw[e2]at Q;obtain⟨y,C,X,l,M,w,_,_⟩:=Q;have S:=R.kb l M;obtain⟨u,kd,xs,aa,e0,U,b1,b2,g,r0⟩:=S.sr.ow i _ e3 E;obtain⟨rfl,rfl⟩:=gQ e0;replace g:C[u]?=J (.lst xs):=g;have hy:=w.int;subst hy;have em:ar i Z H=.ok (.loc u) H:=by simp[ar,U]
   have nx:=wX S d E e3 U (xs':=xs.set n x) (ds':=ds.set n v) (r0.set n ((rx hz).mv (l.mv c.pO)));refine⟨Z,C.set u (.lst (xs.set n x)),?_,nx.after ((G.trans l).stp c)⟩;have e5:qo (.loc u) (.int j) x C=J (C.set u (.lst (xs.set n x))):=by simp only[qo,g];rw[r0.length,e4];rfl
   have e6:G6 (ar i) F.m x Z H=.nx Z (C.set u (.lst (xs.set n x))):=by simp only[G6,CD,em,X,e5]
   unfold j9 CD;rw[f1];dsimp only;rw[e6]
def PS.fin(r:PS):PR D:=match r with
 |.nx _ s=>.ok .non s
 |.rt d s=>.ok d s
 |.exc c _ s=>.exc c s
 |.rse c _ s=>.exc c s
 |_=>.bad
@[simp]theorem fin_nx:(PS.nx e s).fin=.ok .non s:=rfl
@[simp]theorem bx:(PS.rt d s).fin=.ok d s:=rfl
@[simp]theorem fin_exc:(PS.exc c e s).fin=.exc c s:=rfl
@[simp]theorem fin_rse:(PS.rse c e s).fin=.exc c s:=rfl
@[simp]theorem Qr:PS.bad.fin=.bad:=rfl
def i3(n:Nat)(i:VP):aN:=i.map J++List.replicate (n-i.length) Y
def bX(n C:Nat)(b:Xd ws)(hw:ws.all (λi=>decide (C<=i))=I:=by exact ys rfl):Fn where
 m:=fQ n C b.m
 p:=λB s=>if B.length=C then(b.p (i3 n B) s).fin else .bad
 fr:=b.fr
 ok {q h O vs B s} bd L pn r:=by
  by_cases hl:B.length=C
  .rw[eT hl];have hv:vs.length=C:=by rw[r.length];exact hl
   have F:∀i d,(i3 n B)[i]?=J (J d)->i<C/\B[i]?=J d:=λi d e=>by
    by_cases z:i<B.length
    .refine⟨⋯,?_⟩;unfold i3 at e;rw[BH (by simpa using z)]at e;simp at e;simpa using e
    .unfold i3 at e;rw[DC (by simpa using z)]at e;by_cases y:i-(B.map J).length<n-B.length
     .simp[Lu,y]at e
     .simp at y e;exact absurd e (by simp[Lu])
   have M:∀i d,(i3 n B)[i]?=J (J d)->i∉ws:=λi d e E=>by
    have:=(F i d e).1
    rw[DE]at hw
    have:=hw i E
    simp at this;lia
   have c:Cx q h h.length O O ws (cV n vs) (i3 n B) s:=by refine⟨bd,λ_ h=>h,bd,L,mh _,pn,⟨by simp[cV,i3,r.length],λi d e _=>?_,λi d e E=>absurd E (M i d e)⟩⟩;obtain⟨v,P,R⟩:=r.get (F i d e).2;refine⟨v,?_,R⟩;unfold cV;rw[BH (by simpa using(w_.mp P).1)];simp[P]
   have k:=b.ok c λi j E _ _ d _ _ e=>absurd E (M i d e)
   have em:fQ n C b.m vs h=(match b.m (cV n vs) h with
    |.nx _ u=>.ok .non u
    |.rt v u=>.ok v u
    |.exc x _ u=>.exc x u
    |.rse x _ u=>.exc x u
    |_=>.bad):=by unfold fQ;(rw[eT hv])<;>(cases b.m (cV n vs) h<;>rfl)
   rw[em];have kb:∀{u H},Stp q h.length h O u H->KB q h u:=λst=>⟨st.len,λm U L=>st.base m U L⟩
   cases e:b.p (i3 n B) s with
   |nx e1 s1=>rw[e]at k;obtain⟨Q,u,f,H,st,G,_⟩:=k;rw[f];exact⟨.non,u,rfl,kb st,G.pen,rfl,λ_ k B e=>by cases k<;>cases e⟩
   |exc x e1 s1=>rw[e]at k;obtain⟨Q,u,f,H,st,G,_⟩:=k;rw[f];exact⟨u,rfl,kb st,G.pen⟩
   |rse x e1 s1=>rw[e]at k;obtain⟨Q,u,f,H,st,G,_⟩:=k;rw[f];exact⟨u,rfl,kb st,G.pen⟩
   |rt x s1=>rw[e]at k;obtain⟨v,u,f,l,b,p,S,W⟩:=k;rw[f];exact⟨v,u,rfl,⟨l,b⟩,p,S,W⟩
   |bk e1 s1=>trivial
   |ct e1 s1=>trivial
   |bad=>trivial
  .rw[hF hl];trivial
end
end PU
namespace PU
open MM SetT SortT
open L2 (xS i_ gB)
noncomputable section
section
variable{q:Nat}{h:MH}{L:Nat}{O:VN}{v:PV}
def Vw.non(w:Vw q h L O .non v):v=.non:=by
 rcases w with r|⟨n,i,xs,j,e,_⟩
 .exact r
 .cases i<;>cases e
def Vw.str(w:Vw q h L O (.str x) v):v=.str x:=by
 rcases w with r|⟨n,i,xs,j,e,_⟩
 .exact r
 .cases i<;>cases e
inductive Ua(h:MH)(P:UZ->Prop)(v:PV):Prop
 |mk(n:Nat)(xs:UZ)(e:v=.loc n)(g:h[n]?=J (.lst xs))(r:P xs):Ua h P v
def Vw.lst(w:Vw q h L O (.lst ds) v):Ua h (Rps q h O ds) v:=by
 rcases w with⟨n,xs,e,_,g,r⟩|⟨n,j,xs,i,e,e1,_,_,g,r⟩
 .exact⟨n,xs,e,g,r⟩
 .obtain⟨rfl,rfl⟩:=gQ e;exact⟨n,xs,e1,g,r⟩
def Vw.tup(w:Vw q h L O (.tup ds) v):Sa (Rps q h O ds) v:=by
 rcases w with r|⟨n,j,xs,i,e,_⟩
 .exact r
 .cases j<;>cases e
def Dj(r:Rp q h O d v)(hf:fr=I->∀k i,d≠dl k i):Gv q h O fr (.ok v h) d :=
 ⟨v,[],by simp,by simpa using r,λz k i e=>absurd e (hf z k i)⟩
def CQ:Gv q h O fr (.ok (.int i) h) (.int i):=Dj rfl λ_ k _ e=>by cases k<;>cases e
def wh:Gv q h O fr (.ok (.bl i) h) (.bl i):=Dj rfl λ_ k _ e=>by cases k<;>cases e
def de(w:Hh q h L O [d] vs):∃x,vs=[x]/\Vw q h L O d x:=by
 obtain⟨x,r,e,a,b⟩:=w
 have:r=[]:=b
 subst this;exact⟨x,e,a⟩
def NE(w:Hh q h L O [d,d'] vs):∃x y,vs=[x,y]/\Vw q h L O d x/\Vw q h L O d' y:=by obtain⟨x,r,e,a,b⟩:=w;obtain⟨y,rfl,c⟩:=de b;exact⟨x,y,e,a,c⟩
end
def uV(m:PV->PV->MH->VW)(f:Int->Int->D)(g:Int->Int->PV)(l:∀i j h,m (.int i) (.int j) h=.ok (g i j) h)(hg:∀i j q h O fr,Gv q h O fr (.ok (g i j) h) (f i j)):A_ where
 m:=m
 p:=λa b=>match a,b with
  |.int i,.int j=>J (f i j)
  |_,_=>Y
 fr:=I
 ok {q h L O a x b y d} bd wa wb e:=by
  cases a with
  |int i =>
   cases b with
   |int j=>cases e;rw[wa.int,wb.int,l];exact hg i j q h O I
   |_=>cases e
  |_=>cases e
def Fv:A_:=uV DV (λi j=>.int (i-j)) (λi j=>.int (i-j)) (λ_ _ _=>rfl) λ_ _ _ _ _ _=>CQ
def JL:A_:=uV DT (λi j=>.bl (decide (i<j))) (λi j=>.bl (decide (i<j))) (λ_ _ _=>rfl) λ_ _ _ _ _ _=>wh
def DA:A_:=uV Jg (λi j=>.bl (decide (i<=j))) (λi j=>.bl (decide (i<=j))) (λ_ _ _=>rfl) λ_ _ _ _ _ _=>wh
def Dq:A_:=uV DU (λi j=>.bl (decide (j<i))) (λi j=>.bl (decide (j<i))) (λ_ _ _=>rfl) λ_ _ _ _ _ _=>wh
def D_:A_:=uV Dy (λi j=>.bl (decide (j<=i))) (λi j=>.bl (decide (j<=i))) (λ_ _ _=>rfl) λ_ _ _ _ _ _=>wh
def u7:A_ where
 m:=hU
 p:=λa b=>match a,b with
  |.int i,.int j=>J (.int (i+j))
  |.lst x,.lst y=>if x.length+y.length<=100000 then J (.lst (x++y))else Y
  |.tup (a::x),.tup y=>if x.length+1+y.length<=100000 then J (.tup (a::x++y))else Y
  |_,_=>Y
 fr:=I
 ok {q h L O a x b y d} bd wa wb e:=by
  cases a with
  |int i =>
   cases b with
   |int j=>cases e;rw[wa.int,wb.int];exact CQ
   |_=>cases e
  |lst x =>
   cases b with
   |lst y =>
    dsimp only at e;by_cases z:x.length+y.length<=100000
    .rw[eT z]at e;cases e;obtain⟨n,xs,rfl,g,r⟩:=wa.lst;obtain⟨B,ys,rfl,u,l⟩:=wb.lst;show Gv q h O I (match h[n]?,h[B]? with|some (.lst xs),J (.lst ys)=>vr (xs++ys) h|_,_=>.bad) _;rw[g,u];exact ot bd (r.app l) (by simpa using z)
    .rw[hF z]at e;cases e
   |_=>cases e
  |tup x =>
   cases x with
   |nil=>cases b<;>cases e
   |cons a x =>
    cases b with
    |tup y =>
     dsimp only at e;by_cases z:x.length+1+y.length<=100000
     .rw[eT z]at e;cases e;obtain⟨xs,rfl,r⟩:=wa.tup;obtain⟨ys,rfl,l⟩:=wb.tup;have ne:xs≠[]:=λz=>by have:=r.length;simp[z]at this
      show Gv q h O I (if xs≠[]then yR (xs++ys) h else .bad) _;rw[eT ne];exact wJ (r.app l) (by simp;lia)
     .rw[hF z]at e;cases e
    |_=>cases e
  |_=>cases e
def Rps.rep(r:Rps q h O ds xs):∀n,Rps q h O (List.replicate n ds).flatten (List.replicate n xs).flatten
 |0=>rfl
 |n+1=>by
  exact r.app (Rps.rep r n)
def jT:A_ where
 m:=jl
 p:=λa b=>match a,b with
  |.int i,.int j=>if IntMulOk i j then J (.int (i*j))else Y
  |.lst x,.int j=>if(0<=j/\j<=1000)/\((List.replicate j.toNat x).flatten).length<=100000 then J (.lst (List.replicate j.toNat x).flatten)else Y
  |_,_=>Y
 fr:=I
 ok {q h L O a x b y d} bd wa wb e:=by
  cases a with
  |int i =>
   cases b with
   |int j =>
    dsimp only at e;by_cases z:IntMulOk i j
    .rw[eT z]at e;cases e;rw[wa.int,wb.int];show Gv q h O I (if IntMulOk i j then .ok (.int (i*j)) h else .bad) _;rw[eT z];exact CQ
    .rw[hF z]at e;cases e
   |_=>cases e
  |lst x =>
   cases b with
   |int j =>
    dsimp only at e;by_cases z:(0<=j/\j<=1000)/\((List.replicate j.toNat x).flatten).length<=100000
    .rw[eT z]at e;cases e;obtain⟨n,xs,rfl,g,r⟩:=wa.lst;rw[wb.int];show Gv q h O I (match h[n]? with|some (.lst xs)=>if -(2^63)<=j/\j<2^63 then vr (List.flatten (List.replicate j.toNat xs)) h else .bad|_=>.bad) _;rw[g];dsimp only;rw[eT ⋯];exact ot bd (r.rep _) z.2
    .rw[hF z]at e;cases e
   |_=>cases e
  |_=>cases e
def JM:A_ where
 m:=Df
 p:=λa b=>match a,b with
  |.int i,.int j=>if j≠0 then J (.int (i.fdiv j))else Y
  |_,_=>Y
 fr:=I
 ok {q h L O a x b y d} bd wa wb e:=by
  cases a with
  |int i =>
   cases b with
   |int j =>
    dsimp only at e;by_cases z:j≠0
    .rw[eT z]at e;cases e;rw[wa.int,wb.int];show Gv q h O I (if j≠0 then .ok (.int (i.fdiv j)) h else .bad) _;rw[eT z];exact CQ
    .rw[hF z]at e;cases e
   |_=>cases e
  |_=>cases e
def jj:A_ where
 m:=lx
 p:=λa b=>match a,b with
  |.int i,.int j=>if j≠0 then J (.int (i.fmod j))else Y
  |_,_=>Y
 fr:=I
 ok {q h L O a x b y d} bd wa wb e:=by
  cases a with
  |int i =>
   cases b with
   |int j =>
    dsimp only at e;by_cases z:j≠0
    .rw[eT z]at e;cases e;rw[wa.int,wb.int];show Gv q h O I (if j≠0 then .ok (.int (i.fmod j)) h else .bad) _;rw[eT z];exact CQ
    .rw[hF z]at e;cases e
   |_=>cases e
  |_=>cases e
def kQ:A_ where
 m:=uq
 p:=λa b=>match a,b with
  |.int i,.int j=>if gB i j then J (.int (i^j.toNat))else Y
  |_,_=>Y
 fr:=I
 ok {q h L O a x b y d} bd wa wb e:=by
  cases a with
  |int i =>
   cases b with
   |int j =>
    dsimp only at e;by_cases z:gB i j
    .rw[eT z]at e;cases e;rw[wa.int,wb.int];show Gv q h O I (if gB i j then .ok (.int (i^j.toNat)) h else .bad) _;rw[eT z];exact CQ
    .rw[hF z]at e;cases e
   |_=>cases e
  |_=>cases e
def ka:A_ where
 m:=ce
 p:=λa b=>match a,b with
  |.lst x,.int j=>i_ x j
  |.tup x,.int j=>i_ x j
  |_,_=>Y
 fr:=T
 ok {q h L O a x b y d} bd wa wb e:=by
  have at':∀{i:VP}{xs:UZ}{j:Int},Rps q h O i xs->i_ i j=J d->∃v,i_ xs j=J v/\Rp q h O d v:=λ{i xs j} r e=>by
   unfold i_ at e ⊢;rw[r.length]
   cases e1:xS i.length j with
   |none=>rw[e1]at e;cases e
   |some k=>rw[e1]at e;exact r.get e
  cases b with
  |int j =>
   rw[wb.int]
   cases a with
   |lst i =>
    obtain⟨n,xs,rfl,g,r⟩:=wa.lst;obtain⟨v,e1,l⟩:=at' r e;show Gv q h O T (match h[n]? with|some (.lst xs)=>(match i_ xs j with|some v=>.ok v h|none=>.bad)|_=>.bad) _;rw[g];dsimp only;rw[e1];exact Dj l λz=>by cases z
   |tup i =>
    obtain⟨xs,rfl,r⟩:=wa.tup;obtain⟨v,e1,l⟩:=at' r e;show Gv q h O T (match i_ xs j with|some v=>.ok v h|none=>.bad) _;rw[e1];exact Dj l λz=>by cases z
   |_=>cases e
  |_=>cases a<;>cases e
def u_(i:Bool):A_ where
 m:=sM i
 p:=λa b=>match b with
  |.non=>(match a with
   |.non=>J (.bl (!i))
   |_=>J (.bl i))
  |.bl b=>(match a with
   |.bl c=>J (.bl (if i then !(c==b)else c==b))
   |.non=>J (.bl i)
   |.int _=>J (.bl i)
   |.str _=>J (.bl i)
   |.tup _=>J (.bl i)
   |_=>Y)
  |_=>Y
 fr:=I
 ok {q h L O a x b y d} bd wa wb e:=by
  have loc:∀{a:D}{x:PV},Vw q h L O a x->(∃j,a=.lst j)\/(∃fz l j,a=.dic fz l j)\/(∃c,a=.exc c)\/a=.pen->∃n,x=.loc n:=λ{a x} w z=>by
   rcases w with r|⟨n,u,xs,j,e,e1,_⟩
   .rcases z with⟨j,rfl⟩|⟨_,_,_,rfl⟩|⟨c,rfl⟩|rfl
    .obtain⟨n,_,e,_⟩:=r;exact⟨n,e⟩
    .obtain⟨n,_,e,_⟩:=r;exact⟨n,e⟩
    .obtain⟨n,e,_⟩:=r;exact⟨n,e⟩
    .exact⟨q,r⟩
   .exact⟨n,e1⟩
  cases b with
  |non =>
   rw[wb.non]
   cases a with
   |non=>cases e;rw[wa.non];exact wh
   |bl c=>cases e;rw[wa.bl];exact wh
   |int c=>cases e;rw[wa.int];exact wh
   |str c=>cases e;rw[wa.str];exact wh
   |tup c=>cases e;obtain⟨xs,rfl,_⟩:=wa.tup;exact wh
   |lst c=>cases e;obtain⟨n,rfl⟩:=loc wa (.inl ⟨_,rfl⟩);exact wh
   |dic a b c=>cases e;obtain⟨n,rfl⟩:=loc wa (.inr (.inl ⟨_,_,_,rfl⟩));exact wh
   |exc c=>cases e;obtain⟨n,rfl⟩:=loc wa (.inr (.inr (.inl ⟨_,rfl⟩)));exact wh
   |pen=>cases e;obtain⟨n,rfl⟩:=loc wa (.inr (.inr (.inr rfl)));exact wh
  |bl b =>
   rw[wb.bl]
   cases a with
   |non=>cases e;rw[wa.non];exact wh
   |bl c=>cases e;rw[wa.bl];exact wh
   |int c=>cases e;rw[wa.int];exact wh
   |str c=>cases e;rw[wa.str];exact wh
   |tup c=>cases e;obtain⟨xs,rfl,_⟩:=wa.tup;exact wh
   |_=>cases e
  |_=>cases e
mutual
def py:D->Option PyData
 |.non=>J .none
 |.bl b=>J (.bool b)
 |.int i=>J (.int i)
 |.str x=>J (.str x)
 |.tup j=>(Dr j).map .tuple
 |.lst j=>(Dr j).map .list
 |_=>Y
def Dr:VP->Option (List PyData)
 |[]=>J []
 |d::i=>match py d,Dr i with
  |some x,J xs=>J (x::xs)
  |_,_=>Y
end
mutual
def Cy:D->Nat
 |.tup i=>1+BS i
 |.lst i=>1+BS i
 |_=>0
def BS:VP->Nat
 |[]=>0
 |d::i=>max (Cy d) (BS i)
end
def xG(d:D):(∀(v:PV)(e:PyData)(n:Nat),Rp q h O d v->py d=J e->Cy d<=n->rd n h v=J e):=by
 refine D.rec (motive_1:=λd=>∀(v:PV)(e:PyData)(n:Nat),Rp q h O d v->py d=J e->Cy d<=n->rd n h v=J e)
  (motive_2:=λi=>∀(u:UZ)(j:List PyData)(n:Nat),Rps q h O i u->Dr i=J j->BS i<=n->fM (rd n h) u=J j)
  (λv _ n r e _=>?_) (λb v _ n r e _=>?_) (λb v _ n r e _=>?_) (λb v _ n r e _=>?_) (λi z v e n r l hd=>?_) (λi z v e n r l hd=>?_) (λ_ _ _ _ _ _ _ _ e _=>?_) (λ_ _ _ _ _ e _=>?_) (λ_ _ _ _ e _=>?_)
  (λu j n r e _=>?_) (λd i B E u j n r e hd=>?_) d
 .rw[show v=PV.non from r];cases e;cases n<;>rfl
 .rw[show v=PV.bl b from r];cases e;cases n<;>rfl
 .rw[show v=PV.int b from r];cases e;cases n<;>rfl
 .rw[show v=PV.str b from r];cases e;cases n<;>rfl
 .obtain⟨xs,ex,r⟩:=r;subst ex;rw[py,Db]at l;obtain⟨j,e1,rfl⟩:=l;rw[Cy]at hd
  cases n with
  |zero=>lia
  |succ n=>simp only[rd];rw[z _ _ n r e1 ⋯];rfl
 .obtain⟨m,xs,ex,_,g,r⟩:=r;subst ex;rw[py,Db]at l;obtain⟨j,e1,rfl⟩:=l;rw[Cy]at hd
  cases n with
  |zero=>lia
  |succ n=>simp only[rd,g];rw[z _ _ n r e1 ⋯];rfl
 .simp[py]at e
 .simp[py]at e
 .simp[py]at e
 .rw[show u=[]from r];rw[Dr]at e;cases e;rfl
 .obtain⟨x,t,ex,a,b⟩:=r;subst ex;rw[BS]at hd;rw[Dr]at e
  cases e1:py d with
  |none=>rw[e1]at e;cases e
  |some y =>
   cases e2:Dr i with
   |none=>rw[e1,e2]at e;cases e
   |some ys =>
    rw[e1,e2]at e;cases e;have C:=B _ _ n a e1 ⋯;have b1:=E _ _ n b e2 ⋯;simp only[fM,C,b1]
def NF(r:Rp q h O d v)(i:py d=J e)(hd:Cy d<=n):rd n h v=J e:=xG d v e n r i hd
def JN(r:Rps q h O ds vs)(i:Dr ds=J es)(hd:BS ds<=n):fM (rd n h) vs=J es:=by
 have:=xG (.tup ds) (.tup vs) (.tuple es) (n+1) (⟨vs,rfl,r⟩) (by rw[py,i];rfl) (by rw[Cy];lia)
 simp only[rd]at this
 simp_all
def ue(w:Vw q h L O d v)(i:py d=J e)(hd:Cy d<=60):rd 60 h v=J e:=by
 rcases w with r|⟨n,l,xs,u,rfl,rfl,_,_,g,r⟩
 .exact NF r i hd
 .cases l with
  |some _=>simp[dl,py]at i
  |none =>
   replace g:h[n]?=J (.lst xs):=g;unfold dl at i hd;rw[py,Db]at i;obtain⟨y,e1,rfl⟩:=i;rw[Cy]at hd;have j:=JN (n:=59) r e1 ⋯;show(match h[n]? with|some (.lst xs)=>(fM (rd 59 h) xs).map PyData.list|_=>Y)=_;rw[g];dsimp only;rw[j];rfl
def y1(i:Bool)(a b:D):VA:=match py a,py b with
 |some x,J y=>if(Cy a<=60/\Cy b<=60)/\SeqAt.shaped x=I/\SeqAt.shaped y=I then J (.bl (if i then !PyData.eqv x y else PyData.eqv x y))else Y
 |_,_=>Y
def xJ(e:y1 neg a b=J d):∃x y,py a=J x/\py b=J y/\(Cy a<=60/\Cy b<=60)/\(SeqAt.shaped x=I/\SeqAt.shaped y=I)/\d=.bl (if neg then !PyData.eqv x y else PyData.eqv x y):=by
 unfold y1 at e
 cases e1:py a with
 |none=>rw[e1]at e;cases e
 |some x =>
  cases e2:py b with
  |none=>rw[e1,e2]at e;cases e
  |some y =>
   simp_all
def o0:A_ where
 m:=Cu
 p:=y1 T
 fr:=I
 ok {q h L O a x b y d} bd wa wb e:=by obtain⟨u,w,e1,e2,hd,i,rfl⟩:=xJ e;unfold Cu;rw[ue wa e1 hd.1,ue wb e2 hd.2];dsimp only;rw[eT i];exact wh
def x2:A_ where
 m:=n9
 p:=y1 I
 fr:=I
 ok {q h L O a x b y d} bd wa wb e:=by obtain⟨u,w,e1,e2,hd,i,rfl⟩:=xJ e;unfold n9;rw[ue wa e1 hd.1,ue wb e2 hd.2];dsimp only;rw[eT i];exact wh
def Vw.seqOf(w:Vw q h L O d v)(e:d.items=J ds):∃xs,MM.dB h v=J xs/\Rps q h O ds xs:=by
 cases d with
 |lst i=>cases e;obtain⟨n,xs,rfl,g,r⟩:=w.lst;exact⟨xs,by simp[MM.dB,g],r⟩
 |tup i=>cases e;obtain⟨xs,rfl,r⟩:=w.tup;exact⟨xs,rfl,r⟩
 |_=>cases e
end
noncomputable section
def bV:Hi where
 m:=DW
 p:=λa=>match a with
  |.int i=>J (.int (-i))
  |_=>Y
 fr:=I
 ok {q h L O a x d} bd w e:=by
  cases a with
  |int i=>cases e;rw[w.int];exact CQ
  |_=>cases e
def Ee:D->Option String
 |.non=>J "NoneType"
 |.bl _=>J "bool"
 |.int _=>J "int"
 |.str _=>J "str"
 |.tup _=>J "tuple"
 |.lst _=>J "list"
 |.dic _ _ _=>J "dict"
 |_=>Y
def NG(w:Vw q h L O d v)(e:Ee d=J t):Dn h v=J t:=by
 cases d with
 |non=>cases e;rw[w.non];rfl
 |bl b=>cases e;rw[w.bl];rfl
 |int b=>cases e;rw[w.int];rfl
 |str b=>cases e;rw[w.str];rfl
 |tup b=>cases e;obtain⟨xs,rfl,_⟩:=w.tup;rfl
 |lst b=>cases e;obtain⟨n,xs,rfl,g,_⟩:=w.lst;simp[Dn,g]
 |dic fz l u =>
  cases e;rcases w with⟨n,xs,rfl,_,g,_⟩|⟨n,j,xs,i,e,rfl,_,_,g,_⟩
  .simp[Dn,g]
  .cases j with
   |none=>cases e
   |some _=>simp[Dn,g,mo]
 |_=>cases e
def dq(i:List String):Hi where
 m:=ur i
 p:=λa=>(Ee a).map λt=>.bl (i.any (jd t))
 fr:=I
 ok {q h L O a x d} bd w e:=by rw[Db]at e;obtain⟨t,e1,rfl⟩:=e;unfold ur;rw[NG w e1];exact wh
def jy(j i:VL):Hi where
 m:=cL j i
 p:=λa=>match a with
  |.exc c=>if j.contains c.cls=I then J (.bl (i.contains c.cls))else Y
  |.pen=>Y
  |_=>J (.bl T)
 fr:=I
 ok {q h L O a x d} bd w e:=by
  cases a with
  |non=>cases e;rw[w.non];exact wh
  |bl b=>cases e;rw[w.bl];exact wh
  |int b=>cases e;rw[w.int];exact wh
  |str b=>cases e;rw[w.str];exact wh
  |tup b=>cases e;obtain⟨xs,rfl,_⟩:=w.tup;exact wh
  |lst b=>cases e;obtain⟨n,xs,rfl,g,_⟩:=w.lst;simp only[cL,g];exact wh
  |dic fz B u =>
   cases e;rcases w with⟨n,xs,rfl,_,g,_⟩|⟨n,l,xs,y,e,rfl,_,_,g,_⟩
   .simp only[cL,g];exact wh
   .cases l with
    |none=>cases e
    |some _=>simp only[cL,g,mo];exact wh
  |exc c =>
   dsimp only at e;by_cases z:j.contains c.cls=I
   .rw[eT z]at e;cases e;rcases w with⟨n,rfl,_,g⟩|⟨n,l,xs,u,e,_⟩
    .simp only[cL,g];rw[eT z];exact wh
    .cases l<;>cases e
   .rw[hF z]at e;cases e
  |pen=>cases e
def UJ(f:UZ->MH->VW)(g:Int->Int->Int)(hf:∀i j h,f [.int i,.int j] h=.ok (.int (g i j)) h):C9 where
 k:=λxs h=>(f xs h).ne
 p:=λl=>match l with
  |[.int i,.int j]=>J (.int (g i j))
  |_=>Y
 fr:=I
 ok {q h L O l xs d} bd w e:=by
  match l,e with
  |[.int i,.int j],e =>
   cases e;obtain⟨x,y,rfl,a,b⟩:=NE w;rw[a.int,b.int,hf];exact CQ
def Fw:C9:=UJ C2 (λi j=>if j<i then j else i) λ_ _ _=>rfl
def sA:C9 where
 k:=λxs h=>(CO xs h).ne
 p:=λj=>match j with
  |[.int i]=>J (.int (if i<0 then -i else i))
  |_=>Y
 fr:=I
 ok {q h L O j xs d} bd w e:=by
  match j,e with
  |[.int i],e=>cases e;obtain⟨x,rfl,a⟩:=de w;rw[a.int];exact CQ
def cm:C9 where
 k:=λxs h=>(xc xs h).ne
 p:=λj=>match j with
  |[.int i]=>J (.int i)
  |[.bl b]=>J (.int (if b then 1 else 0))
  |_=>Y
 fr:=I
 ok {q h L O j xs d} bd w e:=by
  match j,e with
  |[.int i],e=>cases e;obtain⟨x,rfl,a⟩:=de w;rw[a.int];exact CQ
  |[.bl i],e=>cases e;obtain⟨x,rfl,a⟩:=de w;rw[a.bl];exact CQ
def c7:C9 where
 k:=λxs h=>(Jk xs h).ne
 p:=λj=>match j with
  |[.int i]=>if i.natAbs.log2<1920 then J (.str (toString i))else Y
  |_=>Y
 fr:=I
 ok {q h L O j xs d} bd w e:=by
  match j,e with
  |[.int i],e =>
   dsimp only at e;by_cases z:i.natAbs.log2<1920
   .rw[eT z]at e;cases e;obtain⟨x,rfl,a⟩:=de w;rw[a.int];show Gv q h O I (if i.natAbs.log2<1920 then Out.ok (PV.str (toString i)) h else .bad).ne _;rw[eT z];exact Dj rfl λ_ k _ e=>by cases k<;>cases e
   .rw[hF z]at e;cases e
def bY:C9 where
 k:=λxs h=>(xg xs h).ne
 p:=λj=>match j with
  |[.lst i]=>J (.int i.length)
  |[.tup i]=>J (.int i.length)
  |[.str x]=>if x.length<=sizeLine then J (.int x.length)else Y
  |_=>Y
 fr:=I
 ok {q h L O j xs d} bd w e:=by
  match j,e with
  |[.lst i],e =>
   cases e;obtain⟨x,rfl,a⟩:=de w;obtain⟨n,ys,rfl,g,r⟩:=a.lst;simp only[xg,g];rw[r.length];exact CQ
  |[.tup i],e =>
   cases e;obtain⟨x,rfl,a⟩:=de w;obtain⟨ys,rfl,r⟩:=a.tup;simp only[xg];rw[r.length];exact CQ
  |[.str x],e =>
   dsimp only at e;by_cases z:x.length<=sizeLine
   .rw[eT z]at e;cases e;obtain⟨x,rfl,a⟩:=de w;rw[a.str];simp only[xg];rw[eT z];exact CQ
   .rw[hF z]at e;cases e
def oW:C9 where
 k:=λxs h=>(Dp xs h).ne
 p:=λj=>match j with
  |[d]=>d.items.bind λi=>if i.length<=100000 then J (.lst i)else Y
  |_=>Y
 fr:=I
 ok {q h L O j xs d} bd w e:=by
  match j,e with
  |[a],e =>
   obtain⟨x,rfl,l⟩:=de w;rw[Lv]at e;obtain⟨i,e1,e2⟩:=e;obtain⟨xs,e3,r⟩:=l.seqOf e1;by_cases z:i.length<=100000
   .rw[eT z]at e2;cases e2;obtain⟨v,g,e4,r4,r5⟩:=ot bd r z;exact⟨v,g,by simp only[Dp,e3];rw[e4];rfl,r4,r5⟩
   .rw[hF z]at e2;cases e2
def fV:C9 where
 k:=λxs h=>(CP xs h).ne
 p:=λi=>match i with
  |[d]=>d.items.map .tup
  |_=>Y
 fr:=I
 ok {q h L O i xs d} bd w e:=by
  match i,e with
  |[a],e =>
   obtain⟨x,rfl,j⟩:=de w;rw[Db]at e;obtain⟨l,e1,rfl⟩:=e;obtain⟨xs,e3,r⟩:=j.seqOf e1;simp only[CP,e3];exact Dj ⟨xs,rfl,r⟩ λ_ k _ e=>by cases k<;>cases e
def iu:VP->Option (List Bool)
 |[]=>J []
 |.bl b::r=>(iu r).map (b::·)
 |_=>Y
def Ah:∀{i:VP}{xs:UZ}{bs:List Bool},Rps q h O i xs->iu i=J bs->qx xs=J bs
 |[],_,_,r,e=>by rw[show _=[]from r];cases e;rfl
 |d::i,_,bs,⟨x,t,ex,a,b⟩,e=>by
  subst ex
  cases d with
  |bl c =>
   rw[show x=PV.bl c from a];rw[iu,Db]at e;obtain⟨j,e1,rfl⟩:=e;rw[qx,Ah b e1];rfl
  |_=>cases e
def n6:C9 where
 k:=λxs h=>(Fh xs h).ne
 p:=λi=>match i with
  |[d]=>(d.items.bind iu).map λbs=>.bl (bs.all id)
  |_=>Y
 fr:=I
 ok {q h L O i xs d} bd w e:=by
  match i,e with
  |[a],e =>
   obtain⟨x,rfl,j⟩:=de w;rw[Db]at e;obtain⟨bs,e1,rfl⟩:=e;rw[Lv]at e1;obtain⟨l,e1,e2⟩:=e1;obtain⟨xs,e3,r⟩:=j.seqOf e1;simp only[Fh,e3,HM,Ah r e2];exact wh
def mY:VP->Option (VM)
 |[]=>J []
 |.int b::r=>(mY r).map (b::·)
 |_=>Y
def vD:∀{i:VP}{xs:UZ}{bs:VM},Rps q h O i xs->mY i=J bs->xs=bs.map .int
 |[],_,_,r,e=>by rw[show _=[]from r];cases e;rfl
 |d::i,_,bs,⟨x,t,ex,a,b⟩,e=>by
  subst ex
  cases d with
  |int c =>
   rw[show x=PV.int c from a];rw[mY,Db]at e;obtain⟨j,e1,rfl⟩:=e;rw[vD b e1];rfl
  |_=>cases e
def sW:∀(bs:VM),mz (bs.map .int)=J bs
 |[]=>rfl
 |b::bs=>by rw[yw,mz,sW bs];rfl
def u4:∀(bs:VM),Rps q h O (bs.map .int) (bs.map .int)
 |[]=>rfl
 |b::bs=>⟨_,_,rfl,rfl,u4 bs⟩
def Vw.lstOf(w:Vw q h L O (.lst ds) v):∃xs,MM.jB h v=J xs/\Rps q h O ds xs:=by obtain⟨n,xs,rfl,g,r⟩:=w.lst;exact⟨xs,by simp[MM.jB,g],r⟩
def UK(bd:Bd h O)(r:∀h O,Rps q h O ds xs):Gv q h O I (.ok (.loc h.length) (h++[.lst xs])) (.lst ds):=by
 have g:(h++[MO.lst xs])[h.length]?=J (.lst xs):=by simp
 exact⟨_,_,rfl,⟨_,_,rfl,λz=>by have:=bd _ z;ext,g,r _ _⟩,λ_ k i e=>by obtain⟨rfl,rfl⟩:=gQ e;exact⟨_,_,rfl,mh _,g,r _ _⟩⟩
def d3(lo:Int)(n:Nat):VP:=(List.range n).map λ(i:Nat)=>D.int (lo+(i:Int))
def wR:Rps q h O (d3 lo n) (cq lo n):=by
 have:=u4 (q:=q) (h:=h) (O:=O) ((List.range n).map λ(i:Nat)=>lo+(i:Int))
 rw[CY,CY]at this;exact this
def LN:Nz where
 k:=λl u=>match l with
  |[.int j]=>if -(2^62)<=j/\j<2^62 then .ok ⟨cq 0 j.toNat,[]⟩ u else .bad
  |_=>.bad
 p:=λi=>match i with
  |[.int j]=>if -100000<=j/\j<=100000 then J (d3 0 j.toNat)else Y
  |_=>Y
 ok {q h L O i xs d} hq hO bd w e:=by
  match i,e with
  |[.int j],e =>
   obtain⟨x,rfl,y⟩:=de w;rw[y.int];dsimp only at e;by_cases z:-100000<=j/\j<=100000
   .rw[eT z]at e;cases e;dsimp only;rw[eT ⟨by ext,by ext⟩];exact⟨_,rfl,wR,(λ_ hg=>nomatch hg),λ_ _ hg=>nomatch hg⟩
   .rw[hF z]at e;cases e
def Qs:Nz where
 k:=λu B=>match u with
  |[.int i,.int j]=>if -(2^62)<=i/\i<2^62 /\ -(2^62)<=j/\j<2^62 then .ok ⟨cq i (j-i).toNat,[]⟩ B else .bad
  |_=>.bad
 p:=λl=>match l with
  |[.int i,.int j]=>if(-100000<=i/\i<=100000) /\ -100000<=j/\j<=100000 then J (d3 i (j-i).toNat)else Y
  |_=>Y
 ok {q h L O l xs d} hq hO bd w e:=by
  match l,e with
  |[.int i,.int j],e =>
   obtain⟨x,y,rfl,C,E⟩:=NE w;rw[C.int,E.int];dsimp only at e;by_cases z:(-100000<=i/\i<=100000) /\ -100000<=j/\j<=100000
   .rw[eT z]at e;cases e;dsimp only;rw[eT ⟨by ext,by ext,by ext,by ext⟩];exact⟨_,rfl,wR,(λ_ hg=>nomatch hg),λ_ _ hg=>nomatch hg⟩
   .rw[hF z]at e;cases e
def Vw.sqAny(u:q<L)(z:q∈O)(w:Vw q h L O d v)(e:d.items=J ds):∃t xs gd,MM.iQ v h=J (t,xs,gd)/\Rps q h O ds xs/\(∀g∈gd,h[g.1]?=J (.lst g.2)/\g.1≠q)/\(Rp q h O d v->∀g∈gd,g.1∉O):=by
 obtain⟨xs,gd,e1,r,j,l⟩:=w.seq u z e
 cases d with
 |lst y =>
  cases e;obtain⟨n,ys,rfl,g,i⟩:=w.lst;simp only[AW,g]at e1;cases e1;exact⟨T,xs,[(n,xs)],by simp[MM.iQ,g],i,j,l⟩
 |tup y =>
  cases e;obtain⟨ys,rfl,i⟩:=w.tup;cases e1;exact⟨I,_,[],rfl,i,j,l⟩
 |_=>cases e
def iL(i:VP):VP:=i.zipIdx.map λp=>.tup [.int (p.2:Int),p.1]
def uW:∀{i:VP}{xs:UZ}(n:Nat),Rps q h O i xs->Rps q h O ((i.zipIdx n).map λp=>.tup [.int (p.2:Int),p.1]) ((xs.zipIdx n).map λp=>.tup [.int (p.2:Int),p.1])
 |[],_,_,r=>by rw[show _=[]from r];rfl
 |d::i,_,n,⟨x,t,e,a,b⟩=>by
  subst e;exact⟨_,_,rfl,⟨_,rfl,⟨_,_,rfl,rfl,⟨_,_,rfl,a,rfl⟩⟩⟩,uW (n+1) b⟩
def iE:Nz where
 k:=λB j=>match B with
  |[x]=>(match iQ x j with
   |some (_,xs,gd)=>.ok ⟨kB xs,gd⟩ j
   |none=>.bad)
  |_=>.bad
 p:=λi=>match i with
  |[d]=>d.items.map iL
  |_=>Y
 ok {q h L O i xs d} hq hO bd w e:=by
  match i,e with
  |[a],e =>
   obtain⟨x,rfl,l⟩:=de w;rw[Db]at e;obtain⟨F,e1,rfl⟩:=e;obtain⟨t,ys,gd,e2,r,u,y⟩:=l.sqAny hq hO e1;refine⟨⟨kB ys,gd⟩,by simp only[e2],uW 0 r,u,λz=>y ?_⟩;obtain⟨C,E,e3,a,_⟩:=z;cases e3;exact a
def dQ(xs:VP)(lo i:VU):VP:=(xs.drop (HT.l_ xs.length 0 lo)).take (HT.l_ xs.length xs.length i-HT.l_ xs.length 0 lo)
def wQ(lo i:VU)(r:Rps q h O ds xs):Rps q h O (dQ ds lo i) (ie xs lo i):=by unfold dQ ie;rw[r.length];exact(r.drop _).take _
structure Xo(ws:VN) where
 m:Mx (VU)
 p:aN->f_->PR (VU)
 ok:∀{q h L B O Z env s},Cx q h L B O ws Z env s->Ok q h (m Z h) (p env s) (λ_ a b=>a=b)
section
variable{ws:VN}
def Cz:Xo ws where
 m:=TY
 p:=λ_ s=>.ok Y s
 ok {q h L B O Z env s} c:=⟨Y,h,rfl,KB.refl _ _,c.pen,rfl⟩
def yJ(e:Xe ws):Xo ws where
 m:=TZ e.m
 p:=λenv s=>(e.p env s).bind λd s=>match d with
  |.int i=>.ok (J i) s
  |_=>.bad
 ok {q h L B O Z env s} c:=by
  refine(e.ok c).bind λx v j s1 u l ⟨w,_,_⟩=>?_
  cases x with
  |int i=>rw[w.int];exact⟨J i,j,rfl,KB.refl _ _,l,rfl⟩
  |_=>trivial
def Dt(d:D)(lo j:VU):VA:=match d with
 |.lst i=>J (.lst (dQ i lo j))
 |.tup i=>if HT.l_ i.length 0 lo=0/\HT.l_ i.length i.length j=i.length then Y else J (.tup (dQ i lo j))
 |_=>Y
def NH(bd:Bd h O)(w:Vw q h L O a x)(e:Dt a lo hi=J d):Gv q h O I (Fd x lo hi h) d:=by
 cases a with
 |lst i =>
  cases e;obtain⟨n,xs,rfl,g,r⟩:=w.lst;simp only[Fd,g];have r:=wQ lo hi r;have m:Mv O h O (h++[MO.lst (ie xs lo hi)]):=⟨λn l _=>BH l,λo j=>.inl j⟩
  have u:Mv O h (h.length::O) (h++[MO.lst (ie xs lo hi)]):=⟨λn l _=>BH l,λo j=>by
   rcases ki.mp j with z|z
   .exact .inr (by ext)
   .exact .inl z⟩
  have g:(h++[MO.lst (ie xs lo hi)])[h.length]?=J (.lst (ie xs lo hi)):=by simp
  exact⟨_,_,rfl,⟨_,_,rfl,λz=>by have:=bd _ z;ext,g,r.mv m⟩,λ_ k y e=>by obtain⟨rfl,rfl⟩:=gQ e;exact⟨_,_,rfl,mh _,g,r.mv u⟩⟩
 |tup i =>
  unfold Dt at e;dsimp only at e;by_cases z:HT.l_ i.length 0 lo=0/\HT.l_ i.length i.length hi=i.length
  .rw[eT z]at e;cases e
  .rw[hF z]at e;cases e;obtain⟨xs,rfl,r⟩:=w.tup;simp only[Fd];rw[r.length,hF z];exact Dj ⟨_,rfl,wQ lo hi r⟩ λ_ k _ e=>by cases k<;>cases e
 |_=>cases e
def Cs(a:Xe ws)(lo j:Xo ws):Xe ws where
 m:=T0 a.m lo.m j.m
 p:=λenv s=>(a.p env s).bind λx s=>(lo.p env s).bind λl s=>(j.p env s).bind λu s=>.of (Dt x l u) s
 fz:=I
 fr:=I
 ok {q h L B O Z env s} c:=by
  refine(a.ok c).bind λx v U s1 C M ⟨w,_,_⟩=>?_;have E:=c.kb C M;refine(lo.ok E).bind λl S R s2 z Q e=>?_;subst e;have F:=E.kb z Q;refine(j.ok F).bind λu W X s3 i G e=>?_;subst e;have P:=F.kb i G
  cases e:Dt x l u with
  |none=>trivial
  |some d =>
   obtain⟨y,g,e1,r,H⟩:=NH P.bd ((w.kb z c.pO c.pL).kb i c.pO c.pL) e;exact C3 (wy (wy C.len z.len) i.len) G ⟨y,g,by rw[e1];rfl,r,H⟩
end
def ql:JK where
 m:=oC
 p:=λi j=>match j with
  |[a]=>if i.length<100000 then J (.non,i++[a])else Y
  |_=>Y
 ok {q h O n xs i j vs d ds'} g r ra e:=by
  match j,e with
  |[a],e =>
   obtain⟨x,t,rfl,a,b⟩:=ra
   have:t=[]:=b
   subst this;dsimp only at e;by_cases z:i.length<100000
   .rw[eT z]at e;cases e;refine⟨.non,xs++[x],?_,r.app ⟨x,[],rfl,a,rfl⟩,rfl⟩;simp only[oC,g];rw[eT (by have:=lZ;rw[r.length];ext)]
   .rw[hF z]at e;cases e
end
section
variable{ws:VN}{env:aN}{s:f_}
@[simp]theorem aj{d:D}{r:aN}:(af 0:Xe ws).p (J d::r) s=.ok d s:=rfl
@[simp]theorem am{i:Nat}{o:VA}{r:aN}:(af (i+1):Xe ws).p (o::r) s=(af i:Xe ws).p r s:=by simp[af]
theorem Qt(e:env[i]?=J (J d)):(af i:Xe ws).p env s=.ok d s:=by show(match env[i]? with|some (J d)=>PR.ok d s|_=>.bad)=_;rw[e]
@[simp]theorem aF:(xC k:Xe ws).p env s=.ok k.d s:=rfl
@[simp]theorem bi:Cn.non.d=.non:=rfl
@[simp]theorem Ub:(Cn.bl b).d=.bl b:=rfl
@[simp]theorem aH:(Cn.int b).d=.int b:=rfl
@[simp]theorem aR:(Cn.str b).d=.str b:=rfl
@[simp]theorem aA:(ah o a b).p env s=(a.p env s).bind λx s1=>(b.p env s1).bind λy s2=>.of (o.p x y) s2:=rfl
@[simp]theorem cz:(nz o a).p env s=(a.p env s).bind λx s1=>.of (o.p x) s1:=rfl
@[simp]theorem aq:(a_:Xs ws).p env s=.ok [] s:=rfl
@[simp]theorem al:(ae a r).p env s=(a.p env s).bind λx s1=>(r.p env s1).bind λy s2=>.ok (x::y) s2:=rfl
@[simp]theorem aX:(k4 o a).p env s=(a.p env s).bind λx s1=>.of (o.p x) s1:=rfl
@[simp]theorem aB:(av f a h).p env s=(a.p env s).bind f.p:=rfl
@[simp]theorem bf:(aU a h).p env s=(a.p env s).bind λx s1=>if x.length<=100000 then .ok (.lst x) s1 else .bad:=rfl
@[simp]theorem j6:(cR a h).p env s=(a.p env s).bind λx s1=>if x.length<=100000 then .ok (.tup x) s1 else .bad:=rfl
@[simp]theorem Sd:(DZ:Xe ws).p env s=.ok (.dic T [] []) s:=rfl
@[simp]theorem bc:(xB a).p env s=(a.p env s).bl:=rfl
@[simp]theorem dZ:(iC a).p env s=(a.p env s).bind λb s=>.ok (!b) s:=rfl
@[simp]theorem ft:(j7 a b).p env s=(a.p env s).bind λx s=>if x=I then b.p env s else .ok T s:=rfl
@[simp]theorem gZ:(yF a b).p env s=(a.p env s).bind λx s=>if x=I then .ok I s else b.p env s:=rfl
@[simp]theorem Qu:(i4:Xt ws).p env s=.ok I s:=rfl
@[simp]theorem cu:(fH a b).p env s=(a.p env s).bl.bind λx s=>if x=I then(b.p env s).bl.bind λy s=>.ok (.bl y) s else .ok (.bl T) s:=rfl
@[simp]theorem Fx:(uh a).p env s=(a.p env s).bl.bind λx s=>.ok (.bl (!x)) s:=rfl
@[simp]theorem cT:(iz t a b z h).p env s=(t.p env s).bind λx s=>if x=I then a.p env s else b.p env s:=rfl
@[simp]theorem NJ:(g7 f g a b e).p env s=(a.p env s).bind λx s1=>(b.p env s1).bind λy s2=>match f.p x y with
  |some (.bl t)=>if t=I then(e.p env s2).bind λz s3=>.of (g.p y z) s3 else .ok (.bl T) s2
  |_=>.bad:=rfl
@[simp]theorem fU:(iw o a).p env s=(a.p env s).bind λx s1=>.of (o.p x) s1:=rfl
@[simp]theorem fT:(fB a).p env s=(a.p env s).bind λx s1=>.of x.items s1:=rfl
@[simp]theorem Uc{i:Nat}{h:ws.contains i=T}{d:D}:(n3 i h).p d env=J (env.set i (J d)):=rfl
@[simp]theorem Ud:(Dh:Hk ws).p [] env=J env:=rfl
@[simp]theorem Ue:(yV a t).p (d::ds) env=(a.p d env).bind λenv1=>t.p ds env1:=rfl
@[simp]theorem Uf:(Di t n).p (.tup ds) env=if ds.length=n then t.p ds env else Y:=rfl
@[simp]theorem ij{nv:Nat}{fm:VN}{i:Xi ws}{ws':VN}{g:Xg ws'}{t:Xt ws'}{e:Xe ws'}{hw:DI nv fm ws=ws'}{hz:e.fz=I}:(c6 nv fm i g t e hw hz).p env s=(i.p env s).bind λds s1=>if ds.length<=100000 then (match cG g.p t.p e.p ds (v2 nv fm env) s1 with
  |.ok r s2=>.ok (.lst r) s2
  |_=>.bad)else .bad:=rfl
@[simp]theorem gS:(Cz:Xo ws).p env s=.ok Y s:=rfl
@[simp]theorem fK:(yJ e).p env s=(e.p env s).bind λd s=>match d with
  |.int i=>.ok (J i) s
  |_=>.bad:=rfl
@[simp]theorem gX:(Cs a lo hi).p env s=(a.p env s).bind λx s=>(lo.p env s).bind λl s=>(hi.p env s).bind λu s=>.of (Dt x l u) s:=rfl
@[simp]theorem aD:(aw a b).p env s=(a.p env s).then b.p:=rfl
@[simp]theorem bv:(e_:Xd ws).p env s=.nx env s:=rfl
@[simp]theorem aS:(aW e).p env s=(e.p env s).go env λd _ s=>.rt d s:=rfl
theorem Fy{i:Nat}{h:ws.contains i=I}{d:D}(e:env[i]?=J (J d)):(ua i h).p env s=.rt d s:=by show(match env[i]? with|some (J d)=>PS.rt d s|_=>.bad)=_;rw[e]
@[simp]theorem Qw:(mH e).p env s=(e.p env s).go env λ_=>.nx:=rfl
@[simp]theorem bg:(kr t a b).p env s=(t.p env s).go env λx env s=>if x=I then a.p env s else b.p env s:=rfl
@[simp]theorem aK:(aQ i e hi hz).p env s=(e.p env s).go env λd env s=>.nx (env.set i (J d)) s:=rfl
@[simp]theorem iU:(D.lst ds).mine=I:=rfl
@[simp]theorem Se:(D.dic T ks ds).mine=I:=rfl
@[simp]theorem gG{hi hz}:(jx i e hi hz:Xd ws).p env s=(e.p env s).go env λd env s=>if d.mine=I then .nx (env.set i (J d)) s else .bad:=rfl
@[simp]theorem za:(pS e g hz).p env s=(e.p env s).go env λd env s=>match g.p d env with
  |some env1=>.nx env1 s
  |none=>.bad:=rfl
@[simp]theorem iV:(mG i g b hz).p env s=(i.p env s).go env λds env s=>DJ g.p b.p ds env s:=rfl
@[simp]theorem NK:(Ed o i a hi hz).p env s=DL o i a.p env s λ_=>.nx:=rfl
@[simp]theorem vO:(sE i e ix hi hz).p env s=gw i e.p ix.p env s:=rfl
theorem bE{hw}(hl:ds.length=np):(bX n np b hw).p ds s=(b.p (i3 n ds) s).fin:=by show(if ds.length=np then _ else _)=_;rw[eT hl]
variable{i j:Int}{b:Bool}{x y:VP}
@[simp]theorem Qx:u7.p (.int i) (.int j)=J (.int (i+j)):=rfl
theorem rT(h:x.length+y.length<=100000):u7.p (.lst x) (.lst y)=J (.lst (x++y)):=by show(if x.length+y.length<=100000 then _ else _)=_;rw[eT h]
@[simp]theorem Fz:Fv.p (.int i) (.int j)=J (.int (i-j)):=rfl
@[simp]theorem Sf:JL.p (.int i) (.int j)=J (.bl (decide (i<j))):=rfl
@[simp]theorem Sg:DA.p (.int i) (.int j)=J (.bl (decide (i<=j))):=rfl
@[simp]theorem Sh:Dq.p (.int i) (.int j)=J (.bl (decide (j<i))):=rfl
@[simp]theorem qQ:D_.p (.int i) (.int j)=J (.bl (decide (j<=i))):=rfl
@[simp]theorem bW:ka.p (.lst x) (.int j)=i_ x j:=rfl
@[simp]theorem fF:ka.p (.tup x) (.int j)=i_ x j:=rfl
theorem FA(h:j≠0):jj.p (.int i) (.int j)=J (.int (i.fmod j)):=by show(if j≠0 then _ else _)=_;rw[eT h]
@[simp]theorem Si:(dq Ts).p d=(Ee d).map λt=>.bl (Ts.any (jd t)):=rfl
@[simp]theorem Sj:Ee .non=J "NoneType":=rfl
@[simp]theorem Ug:Ee (.bl b)=J "bool":=rfl
@[simp]theorem Sk:Ee (.int i)=J "int":=rfl
@[simp]theorem Sl:Ee (.str z)=J "str":=rfl
@[simp]theorem Sm:Ee (.tup x)=J "tuple":=rfl
@[simp]theorem Sn:Ee (.lst x)=J "list":=rfl
@[simp]theorem So:Ee (.dic fz ks es)=J "dict":=rfl
@[simp]theorem FC:Fw.p [.int i,.int j]=J (.int (if j<i then j else i)):=rfl
@[simp]theorem hX:cm.p [.bl b]=J (.int (if b then 1 else 0)):=rfl
@[simp]theorem Sq:cm.p [.int i]=J (.int i):=rfl
@[simp]theorem Sr:bY.p [.lst x]=J (.int x.length):=rfl
@[simp]theorem Ss:bY.p [.tup x]=J (.int x.length):=rfl
@[simp]theorem NL:fV.p [.lst x]=J (.tup x):=rfl
@[simp]theorem NM:fV.p [.tup x]=J (.tup x):=rfl
theorem ug(h:-100000<=i/\i<=100000):LN.p [.int i]=J (d3 0 i.toNat):=by show(if _ then _ else _)=_;rw[eT h]
def NO(h:(-100000<=i/\i<=100000) /\ -100000<=j/\j<=100000):Qs.p [.int i,.int j]=J (d3 i (j-i).toNat):=by show(if _ then _ else _)=_;rw[eT h]
@[simp]theorem FE:iE.p [.lst x]=J (iL x):=rfl
@[simp]theorem fX:Dt (.lst x) lo hi=J (.lst (dQ x lo hi)):=rfl
theorem kC(h:x.length<100000):ql.p x [a]=J (.non,x++[a]):=by show(if _ then _ else _)=_;rw[eT h]
end
section
variable{i j:Int}{b c:Bool}
def d7(l:x.canLay0=I)(u:x.depth<=64):SeqAt.shaped x=I:=by simp[SeqAt.shaped,l,u]
@[simp]theorem JO:y1 neg (.int i) (.int j)=J (.bl (if neg then !decide (i=j)else decide (i=j))):=rfl
@[simp]theorem Su:y1 neg (.bl b) (.bl c)=J (.bl (if neg then !(b==c)else b==c)):=rfl
@[simp]theorem uc:o0.p a d=y1 T a d:=rfl
@[simp]theorem ui:x2.p a d=y1 I a d:=rfl
end
@[simp]theorem Qy:DJ g b [] env s=.nx env s:=rfl
theorem pM(e:g d env=J env1):DJ g b (d::ds) env s=(b env1 s).turn (DJ g b ds):=by rw[DJ,e]
def jE(l:Nat->aN->f_->Prop):∀(B:VP)(j:Nat)(env:aN)(s:f_),l j env s ->
  (∀m env s d,l (j+m) env s->B[m]?=J d->∃u i y,g d env=J u/\b u s=.nx i y/\l (j+m+1) i y)->∃i y,DJ g b B env s=.nx i y/\l (j+B.length) i y
 |[],j,env,s,F,_=>⟨env,s,rfl,F⟩
 |d::B,j,env,s,F,st=>by
  obtain⟨u,C,s2,e1,e2,H⟩:=st 0 env s d F rfl;obtain⟨E,L,e3,G⟩:=jE l B (j+1) C s2 H λm i y x q z=>by
   have:=st (m+1) i y x (by rw[show j+(m+1)=j+1+m by lia];exact q) (by simpa using z)
   rw[show j+(m+1)+1=j+1+m+1 by lia]at this;exact this
  refine⟨E,L,?_,by rw[n_,show j+(B.length+1)=j+1+B.length by lia];exact G⟩;rw[pM e1,e2];exact e3
def ng(p:D->Bool)(f:D->D):∀(u:VP)(l:aN),l.length=nv ->
  (∀x∈u,∀l:aN,l.length=nv->∃i:aN,i.length=nv/\g x (l++fr)=J (i++fr)/\t (i++fr) s=.ok (p x) s/\(p x=I->e (i++fr) s=.ok (f x) s))->cG g t e u (l++fr) s=.ok ((u.filter p).map f) s
 |[],l,hv,j=>rfl
 |x::u,l,hv,j=>by
  obtain⟨i,B,e1,e2,e3⟩:=j x (by simp) l hv;have C:=ng p f u i B λy E=>j y (pW _ E);rw[cG,e1];dsimp only;rw[e2]
  cases z:p x with
  |true=>simp only[Pb,if_true,e3 z,C,List.filter_cons_of_pos z,yw]
  |false=>simp only[Pb,ol,if_false,C,List.filter_cons_of_neg (show ¬p x=I by simp[z])]
def qE{C j:VN}{env:aN}{s:f_}{z:Nat}{fm:VN}{i:Xi C}{g:Xg j}{t:Xt j}{e:Xe j}{hw:DI z fm C=j}{E:e.fz=I}{y:VP}(p:D->Bool)(f:D->D)(F:i.p env s=.ok y s)(hl:y.length<=100000)(u:∀x∈y,∀B:aN,B.length=z->∃l:aN,l.length=z/\g.p x (B++fm.map λi=>(env[i]?).getD Y)=J (l++fm.map λi=>(env[i]?).getD Y)/\t.p (l++fm.map λi=>(env[i]?).getD Y) s=.ok (p x) s/\(p x=I->e.p (l++fm.map λi=>(env[i]?).getD Y) s=.ok (f x) s)):
  (c6 z fm i g t e hw E).p env s=.ok (.lst ((y.filter p).map f)) s:=by
 rw[ij,F,Pb,eT hl];unfold v2;rw[ng p f y _ (by simp) u]
def kL{ws ws':VN}{env:aN}{s:f_}{fm:VN}{i:Xi ws}{t:Xt ws'}{e:Xe ws'}{ds:VP}(p:D->Bool)(f:D->D)(B:i.p env s=.ok ds s)(hl:ds.length<=100000)(j:∀x∈ds,t.p (J x::fm.map λi=>(env[i]?).getD Y) s=.ok (p x) s/\(p x=I->e.p (J x::fm.map λi=>(env[i]?).getD Y) s=.ok (f x) s))(u:ws'.contains 0=T:=by exact ys rfl)(hw:DI 1 fm ws=ws':=by exact ys rfl)(z:e.fz=I:=by exact ys rfl):
  (c6 1 fm i (n3 0 u) t e hw z).p env s=.ok (.lst ((ds.filter p).map f)) s :=
 qE p f B hl λx l y hv=>match y,hv with
  |[_],_=>⟨[J x],rfl,rfl,j x l⟩
def NQ{u j:VN}{env:aN}{s:f_}{fm:VN}{i:Xi u}{t:Xt j}{e:Xe j}{ds:VP}(p:D->Bool)(f:D->D)(F:i.p env s=.ok ds s)(hl:ds.length<=100000)(l:∀x∈ds,∃a b,x=.tup [a,b]/\t.p (J a::J b::fm.map λi=>(env[i]?).getD Y) s=.ok (p x) s/\(p x=I->e.p (J a::J b::fm.map λi=>(env[i]?).getD Y) s=.ok (f x) s))(z:j.contains 0=T:=by exact ys rfl)(B:j.contains 1=T:=by exact ys rfl)(hw:DI 2 fm u=j:=by exact ys rfl)(E:e.fz=I:=by exact ys rfl):
  (c6 2 fm i (Di (yV (n3 0 z) (yV (n3 1 B) Dh)) 2) t e hw E).p env s=.ok (.lst ((ds.filter p).map f)) s :=
 qE p f F hl λx y C hv=>match C,hv with
  |[_,_],_=>let⟨a,b,e,q⟩:=l x y;⟨[J a,J b],rfl,by subst e;rfl,q⟩
def AA{α:Type}(l:List α):(l.filter λ_=>I)=l:=HK.mpr (by simp)
noncomputable section
section
variable{ws:VN}
structure OpR where
 m:Nat->UZ->MH->VW
 p:VP->VP->VA
 ok:∀{q:Nat}{h:MH}{L:Nat}{O:VN}{n:Nat}{xs:UZ}{ds as:VP}{vs:UZ}{d:D},h[n]?=J (.lst xs)->Rps q h O ds xs->Hh q h L O as vs->p ds as=J d->∃v,m n vs h=.ok v h/\Rp q h O d v/\∀k es,d≠dl k es
end
end
noncomputable section
def ao:A_ where
 m:=hU
 p:=λa b=>match a,b with
  |.str x,.str y=>if x.length+y.length<=sizeLine then J (.str (x++y))else Y
  |a,b=>u7.p a b
 fr:=I
 ok {q h L O a x b y d} bd wa wb e:=by
  cases a with
  |str u =>
   cases b with
   |str w =>
    dsimp only at e;by_cases z:u.length+w.length<=sizeLine
    .rw[eT z]at e;cases e;rw[wa.str,wb.str];show Gv q h O I (if u.length+w.length<=sizeLine then .ok (.str (u++w)) h else .bad) _;rw[eT z];exact Dj rfl λ_ k _ e=>by cases k<;>cases e
    .rw[hF z]at e;cases e
   |_=>cases e
  |_=>exact u7.ok bd wa wb e
def kM:VP->Option (VL)
 |[]=>J []
 |.str x::r=>(kM r).map (x::·)
 |_=>Y
def BQ:∀{i:VP}{xs:UZ}{j:VL},Rps q h O i xs->kM i=J j->kv xs=J j:=by
 intro i
 induction i with
 |nil=>intro xs j r e;rw[show xs=[]from r];cases e;rfl
 |cons d i l =>
  intro xs j r e;obtain⟨x,t,rfl,r1,r2⟩:=r
  cases d with
  |str z =>
   unfold kM at e;rw[Db]at e;obtain⟨u,e1,rfl⟩:=e;rw[show x=PV.str z from r1];unfold kv;rw[l r2 e1];rfl
  |_=>cases e
structure Hl where
 f:Str->UZ->MH->VW
 p:Str->VP->VA
 fr:Bool
 ok:∀{q h L O z as xs d},Bd h O->Hh q h L O as xs->p z as=J d->Gv q h O fr (f z xs h) d
def h8:Hl where
 f:=cj
 p:=λz j=>match j with
  |[.lst u]=>(match kM u with
   |some i=>if JoinOk z i=I then J (.str (Txt.join z i))else Y
   |none=>Y)
  |_=>Y
 fr:=I
 ok {q h L O z j xs d} bd w e:=by
  match j,e with
  |[.lst u],e =>
   dsimp only at e
   cases y:kM u with
   |none=>rw[y]at e;cases e
   |some i =>
    rw[y]at e;dsimp only at e;by_cases l:JoinOk z i=I
    .rw[eT l]at e;cases e;obtain⟨x,rfl,a⟩:=de w;obtain⟨n,xs,rfl,g,r⟩:=a.lst;have e2:cj z [.loc n] h=.ok (.str (Txt.join z i)) h:=by
      simp only[cj,g,BQ r y];rw[eT l]
     rw[e2];exact Dj rfl λ_ k _ e=>by cases k<;>cases e
    .rw[hF l]at e;cases e
def Dk:Hl where
 f:=vW
 p:=λz j=>match j with
  |[.int i]=>if PadOk i=I then J (.str (Txt.zfill z i))else Y
  |_=>Y
 fr:=I
 ok {q h L O z j xs d} bd w e:=by
  match j,e with
  |[.int i],e =>
   dsimp only at e;by_cases l:PadOk i=I
   .rw[eT l]at e;cases e;obtain⟨x,rfl,a⟩:=de w;rw[a.int];show Gv q h O I (if PadOk i=I then .ok (.str (Txt.zfill z i)) h else .bad) _;rw[eT l];exact Dj rfl λ_ k _ e=>by cases k<;>cases e
   .rw[hF l]at e;cases e
def JP(c:Str):Hi where
 m:=R_ c
 p:=λa=>match a with
  |.int i=>if i.natAbs.log2<1920/\(Str.empty++(toString i:Str)).length<=sizeLine/\(Str.empty++(toString i:Str)++c).length<=sizeLine then J (.str (Str.empty++(toString i:Str)++c))else Y
  |_=>Y
 fr:=I
 ok {q h L O a x d} bd w e:=by
  cases a with
  |int i =>
   dsimp only at e;by_cases z:i.natAbs.log2<1920/\(Str.empty++(toString i:Str)).length<=sizeLine/\(Str.empty++(toString i:Str)++c).length<=sizeLine
   .rw[eT z]at e;cases e;rw[w.int];show Gv q h O I (if i.natAbs.log2<1920/\(Str.empty++(toString i:Str)).length<=sizeLine/\(Str.empty++(toString i:Str)++c).length<=sizeLine then .ok (.str (Str.empty++(toString i:Str)++c)) h else .bad) _;rw[eT z];exact Dj rfl λ_ k _ e=>by cases k<;>cases e
   .rw[hF z]at e;cases e
  |_=>cases e
section
variable{ws:VN}
def tx(o:Hl)(a:Xe ws)(i:Xs ws):Xe ws where
 m:=CW o.f a.m i.m
 p:=λenv s=>(a.p env s).bind λx s1=>match x with
  |.str z=>(i.p env s1).bind λy s2=>.of (o.p z y) s2
  |_=>.bad
 fz:=I
 fr:=o.fr
 ok {q h L B O Z env s} c:=by
  refine(a.ok c).bind λx v M s1 j F ⟨w,_,_⟩=>?_
  cases x with
  |str z =>
   have l:=c.kb j F;rw[w.str];dsimp only;refine(i.ok l).bind λy P H s2 C E ⟨G,_⟩=>?_
   cases e:o.p z y with
   |none=>trivial
   |some d =>
    obtain⟨u,g,e1,r,f⟩:=o.ok (l.kb C E).bd G e;exact C3 (wy j.len C.len) E ⟨u,g,by rw[e1];rfl,r,f⟩
  |_=>trivial
def kW(i j:Nat)(a:Xs ws)(M:ws.contains i=T:=by exact ys rfl)(G:ws.contains j=T:=by exact ys rfl)(S:a.fz=I:=by exact ys rfl):Xd ws where
 m:=Jc i j a.m
 p:=λenv s=>(a.p env s).go env λC env s=>match C with
  |[x,y]=>.nx ((env.set i (J x)).set j (J y)) s
  |_=>.bad
 fr:=I
 ok {q h L B O Z env s} c d:=by
  refine SOk.ex (f:=λE Z h=>match E with|[v,w]=>.nx ((Z.set i (J v)).set j (J w)) h|_=>.bad) (g:=λC env s=>match C with|[x,y]=>.nx ((env.set i (J x)).set j (J y)) s|_=>.bad) c d (a.ok c) λxs E Q s1 kb l ⟨_,z⟩=>?_;have z:=z S
  match xs,z with
  |[],_=>trivial
  |[_],_=>trivial
  |[x,y],z =>
   obtain⟨v,t,rfl,H,P⟩:=z;obtain⟨w,U,rfl,u,rfl⟩:=P;obtain⟨F,b1⟩:=l.sr.set (i:=i) (λz=>by simp[z]at M) H;obtain⟨R,b2⟩:=F.set (i:=j) (λz=>by simp[z]at G) u;exact⟨_,Q,rfl,O,Stp.refl _ _ _ _,⟨l.bd,l.sub,l.bb,l.pb,l.hL,l.pen,R⟩,(d.keep b1).keep b2⟩
  |_::_::_::_,_=>trivial
variable{env:aN}{s:f_}
@[simp]theorem ck:(tx o a as).p env s=(a.p env s).bind λx s1=>match x with
  |.str z=>(as.p env s1).bind λy s2=>.of (o.p z y) s2
  |_=>.bad:=rfl
@[simp]theorem vA:(kW i j a hi hj hz).p env s=(a.p env s).go env λds env s=>match ds with
  |[x,y]=>.nx ((env.set i (J x)).set j (J y)) s
  |_=>.bad:=rfl
@[simp]theorem fh:ao.p (.int i) (.int j)=J (.int (i+j)):=rfl
@[simp]theorem qk:ao.p (.lst x) (.lst y)=u7.p (.lst x) (.lst y):=rfl
theorem aO(h:x.length+y.length<=sizeLine):ao.p (.str x) (.str y)=J (.str (x++y)):=by show(if x.length+y.length<=sizeLine then _ else _)=_;rw[eT h]
end
end
noncomputable section
section
variable{ws:VN}
def Qz(i j:Int):Xe ws where
 m:=mC (.tup [.int i,.int j])
 p:=λ_ s=>.ok (.tup [.int i,.int j]) s
 fz:=I
 fr:=I
 ok {q h L B O Z env s} c:=by have r:Rp q h O (.tup [.int i,.int j]) (.tup [.int i,.int j]):=⟨_,rfl,_,_,rfl,rfl,_,_,rfl,rfl,rfl⟩;exact⟨_,h,rfl,KB.refl _ _,c.pen,.inl r,λ_=>r,λ_ k l e=>by cases k<;>cases e⟩
end
end
noncomputable section
variable{ws:VN}
end
end PU
namespace MM
open PySem.Spec PyProof.Rows L2
abbrev Uh(scope sc:Scope)(vars frees:VL):Prop:=(∀y∈scope.names,y.2=.cell->scope.names.lookup y.1=J .cell)/\(∀y∈scope.names,y.2=.local->scope.names.lookup y.1=J .local)/\(∀x∈vars,scope.names.lookup x=J .local\/scope.names.lookup x=J .cell)/\(∀x∈frees,scope.names.lookup x=J .free)/\(∀y∈scope.names,y.2=.free->y.1∈frees)/\(∀x∈frees,sc.names.lookup x=J .cell)
def NR(i j:Scope):Scope:={ i with names:=i.names.map λ(n,k)=>if(k == .free&&j.kind == .function&&j.names.lookup n==J .cell)then(n,.cell)else(n,k)}
def zJ{i j:Scope}{env:Env}(h:env.scope=j):relabel i env=NR i j:=by subst h;rfl
def wC{X:Cx}{N:VL}{j y:Scope}{l frees:VL}{fm:VN}(u:X.env.scope=y)(z:j.kind=.function)(B:fm.map (λi=>N[i]?)=frees.map J)(h:Uh j y l frees):Cv X N j l frees fm :=
 Jw u z h.1 h.2.1 h.2.2.1 h.2.2.2.1 h.2.2.2.2.1 B h.2.2.2.2.2
def Sv{Q:VR->Prop}(h:∀j,Q [j]):∀i,i.length=1->Q i
 |[_],_=>h _
def Ui{Q:VR->Prop}(h:∀l j,Q [l,j]):∀i,i.length=2->Q i
 |[_,_],_=>h _ _
def Uj{Q:VR->Prop}(h:∀l j u,Q [l,j,u]):∀i,i.length=3->Q i
 |[_,_,_],_=>h _ _ _
def Uk{Q:VR->Prop}(h:∀u j y l,Q [u,j,y,l]):∀i,i.length=4->Q i
 |[_,_,_,_],_=>h _ _ _ _
abbrev Zn(K:hW)(x:Str):Prop:=PySem.W.nsIn K mainGlobals x=J Y
abbrev Nn(X:Cx)(x:Str):Prop:=X.mg x=Y
abbrev Sc(X:Cx)(s:Stmt):Prop:=X.env.scope=aE s
abbrev Gd(X:Cx)(N G:VL)(k:Nat):Prop:=Good X N N G k
structure Ba(P:Program)(w:World)(K:hW)(mg:VZ)(base:Heap):Prop where
 kin:K.In base
 ns:base.Ns mainGlobals mg
structure EE(X:Cx)(P:Program)(w:World)(K:hW)(mg:VZ)(base:Heap):Prop where
 e1:X.prog=P
 e2:X.w=w
 e3:X.K=K
 e4:X.mg=mg
 e5:X.base=base
 b:Ba P w K mg base
section
variable{P:Program}{w:World}{K:hW}{mg:VZ}{base:Heap}{X:Cx}
def EE.n(e:EE X P w K mg base){x:Str}(z:Zn K x):Nn X x:=by show X.mg x=Y;rw[e.e4];exact PySem.W.mg_none_of e.b.kin e.b.ns z
def FnAt.c{x:Str}{ps:VL}{F:UZ->MH->VW}{i j:Nat}(a:FnAt P w K mg base x ps F i)(e:EE X P w K mg base)(h:i<=j:=by decide):P1 X x ps F j :=
 (a.mono h).cal e.e1 e.e2 e.e3 e.e4 e.e5
def Sw{x:Str}{st:Stmt}{N G ps:VL}{m:oh}{k:Nat}(b:Ba P w K mg base)(D:g_ K x st)(u:∀X:Cx,EE X P w K mg base->Sc X st->Gd X N G k->h_ X->C0 X (aT st) m)(B:lJ x st ps:=by first | exact λ_ _ _ _ _ _=>Sv λ_=>rfl | exact λ_ _ _ _ _ _=>Ui λ_ _=>rfl | exact λ_ _ _ _ _ _=>Uj λ_ _ _=>rfl | exact λ_ _ _ _ _ _=>Uk λ_ _ _ _=>rfl | exact λ_ _ _ _ _ _=>ar5 λ_ _ _ _ _=>rfl)(S:p_ N ps (aE st):=by exact⟨rfl,rfl,rfl,by decide +kernel,rfl,by decide +kernel,by decide +kernel⟩)(hl:∀y∈N,(aE st).names.lookup y=J .local\/(aE st).names.lookup y=J .cell:=by decide +kernel)(i:∀y∈G,(aE st).names.lookup y=J .globalImplicit:=by decide +kernel)(dbg:∀x∈N++G,(x==("__debug__":Str))=T/\(x==("__classdict__":Str))=T/\x≠"__name__":=by decide +kernel):
  FnAt P w K mg base x ps (fQ N.length ps.length m) (k+1) :=
 Ay b.kin b.ns D S B hl i dbg λX e1 e2 e3 e4 e5 l g j=>u X ⟨e1,e2,e3,e4,e5,b⟩ l g j
end
structure YE(Y X:Cx):Prop where
 e1:Y.prog=X.prog
 e2:Y.w=X.w
 e3:Y.K=X.K
 e4:Y.mg=X.mg
 e5:Y.base=X.base
section
variable{X Y:Cx}{N W G:VL}{k:Nat}{x:Str}{p pos:Pos}{e:Expr}{es:VV}{m:Mx (UZ)}{f:UZ->MH->VW}
def kV(g:Good X N W G k)(i:Nat)(j:N[i]?=J x:=by rfl):ME X (.Name x pos) (ar i):=AK g i j
def UL(g:Good X N W G k)(i:Nat)(j:N[i]?=J x:=by rfl)(hw:W[i]?=J x:=by rfl):MG X (.Name x pos) (v1 i):=w5 g i j hw
def UM(g:Good X N W G k)(i:Nat){e:Expr}{m:Mx PV}{j:Pos}(y:ME X e m)(u:N[i]?=J x:=by rfl)(hw:W[i]?=J x:=by rfl)(l:swapsWith e (J (.Name x j)) pos.line X.env=pure T:=by rfl):
  MS X (.Assign [.Name x j] e pos) (bq i m):=qK g i u hw y l
def FF{a b:Expr}{i mb:Mx PV}(u:ME X a i)(l:ME X b mb)(j:oX b:=by exact λ_ _=>rfl):ME X (.Subscript a b pos) (aC ce i mb):=Hc u l j
def QA{i:CmpOp}{f:PV->PV->MH->VW}{a b:Expr}{j mb:Mx PV}(l:Cp X (compareOp i) f)(z:ME X a j)(y:ME X b mb)(u:behindInMarks i b=T:=by first | exact DP _ | rfl):MT X (.Compare a [i] [b] pos) (mB (aC f j mb)):=AJ l z y u
def UN(g:Good X N W G k)(j:Nat){ps:VL}{F:UZ->MH->VW}(C:P1 X x ps F k)(u:MA X (e::es) m)(y:G[j]?=J x:=by rfl)(l:starEach (e::es) X.env=(T,eval e X.env)::starEach es X.env:=by rfl)(i:(backTo pos (starEach es X.env)).any (·.1)=T:=by rfl):ME X (.Call (.Name x p) (e::es) [] pos) (aY F m):=wV g y C u l i
def JQ{id:String}(g:Good X N W G k)(j:Nat)(l:dL X (.builtin id) f)(u:X.mg x=none)(hv:bootBuiltins x=J (.builtin id))(z:MA X (e::es) m)(B:G[j]?=J x:=by rfl)(y:starEach (e::es) X.env=(T,eval e X.env)::starEach es X.env:=by rfl)(i:(backTo pos (starEach es X.env)).any (·.1)=T:=by rfl):ME X (.Call (.Name x p) (e::es) [] pos) (xZ f m):=vJ g j B l u hv z y i
def UO{i a:Expr}(g:Good X N W G k)(j:Nat)(u:X.mg "range"=none)(y:MA X [a] m)(z:G[j]?=J "range":=by rfl)(l:starEach [a] X.env=[(T,eval a X.env)]:=by rfl):MI X i (.Call (.Name "range" p) [a] [] pos) (dm m):=tD (g.gl _ (aP z)) u y l
end
abbrev vn:=@PyProof.Rows.Boot.«abs»
abbrev uL:=@PyProof.Rows.Boot.«min»
abbrev vX:=@PyProof.Rows.Boot.«int»
abbrev zV:=@PyProof.Rows.Boot.«str»
abbrev qX:=@PyProof.Rows.Boot.«len»
abbrev FG:=@PyProof.Rows.Boot.«list»
abbrev uv:=@PyProof.Rows.Boot.«tuple»
abbrev JR:=@PyProof.Rows.Boot.«all»
abbrev zG:=@PyProof.Rows.Boot.«sorted»
abbrev FH:=@PyProof.Rows.Boot.«bool»
abbrev tY:=@PyProof.Rows.Boot.«ValueError»
abbrev Ae:=@PySem.F.slot_list_append
abbrev Ad:=@PySem.F.type_list_append
end MM
namespace PU
open MM
open L2 (xS i_ gB)
noncomputable section
end
noncomputable section
end
noncomputable section
def QB:C9 where
 k:=λB j=>match B with
  |[x]=>(match (jB j x).bind mz with
   |some ns=>if ns.length<=1000 then .ok (.int (x6 ns)) j else .bad
   |none=>.bad)
  |_=>.bad
 p:=λi=>match i with
  |[.lst l]=>(mY l).bind λns=>if ns.length<=1000 then J (.int (x6 ns))else Y
  |_=>Y
 fr:=I
 ok {q h L O i xs d} bd w e:=by
  match i,e with
  |[.lst l],e =>
   obtain⟨x,rfl,u⟩:=de w;obtain⟨C,y,r⟩:=u.lstOf;rw[Lv]at e;obtain⟨ns,e1,e2⟩:=e;by_cases z:ns.length<=1000
   .rw[eT z]at e2;cases e2;simp only[y,HM,vD r e1,sW];rw[eT z];exact CQ
   .rw[hF z]at e2;cases e2
def Hm{ns:VM}(h:ns.length<=1000):QB.p [.lst (ns.map .int)]=J (.int (x6 ns)):=by
 have e:∀ns:VM,mY (ns.map .int)=J ns:=λns=>by
  induction ns with
  |nil=>rfl
  |cons i k j=>rw[yw,mY,j];rfl
 show(mY (ns.map .int)).bind _=_;rw[e,HM,eT h]
end
def wP{ns:VM}:x6 ns=ns.length↔ns.Nodup:=by
 have B:∀j,j<=ns.length->(∀k,k∈PyProof.Rows.firstMet (λi=>ns.getD i 0) j↔k∈ns.take j)/\((PyProof.Rows.firstMet (λi=>ns.getD i 0) j).length=j↔(ns.take j).Nodup):=by
  intro j
  induction j with
  |zero=>simp[PyProof.Rows.firstMet_zero]
  |succ j E =>
   intro M;obtain⟨a,b⟩:=E ⋯;have C:j<ns.length:=by lia
   have G:ns.take (j+1)=ns.take j++[ns[j]]:=by simp
   have u:ns.getD j 0=ns[j]:=by simp[C]
   have L:(PyProof.Rows.firstMet (λi=>ns.getD i 0) j).any (· == ns.getD j 0)=decide (ns[j]∈ns.take j):=by rw[Q8,Q2,decide_eq_true_iff,<-a,u];exact⟨λ⟨x,l,e⟩=>by rw[<-eq_of_beq e];exact l,λh=>⟨_,h,by simp⟩⟩
   have F:=PyProof.Rows.firstMet_length_le (λi=>ns.getD i 0) j;rw[PyProof.Rows.firstMet_succ,G];constructor
   .intro k
    have:=PyProof.Rows.step_any (PyProof.Rows.firstMet (λi=>ns.getD i 0) j) (ns.getD j 0) k
    rw[Q8,Q2,PL,Q2,decide_eq_true_iff,u]at this;rw[v_,yu,<-a];constructor
    .intro h;rw[u]at h;rcases this.mp ⟨k,h,by simp⟩with⟨x,l,e⟩|e
     .rw[<-eq_of_beq e];exact .inl l
     .exact .inr e
    .intro h;obtain⟨x,l,e⟩:=this.mpr (h.imp (λh=>⟨k,h,by simp⟩) id);rw[u,<-eq_of_beq e];exact l
   .rw[PyProof.Rows.step_length,L,List.nodup_append];by_cases z:ns[j]∈ns.take j
    .exact⟨λh=>by lia,λh=>absurd rfl (h.2.2 _ z _ (by simp))⟩
    .simp only[z,decide_false,ol];constructor
     .intro h
      exact⟨b.mp ⋯,by simp,λx l y H e=>z (by
       have:y=ns[j]:=by simpa using H
       rw[<-this,<-e];exact l)⟩
     .intro h;lia
 have:=(B ns.length (mh _)).2
 rw[List.take_length]at this;exact this
end PU
namespace PU
open MM L2
noncomputable section
inductive UP(h:MH)(fz:Bool)(ks:VM)(P:UZ->Prop)(v:PV):Prop
 |mk(n:Nat)(xs:UZ)(e:v=.loc n)(g:h[n]?=J (.dic fz ks xs))(r:P xs):UP h fz ks P v
variable{ws:VN}
end
end PU
namespace MM
open PySem.Spec PyProof.Rows L2
section
variable{X:Cx}{a b:Expr}{pos:Pos}{k:Nat}
def cf:Expr->Bool
 |.Starred _ _=>T
 |_=>I
def bD(h:cf e=I):starEach (e::es) env=(T,eval e env)::starEach es env:=by cases e<;>first | rfl | cases h
def JS(i:ME X e m)(hr:MA X es ms)(j:cf e=I:=by rfl):MA X (e::es) (ai m ms):=cE i hr (bD j)
structure j_(X:Cx)(e:Expr)(m:Mx PV):Prop where
 h:ME X e m
structure CJ(X:Cx)(es:VV)(ms:Mx (UZ)):Prop where
 h:MA X es ms
structure Ct(X:Cx)(st:Stmt)(m:oh):Prop where
 h:MS X st m
structure o_(X:Cx)(st:VB)(m:oh):Prop where
 h:C0 X st m
section
variable{e:Expr}{es:VV}{m ma mb:Mx PV}{ms:Mx (UZ)}{st:Stmt}{rest:VB}{u v:oh}{f:PV->PV->MH->VW}{N W G:VL}{x:Str}
def vV:CJ X [] c_:=⟨fk⟩
def j5(i:j_ X e m)(hr:CJ X es ms)(j:cf e=I:=by rfl):CJ X (e::es) (ai m ms):=⟨JS i.h hr.h j⟩
def Du(h:ME X e m):j_ X e m:=⟨h⟩
def Sx(h:CJ X es ms):j_ X (.List es pos) (cQ ms):=⟨Ja h.h⟩
def UQ(h:CJ X es ms):j_ X (.Tuple es j pos) (cZ ms):=⟨zt h.h⟩
def LO(h:MS X st u):Ct X st u:=⟨h⟩
def LP(g:Good X N W G k)(i:Nat){j:Pos}(z:j_ X e m)(y:N[i]?=J x:=by rfl)(hw:W[i]?=J x:=by rfl)(l:swapsWith e (J (.Name x j)) pos.line X.env=pure T:=by rfl):
  Ct X (.Assign [.Name x j] e pos) (bq i m):=⟨qK g i y hw z.h l⟩
def LQ(i:j_ X e m):Ct X (.Return (J e) pos) (bK m):=⟨ut i.h⟩
def Hn(h:Ct X st u):o_ X [st] u:=⟨wF h.h⟩
def Ef(i:Ct X st u)(j:o_ X rest v):o_ X (st::rest) (aZ u v):=⟨pH i.h j.h⟩
end
end
end MM
namespace PU
open MM
noncomputable section
end
end PU
namespace MM
open PySem.Spec PyProof.Rows L2 SetT SortT
end MM
namespace PU
open MM SetT
noncomputable section
end
end PU
namespace MM
open PySem.Spec PyProof.Rows L2
open PU (Xe Xs Xt Xi Xg Hk Xo Xd Hi A_ C9 Nz JK OpR Fn af xC ah nz a_ ae k4 av aU cR DZ xB iC j7 yF i4 fH uh iz g7 c6 iw fB n3 Dh yV Di aw e_ aW ua mH kr aQ jx pS mG LM Ed sE bX Cz yJ Cs kW Qz)
structure Dv(X:Cx)(e:Expr)(m:Mx Bool):Prop where
 h:MT X e m
structure JT(X:Cx)(e:Expr)(m:Mx Bool):Prop where
 h:MW X e m
structure Ho(X:Cx)(tg e:Expr)(m:Mx MIt):Prop where
 h:MI X tg e m
structure LR(X:Cx)(e:Expr)(m:Mg):Prop where
 h:MG X e m
structure QC(X:Cx)(e:VV)(m:ES):Prop where
 h:MU X e m
structure Sy(X:Cx)(e:VV)(m:Mx Bool):Prop where
 h:LH X e m
structure LS(X:Cx)(e:Option Expr)(m:Mx (VU)):Prop where
 h:MO' X e m
structure OJ(X:Cx)(r:Value->Value->Sem Value)(o:A_):Prop where
 h:Cp X r o.m
def Hr(i:Scope):VL:=(i.names.filter λy=>match y.2 with|.globalImplicit=>I|_=>T).map (·.1)
abbrev gm(sc:Scope)(x:Str):Prop:=x∈Hr sc
def Hs:Expr->VL
 |.Name x _=>[x]
 |.Tuple i _ _=>i.flatMap λe=>match e with
  |.Name x _=>[x]
  |.Tuple i _ _=>i.flatMap λe=>match e with
   |.Name x _=>[x]
   |_=>[]
  |_=>[]
 |_=>[]
def LU(N:VL)(fm:VN):VL:=fm.filterMap (N[·]?)
structure Wc(X:Cx)(P:Program)(w:World)(K:hW)(mg:VZ)(base:Heap)(N W:VL)(k:Nat)(sc:Scope):Prop where
 g:Good X N W (Hr sc) k
 e:EE X P w K mg base
 s:X.env.scope=sc
section
variable{X Y:Cx}{P:Program}{w:World}{K:hW}{mg:VZ}{base:Heap}{N W:VL}{k:Nat}{sc:Scope}{ws:VN}{x y:Str}{p p' pos spos:Pos}{e a b d tg:Expr}{es:VV}{i j:Nat}{st:Stmt}{rest body:VB}{xa xb xd:Xe ws}{ta tb:Xt ws}{sa:Xs ws}{da db:Xd ws}
def Wc.gj(c:Wc X P w K mg base N W k sc)(h:gm sc x):∃j:Nat,(Hr sc)[j]?=J x:=List.getElem?_of_mem h
def Wc.n(c:Wc X P w K mg base N W k sc)(z:Zn K x):X.mg x=none:=c.e.n z
def NS{i:Int}:j_ X (.Constant (.int i) j pos) (xC (ws:=ws) (.int i)).m:=⟨be⟩
def NT{i:Str}:j_ X (.Constant (.str i) j pos) (xC (ws:=ws) (.str i)).m:=⟨IJ⟩
def Sz{i:Bool}:j_ X (.Constant (.bool i) j pos) (xC (ws:=ws) (.bl i)).m:=⟨G5⟩
def NU:j_ X (.Constant .none j pos) (xC (ws:=ws) .non).m:=⟨IK⟩
def NV{l:Operator}{o:A_}(u:OJ X (binaryOp l) o)(B:j_ X a xa.m)(z:j_ X b xb.m):j_ X (.BinOp a l b pos) (ah o xa xb).m:=⟨bu u.h B.h z.h⟩
def NW{l:CmpOp}{o:A_}(u:OJ X (compareOp l) o)(C:j_ X a xa.m)(B:j_ X b xb.m)(z:behindInMarks l b=T):j_ X (.Compare a [l] [b] pos) (ah o xa xb).m:=⟨IL u.h C.h B.h z⟩
def SA(z:j_ X a xa.m)(l:j_ X b xb.m)(u:oX b):j_ X (.Subscript a b pos) (ah PU.ka xa xb).m:=⟨Hc z.h l.h u⟩
def NX(l:j_ X a xa.m):j_ X (.UnaryOp .USub a pos) (nz PU.bV xa).m:=⟨MP Ji l.h⟩
def JU(l:j_ X a xa.m):j_ X (.UnaryOp .Not a pos) (uh xa).m:=⟨IW l.h⟩
def FI{z l:CmpOp}{o B:A_}(C:OJ X (compareOp z) o)(u:OJ X (compareOp l) B)(G:j_ X a xa.m)(F:j_ X b xb.m)(hd:j_ X d xd.m)(E:lastMarks [z,l] [b,d]=T):j_ X (.Compare a [z,l] [b,d] pos) (g7 o B xa xb xd).m:=⟨B0 C.h u.h G.h F.h hd.h E⟩
def NY{u:BoolOp}(l:j_ X a xa.m):j_ X (.BoolOp u [a] pos) xa.m:=⟨IU l.h⟩
def JV(u:j_ X a xa.m)(l:j_ X (.BoolOp .And (b::es) pos) xb.m):j_ X (.BoolOp .And (a::b::es) pos) (fH xa xb).m:=⟨IV u.h l.h⟩
def NZ{fz hf}(z:Dv X e ta.m)(u:j_ X a xa.m)(l:j_ X b xb.m):j_ X (.IfExp e a b pos) (iz ta xa xb fz hf).m:=⟨IZ z.h u.h l.h⟩
def N0{hz}(h:CJ X es sa.m):j_ X (.Tuple es j pos) (cR sa hz).m:=UQ h
def N3{hz}(h:CJ X es sa.m):j_ X (.List es pos) (aU sa hz).m:=Sx h
def N4:j_ X (.Dict [] [] pos) (DZ (ws:=ws)).m:=⟨EZ⟩
def SD{lo l:Option Expr}{z u:Xo ws}(C:j_ X a xa.m)(hl:LS X lo z.m)(B:LS X l u.m):j_ X (.Subscript a (.Slice lo l none p) pos) (Cs xa z u).m:=⟨Nr C.h hl.h B.h⟩
def SF:LS X none (Cz (ws:=ws)).m:=⟨Fe⟩
def SG(l:j_ X a xa.m):LS X (J a) (yJ xa).m:=⟨Ff l.h⟩
def N5:CJ X [] (a_ (ws:=ws)).m:=vV
def JW(u:j_ X e xa.m)(l:CJ X es sa.m)(z:cf e=I):CJ X (e::es) (ae xa sa).m:=j5 u l z
def N6:OJ X (binaryOp .Sub) PU.Fv:=⟨Jh⟩
def N7:OJ X (binaryOp .Mult) PU.jT:=⟨ja⟩
def N8:OJ X (binaryOp .Mod) PU.jj:=⟨fe⟩
def N9:OJ X (binaryOp .Pow) PU.kQ:=⟨uD⟩
def SH:OJ X (compareOp .Lt) PU.JL:=⟨G_⟩
def SI:OJ X (compareOp .LtE) PU.DA:=⟨MZ⟩
def SK:OJ X (compareOp .Gt) PU.Dq:=⟨Ha⟩
def SM:OJ X (compareOp .GtE) PU.D_:=⟨Hb⟩
def SO:OJ X (compareOp .Is) (PU.u_ T):=⟨M0⟩
def N_:OJ X (compareOp .IsNot) (PU.u_ I):=⟨Jj⟩
section
variable(c:Wc X P w K mg base N W k sc)
include c
def w_var(l:N[i]?=J x):j_ X (.Name x pos) (af (ws:=ws) i).m:=⟨AK c.g i l⟩
def Oa{i:Int}(v:∃t,PySem.W.nsIn K mainGlobals x=J (J (.int i t)))(l:gm sc x):j_ X (.Name x pos) (xC (ws:=ws) (.int i)).m :=
 let⟨_,u⟩:=c.gj l
 ⟨Jz c.g u (let⟨t,z⟩:=v;⟨t,by rw[c.e.e4];exact PySem.W.mg_of c.e.b.kin c.e.b.ns z⟩)⟩
def SQ:OJ X (binaryOp .FloorDiv) PU.JM:=⟨yd c.g.room⟩
def Ob{i j:Int}(v:Fp K mg x i j)(l:gm sc x):j_ X (.Name x pos) (Qz (ws:=ws) i j).m :=
 let⟨_,u⟩:=c.gj l
 ⟨JE c.g u (by rw[c.e.e3,c.e.e4];exact v)⟩
def SS:OJ X (compareOp .Eq) PU.o0:=⟨G9 c.g.room⟩
def SU:OJ X (compareOp .NotEq) PU.x2:=⟨MY c.g.room⟩
end
def jw{env:Env}:∀{es:VV},es.all cf=I->(backTo pos (starEach es env)).any (·.1)=T
 |[],_=>rfl
 |e::es,h=>by
  have l:cf e=I/\es.all cf=I:=by simpa using h
  have:=jw (env:=env) l.2
  rw[bD l.1];simpa [backTo]using this
section
variable(c:Wc X P w K mg base N W k sc)
include c
def JX{F:Fn}{ps:VL}{hz}(B:CJ X (e::es) sa.m)(f:FnAt P w K mg base x ps F.m i)(h:i<=k)(z:gm sc x)(u:(e::es).all cf=I):j_ X (.Call (.Name x p) (e::es) [] pos) (av F sa hz).m :=
 let⟨_,C⟩:=c.gj z
 have l:cf e=I/\es.all cf=I:=by simpa using u
 ⟨wV c.g C (f.c c.e h) B.h (bD l.1) (jw l.2)⟩
end
inductive BB(X:Cx)(x:Str)(o:C9):Prop
 |fn(id:String)(f:UZ->MH->VW)(h:bootBuiltins x=J (.builtin id))(c:dL X (.builtin id) f)(e:o.k=λxs h=>(f xs h).ne:=by rfl):BB X x o
 |ty(T:String)(f:UZ->MH->VW)(h:bootBuiltins x=J (.type T))(c:dL X (.type T) f)(e:o.k=λxs h=>(f xs h).ne:=by rfl):BB X x o
def Oc:BB X "abs" PU.sA:=.fn _ _ vn uP
def Od:BB X "int" PU.cm:=.ty _ _ vX Ai
def Oe:BB X "str" PU.c7:=.ty _ _ zV Jl
def Of:BB X "len" PU.bY:=.fn _ _ qX qH
def JY:BB X "list" PU.oW:=.ty _ _ FG Fc
def FJ:BB X "tuple" PU.fV:=.ty _ _ uv Bn
section
variable(c:Wc X P w K mg base N W k sc)
include c
def Og{o:C9}(B:BB X x o)(u:CJ X (e::es) sa.m)(z:Zn K x)(G:gm sc x)(F:(e::es).all cf=I):j_ X (.Call (.Name x p) (e::es) [] pos) (k4 o sa).m:=by
 obtain⟨j,C⟩:=c.gj G;have l:cf e=I/\es.all cf=I:=by simpa using F
 refine⟨?_⟩;show ME X _ (λZ h=>(sa.m Z h).bind o.k)
 cases B with
 |fn id f h d q=>rw[q];exact vJ c.g j C d (c.n z) h u.h (bD l.1) (jw l.2)
 |ty E f h d q=>rw[q];exact Ab c.g j C d (c.n z) h u.h (bD l.1) (jw l.2)
def Oh:BB X "min" PU.Fw:=.fn _ _ uL (vL c.g)
def Oi:BB X "all" PU.n6:=.fn _ _ JR (Jy c.g)
def SV(E:CJ X [a] sa.m)(C:Zn K "len")(l:Zn K "set")(u:gm sc "len")(z:gm sc "set")(B:cf a=I):j_ X (.Call (.Name "len" p) [.Call (.Name "set" p') [a] [] spos] [] pos) (k4 PU.QB sa).m :=
 let⟨_,i⟩:=c.gj u;let⟨_,j⟩:=c.gj z
 ⟨zT c.g _ _ (c.n C) (c.n l) E.h i j (bD B)⟩
end
structure BT(x:Str)(T:String):Prop where
 h:bootBuiltins x=J (.type T)
 o:Jm T
def Oj:BT "int" "int":=⟨vX,EX⟩
def JZ:BT "bool" "bool":=⟨FH,A0⟩
def FK:BT "tuple" "tuple":=⟨uv,yY⟩
def Ol:BT "str" "str":=⟨zV,EY⟩
section
variable(c:Wc X P w K mg base N W k sc)
include c
def Om{l:String}(B:BT x l)(G:j_ X a xa.m)(F:Zn K "isinstance")(u:Zn K x)(z:gm sc "isinstance")(C:gm sc x)(E:cf a=I):j_ X (.Call (.Name "isinstance" p) [a,.Name x p'] [] pos) (nz (PU.dq [l]) xa).m :=
 let⟨_,i⟩:=c.gj z;let⟨_,j⟩:=c.gj C
 ⟨Jn c.g i (c.n F) j (c.n u) B.h B.o G.h (bD E)⟩
end
abbrev MJ(X:Cx)(name:Str)(f:Nat->UZ->MH->VW):Prop:=∃id,Slot "list" name id/\typeOf (.builtin id)=pure (.type "method_descriptor")/\DR X id (Qq X f)
section
variable{name:Str}{f:Nat->UZ->MH->VW}{o:JK}{m:Mx PV}
def SW{l:Mx (UZ)}(M:MJ X name f)(u:j_ X a m)(B:CJ X (e::es) l)(h:(((backTo pos (starEach (e::es) X.env)).all (λx=>!x.1)&&(backToKw pos (keywordEach [] X.env)).all (λx=>x.1.isSome)&&decide ((e::es).length+([]:List Keyword).length+(if([]:List Keyword).isEmpty then 0 else 1)<30))=I/\(p.endLine==pos.line)=I)/\attributeBase a name X.env (eval a X.env)=eval a X.env/\starEach (e::es) X.env=(T,eval e X.env)::starEach es X.env/\(backTo pos (starEach es X.env)).any (·.1)=T):j_ X (.Call (.Attribute a name p) (e::es) [] pos) (Jx f m l) :=
 let⟨_,x,y,z⟩:=M
 ⟨Nq x y z u.h B.h h.2.1 h.1.1 h.1.2 h.2.2.1 h.2.2.2⟩
def SX{hi hz}(h:j_ X e (Jx o.m (af (ws:=ws) i).m sa.m))(l:swapsWith e none pos.line X.env=pure T):Ct X (.Expr e pos) (Ed o i sa hi hz).m:=⟨xq h.h l⟩
end
def Bx:MJ X "append" PU.ql.m:=⟨_,Ae,Ad,Ao⟩
def J0{l:CmpOp}{o:A_}(u:OJ X (compareOp l) o)(C:j_ X a xa.m)(B:j_ X b xb.m)(z:behindInMarks l b=T):Dv X (.Compare a [l] [b] pos) (xB (ah o xa xb)).m:=⟨AJ u.h C.h B.h z⟩
def J1(h:Dv X a ta.m):Dv X (.UnaryOp .Not a pos) (iC ta).m:=⟨IQ h.h⟩
def SY{l:BoolOp}(h:JT X (.BoolOp l es pos) ta.m):Dv X (.BoolOp l es pos) ta.m:=⟨MW.mt h.h⟩
def J2(h:Dv X a ta.m):JT X (.BoolOp .And [a] pos) ta.m:=⟨ER h.h⟩
def Oo(h:Dv X a ta.m):JT X (.BoolOp .Or [a] pos) ta.m:=⟨IS h.h⟩
def w_and(h:Dv X a ta.m)(l:JT X (.BoolOp .And (b::es) pos) tb.m):JT X (.BoolOp .And (a::b::es) pos) (j7 ta tb).m:=⟨IT h.h l.h⟩
def w_or(h:Dv X a ta.m)(l:JT X (.BoolOp .Or (b::es) pos) tb.m):JT X (.BoolOp .Or (a::b::es) pos) (yF ta tb).m:=⟨MR h.h l.h⟩
def Op(h:j_ X e xa.m)(u:∀l,isTrue e X.env l=(do let v <-l;standAt e.pos;holding [v] (truthy v))):Dv X e (xB xa).m:=⟨IM h.h u⟩
def Oq:Sy X [] (i4 (ws:=ws)).m:=⟨E4⟩
def Ot(h:Dv X a ta.m):Sy X [a] ta.m:=⟨E5 h.h⟩
def S0:QC X [] (Dh (ws:=ws)).m:=⟨EU⟩
def S1{ga:Xg ws}{l:Hk ws}(u:LR X e ga.m)(z:QC X es l.m)(B:(assignEach (e::es) X.env).map (·.2)=assign e X.env::(assignEach es X.env).map (·.2)):QC X (e::es) (yV ga l).m:=⟨Bh u.h z.h B⟩
def Ou(h:j_ X a xa.m):Ho X tg a (fB xa).m:=⟨Jp h.h⟩
section
variable(c:Wc X P w K mg base N W k sc)
include c
def S2{hi}(h:N[i]?=J x)(hw:W[i]?=J x):LR X (.Name x pos) (n3 (ws:=ws) i hi).m:=⟨w5 c.g i h hw⟩
def S3{u:Hk ws}{n:Nat}(h:QC X es u.m)(z:(assignEach es X.env).length=n)(l:(assignEach es X.env).findIdx? (·.1)=none):LR X (.Tuple es j pos) (Di u n).m:=⟨Jb c.g h.h z l⟩
def S4{n:Nat}(h:CJ X [a] sa.m)(z:Zn K "enumerate")(u:gm sc "enumerate")(l:cf a=I):Ho X (.Tuple es n p) (.Call (.Name "enumerate" p') [a] [] pos) (iw PU.iE sa).m:=let⟨_,B⟩:=c.gj u;⟨Fl c.g B (c.n z) h.h (bD l)⟩
def Ov(h:CJ X [a] sa.m)(z:Zn K "range")(u:gm sc "range")(l:cf a=I):Ho X tg (.Call (.Name "range" p) [a] [] pos) (iw PU.LN sa).m:=⟨tD (c.g.gl _ u) (c.n z) h.h (bD l)⟩
def Ow(h:CJ X [a,b] sa.m)(z:Zn K "range")(B:gm sc "range")(u:starEach [a,b] X.env=[(T,eval a X.env),(T,eval b X.env)])(l:starEach [b] X.env=[(T,eval b X.env)]):Ho X tg (.Call (.Name "range" p) [a,b] [] pos) (iw PU.Qs sa).m:=⟨zm (c.g.gl _ B) (c.n z) h.h u l⟩
end
structure CB(Y:Cx)(tg elt:Expr)(ifs:VV)(gt:Mg)(mt:Mx Bool)(me:Mx PV):Prop where
 g:LR Y tg gt
 t:Sy Y ifs mt
 e:j_ Y elt me
section
variable{iter elt:Expr}{ifs:VV}{scope:Scope}{nv:Nat}{fm ws':VN}{xi:Xi ws}{gt:Xg ws'}{xt:Xt ws'}{xe:Xe ws'}
abbrev Ul(N:VL)(tg:Expr)(nv:Nat)(fm:VN)(scope sc:Scope):Prop:=Uh scope sc (Hs tg) (LU N fm)/\(Hs tg++LU N fm).Nodup/\(∀x∈Hr (NR scope sc),scope.names.lookup x=J .globalImplicit)/\(∀x∈(Hs tg++LU N fm)++Hr (NR scope sc),(x==("__debug__":Str))=T/\(x==("__classdict__":Str))=T/\x≠"__name__")/\fm.map (λi=>N[i]?)=(LU N fm).map J/\(Hs tg).length=nv
section
variable(c:Wc X P w K mg base N W k sc)
include c
def J3{hw:PU.DI nv fm ws=ws'}{L:xe.fz=I}(B:Ho X tg iter xi.m)(F:∀Y:Cx,Wc Y P w K mg base (Hs tg++LU N fm) (Hs tg) k (NR scope sc)->CB Y tg elt ifs gt.m xt.m xe.m)(E:scope.kind=.function)(h:Ul N tg nv fm scope sc)(Q:∀x,foldedSetIterable iter X.env x=pure x):j_ X (.ListComp elt [⟨tg,iter,ifs,0⟩] scope pos) (c6 nv fm xi gt xt xe hw L).m:=by
 obtain⟨l,nd,hg,dbg,M,rfl⟩:=h;exact⟨E6 c.g (wC c.s E M l) nd hg dbg B.h (λY z G R C u H g=>let q:=F Y ⟨g,⟨z.trans c.e.e1,G.trans c.e.e2,R.trans c.e.e3,C.trans c.e.e4,u.trans c.e.e5,c.e.b⟩,H.trans (zJ c.s)⟩;⟨q.g.h,q.t.h,q.e.h⟩) Q⟩
end
section
variable(c:Wc X P w K mg base N W k sc)(hsw:∀env:Env,env.scope=sc->swapsWith (.ListComp elt [⟨tg,iter,ifs,0⟩] scope pos) (some (.Name y p)) spos.line env=pure true)(hi:Ho X tg iter xi.m)(hY:∀Y:Cx,Wc Y P w K mg base (Hs tg++LU N fm) (Hs tg) k (NR scope sc)->CB Y tg elt ifs gt.m xt.m xe.m)(hyi:N[i]?=some y)(hyw:W[i]?=some y)(h1:scope.kind=.function)(h:Ul N tg nv fm scope sc)(hs:∀x,foldedSetIterable iter X.env x=pure x)
include hsw hi hY c hyi hyw h1 h hs
def FL:Ct X (.Assign [.Name y p] (.ListComp elt [⟨tg,iter,ifs,0⟩] scope pos) spos) (bq i (gh nv fm xi.m gt.m xt.m xe.m)):=by obtain⟨u,nd,hg,dbg,l,rfl⟩:=h;exact⟨E7 c.g i hyi hyw (hsw X.env c.s) (wC c.s h1 l u) nd hg dbg hi.h (λY C B G z E F g=>let q:=hY Y ⟨g,⟨C.trans c.e.e1,B.trans c.e.e2,G.trans c.e.e3,z.trans c.e.e4,E.trans c.e.e5,c.e.b⟩,F.trans (zJ c.s)⟩;⟨q.g.h,q.t.h,q.e.h⟩) hs⟩
def J4{hw:PU.DI nv fm ws=ws'}{l:xe.fz=I}{hi' hz'}:Ct X (.Assign [.Name y p] (.ListComp elt [⟨tg,iter,ifs,0⟩] scope pos) spos) (aQ i (c6 nv fm xi gt xt xe hw l) hi' hz').m:=FL c hsw hi hY hyi hyw h1 h hs
end
end
def S5:o_ X [] (e_ (ws:=ws)).m:=⟨o3⟩
def nQ(h:Ct X st da.m):o_ X [st] da.m:=Hn h
def cX(l:Ct X st da.m)(u:o_ X rest db.m):o_ X (st::rest) (aw da db).m:=Ef l u
def Ox(h:j_ X e xa.m):Ct X (.Return (J e) pos) (aW xa).m:=LQ h
def J5{hi}(h:j_ X e (af (ws:=ws) i).m):Ct X (.Return (J e) pos) (ua (ws:=ws) i hi).m:=LQ h
def J6(h:j_ X e xa.m)(l:swapsWith e none pos.line X.env=pure T):Ct X (.Expr e pos) (mH xa).m:=⟨xq h.h l⟩
def S6(z:Dv X e ta.m)(u:o_ X body da.m)(l:o_ X rest db.m):Ct X (.If e body rest pos) (kr ta da db).m:=⟨rf z.h u.h l.h⟩
def Oy{l:Xg ws}{hz}(B:j_ X e xa.m)(hg:LR X tg l.m)(z:swapsWithSole [tg] e pos.line X.env=pure T)(hw:swappedStores [tg] e X.env=pure none)(u:(assignEach [tg] X.env).map (·.2)=[assign tg X.env]):Ct X (.Assign [tg] e pos) (pS xa l hz).m:=⟨qL B.h hg.h z hw u⟩
def w_sub{hi hz}(E:j_ X e xa.m)(B:j_ X a (af (ws:=ws) i).m)(F:j_ X b xb.m)(G:∀v,assign (.Subscript a b p) X.env v=(do
   let l <-holding [v] (eval a X.env)
   let u <-holding [v,l] (eval b X.env)
   standAt p
   holding [v,l,u] (setItem l u v)
   release [v,l,u] []))(C:swapsWithSole [.Subscript a b p] e pos.line X.env=pure T)(hw:swappedStores [.Subscript a b p] e X.env=pure none)(z:(assignEach [.Subscript a b p] X.env).map (·.2)=[assign (.Subscript a b p) X.env]):Ct X (.Assign [.Subscript a b p] e pos) (sE i xa xb hi hz).m:=⟨qL E.h (uM B.h F.h G) C hw z⟩
section
variable(c:Wc X P w K mg base N W k sc)
include c
def Oz{u:Xi ws}{l:Xg ws}{hz}(B:Ho X tg e u.m)(hg:LR X tg l.m)(C:o_ X body da.m)(z:∀x,foldedSetIterable e X.env x=pure x):Ct X (.For tg e body [] pos) (mG u l da hz).m:=⟨AF c.g B.h hg.h C.h z⟩
def S7{n hm}(u:Dv X e ta.m)(l:o_ X body da.m):Ct X (.While e body [] pos) (LM n ta da hm).m:=⟨BO c.g u.h l.h⟩
def J7{hi' hz}(z:j_ X e xa.m)(l:swapsWith e (J (.Name x p)) pos.line X.env=pure T)(u:N[i]?=J x)(hw:W[i]?=J x):Ct X (.Assign [.Name x p] e pos) (jx i xa hi' hz).m:=⟨qK c.g i u hw z.h l⟩
def J8{hi' hz}(l:∀env:Env,env.scope=sc->swapsWith e (J (.Name x p)) pos.line env=pure T)(z:j_ X e xa.m)(u:N[i]?=J x)(hw:W[i]?=J x):Ct X (.Assign [.Name x p] e pos) (aQ i xa hi' hz).m:=⟨qK c.g i u hw z.h (l _ c.s)⟩
def OA{x y:Str}{u py pt l:Pos}{kt k2}{hi' hj' hz}(hw:∀env:Env,env.scope=sc->swappedStores [.Tuple [.Name x u,.Name y py] kt pt] (.Tuple [a,b] k2 l) env=pure (J [x,y]))(G:CJ X [a,b] sa.m)(C:N[i]?=J x)(H:N[j]?=J y)(z:i≠j)(F:sc.names.lookup x=J .local)(E:sc.names.lookup y=J .local)(B:swapsWithSole [.Tuple [.Name x u,.Name y py] kt pt] (.Tuple [a,b] k2 l) pos.line X.env=pure T):Ct X (.Assign [.Tuple [.Name x u,.Name y py] kt pt] (.Tuple [a,b] k2 l) pos) (kW i j sa hi' hj' hz).m:=⟨Jd c.g i j C H z G.h (by rw[c.s];exact F) (by rw[c.s];exact E) (hw _ c.s) B⟩
end
def x_{F:Fn}{l:Nat}{ws:VN}{B:Xd ws}{hw}(N:VL)(b:Ba P w K mg base)(D:g_ K x st)(L:∀X:Cx,Wc X P w K mg base N N k (aE st)->h_ X->o_ X (aT st) B.m)(C:F=bX N.length l B hw:=by rfl)(G:lJ x st (N.take l):=by first | exact λ_ _ _ _ _ _=>Sv λ_=>rfl | exact λ_ _ _ _ _ _=>Ui λ_ _=>rfl | exact λ_ _ _ _ _ _=>Uj λ_ _ _=>rfl | exact λ_ _ _ _ _ _=>Uk λ_ _ _ _=>rfl | exact λ_ _ _ _ _ _=>ar5 λ_ _ _ _ _=>rfl)(S:p_ N (N.take l) (aE st):=by exact⟨rfl,rfl,rfl,by decide +kernel,rfl,by decide +kernel,by decide +kernel⟩)(hl:∀y∈N,(aE st).names.lookup y=J .local\/(aE st).names.lookup y=J .cell:=by decide +kernel)(u:∀y∈Hr (aE st),(aE st).names.lookup y=J .globalImplicit:=by decide +kernel)(dbg:∀x∈N++Hr (aE st),(x==("__debug__":Str))=T/\(x==("__classdict__":Str))=T/\x≠"__name__":=by decide +kernel)(H:(N.take l).length=l:=by rfl):
  FnAt P w K mg base x (N.take l) F.m (k+1):=by
 have q:=Ay b.kin b.ns D S G hl u dbg λX e1 e2 e3 e4 e5 E g z=>(L X ⟨g,⟨e1,e2,e3,e4,e5,b⟩,E⟩ z).h;rw[H]at q;subst C;exact q
end
end MM
namespace SortT
open PyProof.Rows PySem.W
def jU(h:Heap)(i:Value->Int)(v:Value):Prop:=∃b o xs m t,v=.ref b/\h.get? b=J o/\o.cls=.type "tuple"/\o.data=.seq xs m/\xs[0]?=J (.int (i v) t)
def lY(n:Nat)(c:Nat->Nat->Bool):KasT (Array Nat)->Option (Array Nat)
 |.ret p=>J p
 |.ask i j k=>if i<n/\j<n then lY n c (k (c i j))else Y
def yy(l:VN):Bool:=match lY l.length (λi j=>decide (l.getD i 0<l.getD j 0)) (kas_sort l.length) with
 |some p=>p.toList.isPerm (List.range l.length)&&decide ((p.toList.map λi=>l.getD i 0).Pairwise (·<=·))
 |none=>T
def iY(u:VM):Prop:=∃l:VN,yy l=I/\l.length=u.length/\∀i j:Nat,i<u.length->j<u.length->(u.getD i 0<u.getD j 0↔l.getD i 0<l.getD j 0)
section
variable{prog:Program}{w:World}{A:Around}{E:VX}{s:Shared}{rk:Value->Int}{vs:VR}
def v9{v:Value}{Q:Bool->Shared->Prop}(hv:(v==v)=I)(h:Q I s):wpAny (model prog w) A (eqBool v v) Q E s:=by unfold eqBool;refine wpAny_holding ?_;rw[eT hv];exact ir (wpAny_rule (ph h))
def uy{b:Bool}{Q:Bool->Shared->Prop}(h:Q fin s):∀(xs:VR)(i:Nat),(∀v∈xs,(v==v)=I)->KatLex prog w A b fin Q (xs.zip xs) i s
 |[],_,_=>kat_nil h
 |x::xs,i,hv=>by
  rw[List.zip_cons_cons];exact kat_cons (v9 (hv x C8) (kat_yes (uy h xs (i+1) λv z=>hv v (pW _ z))))
def t9(rk:Value->Int)(vs:VR):Prop:=∀x∈vs,∀y∈vs,rk x=rk y->x=y
def J9{i u:Value}{Q:Bool->Shared->Prop}(R:∀v∈vs,jU s.heap rk v)(nd:t9 rk vs)(P:i∈vs)(L:u∈vs)(F:Q (decide (rk i<rk u)) s):wpAny (model prog w) A (keyLt' (tuples' I) i u) Q (λ_ _=>False) s:=by
 obtain⟨ax,ox,C,nx,U,ex,y,_,B,j⟩:=R i P;obtain⟨Z,X,M,ny,ty,S,H,_,G,l⟩:=R u L;by_cases z:rk i=rk u
 .have e:=nd i P u L z;subst e;have W:decide (rk i<rk i)=decide (C.size<C.size):=by simp
  rw[W]at F;rw[ex];exact kat_lt y B y B (uy F _ _ λv _=>beq_self_eq_true v)
 .rw[ex,S];refine kat_lt y B H G ?_;obtain⟨rx,e1⟩:∃r,C.toList=.int (rk i) U::r:=by
   cases e:C.toList with
   |nil=>rw[<-Px,e]at j;cases j
   |cons a r=>rw[<-Px,e]at j;cases j;exact⟨r,rfl⟩
  obtain⟨ry,e2⟩:∃r,M.toList=.int (rk u) ty::r:=by
   cases e:M.toList with
   |nil=>rw[<-Px,e]at l;cases l
   |cons a r=>rw[<-Px,e]at l;cases l;exact⟨r,rfl⟩
  rw[e1,e2,List.zip_cons_cons];refine kat_cons (wpAny_eqBool_int ?_)
  have:(rk i==rk u)=T:=by simpa using z
  rw[this];exact kat_no (oneLt_int F)
def vt{i:Nat}(h:i<vs.length):vs.getD i Value.none∈vs:=by rw[HI,C_ h];exact Q3 h
def zx{G:Array Nat->Shared->Prop}(u:∀v∈vs,jU s.heap rk v)(nd:t9 rk vs){c:Nat->Nat->Bool}(l:∀i j,i<vs.length->j<vs.length->c i j=decide (rk (vs.getD i Value.none)<rk (vs.getD j Value.none))){p:Array Nat}(g:G p s):
  ∀t:KasT (Array Nat),lY vs.length c t=J p->t.kasWp (kas_ask prog w A (tuples' I) vs) G s
 |.ret a,e=>by cases e;exact g
 |.ask i j k,e=>by
  unfold lY at e;by_cases z:i<vs.length/\j<vs.length
  .rw[eT z]at e;show kas_ask prog w A (tuples' I) vs i j _ s;unfold kas_ask;refine J9 u nd (vt z.1) (vt z.2) ?_;rw[<-l i j z.1 z.2];exact zx u nd l g _ e
  .rw[hF z]at e;cases e
def jU.up{h i:Heap}{v:Value}(k:∀b o,h.get? b=J o->o.cls=.type "tuple"->i.get? b=J o)(r:jU h rk v):jU i rk v :=
 let⟨b,o,xs,m,t,e,g,c,d⟩:=r;⟨b,o,xs,m,t,e,k b o g c,c,d⟩
def vN{Q:SortKind->Shared->Prop}(G:∀v∈vs,jU s.heap rk v)(H:0<vs.length)(h:Q (tuples' I) s):wpAny (model prog w) A (keyKind' vs.toArray) Q E s:=by
 have B:∀l:VR,(∀v∈l,jU s.heap rk v)->∃fs:VR,fs.length=l.length/\KatTups s.heap l fs/\∀v∈fs,∃i t,v=.int i t:=by
  intro l
  induction l with
  |nil=>exact λ_=>⟨[],rfl,KatTups.nil,λv hv=>by cases hv⟩
  |cons u l F =>
   intro j;obtain⟨fs,C,z,y⟩:=F λv hv=>j v (pW _ hv);obtain⟨b,o,xs,m,t,e,g,c,d,f⟩:=j u C8;rw[e]at f ⊢;refine⟨.int (rk (.ref b)) t::fs,by simp[C],KatTups.cons g c d f z,λv hv=>?_⟩;rcases ki.mp hv with rfl|hv
   .exact⟨_,_,rfl⟩
   .exact y v hv
 obtain⟨fs,C,z,y⟩:=B vs G;refine kat_kind (T:=.type "int") z ⋯ (λv hv=>?_) (by decide) h;obtain⟨i,t,rfl⟩:=y v hv;exact .now
def J_(ok:iY (vs.map rk))(L:vs.length<64):∃p:Array Nat,lY vs.length (λi j=>decide (rk (vs.getD i Value.none)<rk (vs.getD j Value.none))) (kas_sort vs.length)=J p/\(p.toList.map λi=>vs.getD i Value.none).Perm vs/\((p.toList.map λi=>vs.getD i Value.none).map rk).Pairwise (·<=·):=by
 obtain⟨l,u,y,G⟩:=ok;rw[CM]at y G;have B:∀i,i<vs.length->(vs.map rk).getD i 0=rk (vs.getD i Value.none):=λi C=>by simp[HI,C]
 have run:∀t:KasT (Array Nat),lY vs.length (λi j=>decide (rk (vs.getD i Value.none)<rk (vs.getD j Value.none))) t=lY l.length (λi j=>decide (l.getD i 0<l.getD j 0)) t:=by
  intro t;rw[y]
  induction t with
  |ret a=>rfl
  |ask i j k H =>
   unfold lY;by_cases z:i<vs.length/\j<vs.length
   .rw[eT z,eT z];have e:=G i j z.1 z.2;rw[B i z.1,B j z.2]at e;rw[decide_eq_decide.mpr e,H]
   .rw[hF z,hF z]
 unfold yy at u
 cases e:lY l.length (λi j=>decide (l.getD i 0<l.getD j 0)) (kas_sort l.length) with
 |none=>rw[e]at u;cases u
 |some p =>
  rw[e]at u;dsimp only at u;rw[DD,decide_eq_true_eq]at u;have F:=List.isPerm_iff.mp u.1;rw[y]at F;have lt:∀i∈p.toList,i<vs.length:=λi C=>Q_.mp (F.mem_iff.mp C);refine⟨p,by rw[run,<-y,e],?_,?_⟩
  .have a:=F.map λi=>vs.getD i Value.none;refine a.trans (List.Perm.of_eq ?_);apply List.ext_getElem
   .simp
   .intro i P M;simp[HI,M]
  .have b:=u.2;rw[HL]at b;rw[HL,HL];refine(List.Pairwise.and_mem.mp b).imp λ{a b} q=>?_
   have:=G b a (lt b q.2.1) (lt a q.1)
   rw[B b (lt b q.2.1),B a (lt a q.1)]at this;lia
def zg(U:s.heap.get? a=J (seqObj "list" vs.toArray n))(hk:∀v∈vs,jU s.heap rk v)(nd:t9 rk vs)(ok:iY (vs.map rk))(H:vs.length<64)(h:∀B:VR,B.Perm vs->(B.map rk).Pairwise (·<=·)->P (.done (.ret .none)) { s with heap:=sortedHeap s.heap a vs B.toArray}):
  wpAny (model prog w) A (Builtin.«list.sort» ⟨[.ref a],[]⟩) P E s:=by
 rw[list_sort_plain];have ha:a<s.heap.objs.size:=oy U;have u:vs.length<=sizeLine:=by rw[sizeLine_eq];lia
 refine ir (listItems_at U rfl ?_);refine ir (listUpdate_at U rfl ?_ (by rw[B_];exact u) (CN _));obtain⟨e1,M⟩:∃e1,(s.heap.update a (Obj.mapSeq λ_=>(#[]:Array Value))).get? a=J (seqObj "list" #[] e1):=⟨_,get?_update_seq U λ_=>#[]⟩;refine ir (seqEpoch_at M rfl ?_);refine ir (wpAny_newTuple ?_ (by show vs.length<=_;exact u));refine ir (wpAny_newList ?_ (CN _));refine wpAny_holding ?_;have y:(((s.heap.update a (Obj.mapSeq λ_=>(#[]:Array Value))).push (seqObj "tuple" vs.toArray 0)).push (seqObj "list" #[] 0)).get? a=J (seqObj "list" #[] e1) :=
  r_ _ (r_ _ M)
 show wpAny (model prog w) A _ P E { s with heap:=((s.heap.update a (Obj.mapSeq λ_=>(#[]:Array Value))).push (seqObj "tuple" vs.toArray 0)).push (seqObj "list" #[] 0)};have L:∀v∈vs,jU (((s.heap.update a (Obj.mapSeq λ_=>(#[]:Array Value))).push (seqObj "tuple" vs.toArray 0)).push (seqObj "list" #[] 0)) rk v:=λv hv=>(hk v hv).up λb o Z hc=>by
  have R:b≠a:=by rintro rfl;rw[U]at Z;cases Z;have X:Value.type "list"=Value.type "tuple":=hc;exact absurd X (by decide)
  exact r_ _ (r_ _ ((Lw _ _ _ _ R).trans Z))
 have S:vs.toArray.size=vs.length:=by simp
 dsimp only;by_cases F:vs.toArray.size<2
 .rw[eT F,eT F];refine ir (ph ?_);rw[StateT.run_pure];refine ir (ph ?_);dsimp only;refine ir (seqEpoch_at y rfl ?_);have W:((vs.toArray.zip vs.toArray).map (·.2))=vs.toArray:=by
   apply Array.toList_inj.mp;simp only[Array.toList_map,Array.toList_zip,List.toList_toArray];exact List.map_snd_zip (mh _)
  refine ir (listUpdate_at y rfl ?_ (CN _) (by show((vs.toArray.zip vs.toArray).map (·.2)).size<=_;rw[W,S];lia));simp only[bne_self_eq_false,ol,if_false];refine ph ?_
  have:=h vs (List.Perm.refl _) (by
   match vs,S▸F with
   |[],_=>simp
   |[x],_=>simp)
  have e:(arrOf (SortSt.mk' general' (vs.toArray.zip vs.toArray) #[] 7 Y)).map (·.2)=vs.toArray:=W;rw[e];exact this
 .rw[hF F,hF F];refine ir (vN (s:={ s with heap:=_}) L ⋯ ?_);obtain⟨p,hp,pm,pw⟩:=J_ ok H
  refine ir (wpAny_mono (kat_run (Q:=λl C=>(arrOf l).map (·.2)=(p.toList.map λi=>vs.getD i Value.none).toArray/\failedOf l=Y/\C={ s with heap:=((s.heap.update a (Obj.mapSeq λ_=>(#[]:Array Value))).push (seqObj "tuple" vs.toArray 0)).push (seqObj "list" #[] 0)})
   (G:=λp' C=>p'=p/\C={ s with heap:=((s.heap.update a (Obj.mapSeq λ_=>(#[]:Array Value))).push (seqObj "tuple" vs.toArray 0)).push (seqObj "list" #[] 0)}) rfl ⋯ H (λp' l C _ a2 a3 ⟨a4,a5⟩=>by subst a4;exact⟨kat_snds rfl a2,a3,a5⟩)
   (zx (s:={ s with heap:=((s.heap.update a (Obj.mapSeq λ_=>(#[]:Array Value))).push (seqObj "tuple" vs.toArray 0)).push (seqObj "list" #[] 0)}) L nd (λi j _ _=>rfl) ⟨rfl,rfl⟩ _ hp)) ?_ λ_ _ e=>e)
  rintro⟨⟨⟩,l⟩ C ⟨z,hf,rfl⟩;dsimp only;refine ir (seqEpoch_at y rfl ?_);have W:((arrOf l).map (·.2)).size=vs.length:=by rw[z,B_,pm.length_eq]
  refine ir (listUpdate_at y rfl ?_ (CN _) (by show((arrOf l).map (·.2)).size<=_;rw[W];lia));rw[hf];simp only[bne_self_eq_false,ol,if_false];refine ph ?_;rw[z];exact h _ pm pw
def xR{i:String}{p:Addr}{o:Obj}{m:Nat}{Q:VR->Shared->Prop}(u:i="list"\/i="tuple")(z:s.heap.get? p=J o)(y:o.cls=.type i)(hd:o.data=.seq vs.toArray m)(B:vs.length<=sizeLine)(h:Q vs { s with heap:=(s.heap.push (seqObj "list" #[] 0)).update s.heap.objs.size (Obj.mapSeq (·++vs.toArray))}):wpAny (model prog w) A (collect (.ref p)) Q E s:=by
 have j:(s.heap.push (seqObj "list" #[] 0)).get? p=J o:=r_ _ z;have l:(s.heap.push (seqObj "list" #[] 0)).get? s.heap.objs.size=J (seqObj "list" #[] 0):=CL _ rfl;have br:(Value.type i==Value.type "list" || Value.type i==Value.type "tuple")=I:=by rcases u with rfl|rfl<;>rfl
 unfold collect;refine ir (wpAny_runValue (codeAny_builtin entry_proto_collect' (ir (wpAny_newList (ph ⟨Code.quiet_builtin _ (by decide +kernel),codeAny_builtin entry_list_iadd' ?_⟩)))));show wpAny _ _ (Builtin.List.listExtendWith (.ref s.heap.objs.size) (.ref p) _) _ _ { s with heap:=s.heap.push (seqObj "list" #[] 0)};unfold Builtin.List.listExtendWith;refine ir (wpAny_typeOf (T:=i) ⟨o,j,y⟩ ?_);rw[eT (by rw[Bool.or_assoc,br,Rc])];refine ir (listItems_at j hd (ir (listItems_at l rfl ?_)));rw[hF (by simp)];refine ir (listUpdate_at l rfl (ph ?_) (CN _) (by show(#[]++vs.toArray).size<=_;simp;lia));show wpAny _ A (load s.heap.objs.size >>= _) _ _ _;refine ir (wpAny_load (get?_update_seq l _) ?_);have e:((#[]:Array Value)++vs.toArray).toList=vs:=by simp
 show wpAny _ _ (pure _) _ _ _;rw[e];exact ph h
def wt{y:String}{p:Addr}{o:Obj}{m:Nat}{Q:VX}(M:y="list"\/y="tuple")(R:s.heap.get? p=J o)(P:o.cls=.type y)(hd:o.data=.seq vs.toArray m)(U:∀v∈vs,jU s.heap rk v)(nd:t9 rk vs)(ok:iY (vs.map rk))(C:vs.length<64)(h:∀(G:Heap) (l:Addr) (j:VR),(∀b L,s.heap.get? b=J L->G.get? b=J L)->s.heap.objs.size<=l->(∃c,G.get? l=J (seqObj "list" j.toArray c))->j.Perm vs->(j.map rk).Pairwise (·<=·)->Q (.ref l) { s with heap:=G}):
  wpAny (model prog w) A (call (.builtin "sorted") [.ref p]) Q E s:=by
 have i:vs.length<=sizeLine:=by rw[sizeLine_eq];lia
 refine Calls.call_function_entry kind_sorted plain_sorted entry_sorted (args_sorted1 _) ?_;unfold Builtin.«sorted»;refine ir (m:=checkCount "sorted" 1 1 _) (ph (ir (xR M R P hd i (ir (wpAny_newList ?_ i)))));generalize e1:(s.heap.push (seqObj "list" #[] 0)).update s.heap.objs.size (Obj.mapSeq (·++vs.toArray))=u;have H:∀b o,s.heap.get? b=J o->u.get? b=J o:=λb o z=>by
  rw[<-e1,Lw _ _ _ _ (yB (oy z))];exact r_ _ z
 have F:s.heap.objs.size<=u.objs.size:=by rw[<-e1,Heap.size_update,size_push'];exact GZ _
 have B:(u.push (seqObj "list" vs.toArray 0)).get? u.objs.size=J (seqObj "list" vs.toArray 0):=CL _ rfl;have up:∀b o,u.get? b=J o->(u.push (seqObj "list" vs.toArray 0)).get? b=J o:=λb o e=>r_ _ e
 refine ir (wpAny_holding (wpAny_call_entry slot_list_sort ⟨_,B,rfl⟩ entry_list_sort
  (zg (s:={ s with heap:=u.push (seqObj "list" vs.toArray 0)}) B (λv hv=>(U v hv).up λb o S _=>up b o (H b o S)) nd ok C λj pv r2=>⟨_,rfl,?_⟩) (args_list_sort _)))
 refine ph ⟨_,rfl,h _ u.objs.size j (λb o e=>?_) F (qz B _) pv r2⟩;exact pE (yB (oy (H b o e))) (up b o (H b o e)) _
end
end SortT
namespace SortT
def FM{l:VM}(h:l.Pairwise (·<·)){i j:Nat}(u:i<l.length)(y:j<l.length):l.getD i 0<l.getD j 0↔i<j:=by
 rw[HI,C_ u,HI,C_ y,Q1,Q1];have k:=List.pairwise_iff_getElem.mp h;rcases Nat.lt_trichotomy i j with z|z | z
 .have:=k i j u y z;lia
 .subst z;lia
 .have:=k j i y u z;lia
end SortT
namespace MM
open PySem.Spec PyProof.Rows L2
section
variable{α β:Type}
def cA(f:α->Int)(x:α):List α->List α
 |[]=>[x]
 |y::r=>if f x<=f y then x::y::r else y::cA f x r
def bo(f:α->Int)(l:List α):List α:=l.foldr (cA f) []
def mR(f:α->Int)(x:α):∀l,(cA f x l).Perm (x::l)
 |[]=>.refl _
 |y::r=>by
  unfold cA;split
  .exact .refl _
  .exact ((mR f x r).cons y).trans (.swap x y r)
def d9(f:α->Int):∀l,(bo f l).Perm l
 |[]=>.refl _
 |x::l=>(mR f x (bo f l)).trans ((d9 f l).cons x)
def tK(f:α->Int)(x:α):∀l:List α,l.Pairwise (λa b=>f a<=f b)->(cA f x l).Pairwise (λa b=>f a<=f b)
 |[],_=>by simp[cA]
 |y::r,h=>by
  have j:=PF.mp h;unfold cA;split
  .rename_i z
   refine PF.mpr ⟨λa i=>?_,h⟩;rcases ki.mp i with q|q
   .rw[q];exact z
   .exact Int.le_trans z (j.1 a q)
  .rename_i z
   refine PF.mpr ⟨λa i=>?_,tK f x r j.2⟩;rcases ki.mp ((mR f x r).mem_iff.mp i)with rfl|i
   .lia
   .exact j.1 a i
def tt(f:α->Int):∀l:List α,(bo f l).Pairwise (λa b=>f a<=f b)
 |[]=>.nil
 |x::l=>tK f x _ (tt f l)
def sX(g:β->α)(f:α->Int)(x:β):∀l:List β,cA f (g x) (l.map g)=(cA (λb=>f (g b)) x l).map g
 |[]=>rfl
 |y::r=>by
  rw[yw];unfold cA;split
  .rfl
  .rw[sX g f x r];rfl
def nL(g:β->α)(f:α->Int):∀l:List β,bo f (l.map g)=(bo (λb=>f (g b)) l).map g
 |[]=>rfl
 |x::l=>by
  show cA f (g x) (bo f (l.map g))=(cA _ x (bo _ l)).map g;rw[nL g f l,sX]
def pr{f g:α->Int}{x:α}:∀{l:List α},f x=g x->(∀a∈l,f a=g a)->cA f x l=cA g x l
 |[],_,_=>rfl
 |y::r,i,h=>by
  unfold cA;rw[i,h y C8,pr i λa j=>h a (pW _ j)]
def pi{f g:α->Int}:∀{l:List α},(∀a∈l,f a=g a)->bo f l=bo g l
 |[],_=>rfl
 |x::l,h=>by
  have e:=pi (f:=f) (g:=g) (l:=l) λa i=>h a (pW _ i);show cA f x (bo f l)=cA g x (bo g l);rw[e];exact pr (h x C8) λa i=>h a (pW _ ((d9 g l).mem_iff.mp i))
def nF{f:α->Int}:∀{l:List α}{x y:α},(l.map f).Nodup->x∈l->y∈l->f x=f y->x=y
 |[],_,_,_,h,_,_=>by cases h
 |a::l,x,y,nd,z,u,e=>by
  rw[yw,L0]at nd;rcases ki.mp z with j|j
  .rcases ki.mp u with i|i
   .exact j.trans i.symm
   .exact absurd (sk.mpr ⟨y,i,e.symm.trans (congrArg f j)⟩) nd.1
  .rcases ki.mp u with i|i
   .exact absurd (sk.mpr ⟨x,j,e.trans (congrArg f i)⟩) nd.1
   .exact nF nd.2 j i e
def mK{f:α->Int}{l m:List α}(p:m.Perm l)(nd:(l.map f).Nodup)(h:m.Pairwise λa b=>f a<=f b):m=bo f l :=
 List.Perm.eq_of_pairwise (λa b j i x y=>nF nd (p.mem_iff.mp j) ((d9 f l).mem_iff.mp i) ⋯) h (tt f l) (p.trans (d9 f l).symm)
end
def uB:PV->VU
 |.tup (.int k::_)=>J k
 |_=>Y
def wv(x:PV):Int:=(uB x).getD 0
def Ht(h:Heap)(v:Value):Int:=match v with
 |.ref b=>(match h.get? b with
  |some o=>(match o.data with
   |.seq xs _=>(match (xs[0]?:VT) with
    |some (.int k _)=>k
    |_=>0)
   |_=>0)
  |none=>0)
 |_=>0
def y_(xs:UZ)(h:MH):VW:=match xs with
 |[x]=>(match dB h x with
  |some ys=>if(∀y∈ys,(uB y).isSome=I)/\(ys.map wv).Nodup/\SortT.iY (ys.map wv)/\ys.length<64 then .ok (.loc h.length) (h++[.lst (bo wv ys)])else .bad
  |none=>.bad)
 |_=>.bad
inductive T3(K:hW)(U:VQ)(H:Hp):UZ->List V->VR->List (PV×V×Value)->Prop
 |nil:T3 K U H [] [] [] []
 |cons{x:PV}{y:V}{u:Value}{xs:UZ}{ys:List V}{us:VR}{ts:List (PV×V×Value)}(r:RP K U H x y)(v:bh y u)(t:T3 K U H xs ys us ts):T3 K U H (x::xs) (y::ys) (u::us) ((x,y,u)::ts)
section
variable{K:hW}{U:VQ}{H:Hp}
def T3.ex:∀{xs:UZ}{ys:List V}{i:VR},RPs K U H xs ys->aV ys i->∃j,T3 K U H xs ys i j
 |_,_,_,.nil,.nil=>⟨[],.nil⟩
 |_,_,_,.cons r u,.cons v l=>let⟨j,t⟩:=T3.ex u l;⟨_,.cons r v t⟩
def T3.maps:∀{xs:UZ}{ys:List V}{l:VR}{i:List (PV×V×Value)},T3 K U H xs ys l i->xs=i.map (·.1)/\l=i.map (·.2.2)/\∀t∈i,RP K U H t.1 t.2.1/\bh t.2.1 t.2.2
 |_,_,_,_,.nil=>⟨rfl,rfl,λt h=>by cases h⟩
 |_,_,_,_,.cons r v t=>by
  obtain⟨e1,e2,h⟩:=t.maps;refine⟨by rw[e1];rfl,by rw[e2];rfl,λq j=>?_⟩;rcases ki.mp j with rfl|j
  .exact⟨r,v⟩
  .exact h q j
def AD:∀{ts:List (PV×V×Value)},(∀t∈ts,RP K U H t.1 t.2.1/\bh t.2.1 t.2.2)->RPs K U H (ts.map (·.1)) (ts.map (·.2.1))/\aV (ts.map (·.2.1)) (ts.map (·.2.2))
 |[],_=>⟨.nil,.nil⟩
 |t::ts,h=>by
  obtain⟨a,b⟩:=AD (ts:=ts) λq i=>h q (pW _ i);obtain⟨c,d⟩:=h t C8;exact⟨.cons c a,.cons d b⟩
end
section
variable{X:Cx}
def A7:dL X (.builtin "sorted") y_:=by
 intro NN s Z H xs us Q B r ⟨U,h,ps,rh,rp,q⟩
 cases rp with
 |nil=>exact q.elim
 |@cons x y _ _ r1 t1 =>
  cases t1 with
  |cons _ _=>exact q.elim
  |nil =>
   unfold y_ at q
   cases es:dB h x with
   |none=>simp only[es]at q;exact q.elim
   |some ys =>
    simp only[es]at q;by_cases z:(∀y∈ys,(uB y).isSome=I)/\(ys.map wv).Nodup/\SortT.iY (ys.map wv)/\ys.length<64
    .rw[eT z]at q;obtain⟨a,zs,rfl,ak,ag⟩:=o4 rh r1 es;obtain⟨u,rfl,rx⟩:=fZ r;cases rx;obtain⟨C,o,m,j,hT,R,M,hd,P⟩:∃(C:String) (o:Obj) (m:Nat) (j:VR),(C="list"\/C="tuple")/\s.heap.get? a=J o/\o.cls=.type C/\o.data=.seq j.toArray m/\aV zs j:=by
      rcases ak with W|W
      .obtain⟨j,P,pl,_⟩:=B.list W;obtain⟨o,R,M,n,hd⟩:=pl.isList;exact⟨"list",o,n,j,.inl rfl,R,M,hd,P⟩
      .obtain⟨j,P,⟨o,R,M,n,hd⟩,_⟩:=B.tuple W;exact⟨"tuple",o,n,j,.inr rfl,R,M,hd,P⟩
     obtain⟨E,t3⟩:=T3.ex ag P;obtain⟨e1,e2,hm⟩:=t3.maps;have F:∀t∈E,SortT.jU s.heap (Ht s.heap) t.2.2/\wv t.1=Ht s.heap t.2.2:=λt ht=>by
      obtain⟨rp,rl⟩:=hm t ht;have S:=z.1 t.1 (by rw[e1];exact sk.mpr ⟨t,ht,rfl⟩);obtain⟨t1,t2,t3⟩:=t;dsimp only at rp rl S ⊢
      cases rp with
      |@tup ps a2 vs sq ac =>
       cases rl
       cases ac with
       |nil=>cases S
       |@cons p0 v0 _ _ r0 rr =>
        cases r0 with
        |int i =>
         obtain⟨ap,ab,⟨o2,g2,c2,n2,d2⟩,_⟩:=B.tuple sq
         cases ab with
         |cons w0 wr =>
          obtain⟨tk,rfl⟩:=w0;have e:Ht s.heap (.ref a2)=i:=by simp[Ht,g2,d2]
          exact⟨⟨a2,o2,_,n2,tk,rfl,g2,c2,d2,by rw[e];rfl⟩,by rw[e];rfl⟩
        |_=>cases S
      |_=>cases S
     have ek:ys.map wv=j.map (Ht s.heap):=by rw[e1,e2,CY,CY];exact QU λt ht=>(F t ht).2
     have hl:j.length=ys.length:=by rw[e1,e2];simp
     refine SortT.wt (vs:=j) (rk:=Ht s.heap) hT R M hd (λv hv=>?_) (λx hx y hy e=>nF (ek▸z.2.1) hx hy e) (ek▸z.2.2.1) (by rw[hl];exact z.2.2.2) λh' l G kp L ⟨c,aa⟩ pv ri=>?_
     .rw[e2]at hv;obtain⟨t,ht,rfl⟩:=sk.mp hv;exact(F t ht).1
     .have eo:G=bo (Ht s.heap) j:=mK pv (ek▸z.2.1) (HL.mp ri);have et:bo (λt:PV×V×Value=>wv t.1) E=bo (λt=>Ht s.heap t.2.2) E:=pi λt ht=>(F t ht).2;obtain⟨ra,rb⟩:=AD (K:=X.K) (U:=U) (H:=H) (ts:=bo (λt:PV×V×Value=>wv t.1) E) λt ht=>hm t ((d9 _ _).mem_iff.mp ht);have s1:bo wv ys=(bo (λt:PV×V×Value=>wv t.1) E).map (·.1):=by rw[e1,nL]
      have s2:G=(bo (λt:PV×V×Value=>wv t.1) E).map (·.2.2):=by rw[eo,et,e2,nL]
      rw[<-s1]at ra;rw[<-s2]at rb;have lz:((bo (λt:PV×V×Value=>wv t.1) E).map (·.2.1)).length<=sizeLine:=by rw[<-ra.length,(d9 wv ys).length_eq,sizeLine_eq];have:=z.2.2.2;lia
      refine⟨.ref l,_,B.laid (o:=.lst ((bo (λt:PV×V×Value=>wv t.1) E).map (·.2.1))) (t':=s.toks) kp L (show ObjOk X.prog X.w _ _ _ (.lst _) from⟨lz,G,c,rb,aa⟩),rfl,?_⟩;obtain⟨an,l3⟩:=rh.new (B.hok.fresh L) (o:=.lst (bo wv ys)) (ho:=.lst ((bo (λt:PV×V×Value=>wv t.1) E).map (·.2.1))) ⟨_,rfl,ra⟩;exact q _ _ _ l3 an (.loc (by rw[<-rh.len];simp))
    .rw[hF z]at q;exact q.elim
end
end MM
namespace PU
open MM
def ky:D->VU
 |.tup (.int k::_)=>J k
 |_=>Y
def zb(d:D):Int:=(ky d).getD 0
section
variable{q:Nat}{h:MH}{O:VN}
def wK{d:D}{v:PV}(r:Rp q h O d v)(e:(ky d).isSome=I):uB v=ky d:=by
 cases d with
 |tup i =>
  cases i with
  |nil=>cases e
  |cons j i =>
   cases j with
   |int k =>
    obtain⟨xs,rfl,x,t,rfl,a,b⟩:=r;rw[show x=.int k from a];rfl
   |_=>cases e
 |_=>cases e
def vk{d:D}{v:PV}(r:Rp q h O d v)(e:wv v=zb d):∀{l:VP}{j:UZ},Rps q h O l j->(∀(i:Nat) a b,l[i]?=J a->j[i]?=J b->wv b=zb a)->Rps q h O (cA zb d l) (cA wv v j)
 |[],j,u,_=>by
  rw[show j=[]from u];exact⟨v,[],rfl,r,rfl⟩
 |d'::l,j,u,y=>by
  obtain⟨x,t,rfl,a,b⟩:=u;unfold cA;rw[e,y 0 d' x rfl rfl];split
  .exact⟨v,x::t,rfl,r,x,t,rfl,a,b⟩
  .exact⟨x,_,rfl,a,vk r e b λi a b z B=>y (i+1) a b (by simpa using z) (by simpa using B)⟩
def AB{j:VP}{i:UZ}(r:Rps q h O j i)(l:∀d∈j,(ky d).isSome=I):(∀v∈i,(uB v).isSome=I)/\i.map wv=j.map zb:=by
 induction j generalizing i with
 |nil=>rw[show i=[]from r];exact⟨(λv h=>by cases h),rfl⟩
 |cons d j y =>
  obtain⟨x,t,rfl,a,b⟩:=r;obtain⟨u,z⟩:=y b λd hd=>l d (pW _ hd);have e:=wK a (l d C8);refine⟨λv hv=>?_,?_⟩
  .rcases ki.mp hv with rfl|hv
   .rw[e];exact l d C8
   .exact u v hv
  .rw[yw,yw,z];simp[wv,zb,e]
def Bq{j:VP}{u:UZ}(r:Rps q h O j u)(y:∀d∈j,(ky d).isSome=I):Rps q h O (bo zb j) (bo wv u):=by
 induction j generalizing u with
 |nil=>rw[show u=[]from r];exact rfl
 |cons d j B =>
  obtain⟨x,t,rfl,a,b⟩:=r;have l:∀d∈j,(ky d).isSome=I:=λd hd=>y d (pW _ hd);have r2:=B b l;show Rps q h O (cA zb d (bo zb j)) (cA wv x (bo wv t));have e2:=(AB r2 λz F=>l z ((d9 zb j).mem_iff.mp F)).2;refine vk a (by simp[wv,zb,wK a (y d C8)]) r2 λi a b E C=>?_
  have:=congrArg (·[i]?) e2
  simpa [E,C]using this
end
def qS:C9 where
 k:=λxs h=>(y_ xs h).ne
 p:=λj=>match j with
  |[d]=>d.items.bind λi=>if(∀d∈i,(ky d).isSome=I)/\(i.map zb).Nodup/\SortT.iY (i.map zb)/\i.length<64 then J (.lst (bo zb i))else Y
  |_=>Y
 fr:=I
 ok {q h L O j xs d} bd w e:=by
  match j,e with
  |[P],e =>
   obtain⟨x,rfl,E⟩:=de w;dsimp only at e;rw[Lv]at e;obtain⟨i,e1,e2⟩:=e;by_cases z:(∀d∈i,(ky d).isSome=I)/\(i.map zb).Nodup/\SortT.iY (i.map zb)/\i.length<64
   .rw[eT z]at e2;cases e2;obtain⟨ys,H,r⟩:=E.seqOf e1;obtain⟨C,B⟩:=AB r z.1
    have:y_ [x] h=.ok (.loc h.length) (h++[.lst (bo wv ys)]):=by simp only[y_,H];rw[eT ⟨C,B▸z.2.1,B▸z.2.2.1,by rw[r.length];exact z.2.2.2⟩]
    show Gv q h O I (y_ [x] h).ne _;rw[this];have y:=Bq r z.1;have g:(h++[MO.lst (bo wv ys)])[h.length]?=J (.lst (bo wv ys)):=by simp
    have F:Rps q (h++[MO.lst (bo wv ys)]) O (bo zb i) (bo wv ys):=y.mv ⟨λn u _=>BH u,λo l=>.inl l⟩;have G:Rps q (h++[MO.lst (bo wv ys)]) (h.length::O) (bo zb i) (bo wv ys):=y.mv ⟨λn u _=>BH u,λo l=>(ki.mp l).elim (λz=>.inr (Nat.le_of_eq z.symm)) .inl⟩;exact⟨_,_,rfl,⟨_,_,rfl,λz=>by have:=bd _ z;lia,g,F⟩,λ_ k M e=>by obtain⟨rfl,rfl⟩:=gQ e;exact⟨_,_,rfl,mh _,g,G⟩⟩
   .rw[hF z]at e2;cases e2
end PU
namespace MM
open L2
def FN{X:L2.Cx}:BB X "sorted" PU.qS:=.fn _ _ zG A7
end MM
namespace TupM
open PySem.Builtin
section
open PyProof.Rows
variable{prog:Program}{w:World}{A:Around}{E:VX}{s:Shared}
end
end TupM
namespace MM
open PySem.Spec PyProof.Rows L2
end MM
namespace PU
open MM
noncomputable section
end
end PU
namespace PU
open MM
open L2 (xS i_ gB)
noncomputable section
mutual
def Rp.fq{p i:Nat}{h j:MH}{O u:VN}:∀{d:D}{v:PV},PU.flat d=I->Rp p h O d v->Rp i j u d v
 |.non,_,_,r=>r
 |.bl _,_,_,r=>r
 |.int _,_,_,r=>r
 |.str _,_,_,r=>r
 |.tup l,_,f,⟨xs,e,r⟩=>⟨xs,e,Rps.fq (by simpa [PU.flat]using f) r⟩
 |.lst l,_,f,_=>by simp[PU.flat]at f
 |.dic _ _ _,_,f,_=>by simp[PU.flat]at f
 |.exc _,_,f,_=>by simp[PU.flat]at f
 |.pen,_,f,_=>by simp[PU.flat]at f
def Rps.fq{p y:Nat}{h u:MH}{O l:VN}:∀{i:VP}{j:UZ},PU.Bg i=I->Rps p h O i j->Rps y u l i j
 |[],_,_,r=>r
 |_::_,_,f,⟨x,t,e,a,b⟩=>⟨x,t,e,Rp.fq (by simp[PU.Bg]at f;exact f.1) a,Rps.fq (by simp[PU.Bg]at f;exact f.2) b⟩
end
end
end PU
namespace MM
open PySem.Spec PyProof.Rows L2
abbrev rY(C t:Addr):Obj:={ cls:=.ref C,data:=.fields #[.ref t,.none,.none,.none,.bool T,.none]}
section
variable{prog:Program}{w:World}{A:Around}{E:VX}{h:Heap}{gs:Array GenState}{dr:Drawn}{tk:Nat}{os:OsState}{nm qn:Str}{C N:Addr}{bs bm bmB:VR}{hd:Bool}{sn:VL}{sub:VR}{ab:Bool}{col:Option Bool}{dd:VC}{k0 k1 k2 k3 k5:VT}{B nid iid:String}{mN:VZ}{rest:VR}{fI:Addr}{oI:Obj}
def FP{Q:PySem.Fin->Shared->Prop}(F:ExcBaseFacts B nid iid bmB)(i:OwnTail h bmB bm)(j:h.get? C=J (excClassObj nm qn C N bs bm hd sn sub ab col dd k0 k1 k2 k3 k5 nid))(U:h.Ns N mN)(M:mN "__init__"=J (.ref fI))(hf:h.get? fI=J oI)(l:oI.cls=.type "function")(hl:rest.length<=sizeLine)(run:∀G e,Heap.MadeExcOf h G e (.ref C) rest->wpAny (model prog w) A (call (.ref fI) (.ref e::rest)) (λr u=>r=.none/\Q (.done (.ret (.ref e))) u) E ⟨G,gs,dr,tk,os⟩):
  wpAny (model prog w) A (Builtin.«type.__call__» ⟨.ref C::rest,[]⟩) Q E ⟨h,gs,dr,tk,os⟩:=by
 repeat (first | with_reducible refine wpAny_loadPart_at j ?_ | with_reducible refine wpAny_madeBy_exc j ?_ | wp_step)
 refine codeAny_call_builtin_code (Code.quiet_builtin _ F.quiet) (wpAny_check_new_subT F i j (codeAny_exc_new_subT F i j ?_ hl));have kp:∀b o,h.get? b=J o->((h.push { cls:=.type "tuple",data:=.seq rest.toArray}).push (rY C h.objs.size)).get? b=J o:=λb o e=>r_ _ (r_ _ e);have y:=kp _ _ j;have L:=kp _ _ hf;have R:=U.keeps kp;have S:=i.keeps kp;have e1:((h.push { cls:=.type "tuple",data:=.seq rest.toArray}).push (rY C h.objs.size)).get? (h.objs.size+1)=J (rY C h.objs.size):=by heap_get
 have P:(Value.ref C::bm).contains (.ref C)=I:=by simp
 show wpAny _ _ _ _ _ _;unfold isInstance
 repeat (first | with_reducible refine wpAny_loadPart_at e1 ?_ | (with_reducible refine wpAny_isSubtype_exc y ?_;rw[P]) | wp_step)
 refine(show wpAny _ _ (typeLookup (.ref C) _) _ _ _ from wpAny_typeLookup_tail y R S F.mroIs F.init.lookup ?_);rw[M];refine wpAny_holding (ir ?_);unfold bindSpecial;refine ir (wpAny_typeOf (T:="function") ⟨_,L,l⟩ ?_);rw[eT (by decide)];refine ph (ir (wpAny_mono (run _ (h.objs.size+1) ⟨kp,Py (GZ _),h.objs.size,e1,Py (mh _),r_ _ (Heap.get?_push_at rfl rfl)⟩) (λr u ⟨H,q⟩=>?_) λ_ _ z=>z));subst H
 wp_walk
 exact q
def zQ{Q:VX}(F:ExcBaseFacts B nid iid bmB)(j:OwnTail h bmB bm)(i:h.get? C=J (excClassObj nm qn C N bs bm hd sn sub ab col dd k0 k1 k2 k3 k5 nid))(G:h.Ns N mN)(z:mN "__init__"=J (.ref fI))(hf:h.get? fI=J oI)(l:oI.cls=.type "function")(hl:rest.length<=sizeLine)(run:∀u e,Heap.MadeExcOf h u e (.ref C) rest->wpAny (model prog w) (A.under (.builtin "type.__call__" ⟨.ref C::rest,[]⟩)) (call (.ref fI) (.ref e::rest)) (λr y=>r=.none/\Q (.ref e) y) E ⟨u,gs,dr,tk,os⟩):
  wpAny (model prog w) A (call (.ref C) rest) Q E ⟨h,gs,dr,tk,os⟩:=by
 have L:=tc_lookup;have H:=tc_bind (.ref C);have ty:(⟨h,gs,dr,tk,os⟩:Shared).TypeIs (.ref C) "type":=⟨_,i,rfl⟩;refine wpAny_call (codeAny_of_tree (show wpAny _ _ (callAny (.ref C) _) _ _ _ from ?_))
 repeat (any_goals (first | assumption | with_reducible refine wpAny_loadPart_at i ?_ | wp_step))
 exact⟨rfl,codeAny_call_builtin_at (Code.quiet_builtin _ (by decide +kernel)) entry_typeCall (wpAny_check_type_call_sub i (FP F j i G z hf l hl run))⟩
end
@[inline]abbrev UR(C F:Addr):VR:=.ref C::.ref F::[.type "ValueError",.type "Exception",.type "BaseException",.type "object"]
section
open Builtin.ObjectAttr
variable{prog:Program}{w:World}{A:Around}{E:VX}{s:Shared}{K:hW}{x C F:Addr}{o:Obj}{name:Str}{v:Value}{cd:ClassData}
def FQ{Q:Unit->Shared->Prop}(X:K.In s.heap)(L:s.heap.get? x=J o)(hc:o.cls=.ref C)(B:o.dict=Y){vs:Array Value}(u:o.data=.fields vs)(hs:PySem.W.findIn K (.ref C) "__setattr__"=J (J (.builtin "object.__setattr__")))(W:PySem.W.clsIn K C=J cd)(l:cd.mro=UR C F)(hd:cd.hasDict=I)(ht:PySem.W.takerIn K C name=J Y)(q:∀z Z dx,(∀b S,b≠x->s.heap.get? b=J S->z.get? b=J S)->z.get? x=J { o with dict:=J dx}->s.heap.get? dx=Y->z.Ns1 dx (λy=>if y=name then J v else Y)->Q () { s with heap:=z,toks:=Z}):
  wpAny (model prog w) A (setAttr (.ref x) name v) Q E s:=by
 have i:PySem.W.InstAt s.heap x o C Y:=⟨L,hc,by unfold PySem.W.notCls;rw[u],by rw[B];trivial⟩;refine PySem.W.set_plain X i hs ?_;have H:=PySem.F.store_object;have ab:PySem.W.Looks (model prog w) s.heap (mroOf (.ref C)) cd.mro:=(PySem.W.looks_clsIn X W).andThen .now;have sub:PySem.W.Looks (model prog w) s.heap (isInstance (.ref x) (.type "object")) I:=i.type.andThen (PySem.W.looks_mroIn X (by unfold PySem.W.mroIn;rw[W,HM,l];rfl));refine codeAny_call_builtin H.slot.plain H.entry (@PySem.W.check_slot (model prog w) _ _ { s with toks:=s.toks+1} "object.__setattr__" "object" "__setattr__" (.ref x) [.str name s.toks,v] [] _ H.kind H.split sub (H.args (.ref x) (.str name s.toks) v) ?_);obtain⟨j,ha,hr⟩:=Lv.mp ht;have L3:PySem.W.Looks (model prog w) s.heap (storeTaker? j) Y:=by
  cases j with
  |none=>exact .now
  |some a =>
   obtain⟨b,hb,e⟩:=Db.mp hr;refine(PySem.W.looks_takesIn X hb).andThen ?_;cases b
   .exact .now
   .cases e
 rw[PySem.W.osa_eq,refuse_eq];refine ir (ir (PySem.W.Looks.here (s:={ s with toks:=s.toks+1}) i.type (ir (PySem.W.Looks.here (s:={ s with toks:=s.toks+1}) ab ?_))));rw[l,refuseLoop_ref,refuseLoop_ref,PySem.F.store_ValueError.passes];refine ph (ir (PySem.W.Looks.here (s:={ s with toks:=s.toks+1}) i.type (ir (PySem.W.Looks.here (s:={ s with toks:=s.toks+1}) (PySem.W.looks_findIn X ha) (ir (PySem.W.Looks.here (s:={ s with toks:=s.toks+1}) L3 ?_))))));have P:({ s with toks:=s.toks+1}:Shared).heap.get? x=J o:=L;refine ir (ph (ir (ir (wpAny_loadPart P ?_))));rw[hc];refine ir (PySem.W.Looks.here (s:={ s with toks:=s.toks+1}) (PySem.W.looks_clsIn X W) ?_);rw[hd,hF (by decide)];dsimp only;rw[B];dsimp only;rw[hF (by simp[typeHasDict]),u];dsimp only;have xs:x≠s.heap.objs.size:=yB (oy L);have x1:(s.heap.push { cls:=.type "dict",data:=.dict #[]}).get? x=J o:=r_ _ L;refine ir (wpAny_alloc' (ir (wpAny_update' x1 (ph ?_))));have gd:((s.heap.push { cls:=.type "dict",data:=.dict #[]}).update x λo=>{ o with dict:=J s.heap.objs.size}).get? s.heap.objs.size=J { cls:=.type "dict",data:=.dict #[]} :=
  (Lw _ _ _ _ xs.symm).trans (Heap.get?_push_at rfl rfl)
 have nd:((s.heap.push { cls:=.type "dict",data:=.dict #[]}).update x λo=>{ o with dict:=J s.heap.objs.size}).Ns s.heap.objs.size (λ_=>Y):=⟨_,#[],_,gd,rfl,λe he=>absurd he (by simp),λ_=>rfl⟩;refine(show wpAny _ _ (storeInDict s.heap.objs.size (.str name s.toks) name v) _ _ _ from ir (ph (ir (wpAny_nsSet1 (Heap.Ns1.of_empty nd) λz n' G=>?_))));obtain⟨oD,es,ep,R,U,aa⟩:=n'.count (Within.cons name v Within.nil);refine ir (wpAny_lookBehind R (by rw[U];exact pastItsLine_dict (wy aa (by rw[n_,pa,sizeLine_eq];lia))) (ph ?_));refine q z _ s.heap.objs.size (λb S nb e=>(G.2 b (yB (oy e))).trans ((Lw _ _ _ _ nb).trans (r_ _ e))) ((G.2 x xs).trans (Pu _ x1 ?_)) (Py (mh _)) n';obtain⟨oc,od,M,ac⟩:=o;cases M<;>first | rfl | cases u
end
section
variable{prog:Program}{w:World}{A:Around}{E:VX}{h:Heap}{gs:Array GenState}{dr:Drawn}{tk:Nat}{os:OsState}{nm qn:Str}{C N e t0:Addr}{bs bm bmB:VR}{hd:Bool}{sn:VL}{sub:VR}{ab:Bool}{col:Option Bool}{dd:VC}{k0 k1 k2 k3 k5:VT}{B nid iid:String}{rest:VR}
def Cf{Q:VX}(F:ExcBaseFacts B nid iid bmB)(i:OwnTail h bmB bm)(z:h.get? C=J (excClassObj nm qn C N bs bm hd sn sub ab col dd k0 k1 k2 k3 k5 nid))(u:h.get? e=J (rY C t0))(hl:rest.length<=sizeLine)(q:∀l t,(∀b j,b≠e->h.get? b=J j->l.get? b=J j)->l.get? e=J (rY C t)->Q .none ⟨l,gs,dr,tk,os⟩):
  wpAny (model prog w) A (call (.builtin iid) (.ref e::rest)) Q E ⟨h,gs,dr,tk,os⟩:=by
 refine wpAny_call (codeAny_call_builtin F.init.plain F.initEntry (wpAny_check_init_subT F i z u rfl ?_))
 wp_walk
 refine q _ h.objs.size (λb j y e=>?_) ?_
 .rw[QQ _ _ (Ne.symm y)];exact r_ _ e
 .rw[Pu _ (r_ _ u) rfl];rfl
end
structure CT(K:hW)(mg:VZ)(x:Str)(C F fI:Addr)(fld:Str):Prop where
 bd:mg x=J (.ref C)
 lk:∃(nm qn:Str) (N:Addr) (bs:VR) (sn:VL) (sub:VR) (ab:Bool) (col:Option Bool) (dd:VC) (k0 k1 k2 k3 k5:VT),K.lookup C=J (excClassObj nm qn C N bs (.ref F::je) I sn sub ab col dd k0 k1 k2 k3 k5 "ValueError.__new__")/\PySem.W.nsOkIn K N=I/\PySem.W.nsIn K N "__init__"=J (J (.ref fI))
 tl:PySem.W.tailIn K je (.ref F::je)=I
 sa:PySem.W.findIn K (.ref C) "__setattr__"=J (J (.builtin "object.__setattr__"))
 tk:PySem.W.takerIn K C fld=J Y
structure Ka(K:hW)(mg:VZ)(x:Str)(F:Addr):Prop where
 bd:mg x=J (.ref F)
 hg:PySem.W.specialIn K (.ref F) "__getattribute__"=J (J (.builtin "type.__getattribute__"))
 hr:PySem.W.readsIn K F (.type "type")=I
 fc:PySem.W.findCls K (.ref F) (.type "type") "__init__"=J (.val (.builtin "ValueError.__init__"))
def gr(e C:Addr)(h:Heap):Prop:=∃t,h.get? e=J (rY C t)
def xx{P:Program}{w:World}{H:Hp}{h:Heap}{e C:Addr}(x:gr e C h):ObjOk P w H h e (.ext (gr e C)):=by obtain⟨t,i⟩:=x;exact⟨⟨t,i⟩,⟨_,i⟩,λj l ⟨t,z⟩ k=>⟨t,k _ z⟩⟩
abbrev FR(C t:Addr)(dx:VC):Obj:={ cls:=.ref C,dict:=dx,data:=.fields #[.ref t,.none,.none,.none,.bool T,.none]}
section
variable{X:Cx}{x fx fld:Str}{C F fI:Addr}{a b:Expr}{t:VV->TE}{p apos cpos:Pos}
def Bj{S:TA}{U:Sem Bool}(B:Gl X fx)(u:Ka X.K X.mg fx F)(EI:CT X.K X.mg x C F fI fld)(ha:PA X [a,b] S)(dbg:(fx==("__debug__":Str))=T)(he:eval (.Call (.Attribute (.Name fx p) "__init__" apos) [a,b] [] cpos) X.env=(do
   let ov <-eval (.Name fx p) X.env
   standAt apos.atName
   let(f,fs1) <-holding [ov] (getMethod ov "__init__" U)
   callWith cpos f fs1 (backTo cpos (starEach [a,b] X.env)) (backToKw cpos (keywordEach [] X.env))))(hs:starEach [a,b] X.env=(T,eval a X.env)::starEach [b] X.env)(E:(backTo cpos (starEach [b] X.env)).any (·.1)=T):
  PE X (.Call (.Attribute (.Name fx p) "__init__" apos) [a,b] [] cpos) (λZ H Q=>S Z H λvs M=>∃e z,vs=[.ref e,.str z]/\M e=J (.ext (gr e C))/\Q .non M):=by
 intro NN s Z H Q i h;refine PySem.W.methodCall_KW (pl:=U) (oZ i B u.bd (PySem.W.method_cls i.kIn u.hg (PySem.W.cls_value i.kIn u.hr u.fc rfl ?_)) dbg) he;have W:=ha cpos NN _ Z H _ (i.tok (s.toks+1)) h;rw[hs]at W ⊢;refine Calls.callWith_builtin (by show(T||(backTo cpos (starEach [b] X.env)).any (·.1))=T;rw[E];rfl) (Calls.evalArgs_plain ?_);refine kP W λus s2 ⟨vs,l,j,r2,e,z,ev,G,q2⟩=>?_;subst ev;obtain⟨u1,u2,rfl,e1,_⟩:=r2.two;obtain rfl:u1=Value.ref e:=e1;obtain⟨⟨t0,L⟩,_,_⟩:=(show ObjOk X.prog X.w l s2.heap e (.ext (gr e C))from j.hok e _ G);obtain⟨nm,qn,N,bs,sn,sub,ab,aa,dd,k0,k1,k2,k3,k5,lC,_,_⟩:=EI.lk;obtain⟨hp,gs,dr,tk,os⟩:=s2;refine Cf PySem.F.excBase_ValueError (PySem.W.tail_of_in j.kIn EI.tl) (j.kIn _ _ lC) L (by rw[sizeLine_eq];show 1<=_;decide) λh' t kp e'=>?_;have P:=j.write (t':=tk) (x:=e) (e:=e) (o:=.ext (gr e C)) (by rw[G];trivial) (.inl rfl) kp ⟨_,e'⟩ (xx ⟨t,e'⟩);have eu:upd l e (.ext (gr e C))=l:=by
  funext y;by_cases R:y=e
  .subst R;rw[ba,G]
  .rw[aJ R]
 rw[eu]at P;exact⟨.non,l,P,rfl,q2⟩
end
section
variable{X:Cx}{x fx fld:Str}{C F fI:Addr}{o value e:Expr}{ta tv te:TE}{p pos pos' p1 p2 p3:Pos}{c1 c2:Str}{j1 j2:Nat}
def iI(c1 c2:Str)(i:Int):Prop:=i.natAbs.log2<1920/\(Str.empty++c1).length<=sizeLine/\(Str.empty++c1++(toString i:Str)).length<=sizeLine/\(Str.empty++c1++(toString i:Str)++c2).length<=sizeLine
def Kb(y:(Str.empty++c1).length<=sizeLine)(B:PE X e te):PE X (.JoinedStr [.Constant (.str c1) j1 p1,.FormattedValue e (-1) Y p2,.Constant (.str c2) j2 p3] pos) (λZ H Q=>te Z H λx j=>∃i,x=.int i/\iI c1 c2 i/\Q (.str (Str.empty++c1++(toString i:Str)++c2)) j):=by intro E s Z H Q l h;refine wpAny_JoinedStr ?_;refine Calls.Constant_str ⟨_,_,rfl,y,?_⟩;refine wpAny_FormattedValue_plain ?_;refine kP (B E _ Z H _ (l.tok _) h) λv s1 ⟨x,j,G,r1,i,e1,z,u⟩=>?_;subst e1;obtain⟨t,rfl⟩:=r1;refine wpAny_formatField_int z.1 ⟨_,_,rfl,z.2.2.1,?_⟩;exact Calls.Constant_str ⟨_,_,rfl,z.2.2.2,z.2.2.2,.str _,j,((G.tok _).tok _).tok _,⟨_,rfl⟩,u⟩
end
section
variable{prog:Program}{w:World}{A:Around}{E:VX}{s:Shared}{env:Env}{nm qn:Str}{C N:Addr}{bs bm:VR}{hd:Bool}{sn:VL}{sub:VR}{ab:Bool}{col:Option Bool}{dd:VC}{k0 k1 k2 k3 k5:VT}{nid:String}
def we{M:Model}{x:Sem Value}{Q:Flow->Shared->Prop}(l:bm.contains (.type "BaseException")=I)(u:A.handled=Y)(h:wpAny M A x (λv s1=>∃e t i,v=.ref e/\s1.heap.get? C=J (excClassObj nm qn C N bs bm hd sn sub ab col dd k0 k1 k2 k3 k5 nid)/\s1.heap.get? e=J (FR C t i)/\E (.ref e) s1) E s):wpAny M A (raiseStmt env (J x) Y) Q E s:=by
 have B:(Value.ref C::bm).contains (.type "BaseException")=I:=by rw[PD,l,Rc]
 refine ir (wpAny_mono h (λv s1 ⟨e,t,i,y,j,F,G⟩=>?_) λ_ _ z=>z);subst y
 repeat (first | with_reducible refine wpAny_loadPart_at F ?_ | with_reducible refine wpAny_loadPart_at j ?_ | (with_reducible refine wpAny_isSubtype_exc j ?_;rw[B]) | wp_step)
 exact wpAny_raiseNew_none u G
def wg{x:Str}{B i y:Pos}{j:VV}{Q:Flow->Shared->Prop}(S:bm.contains (.type "BaseException")=I)(L:A.handled=Y)(u:(backTo i (starEach j env)).any (·.1)=T)(h:wpAny (model prog w) A (eval (.Name x B) env) (λf s1=>f=.ref C/\wpAny (model prog w) A (evalArgs (.ref C) I (backTo i (starEach j env)) [])
   (λa s2=>a.kw=[]/\s2.heap.get? C=J (excClassObj nm qn C N bs bm hd sn sub ab col dd k0 k1 k2 k3 k5 nid)/\wpAny (model prog w) A (call (.ref C) a.pos) (λv l=>∃e t M,v=.ref e/\l.heap.get? C=J (excClassObj nm qn C N bs bm hd sn sub ab col dd k0 k1 k2 k3 k5 nid)/\l.heap.get? e=J (FR C t M)/\E (.ref e) l) E s2) E s1) E s):
  wpAny (model prog w) A (exec (.Raise (J (.Call (.Name x B) j [] i)) Y y) env) Q E s:=by
 rw[arm_exec_Raise];simp only[evalOpt,Option.map];refine ir (wpAny_standAt (we (C:=C) (nm:=nm) (qn:=qn) (N:=N) (bs:=bs) (hd:=hd) (sn:=sn) (sub:=sub) (ab:=ab) (col:=col) (dd:=dd) (k0:=k0) (k1:=k1) (k2:=k2) (k3:=k3) (k5:=k5) (nid:=nid) S L ?_));refine ir (wpAny_mono (wpAny_Call_ofName (wpAny_mono h (λf s1 ⟨G,H⟩=>?_) λ_ _ z=>z)) (λv l R=>ir (wpAny_standAt (ph R))) λ_ _ z=>z);subst G;refine ir (wpAny_holding (wpAny_mono H (λa s2 F=>ir (wpAny_standAt ?_)) λ_ _ z=>z));obtain⟨W,X⟩:=a;obtain⟨U,P,run⟩:=F;obtain rfl:=U;simp only[u];refine ir (wpAny_keeperOf_exc P ?_);exact ir (wpAny_mono run (λv l z=>ir (wpAny_holding (wpAny_point (ph z)))) λ_ _ z=>z)
end
def Kc{K:hW}{h:Heap}{N:Addr}{i:VZ}{n:Str}{v:Value}(X:K.In h)(G:h.Ns N i)(e:PySem.W.nsIn K N n=J (J v)):i n=J v:=by
 obtain⟨o,l,u,j,hd,_,hf⟩:=G;unfold PySem.W.nsIn at e
 split at e
 .rename_i q
  have z:=X _ _ q;rw[j]at z
  split at e
  .rw[<-hf];unfold nsFind findBy
   grind
  .split at e<;>cases e
 .cases e
section
variable{X:Cx}{NN:List (Addr × Obj)}{Z:L2.St}{H:Hp}{s:Shared}{e:Addr}{φ:Heap->Prop}
def Inv.hide(j:Inv X NN Z (upd H e (.ext φ)) s)(he:H e=Y)(h0:X.s₀.heap.get? e=Y)(hL:e≠X.env.locals)(L:∀x c,X.env.cells.lookup x=J c->c≠e)(R:∀p∈X.pn++NN,p.1≠e):
  Inv X NN Z H { s with heap:=PySem.W.hideAll s.heap [e]}:=by
 have kp:∀b o,b≠e->s.heap.get? b=J o->(PySem.W.hideAll s.heap [e]).get? b=J o:=λb o nb z=>PySem.W.hideAll_get _ z (by simpa using nb);have G:∀b o,X.s₀.heap.get? b=J o->b≠e:=λb o z q=>by rw[q,h0]at z;cases z
 have ne:∀b u,H b=J u->b≠e:=λb u z q=>by rw[q,he]at z;cases z
 have up:∀b u,H b=J u->upd H e (.ext φ) b=J u:=λb u z=>by rw[aJ (ne b u z)];exact z
 obtain⟨m,hn,hl⟩:=j.loc;refine⟨j.ok,j.os,j.bare,⟨λb o z n hf B=>kp b o (G b o z) (j.base.keep b o z n hf B),λb o z n hf B=>?_,λb o z n B=>?_,λb o z B=>?_,λb xs z=>?_,λb o u z=>?_,λb ps z=>?_⟩,⟨m,?_,λi x v e1 e2 e3=>?_⟩,λx c z=>?_,?_,λx c z=>?_,λp C=>?_,λb u z=>?_,j.len⟩
 .obtain⟨sl,e1⟩:=j.base.slot b o z n hf B;exact⟨sl,kp b _ (G b o z) e1⟩
 .have:=j.base.free b o z n B
  rwa [aJ (G b o z)]at this
 .obtain⟨U,e1⟩:=j.base.there b o z B;exact⟨U,kp b U (G b o z) e1⟩
 .have q:=j.base.tups b xs z;by_cases l:b=e
  .subst l;rw[ba]at q;cases q
  .rwa [aJ l]at q
 .have q:=j.base.frzs b o u z;by_cases l:b=e
  .subst l;rw[ba]at q;cases q
  .rwa [aJ l]at q
 .obtain⟨E,q⟩:=j.base.tbls b ps z;by_cases l:b=e
  .subst l;rw[ba]at q;cases q
  .rw[aJ l]at q;exact⟨E,q⟩
 .obtain⟨o,es,ep,ho,r⟩:=hn;exact⟨o,es,ep,kp _ o (Ne.symm hL) ho,r⟩
 .obtain⟨u,ru,F⟩:=hl i x v e1 e2 e3;refine⟨u,ru,?_⟩;rcases F with z|⟨z1,c,Q,z3⟩
  .exact .inl z
  .obtain⟨o,P,M⟩:=z3;exact .inr ⟨z1,c,Q,o,kp c o (L x c Q) P,M⟩
 .obtain⟨v,o,P,M⟩:=j.cell x c z;exact⟨v,o,kp c o (L x c z) P,M⟩
 .have:=j.free
  rwa [aJ (Ne.symm hL)]at this
 .have:=j.freeC x c z
  rwa [aJ (L x c z)]at this
 .obtain⟨W,S,a3⟩:=j.pin p C;rw[aJ (R p C)]at S;exact⟨kp _ _ (R p C) W,S,a3⟩
 .refine (j.hok b u (up b u z)).stay (λc v y q=>kp c v ?_ q) (λc q=>?_) λc xs q=>?_
  .rcases y with rfl|y
   .exact ne _ _ z
   .intro ec;subst ec;rw[ba]at y;cases y
  .by_cases l:c=e
   .subst l;rw[ba]at q;cases q
   .rwa [aJ l]at q
  .by_cases l:c=e
   .subst l;rw[ba]at q;cases q
   .rwa [aJ l]at q
end
end MM
namespace PU
open MM
noncomputable section
end
end PU
namespace MM
open PySem.Spec PyProof.Rows L2
open PU (Xe Xs Xt Xi Xg Xd)
def US:Stmt->Nat->Stmt
 |.ClassDef _ _ _ j _ _ _ _ _ _ _,i=>j.getD i (.Pass ⟨0,0,0,0⟩)
 |s,_=>s
end MM
namespace L2
open PySem.Spec PyProof.Rows
def Um(x:Str):It:=⟨λi _=>i<x.cps.size,λi H v j=>j=H/\∃c,x.cps[i]?=J c/\v=.str ⟨#[c]⟩,λi _=>x.cps.size<=i⟩
def Cd{P:Program}{w:World}{K:hW}{tg:Expr}(x:Str)(t:Tok)(u:Addr):Dx P w K tg (Um x) [u] u (λi h=>h.IsStrIter u "str_ascii_iterator" x t i) where
 mem:=by simp
 obj:=λi h st b l=>by
  have e:b=u:=by simpa using l
  subst e;obtain⟨o,e,c,d⟩:=st;exact⟨o,e,λv z=>by rw[d]at z;cases z⟩
 keep:=λi h S st k=>let⟨o,ho,r⟩:=st;⟨o,k u (by simp) o ho,r⟩
 item:=by intro X F hw M R i W s Z H E j hf st hg;subst F hw M;have hg:i<x.cps.size:=hg;obtain⟨Q,C,U,B,L,G⟩:=hf u (by simp);refine wpAny_pyNext_ascii_item st (c:=x.cps[i]) (by simp[hg]) λS y sb=>?_;have I1:=j.turned (t':=s.toks+1) (λb o l e=>(sb.2 b l).trans e) Q C B L G;obtain⟨o,e,c,d⟩:=id y;exact⟨_,rfl,ub e c d (by decide) ⟨.str ⟨#[x.cps[i]]⟩,H,I1,⟨_,rfl⟩,⟨rfl,_,by simp[hg],rfl⟩,y,λb l=>(hf b l).1⟩⟩
 done:=by intro X F hw M R i W s Z H E j hf st hg;subst F hw M;have hg:x.cps.size<=i:=hg;obtain⟨Q,C,U,B,L,G⟩:=hf u (by simp);exact wpAny_pyNext_ascii_end (j.ok.hd R) st (by simp;lia) λS eb=>⟨rfl,j.turned (t':=s.toks) (λb o l e=>eb b o l e) Q C B L G⟩
 self:=λ_ _ _ _ _ st h=>wpAny_pyIter_striter_ascii st h
section
variable{X:Cx}{tg:Expr}
def S8(tl:TE):TI:=λZ H R=>tl Z H λx i=>∃z:Str,x=.str z/\z.cps.all (·<128)=I/\R (Um z) i
def Kd{l:Expr}{tl:TE}(hl:PE X l tl):PI X tg l (S8 tl):=by
 intro B s Z H R i h;refine kP (hl B s Z H _ i h) λv s1 ⟨x,y,j,r1,u⟩=>?_;obtain⟨z,e,E,q⟩:=u;subst e;obtain⟨t,rfl⟩:=r1;refine wpAny_pyIter_ascii E ?_;refine⟨s1.heap.objs.size,[s1.heap.objs.size],_,_,y,rfl,j.kept (t':=s1.toks) λb o e=>r_ _ e,Cd z t _,⟨_,CL _ rfl,rfl,rfl⟩,λb C=>?_,q⟩;have e:b=s1.heap.objs.size:=by simpa using C
 subst e;exact j.fpOk (mh _) (j.hok.fresh (mh _))
end
end L2
namespace L2
open PySem.Spec PyProof.Rows PySem.Builtin PySem.Builtin.Str
section
variable{prog:Program}{w:World}{A:Around}{E:VX}{s:Shared}{x y:Str}{t u:Tok}{Q:VX}
def BG(G:(y.length==0)=T)(B:x.length<=sizeLine)(z:(Txt.split x y).length<=sizeLine)(j:∀l k,l.map (·.1)=Txt.split x y->Q (.ref s.heap.objs.size) { s with toks:=k,heap:=s.heap.push { cls:=.type "list",data:=.seq (strValues l).toArray}}):
  wpAny (model prog w) A (call (.builtin "str.split") [.str x t,.str y u]) Q E s:=by
 cases i:(decide (x.length<y.length)||decide (strKind x<strKind y))
 .cases hf:(occurrences x y 0 x.length (x.length+1)).isEmpty
  .have C:Txt.split x y=partsBetween x (occurrences x y 0 x.length (x.length+1)) y.length:=(hF (ne_true_of_eq_false i)).trans (hF (ne_true_of_eq_false hf));refine call_meets F.slot_str_split (typeIs_str _ _ _) F.entry_str_split (F.args_str_split_2 _ _) (meets_str_split_sep x y t u i G hf B (C▸z)) ?_;show wants Q E _ { s with toks:=_,heap:=s.heap.push { cls:=.type "list",data:=.seq (strsFrom s.toks (partsBetween x (occurrences x y 0 x.length (x.length+1)) y.length)).toArray}};rw[strsFrom_eq];exact j (numbered s.toks _) _ ((numbered_texts _ _).trans C.symm)
  .exact call_meets F.slot_str_split (typeIs_str _ _ _) F.entry_str_split (F.args_str_split_2 _ _) (meets_str_split_not_found x y t u i G hf)
    (j [(x,t)] s.toks ((hF (ne_true_of_eq_false i)).trans (eT hf)).symm)
 .exact call_meets F.slot_str_split (typeIs_str _ _ _) F.entry_str_split (F.args_str_split_2 _ _) (meets_str_split_cannot_occur x y t u i)
   (j [(x,t)] s.toks (eT i).symm)
def gI(H:(y.length==0)=T)(l:x.length<=sizeLine)(B:∀C z G k,Q (.ref s.heap.objs.size) { s with toks:=k,heap:=s.heap.push { cls:=.type "tuple",data:=.seq [.str (Txt.partition x y).1 C,.str (Txt.partition x y).2.1 z,.str (Txt.partition x y).2.2 G].toArray}}):
  wpAny (model prog w) A (call (.builtin "str.partition") [.str x t,.str y u]) Q E s:=by
 refine call_meets F.slot_str_partition (typeIs_str _ _ _) F.entry_str_partition (F.args_str_partition_2 _ _) (meets_str_partition x y t u H l) ?_;have j:=B;unfold Txt.partition at j;revert j
 cases occurrences x y 0 x.length 1 with
 |nil=>intro j;exact j _ _ _ _
 |cons i r=>intro j;exact j _ _ _ _
end
def tJ:∀(l:List (Str×Tok)),aV (l.map λp=>V.str p.1) (strValues l)
 |[]=>.nil
 |p::l=>.cons ⟨_,rfl⟩ (tJ l)
end L2
namespace MM
open PySem.Spec PyProof.Rows L2
section
variable{X:Cx}
def qv{K:hW}{U:VQ}{H:Hp}:∀(l:VL),RPs K U H (l.map PV.str) (l.map V.str)
 |[]=>.nil
 |p::l=>.cons (.str p) (qv l)
def uZ(z:Str)(xs:UZ)(h:MH):VW:=match xs with
 |[.str y]=>if(y.length==0)=T/\z.length<=sizeLine/\(Txt.split z y).length<=sizeLine then .ok (.loc h.length) (h++[.lst ((Txt.split z y).map .str)])else .bad
 |_=>.bad
def mL(z:Str)(xs:UZ)(h:MH):VW:=match xs with
 |[.str y]=>if(y.length==0)=T/\z.length<=sizeLine then .ok (.tup [.str (Txt.partition z y).1,.str (Txt.partition z y).2.1,.str (Txt.partition z y).2.2]) h else .bad
 |_=>.bad
def pz(z:Str)(xs:UZ)(h:MH):VW:=match xs with
 |[.str y]=>.ok (.bl (Txt.startswith z y)) h
 |_=>.bad
def AU:DR X "str.split" (JD X uZ):=by
 intro S s Z H x vs v us Q i P E ⟨U,h,z,ps,e,B,rp,q⟩;subst e;obtain⟨t,rfl⟩:=P
 cases rp with
 |nil=>exact q.elim
 |cons r1 M =>
  cases M with
  |cons _ _=>cases r1<;>exact q.elim
  |nil =>
   cases r1 with
   |str y =>
    obtain⟨u,rfl,C⟩:=E.one;obtain⟨t2,rfl⟩:=C;dsimp only[uZ]at q
    split at q
    .rename_i j
     refine BG j.1 j.2.1 j.2.2 λl k R=>?_;have L:(Txt.split z y).map V.str=l.map λp=>V.str p.1:=by rw[<-R,CY];rfl
     refine⟨.ref s.heap.objs.size,upd H s.heap.objs.size (.lst ((Txt.split z y).map V.str)),i.laid (t':=k) (λb W q=>r_ _ q) (mh _) ⟨by rw[CM];exact j.2.2,_,0,L▸tJ l,CL _ rfl⟩,rfl,?_⟩;obtain⟨G,F⟩:=B.new (i.hok.fresh (mh _)) (o:=.lst ((Txt.split z y).map .str)) ⟨_,rfl,qv _⟩;exact q _ _ _ F G (.loc (by rw[<-B.len];simp))
    .exact q.elim
   |_=>exact q.elim
def uF:DR X "str.partition" (JD X mL):=by
 intro R s Z H x vs v us Q i L B ⟨U,h,z,ps,e,G,rp,q⟩;subst e;obtain⟨t,rfl⟩:=L
 cases rp with
 |nil=>exact q.elim
 |cons r1 F =>
  cases F with
  |cons _ _=>cases r1<;>exact q.elim
  |nil =>
   cases r1 with
   |str y =>
    obtain⟨u,rfl,l⟩:=B.one;obtain⟨W,rfl⟩:=l;dsimp only[mL]at q
    split at q
    .rename_i j
     refine gI j.1 j.2 λta P M k=>?_;refine⟨.ref s.heap.objs.size,upd H s.heap.objs.size (.tup ([(Txt.partition z y).1,(Txt.partition z y).2.1,(Txt.partition z y).2.2].map V.str)),i.laid (t':=k) (λb S q=>r_ _ q) (mh _) ⟨(show 3<=sizeLine by decide),_,.cons ⟨_,rfl⟩ (.cons ⟨_,rfl⟩ (.cons ⟨_,rfl⟩ .nil)),jc.new _ _⟩,rfl,?_⟩;obtain⟨E,C⟩:=G.tup (i.hok.fresh (mh _)) ([(Txt.partition z y).1,(Txt.partition z y).2.1,(Txt.partition z y).2.2].map V.str);exact q _ _ _ C E (.tup (SqT.of ba) (qv [_,_,_]))
    .exact q.elim
   |_=>exact q.elim
def t6:DR X "str.startswith" (JD X pz):=by
 intro F s Z H x L v M Q i E l ⟨U,h,z,ps,e,C,rp,q⟩;subst e;obtain⟨t,rfl⟩:=E
 cases rp with
 |nil=>exact q.elim
 |cons r1 B =>
  cases B with
  |cons _ _=>cases r1<;>exact q.elim
  |nil =>
   cases r1 with
   |str y =>
    obtain⟨u,rfl,j⟩:=l.one;obtain⟨G,rfl⟩:=j;exact SC.startswith ⟨.bl _,H,i,rfl,q U H _ (Le.refl _ _) C (.bl _)⟩
   |_=>exact q.elim
def CK(xs:UZ)(h:MH):VW:=match xs with
 |[.str z]=>(match PySem.intText? z with
  |some n=>if z.length<=640 then .ok (.int n) h else .bad
  |none=>.bad)
 |_=>xc xs h
def FS:dL X (.type "int") CK:=by
 intro C s Z H xs F Q i r ⟨U,h,ps,l,rp,q⟩;by_cases z:∃y,ps=[.str y]
 .obtain⟨y,rfl⟩:=z
  cases rp with
  |cons r1 E =>
   cases E;cases r1;obtain⟨u,rfl,B⟩:=fZ r;obtain⟨G,rfl⟩:=B;dsimp only[CK]at q
   cases j:PySem.intText? y with
   |none=>rw[j]at q;exact q.elim
   |some n =>
    rw[j]at q;dsimp only at q
    split at q
    .rename_i hl
     exact PySem.W.KIN.call_text j hl ⟨.int n,H,i.tok _,⟨_,rfl⟩,q U H _ (Le.refl _ _) l (.int _)⟩
    .exact q.elim
 .refine Ai C s Z H xs F Q i r ⟨U,h,ps,l,rp,?_⟩
  have:CK ps h=xc ps h:=by
   unfold CK;split
   .exact absurd ⟨_,rfl⟩ z
   .rfl
  rw[this]at q;exact q
def Hu(i:Bool)(x y:PV)(h:MH):VW:=match x,y with
 |.str a,.str b=>.ok (.bl (if i then !(!(PySem.Builtin.Str.occurrences b a 0 b.length 1).isEmpty)else !(PySem.Builtin.Str.occurrences b a 0 b.length 1).isEmpty)) h
 |_,_=>.bad
def zB(i:Bool):Cp X (compareOp (if i then .NotIn else .In)) (Hu i):=by
 intro L s Z H F G u v Q j z l ⟨U,h,x,y,C,E,B,q⟩
 cases E with
 |str a =>
  cases B with
  |str b =>
   obtain⟨t,rfl⟩:=z;obtain⟨M,rfl⟩:=l
   cases i with
   |false=>exact in_str ⟨.bl _,H,j,rfl,q U H _ (Le.refl _ _) C (.bl _)⟩
   |true=>exact notIn_str ⟨.bl _,H,j,rfl,q U H _ (Le.refl _ _) C (.bl _)⟩
  |_=>exact q.elim
 |_=>cases B<;>exact q.elim
def OB(m:Mx PV):Mx MIt:=λZ h=>(m Z h).bind λv i=>match v with
 |.str z=>if z.cps.all (·<128)=I then .ok ⟨z.cps.toList.map λc=>.str ⟨#[c]⟩,[]⟩ i else .bad
 |_=>.bad
def Ke{R l:Expr}{m:Mx PV}(hl:ME X l m):MI X R l (OB m) :=
 PI.imp (Kd hl) λZ H Q ⟨U,y,h,rs,M,q⟩=>⟨U,y,h,rs,M,Ful.bind q λW G x E h1 _ l1 C S j=>by
  cases S with
  |str z =>
   dsimp only at j
   split at j
   .rename_i ha
    refine⟨z,rfl,ha,j W G _ (Le.refl _ _) C ?_⟩;intro P H' h' i l B ok;refine⟨λu=>?_,λu=>?_⟩
    .have u:i<z.cps.size:=by simpa using u
     refine⟨u,λE H2 ⟨e,c,F,L⟩=>?_⟩;subst e L;exact⟨P,.str ⟨#[c]⟩,Le.refl _ _,B,by simp[F],.str _⟩
    .show z.cps.size<=i;simpa using u
   .exact j.elim
  |_=>exact j.elim⟩
def qm(x:PV)(lo i:VU)(h:MH):VW:=match x with
 |.str z=>if z.length<=sizeLine then .ok (.str (Txt.slice z lo i)) h else .bad
 |_=>Fd x lo i h
def Kf:My X (TX X qm):=by
 intro NN s Z H W v G S lo C sl Q j R M E P ⟨U,h,x,L,B,q⟩;by_cases z:∃y,x=.str y
 .obtain⟨y,rfl⟩:=z;cases B;obtain⟨t,rfl⟩:=R;dsimp only[qm]at q
  split at q
  .rename_i hz
   have el:∃l:Option (Int×Tok),G=partValue l/\l.map (·.1)=lo:=by
    cases E with
    |none=>exact⟨Y,rfl,rfl⟩
    |int i t=>exact⟨J (i,t),rfl,rfl⟩
   have eu:∃l:Option (Int×Tok),S=partValue l/\l.map (·.1)=C:=by
    cases P with
    |none=>exact⟨Y,rfl,rfl⟩
    |int i t=>exact⟨J (i,t),rfl,rfl⟩
   obtain⟨l,rfl,rfl⟩:=el;obtain⟨u,rfl,rfl⟩:=eu
   refine⟨"str",_,F.slot_str_getitem.lookup,typeIs_str _ _ _,wpAny_getItem_str_slice (l:=l) (u:=u) (st:=Y) M rfl
    (post_val_or_str ⟨wy (Txt.slice_le y _ _) hz,λt' k=>⟨.str _,H,j.tok k,⟨_,rfl⟩,q U H _ (Le.refl _ _) L (.str _)⟩⟩)⟩
  .exact q.elim
 .refine He NN s Z H W v G S lo C sl Q j R M E P ⟨U,h,x,L,B,?_⟩
  have:qm x lo C h=Fd x lo C h:=by
   unfold qm;split
   .exact absurd ⟨_,rfl⟩ z
   .rfl
  rw[this]at q;exact q
def OC(m:Mx PV)(l z:Mx (VU)):Mx PV:=λZ h=>(m Z h).bind λx j=>(l Z j).bind λlo u=>(z Z u).bind λy i=>(qm x lo y i).ne
def Kg{e:Expr}{lo j:Option Expr}{m:Mx PV}{G F:Mx (VU)}{p2 l:Pos}(W:ME X e m)(hl:MO' X lo G)(hu:MO' X j F):ME X (.Subscript e (.Slice lo j Y p2) l) (OC m G F) :=
 PE.imp (vS Kf W hl hu) λZ H Q ⟨U,i,h,B,rh,q⟩=>⟨U,i,h,B,rh,Ful.bind q λU1 H1 x x' h1 _ C y rx L=>⟨U1,i,h1,B.le C,y,Ful.bind L λU2 H2 lo ab M _ E u el P=>by
  subst el
  exact⟨U2,i,M,B.le (C.trans E),u,Ful.bind P λS H3 j aa h3 _ l3 z R q3=>by
   subst R
   exact⟨S,h3,x,z,(rx.le E).le l3,q3.zero⟩⟩⟩⟩
end
end MM
namespace L2
open PySem.Spec PyProof.Rows
variable{X:Cx}
def Kh{a:Expr}{l:TE}(G:PE X a l)(B:∀i,isTrue a X.env i=(do let v <-i;standAt a.pos;holding [v] (truthy v))):
  PT X a (λZ H Q=>l Z H λx C=>∃z:Str,x=.str z/\z.length<=sizeLine/\Q ((z.length:Int) != 0) C):=by
 intro E s Z H Q j h;refine isTrue_plain (kP (G E s Z H _ j h) λv s1 ⟨x,y,F,r1,u⟩=>?_) (B _);obtain⟨z,rfl,L,q⟩:=u;obtain⟨t,rfl⟩:=r1;have M:sizeLine<2^63:=by decide
 exact PySem.P.truthy_str (by ext) ⟨y,F.tok _,q⟩
end L2
namespace MM
open PySem.Spec PyProof.Rows L2
variable{X:Cx}
def OD(m:Mx PV):Mx Bool:=λZ h=>(m Z h).bind λv i=>match v with
 |.str z=>if z.length<=sizeLine then .ok ((z.length:Int) != 0) i else .bad
 |_=>.bad
def Ki{e:Expr}{m:Mx PV}(h:ME X e m)(B:∀i,isTrue e X.env i=(do let v <-i;standAt e.pos;holding [v] (truthy v)):=by intro _;rfl):MT X e (OD m):=by
 refine PT.imp (Kh h B) λZ H Q ⟨U,l,h,L,C,q⟩=>⟨U,l,h,L,C,Ful.bind q λG y x M R _ P u F j=>?_⟩
 cases F with
 |str z =>
  dsimp only at j
  split at j
  .rename_i E
   exact⟨z,rfl,E,j G y _ (Le.refl _ _) u rfl⟩
  .exact j.elim
 |_=>exact j.elim
end MM
namespace PU
open MM SetT SortT
open L2 (xS i_ gB)
noncomputable section
def oO:∀(l:VL),Rps q h O (l.map D.str) (l.map PV.str)
 |[]=>rfl
 |x::l=>⟨_,_,rfl,rfl,oO l⟩
def lT:Hl where
 f:=uZ
 p:=λz i=>match i with
  |[.str y]=>if(y.length==0)=T/\z.length<=sizeLine/\(Txt.split z y).length<=sizeLine then J (.lst ((Txt.split z y).map .str))else Y
  |_=>Y
 fr:=I
 ok {q h L O z i xs d} bd w e:=by
  match i,e with
  |[.str y],e =>
   dsimp only at e;by_cases j:(y.length==0)=T/\z.length<=sizeLine/\(Txt.split z y).length<=sizeLine
   .rw[eT j]at e;cases e;obtain⟨x,rfl,a⟩:=de w;rw[a.str];show Gv q h O I (if _ then _ else _) _;rw[eT j];exact UK bd λh O=>oO _
   .rw[hF j]at e;cases e
def mA:Hl where
 f:=mL
 p:=λz i=>match i with
  |[.str y]=>if(y.length==0)=T/\z.length<=sizeLine then J (.tup [.str (Txt.partition z y).1,.str (Txt.partition z y).2.1,.str (Txt.partition z y).2.2])else Y
  |_=>Y
 fr:=I
 ok {q h L O z i xs d} bd w e:=by
  match i,e with
  |[.str y],e =>
   dsimp only at e;by_cases j:(y.length==0)=T/\z.length<=sizeLine
   .rw[eT j]at e;cases e;obtain⟨x,rfl,a⟩:=de w;rw[a.str];show Gv q h O I (if _ then _ else _) _;rw[eT j];exact Dj ⟨_,rfl,oO [_,_,_]⟩ λ_ k _ e=>by cases k<;>cases e
   .rw[hF j]at e;cases e
def m_:Hl where
 f:=pz
 p:=λz i=>match i with
  |[.str y]=>J (.bl (Txt.startswith z y))
  |_=>Y
 fr:=I
 ok {q h L O z i xs d} bd w e:=by
  match i,e with
  |[.str y],e =>
   cases e;obtain⟨x,rfl,a⟩:=de w;rw[a.str];exact wh
def ko:C9 where
 k:=λxs h=>(CK xs h).ne
 p:=λj=>match j with
  |[.str z]=>(match PySem.intText? z with
   |some n=>if z.length<=640 then J (.int n)else Y
   |none=>Y)
  |[.int i]=>J (.int i)
  |[.bl b]=>J (.int (if b then 1 else 0))
  |_=>Y
 fr:=I
 ok {q h L O j xs d} bd w e:=by
  match j,e with
  |[.int i],e=>cases e;obtain⟨x,rfl,a⟩:=de w;rw[a.int];exact CQ
  |[.bl i],e=>cases e;obtain⟨x,rfl,a⟩:=de w;rw[a.bl];exact CQ
  |[.str z],e =>
   dsimp only at e;obtain⟨x,rfl,a⟩:=de w;rw[a.str];dsimp only[CK]
   cases l:PySem.intText? z with
   |none=>rw[l]at e;cases e
   |some n =>
    rw[l]at e;dsimp only at e ⊢;by_cases hl:z.length<=640
    .rw[eT hl]at e ⊢;cases e;exact CQ
    .rw[hF hl]at e;cases e
def kO(i:Bool):A_ where
 m:=Hu i
 p:=λa b=>match a,b with
  |.str a,.str b=>J (.bl (if i then !(!(PySem.Builtin.Str.occurrences b a 0 b.length 1).isEmpty)else !(PySem.Builtin.Str.occurrences b a 0 b.length 1).isEmpty))
  |_,_=>Y
 fr:=I
 ok {q h L O a x b y d} bd wa wb e:=by
  cases a with
  |str u =>
   cases b with
   |str v =>
    cases e;rw[wa.str,wb.str];exact wh
   |_=>cases e
  |_=>cases e
section
variable{ws:VN}
def OE:D->Option (VP)
 |.str z=>if z.cps.all (·<128)=I then J (z.cps.toList.map λc=>.str ⟨#[c]⟩)else Y
 |_=>Y
def ss(a:Xe ws):Xi ws where
 m:=OB a.m
 p:=λenv s=>(a.p env s).bind λx s1=>.of (OE x) s1
 fz:=a.fz
 ok {q h L B O Z env s} c:=by
  refine(a.ok c).bind λx v l s1 C u ⟨w,z,_⟩=>?_
  cases x with
  |str y =>
   rw[w.str];dsimp only[OE];by_cases i:y.cps.all (·<128)=I
   .rw[eT i,eT i];have r:=oO (q:=q) (h:=l) (O:=O) (y.cps.toList.map λc=>(⟨#[c]⟩:Str));rw[CY,CY]at r;exact⟨⟨_,[]⟩,l,rfl,KB.refl _ _,u,r,(λp j=>by cases j),λf p j=>by cases j⟩
   .rw[hF i,hF i];trivial
  |_=>trivial
def qr(x:D)(l u:VU):VA:=match x with
 |.str z=>if z.length<=sizeLine then J (.str (Txt.slice z l u))else Y
 |_=>Y
def Kj(w:Vw q h L O x v)(e:qr x l u=J d):Gv q h O I (qm v l u h) d:=by
 cases x with
 |str z =>
  rw[w.str];dsimp only[qr]at e;dsimp only[qm];by_cases i:z.length<=sizeLine
  .rw[eT i]at e ⊢;cases e;exact Dj rfl λ_ k _ e=>by cases k<;>cases e
  .rw[hF i]at e;cases e
 |_=>cases e
def FT(a:Xe ws)(lo j:Xo ws):Xe ws where
 m:=OC a.m lo.m j.m
 p:=λenv s=>(a.p env s).bind λx s=>(lo.p env s).bind λl s=>(j.p env s).bind λu s=>.of (qr x l u) s
 fz:=I
 fr:=I
 ok {q h L B O Z env s} c:=by
  refine(a.ok c).bind λx v S s1 C M ⟨w,_,_⟩=>?_;have E:=c.kb C M;refine(lo.ok E).bind λl R Q s2 z P e=>?_;subst e;have F:=E.kb z P;refine(j.ok F).bind λu U W X i G e=>?_;subst e;have c3:=F.kb i G
  cases e:qr x l u with
  |none=>trivial
  |some d =>
   obtain⟨y,g,e1,r,H⟩:=Kj ((w.kb z c.pO c.pL).kb i c.pO c.pL) e;exact C3 (wy (wy C.len z.len) i.len) G ⟨y,g,by rw[e1];rfl,r,H⟩
def sv:D->Option Bool
 |.str z=>if z.length<=sizeLine then J ((z.length:Int) != 0)else Y
 |_=>Y
def qh(a:Xe ws):Xt ws where
 m:=OD a.m
 p:=λenv s=>(a.p env s).bind λd s=>.of (sv d) s
 ok {q h L B O Z env s} c:=by
  refine(a.ok c).bind λx v j s1 u l ⟨w,_,_⟩=>?_
  cases x with
  |str z =>
   rw[w.str];dsimp only[sv];by_cases i:z.length<=sizeLine
   .rw[eT i,eT i];exact⟨_,j,rfl,KB.refl _ _,l,rfl⟩
   .rw[hF i,hF i];trivial
  |_=>trivial
variable{env:aN}{s:f_}
@[simp]theorem zn{a:Xe ws}:(ss a).p env s=(a.p env s).bind λx s1=>.of (OE x) s1:=rfl
@[simp]theorem AC{a:Xe ws}{lo hi:Xo ws}:(FT a lo hi).p env s=(a.p env s).bind λx s=>(lo.p env s).bind λl s=>(hi.p env s).bind λu s=>.of (qr x l u) s:=rfl
@[simp]theorem nI{a:Xe ws}:(qh a).p env s=(a.p env s).bind λd s=>.of (sv d) s:=rfl
end
end
end PU
namespace MM
open PySem.Spec PyProof.Rows L2
open PU (Xe Xs Xt Xi Xo Hl nz xC tx ss FT qh)
section
variable{X:Cx}{P:Program}{w:World}{K:hW}{mg:VZ}{base:Heap}{N W:VL}{k:Nat}{sc:Scope}{ws:VN}{x name:Str}{p pos:Pos}{a e tg:Expr}{es:VV}{xa:Xe ws}{sa:Xs ws}{f:Str->UZ->MH->VW}
def Kk{K:hW}{x i:Str}{t:Tok}(h:PySem.W.nsIn K mainGlobals x=J (J (.str i t))):∃t,PySem.W.nsIn K mainGlobals x=J (J (.str i t)):=⟨t,h⟩
structure SJ(X:Cx)(name:Str)(f:Str->UZ->MH->VW):Prop where
 h:∃id,Slot "str" name id/\typeOf (.builtin id)=pure (.type "method_descriptor")/\DR X id (JD X f)
def Kl:SJ X "join" PU.h8.f:=⟨_,PySem.F.slot_str_join,PySem.F.type_str_join,Fo⟩
def FU:SJ X "zfill" PU.Dk.f:=⟨_,PySem.F.slot_str_zfill,PySem.F.type_str_zfill,Ci⟩
def FV:SJ X "split" PU.lT.f:=⟨_,PySem.F.slot_str_split,PySem.F.type_str_split,AU⟩
def v7:SJ X "partition" PU.mA.f:=⟨_,PySem.F.slot_str_partition,PySem.F.type_str_partition,uF⟩
def uj:SJ X "startswith" PU.m_.f:=⟨_,PySem.F.slot_str_startswith,PySem.F.type_str_startswith,t6⟩
def S9{o:Hl}(M:SJ X name o.f)(i:j_ X a xa.m)(j:CJ X (e::es) sa.m)(h:(((backTo pos (starEach (e::es) X.env)).all (λx=>!x.1)&&(backToKw pos (keywordEach [] X.env)).all (λx=>x.1.isSome)&&decide ((e::es).length+([]:List Keyword).length+(if([]:List Keyword).isEmpty then 0 else 1)<30))=I/\(p.endLine==pos.line)=I)/\attributeBase a name X.env (eval a X.env)=eval a X.env/\starEach (e::es) X.env=(T,eval e X.env)::starEach es X.env/\(backTo pos (starEach es X.env)).any (·.1)=T):j_ X (.Call (.Attribute a name p) (e::es) [] pos) (tx o xa sa).m :=
 let⟨_,x,y,z⟩:=M.h
 ⟨Nw x y z i.h j.h h.2.1 h.1.1 h.1.2 h.2.2.1 h.2.2.2⟩
def S_{c:Str}{j:Nat}{i l:Pos}(h:j_ X e xa.m):j_ X (.JoinedStr [.FormattedValue e (-1) Y i,.Constant (.str c) j l] pos) (nz (PU.JP c) xa).m:=⟨Nx h.h⟩
def OF(h:j_ X a xa.m):Ho X tg a (ss xa).m:=⟨Ke h.h⟩
def OG{lo i:Option Expr}{l j:Xo ws}(y:j_ X a xa.m)(hl:LS X lo l.m)(u:LS X i j.m):j_ X (.Subscript a (.Slice lo i Y p) pos) (FT xa l j).m:=⟨Kg y.h hl.h u.h⟩
def OH(h:j_ X e xa.m)(j:∀i,isTrue e X.env i=(do let v <-i;standAt e.pos;holding [v] (truthy v))):Dv X e (qh xa).m:=⟨Ki h.h j⟩
def OI:OJ X (compareOp .In) (PU.kO T):=⟨zB T⟩
def Km:OJ X (binaryOp .Add) PU.ao:=⟨fu⟩
def Kn:BB X "int" PU.ko:=.ty _ _ vX FS
variable(c:Wc X P w K mg base N W k sc)
include c
def OK{i:Str}(v:∃t,PySem.W.nsIn K mainGlobals x=J (J (.str i t)))(j:gm sc x):j_ X (.Name x pos) (xC (ws:=ws) (.str i)).m :=
 let⟨_,l⟩:=c.gj j
 ⟨JA c.g l (let⟨t,z⟩:=v;⟨t,by rw[c.e.e4];exact PySem.W.mg_of c.e.b.kin c.e.b.ns z⟩)⟩
end
end MM
namespace MM
open PySem.Spec PyProof.Rows L2
def kT(e C d:Addr)(h:Heap):Prop:=∃t,h.get? e=J (FR C t (J d))
def FW{P:Program}{w:World}{H:Hp}{h:Heap}{e C t d:Addr}(i:h.get? e=J (FR C t (J d))):ObjOk P w H h e (.ext (kT e C d)) :=
 ⟨⟨t,i⟩,⟨_,i⟩,λj l ⟨t,z⟩ k=>⟨t,k _ z⟩⟩
def OL{P:Program}{w:World}{H:Hp}{h:Heap}{d:Addr}{f:Str}{i:Int}(n:FD d f i h):ObjOk P w H h d (.ext (FD d f i)):=by
 refine⟨n,?_,λy B ⟨t,z⟩ k=>⟨t,?_⟩⟩
 .obtain⟨t,o,l,u,j,r⟩:=n;exact⟨o,j⟩
 .obtain⟨o,l,u,j,r⟩:=z;exact⟨o,l,u,k _ j,r⟩
section
variable{X:Cx}{x fx fld:Str}{C F fI:Addr}{o value e:Expr}{ta tv te:TE}{p pos pos' p1 p2 p3:Pos}{c1 c2:Str}{j1 j2:Nat}
def Av(EI:CT X.K X.mg x C F fI fld)(W:X.ex=[])(ha:PE X o ta)(hv:PE X value tv)(hs:swapsWith value (J (.Attribute o fld pos')) pos.line X.env=pure T):
  PS X (.Assign [.Attribute o fld pos'] value pos) (λD Z H=>tv Z H λy P=>ta Z P λx E=>∃e i,x=.ref e/\y=.int i/\E e=J (.ext (gr e C))/\∀d,E d=Y->d≠e->D.nx Z (upd (upd E e (.ext (kT e C d))) d (.ext (FD d fld i)))):=by
 intro Q s Z H D S h;refine plainObj_wpAny_Assign_Attribute (kP (hv Q s Z H _ S h) λu s1 ⟨y,P,I1,ry,q⟩=>kP (ha Q s1 Z P _ I1 q) λov s2 ⟨x,E,l,rx,e,i,ex,ey,hH,q2⟩=>?_) hs;subst ex ey;obtain rfl:=rx;obtain⟨tu,rfl⟩:=ry;obtain⟨⟨t0,M⟩,_,_⟩:=(l.hok e _ hH);obtain⟨nm,qn,N,bs,sn,sub,ab,aa,dd,k0,k1,k2,k3,k5,lC,_,_⟩:=EI.lk;refine FQ l.kIn M rfl rfl rfl EI.sa (by unfold PySem.W.clsIn;rw[lC]) rfl rfl EI.tk λh' R j kp G B ns=>?_;have ne:j≠e:=λz=>by rw[z,M]at B;cases B
 have a1:E j=Y:=by
  cases z:E j with
  |none=>rfl
  |some o=>obtain⟨u,eu⟩:=(l.hok j o z).has;rw[B]at eu;cases eu
 have a2:X.s₀.heap.get? j=Y:=by
  cases z:X.s₀.heap.get? j with
  |none=>rfl
  |some o=>obtain⟨o',G⟩:=l.base.there j o z (by rw[W];simp);rw[B]at G;cases G
 have a3:j≠X.env.locals:=λz=>by
  obtain⟨m',⟨o,_,_,L,_⟩,_⟩:=l.loc;rw[<-z,B]at L;cases L
 have a4:∀z c,X.env.cells.lookup z=J c->c≠j:=λz c e1 e2=>by
  obtain⟨v,o,L,_⟩:=l.cell z c e1;rw[e2,B]at L;cases L
 have a5:∀p∈X.pn++Q,p.1≠j:=λp U e2=>by
  have:=(l.pin p U).1
  rw[e2,B]at this;cases this
 have I3:=l.write (t':=R) (o:=.ext (kT e C j)) (by rw[hH];trivial) (.inl rfl) kp ⟨_,G⟩ (FW G);have I4:=Inv.track (φ:=FD j fld i) I3 (by rw[aJ ne];exact a1) a2 a3 a4 a5 (OL ⟨tu,ns⟩);exact⟨Z,_,I4,q2 j a1 ne⟩
end
def tP(C:Addr)(B u fld:Str):TS:=Er (G1 λZ H Q=>yq (vh 0) (yq (λZ H Q=>vh 1 Z H λx j=>∃i,x=.int i/\iI B u i/\Q (.str (Str.empty++B++(toString i:Str)++u)) j) Mu) Z H λE j=>∃e z,E=[.ref e,.str z]/\j e=J (.ext (gr e C))/\Q .non j)
 (λD Z H=>vh 1 Z H λy j=>vh 0 Z j λx l=>∃e i,x=.ref e/\y=.int i/\l e=J (.ext (gr e C))/\∀d,l d=Y->d≠e->D.nx Z (upd (upd l e (.ext (kT e C d))) d (.ext (FD d fld i))))
def QD(C:Addr)(u l fld:Str):Sp:=λj H Q E=>∃e i,j=[.ref e,.int i]/\H e=J (.ext (gr e C))/\iI u l i/\∀d,H d=Y->d≠e->Q .non (upd (upd H e (.ext (kT e C d))) d (.ext (FD d fld i)))
def Ko{C e:Addr}{u j fld E B:Str}{i:Int}{H:Hp}{Q:VK}(l:H e=J (.ext (gr e C)))(z:iI u j i)(q:∀d,H d=Y->d≠e->Q .non (upd (upd H e (.ext (kT e C d))) d (.ext (FD d fld i)))):tP C u j fld { nx:=λ_ y=>Q .non y,rt:=Q} (start [E,B] [.ref e,.int i]) H :=
 ⟨.ref e,rfl,.int i,rfl,i,rfl,z,e,_,rfl,l,.int i,rfl,.ref e,rfl,e,i,rfl,rfl,l,q⟩
def Bc{P:Program}{w:World}{K:hW}{mg:VZ}{base:Heap}{j:Str}{st:Stmt}{f:Addr}{fd:FuncData}{k:Nat}{C:Addr}{y z fld u l:Str}(B:Fun K "__init__" j st f fd)(S:p_ [u,l] [u,l] (aE st))(G:∀X:Cx,X.K=K->X.mg=mg->X.env.scope=aE st->X.N=[u,l]->X.ex=[]->PSs X (aT st) (tP C y z fld)):FnOk P w K mg base LC (k+1) f fd [u,l] (QD C y z fld):=by
 refine B.ok S (λL H Q E ⟨e,i,h,_⟩=>by rw[h];rfl) λF A outer s H L Q E hr ⟨e,i,h,R,M,q⟩=>?_;subst h;exact⟨_,G _ rfl rfl rfl rfl rfl,Ko R M q⟩
def RH.ext{K:hW}{mg:CC}{U:VQ}{H:Hp}{h:MH}(r:RH K mg U H h){p:Addr}(j:H p=Y)(φ:Heap->Prop):RH K mg U (upd H p (.ext φ)) h/\Le U H U (upd H p (.ext φ)):=by
 have i:∀n a,U[n]?=J a->a≠p:=λn a e z=>by
  obtain⟨B,_,q⟩:=r.obj e;rw[z,j]at q;exact q.some rfl
 have l:Le U H U (upd H p (.ext φ)):=⟨⟨[],by simp⟩,λa xs e=>by rw[aJ (bP e j)];exact e,λa y u e=>by rw[aJ (bP e j)];exact e⟩;exact⟨⟨r.len,r.nd,λn a o e1 e2=>by rw[aJ (i n a e1)];exact(r.at' n a o e1 e2).le l⟩,l⟩
def xv(x u l fld:Str)(m:Mx (UZ)):oh:=CD m λj Z h=>match j with
 |[.int i]=>if iI u l i then .rse ⟨x,[(fld,.int i)]⟩ Z h else .bad
 |_=>.bad
section
variable{X:Cx}{N W G:VL}{k:Nat}{x fld sf pl c1 c2:Str}{C F fI:Addr}{fd:FuncData}
def Aj(g:Good X N W G (k+1)){j:Nat}(hj:G[j]?=J x)(EI:CT X.K X.mg x C F fI fld)(FO:FnOk X.prog X.w X.K X.mg X.base LC k fI fd [sf,pl] (QD C c1 c2 fld))(hb:lU X.K fd [sf,pl] []){oI:Obj}(hf:X.K.lookup fI=J oI)(ax:oI.cls=.type "function")(dc:h_ X){e:Expr}{m:Mx (UZ)}{np R b0:Pos}(ha:MA X [e] m)(he:starEach [e] X.env=[(T,eval e X.env)]):MS X (.Raise (J (.Call (.Name x np) [e] [] R)) Y b0) (xv x c1 c2 fld m):=by
 intro NN s Z H D S ⟨U,ak,h,rs,rh,q⟩;have d:=g.dbg x (se _ (aP hj));obtain⟨nm,qn,N',bs,sn,sub,ab,a9,dd,k0,k1,k2,k3,k5,lC,as,HB⟩:=EI.lk;refine wg (C:=C) (nm:=nm) (qn:=qn) (N:=N') (bs:=bs) (bm:=.ref F::je) (hd:=I) (sn:=sn) (sub:=sub) (ab:=ab) (col:=a9) (dd:=dd) (k0:=k0) (k1:=k1) (k2:=k2) (k3:=k3) (k5:=k5) (nid:="ValueError.__new__") rfl (S.ok.hd g.calm) (by rw[he];rfl) (oZ S (g.gl x (aP hj)) EI.bd ⟨rfl,?_⟩ d.1)
 have A:=ha R NN s Z H (λvs L=>∃Q xs h1,Le U H Q L/\RH X.K X.mg Q L h1/\RPs X.K Q L xs vs/\bO X Q L (match xs with
   |[.int i]=>if iI c1 c2 i then .rse ⟨x,[(fld,.int i)]⟩ ak h1 else .bad
   |_=>.bad) D) S ⟨U,ak,h,rs,rh,bO.ex q λQ L v v' h1 l r z w=>⟨Q,v,h1,l,r,z,w⟩⟩
 rw[he]at A ⊢;refine Calls.evalArgs_plain (wpAny_mono A (λus s2 ⟨vs,L,M,rv,Q,xs,h1,l1,a6,rx,w⟩=>?_) λ_ _ y=>y);refine⟨rfl,M.kIn _ _ lC,?_⟩
 cases rx with
 |nil=>exact w.elim
 |cons r1 t1 =>
  cases r1 with
  |int i =>
   cases t1 with
   |cons _ _=>exact w.elim
   |nil =>
    dsimp only at w;by_cases hz:iI c1 c2 i
    .rw[eT hz]at w;obtain⟨u,rfl,tu,rfl⟩:=rv.one;have n2:=Heap.Ns.of_isNs (PySem.W.isNs_of_in M.kIn as);have b3:=M.kIn;have T2:=PySem.W.tail_of_in M.kIn EI.tl;have bt:=M.kIn _ _ lC;have bw:=M.kIn _ _ hf;have ay:=Kc M.kIn n2 HB;obtain⟨hp,gs,dr,tk,os⟩:=s2;refine zQ PySem.F.excBase_ValueError T2 bt n2 ay bw ax (by rw[sizeLine_eq];show 1<=_;decide) λh' B P=>?_;have en:hp.get? B=Y:=P.new;have I2:Inv X NN Z L ⟨h',gs,dr,tk,os⟩:=M.kept (t':=tk) P.keeps;have a1:L B=Y:=by
      cases z:L B with
      |none=>rfl
      |some o=>obtain⟨u,eu⟩:=(M.hok B o z).has;rw[en]at eu;cases eu
     have a2:X.s₀.heap.get? B=Y:=by
      cases z:X.s₀.heap.get? B with
      |none=>rfl
      |some o=>obtain⟨o',e'⟩:=M.base.there B o z (by rw[dc.ex];simp);rw[en]at e';cases e'
     have a3:B≠X.env.locals:=λz=>by
      obtain⟨m',⟨o,_,_,eo,_⟩,_⟩:=M.loc;rw[<-z,en]at eo;cases eo
     have a4:∀z c,X.env.cells.lookup z=J c->c≠B:=λz c e1 e2=>by
      obtain⟨v,o,eo,_⟩:=M.cell z c e1;rw[e2,en]at eo;cases eo
     have a5:∀p∈X.pn++NN,p.1≠B:=λp bp e2=>by
      have:=(M.pin p bp).1
      rw[e2,en]at this;cases this
     obtain⟨t0,a8,_,_⟩:=P.there;have I3:=Inv.track (φ:=gr B C) I2 a1 a2 a3 a4 a5 (xx ⟨t0,a8⟩);have an:=hb ⟨h',gs,dr,tk,os⟩ [.ref B,.int i tu] I3.kIn rfl;rw[HP]at an;refine wpAny_call (codeAny_mono (FO.run _ X.stack ⟨h',gs,dr,tk,os⟩ (upd L B (.ext (gr B C))) ⟨[.ref B,.int i tu],[]⟩ [.ref B,.int i tu] [.ref B,.int i] (λv H'=>v=.non/\∃d,L d=Y/\d≠B/\H'=upd (upd (upd L B (.ext (gr B C))) B (.ext (kT B C d))) d (.ext (FD d fld i))) (λ_ _ _=>False) (g.room.make _ _ _) (I3.env0.make _ _ _) an (.cons rfl (.cons ⟨_,rfl⟩ .nil)) ⟨B,i,rfl,ba,hz,λd LW ag=>⟨rfl,d,by rw[aJ ag]at LW;exact LW,ag,rfl⟩⟩) λr s' hq=>?_)
     cases r with
     |error _=>exact False.elim hq
     |ok fl =>
      cases fl with
      |ret u =>
       obtain⟨v,H',I4,a7,ev,E,hd,ap,eH⟩:=I3.after hq;subst ev eH;obtain rfl:u=Value.none:=a7;refine⟨rfl,?_⟩;have eu:upd (upd (upd L B (.ext (gr B C))) B (.ext (kT B C E))) E (.ext (FD E fld i))=upd (upd L E (.ext (FD E fld i))) B (.ext (kT B C E)):=by
        funext y;by_cases hy:y=B
        .subst hy;rw[ba,aJ (Ne.symm ap),ba]
        .by_cases ac:y=E
         .subst ac;rw[ba,aJ hy,ba]
         .rw[aJ ac,aJ hy,aJ hy,aJ hy,aJ ac]
       rw[eu]at I4;obtain⟨⟨t,aa⟩,_,_⟩:=(show ObjOk X.prog X.w _ s'.heap B (.ext (kT B C E))from I4.hok B _ ba);refine⟨B,t,J E,rfl,I4.kIn _ _ lC,aa,?_⟩;have I5:=Inv.unpinned (NN:=[]) (Inv.hide I4 (by rw[aJ (Ne.symm ap)];exact a1) a2 a3 a4 a5);obtain⟨a0,l2⟩:=a6.ext hd (FD E fld i);exact w B C Q _ Z s' (PySem.W.hideAll s'.heap [B]) (J E) (.inr ⟨fld,i,E,rfl,rfl,ba⟩) EI.bd l2 a0 ((rs.le l1).le l2) I5 ⟨λb o z=>PySem.W.of_hideAll _ z,PySem.W.hideAll_none _ (by simp),t,J E,aa⟩ λd' z=>by
        cases z;exact⟨_,(Heap.get?_some_iff.mp aa).1,rfl⟩
      |next=>exact False.elim hq
      |brk=>exact False.elim hq
      |cont=>exact False.elim hq
    .rw[hF hz]at w;exact w.elim
  |_=>exact w.elim
end
section
variable{prog:Program}{w:World}{A:Around}{E:VX}{h:Heap}{g:Array GenState}{d:Drawn}{t:Nat}{os:OsState}{a C:Addr}{o od:Obj}{K:hW}{name:Str}{v:Value}{tk:Tok}
def FX{Q:Fin->Shared->Prop}(l:K.In h)(i:PySem.W.InstAt h a o C (J od))(hf:PySem.W.findObj K C (J od) name=J (.value v))(y:Q (.done (.ret v)) ⟨h,g,d,t,os⟩):
  wpAny (model prog w) A (Builtin.«object.__getattribute__» ⟨[.ref a,.str name tk],[]⟩) Q E ⟨h,g,d,t,os⟩:=by
 have j:=i.type (M:=model prog w);have u:=PySem.W.looks_find (M:=model prog w) l i hf;unfold Builtin.«object.__getattribute__»
 repeat (any_goals (first | assumption | (with_reducible refine j.at ?_) | (with_reducible refine u.at ?_) | wp_step))
def Kp{R:Result->Shared->Prop}(F:K.In h)(q:yT K C)(j:PySem.W.InstAt h a o C (J od))(hf:PySem.W.findObj K C (J od) name=J (.value v))(H:R (.ok (.ret v)) ⟨h,g,d,t,os⟩):
  codeAny (model prog w) A (.call (.builtin "BaseException.__getattribute__") ⟨[.ref a,.str name tk],[]⟩) R ⟨h,g,d,t,os⟩:=by
 have Q:=j.at_;have G:=j.cls;have L:builtinKind "BaseException.__getattribute__"=J .slot:=by decide +kernel
 have i:splitId "BaseException.__getattribute__"=J ("BaseException","__getattribute__"):=by decide +kernel
 have S:=PySem.F.args_bexc_ga (.ref a) (.str name tk);have P:∀{y:Around} {B:VX} {l:Bool->Shared->Prop},l I ⟨h,g,d,t,os⟩->wpAny (model prog w) y (isSubtype (.ref C) (.type "BaseException")) l B ⟨h,g,d,t,os⟩:=λz=>(PySem.W.looks_mroIn (M:=model prog w) F q.mb).at z;have u:∀{y:Around} {B:VX} {l:Unit->Shared->Prop},l () ⟨h,g,d,t,os⟩->wpAny (model prog w) y (checkBuiltinCall "BaseException.__getattribute__" ⟨[.ref a,.str name tk],[]⟩) l B ⟨h,g,d,t,os⟩:=λz=>by
  simp only[checkBuiltinCall,L,i];refine ir ?_
  .unfold isInstance
   repeat (first | (with_reducible refine wpAny_loadPart_at Q ?_;rw[G]) | with_reducible refine P ?_ | wp_step)
   exact z
 exact codeAny_call_builtin PySem.F.excAttr_ValueError.ga.plain PySem.F.entry_bexc_ga (u (FX F j hf H))
def Ta{i:Bool}{Q:VX}(B:K.In h)(q:yT K C)(j:PySem.W.InstAt h a o C (J od))(hf:PySem.W.findObj K C (J od) name=J (.value v))(hv:PySem.W.handedIn v=I)(P:Q v ⟨h,g,d,t,os⟩):wpAny (model prog w) A (getAttrBy (.ref a) (.str name tk) I i) Q E ⟨h,g,d,t,os⟩:=by
 have G:=j.at_;have L:=j.cls;have W:=PySem.F.excAttr_ValueError.ga.bind (.ref a);have S:(i&&onTheHeap (Value.builtin "BaseException.__getattribute__"))=T:=by cases i<;>rfl
 have y:(Value.builtin "BaseException.__getattribute__" == Value.builtin "object.__getattribute__")=T:=by decide +kernel
 have U:(onTheHeap (Value.ref C)&&Value.builtin "BaseException.__getattribute__" == Value.builtin "object.__getattribute__")=T:=by rw[y];rfl
 have R:∀{F:Around} {u:VX} {l:VT->Shared->Prop},l (J (.builtin "BaseException.__getattribute__")) ⟨h,g,d,t,os⟩->wpAny (model prog w) F (typeLookup (.ref C) "__getattribute__") l u ⟨h,g,d,t,os⟩:=λz=>(PySem.W.looks_findIn (M:=model prog w) B q.ga).at z;have H:∀{F:Around} {u:VX} {l:VT->Shared->Prop},l Y ⟨h,g,d,t,os⟩->wpAny (model prog w) F (typeLookup (.ref C) "__getattr__") l u ⟨h,g,d,t,os⟩:=λz=>(PySem.W.looks_findIn (M:=model prog w) B q.gt).at z
 repeat (any_goals (first | assumption | (with_reducible refine wpAny_loadPart_at G ?_;rw[L]) | with_reducible refine R ?_ | with_reducible refine H ?_ | wp_step))
 refine Kp B q j hf ?_
 repeat (any_goals (first | assumption | wp_step))
 show wpAny _ _ (handedOut v) _ _ _;rw[PySem.W.handedOut_of hv];exact ph P
def Kq{i:Bool}{Q:VX}(u:K.In h)(q:yT K C)(j:PySem.W.InstAt h a o C (J od))(hf:PySem.W.findObj K C (J od) name=J (.value v))(hv:PySem.W.handedIn v=I)(l:Q v ⟨h,g,d,t+1,os⟩):wpAny (model prog w) A (getAttr (.ref a) name i) Q E ⟨h,g,d,t,os⟩:=by unfold getAttr;refine ir (wpAny_mkText ?_);show wpAny (model prog w) A (getAttrBy (.ref a) (.str name t) I i) Q E ⟨h,g,d,t+1,os⟩;exact Ta u q j hf hv l
def FY{l:Addr}{f:Str}{i:Int}{h:Heap}(x:FD l f i h):∃od t,h.get? l=J od/\PySem.W.lookIn f od=J (J (.int i t)):=by
 obtain⟨t,o,j,F,y,hd,H,G,B⟩:=x;refine⟨o,t,y,?_⟩;unfold PySem.W.lookIn;rw[hd];dsimp only;have q:nsFind j f=J (.int i t):=(B f).trans (eT rfl);unfold nsFind findBy at q;rw[<-Array.find?_toList]at q
 cases z:j.toList.find? (λx=>x.key.isStr f) with
 |none=>rw[z]at q;cases q
 |some e =>
  rw[z]at q;have u:e.val=.int i t:=Option.some.inj q;dsimp only;rw[u]
end
def zP{P:Program}{w:World}{H:Hp}{h:Heap}{a C d:Addr}(x:dk a C d h):ObjOk P w H h a (.ext (dk a C d)):=by obtain⟨o,z,e1,e2,e3,e4⟩:=x;exact⟨⟨o,z,e1,e2,e3,e4⟩,⟨o,e1⟩,λF E ⟨o,B,i,l,j,u⟩ y=>⟨o,B,y o i,l,j,u⟩⟩
structure OM(K:hW)(C:Addr)(fld:Str):Prop where
 q:yT K C
 hd:PySem.W.hasDictIn K C=I
 fi:PySem.W.findIn K (.ref C) fld=J Y
def eD(x:tr)(fld:Str):VU:=match x.fs with
 |[(f,.int i)]=>if f=fld then J i else Y
 |_=>Y
def mE{x:tr}{fld:Str}{i:Int}(h:eD x fld=J i):x.fs=[(fld,.int i)]:=by
 unfold eD at h
 split at h
 .rename_i f j e
  by_cases z:f=fld
  .rw[eT z]at h;cases h;rw[e,z]
  .rw[hF z]at h;cases h
 .cases h
def xX{α:Type}{M:Model}{A:Around}{t:Sem α}{e:Addr}{j:VC}{Q:α->Shared->Prop}{E:VX}{s:Shared}(k:KD t)(hd:DvA j e s.heap)(w:wpAny M A t (λu i=>DvA j e i.heap->Q u i) E s):wpAny M A t Q E s:=by
 cases j with
 |none=>exact wpAny_mono w (λu i h=>h DvA.none) λ_ _ h=>h
 |some d=>exact wpAny_mono (KD.any k (hd d rfl) w) (λu i h=>h.1 λl z=>by cases z;exact h.2) λ_ _ h=>h.1
end MM
namespace PU
open MM
def SR.uns(B:SR q h L O u Z env)(C:inn∉u):SR q h L O u (Z.set inn Y) (env.set inn Y)/\∀j∈u,(Z.set inn Y)[j]?=Z[j]?/\(env.set inn Y)[j]?=env[j]?:=by
 have ne:∀j∈u,inn≠j:=λj i z=>C (z▸i);refine⟨⟨by simp[B.len],λj y l i=>?_,λj y l i=>?_⟩,λj i=>⟨pk (ne j i),pk (ne j i)⟩⟩
 .by_cases z:inn=j
  .subst z;have hl:inn<env.length:=by have:=(w_.mp l).1;simpa using this
   rw[B6 hl]at l;cases l
  .rw[pk z]at l;rw[pk z];exact B.fz j y l i
 .rw[pk (ne j i)]at l;rw[pk (ne j i)];exact B.ow j y l i
section
variable{ws:VN}
def dU(x l y fld:Str)(a:Xs ws):Xd ws where
 m:=xv x l y fld a.m
 p:=λenv s=>(a.p env s).go env λj env s=>match j with
  |[.int i]=>if iI l y i then .rse ⟨x,[(fld,.int i)]⟩ env s else .bad
  |_=>.bad
 fr:=I
 ok {q h L B O Z env s} c d:=by
  refine SOk.ex (f:=λ(C:UZ) Z h=>match C with
   |[.int i]=>if iI l y i then .rse ⟨x,[(fld,.int i)]⟩ Z h else .bad
   |_=>.bad) (g:=λ(j:VP) env s=>match j with
   |[.int i]=>if iI l y i then .rse ⟨x,[(fld,.int i)]⟩ env s else .bad
   |_=>.bad) c d (a.ok c) λj C H s1 kb M ⟨w,_⟩=>?_
  match j,w with
  |[.int i],w =>
   obtain⟨v,r,e,u,G⟩:=w;have E:r=[]:=G;subst E;have F:v=.int i:=by
    rcases u with u|u
    .exact u
    .obtain⟨n,k,xs,j,e,_⟩:=u;cases k<;>cases e
   subst e;rw[F];dsimp only;by_cases z:iI l y i
   .rw[eT z,eT z];exact⟨Z,H,rfl,O,Stp.refl _ _ _ _,M,d⟩
   .rw[hF z,hF z];trivial
  |[],w=>trivial
  |.int i::_::_,w=>trivial
  |.non::_,w=>trivial
  |.bl _::_,w=>trivial
  |.str _::_,w=>trivial
  |.tup _::_,w=>trivial
  |.lst _::_,w=>trivial
  |.dic _ _ _::_,w=>trivial
  |.exc _::_,w=>trivial
  |.pen::_,w=>trivial
end
end PU
namespace MM
open PySem.Spec PyProof.Rows L2
open PU (Xe Xs Xt Xi Xg Xd Fn nz ah af xC ae a_ dU)
structure ON(P:Program)(w:World)(K:hW)(mg:VZ)(base:Heap)(x c1 c2 fld:Str):Prop where
 ex:∃(C F fI:Addr) (sf pl:Str) (fd:FuncData) (oI:Obj),CT K mg x C F fI fld/\FnOk P w K mg base LC 1 fI fd [sf,pl] (QD C c1 c2 fld)/\lU K fd [sf,pl] []/\K.lookup fI=J oI/\oI.cls=.type "function"
inductive OO(K:hW)(mg:VZ)(x:Str)(cs sup:VL):Prop
 |e(h:∃D,mg x=J (.ref D)/\Cw K mg (.ref D) cs sup)
 |b(T:String)(z:Zn K x)(hv:bootBuiltins x=J (.type T))(h:Cw K mg (.type T) cs sup)
structure CA(K:hW)(mg:VZ)(x:Str)(cs sup:VL):Prop where
 h:∃D,mg x=J (.ref D)/\Cw K mg (.ref D) cs sup
structure QE(X:Cx)(cs:VL)(es:VV)(sups:VL):Prop where
 h:Nv X cs es sups
section
variable{X:Cx}{P:Program}{w:World}{K:hW}{mg:VZ}{base:Heap}{N W:VL}{k:Nat}{sc:Scope}{ws:VN}{x y z n c1 c2 fld:Str}{p q cp yp np sp hp pos cpos pt cp1 yp1 QO sp1 hp1 yp2 QP ap sp2:Pos}{e a:Expr}{es:VV}{sa:Xs ws}{xa:Xe ws}{i j l kt:Nat}{body:VB}{da:Xd ws}{cs sup sups:VL}
def Br(c:Wc X P w K mg base N W (k+2) sc)(d:h_ X)(R:ON P w K mg base x c1 c2 fld)(M:CJ X [e] sa.m)(G:gm sc x)(hp:cf e=I):Ct X (.Raise (J (.Call (.Name x p) [e] [] cpos)) Y pos) (dU x c1 c2 fld sa).m:=by obtain⟨C,F,Q,Z,S,fd,U,E,L,B,l,f⟩:=R.ex;obtain⟨j,H⟩:=c.gj G;have e3:=c.e.e3;have e4:=c.e.e4;have u:=L.mono (show 1<=k+1 by ext);rw[<-c.e.e1,<-c.e.e2,<-e3,<-e4,<-c.e.e5]at u;rw[<-e3,<-e4]at E;rw[<-e3]at B l;exact⟨Aj c.g H E u B l f d M.h (bD hp)⟩
def OP(c:Wc X P w K mg base N W k sc)(u:OO K mg x cs sup)(C:j_ X a xa.m)(B:Zn K "isinstance")(F:gm sc "isinstance")(G:gm sc x)(hp:cf a=I):j_ X (.Call (.Name "isinstance" p) [a,.Name x q] [] pos) (nz (PU.jy cs sup) xa).m:=by
 obtain⟨_,i⟩:=c.gj F;obtain⟨_,j⟩:=c.gj G
 cases u with
 |e h=>rw[<-c.e.e3,<-c.e.e4]at h;exact⟨Fb c.g i (c.n B) j h C.h (bD hp)⟩
 |b E z hv h=>rw[<-c.e.e3,<-c.e.e4]at h;exact⟨Fa c.g i (c.n B) j (c.n z) hv h C.h (bD hp)⟩
def OQ:QE X cs [] []:=⟨Fm⟩
def Hv(c:Wc X P w K mg base N W k sc)(u:CA K mg x cs sup)(t:QE X cs es sups)(B:gm sc x):QE X cs (.Name x q::es) (sup++sups):=by obtain⟨_,j⟩:=c.gj B;have h:=u.h;rw[<-c.e.e3,<-c.e.e4]at h;exact⟨AZ c.g j h t.h⟩
def Kr(c:Wc X P w K mg base N W k sc)(u:CA K mg x cs sup)(t:QE X cs es sups)(hl:(.Name x q::es:VV).length<=100)(F:j_ X a xa.m)(E:Zn K "isinstance")(B:gm sc "isinstance")(C:gm sc x)(hp:cf a=I):j_ X (.Call (.Name "isinstance" p) [a,.Tuple (.Name x q::es) kt pt] [] pos) (nz (PU.jy cs (sup++sups)) xa).m:=by obtain⟨_,i⟩:=c.gj B;have h:=u.h;rw[<-c.e.e3,<-c.e.e4]at h;exact⟨Co c.g i (c.n E) (Hv c u t C).h h hl F.h (bD hp)⟩
end
end MM
namespace PU
open MM
open L2 (xS i_)
noncomputable section
variable{gi:Nat}
end
end PU
namespace MM
open PySem.Spec PyProof.Rows L2
end MM
namespace PU
open MM
end PU
namespace MM
open PySem.Spec PyProof.Rows L2
def yr(y fld:Str)(l i:Nat)(mb:oh):oh:=λZ h=>match mb Z h with
 |.exc x u j=>if x.cls=y then (match eD x fld with
   |some _=>.nx (((u.set i (J (.loc j.length))).set l (J (.loc j.length))).set i Y) (j++[.exc x])
   |none=>.bad)
  else .bad
 |.rse _ _ _=>.bad
 |o=>o
def RH.frzd{K:hW}{mg:CC}{U:VQ}{H:Hp}{h:MH}{F:Heap}(r:RH K mg U H h){j:Addr}{f:Str}{i:Int}(hd:H j=J (.ext (FD j f i)))(fd:FD j f i F)(G:Obj):
  RH K mg U (upd H j (.frz G (.ext (FD j f i)))) h/\Le U H U (upd H j (.frz G (.ext (FD j f i)))):=by
 obtain⟨tk,W,X,R,L,M,_⟩:=id fd;have E:∀n a,U[n]?=J a->a≠j:=λn a e z=>by
  obtain⟨o,_,q⟩:=r.obj e;rw[z,hd]at q
  cases o with
  |lst xs=>obtain⟨_,e,_⟩:=q;cases e
  |dic fz Q xs =>
   obtain⟨_,_,_,e⟩:=q
   cases fz with
   |false=>cases(show J _=J _ from e)
   |true=>obtain⟨_,e⟩:=e;cases e
  |exc x =>
   obtain⟨C,_,⟨_,e⟩|⟨_,_,Z,_,_,e,_⟩⟩:=q
   .injection e with e
    injection e with e
    obtain⟨o,P,y,_,B⟩:=(congrFun e F).mp fd;rw[L]at y;cases y;rw[M]at B;cases B
   .injection e with e
    injection e with e
    obtain⟨o,P,y,_,B,_⟩:=(congrFun e F).mp fd;rw[L]at y;cases y;rw[M]at B;cases B
 have l:Le U H U (upd H j (.frz G (.ext (FD j f i)))):=⟨⟨[],by simp⟩,λa xs e=>by
   have:a≠j:=by rintro rfl;rw[hd]at e;cases e
   rw[aJ this];exact e,λa S u e=>by
   have:a≠j:=by rintro rfl;rw[hd]at e;cases e
   rw[aJ this];exact e⟩
 exact⟨⟨r.len,r.nd,λn a o e1 e2=>by rw[aJ (E n a e1)];exact(r.at' n a o e1 e2).le l⟩,l⟩
section
variable{X:Cx}{N W G:VL}{k:Nat}
def FZ(g:Good X N W G k)(dc:h_ X){c c1 fld:Str}{j:Nat}{C1 F fI:Addr}(hj:G[j]?=J c)(ED:R4 X c F)(EI:CT X.K X.mg c1 C1 F fI fld)(iy R:Nat){y n:Str}(dx:N[iy]?=J y)(e7:W[iy]?=J y)(ap:N[R]?=J n)(eq:W[R]?=J n)(c2:X.env.scope.names.lookup n=J .local){a4:VB}{mb:oh}{cp yp np sp hp en:Pos}(hb:∀aa:Cx,aa.prog=X.prog->aa.w=X.w->aa.K=X.K->aa.mg=X.mg->aa.base=X.base->aa.env=X.env->Good aa N W G k->h_ aa->C0 aa a4 mb)(eu:swapsWith (.Name n np) (J (.Name y yp)) sp.line X.env=pure T:=by rfl):
  MS X (.Try a4 [.ExceptHandler (J (.Name c cp)) (J n) [.Assign [.Name y yp] (.Name n np) sp] hp] [] [] en) (yr c1 fld iy R mb):=by
 intro NN s Z H Dd ei ⟨U,cx,h,rs,rh,q⟩;refine wpAny_Try_except ?_;have gY:∀E,PassesOwn (model X.prog X.w) X.A X.env E->Good (sJ X NN E) N W G k:=λE po=>⟨g.hN,g.nd,g.loc,g.fn,g.gl,g.dbg,g.calm,g.room,po⟩;have run:=hb (sJ X NN _) rfl rfl rfl rfl rfl rfl (gY _ (PassesOwn.looking (M:=model X.prog X.w) (A:=X.A) (env:=X.env) (K:=λe d2=>wpAny (model X.prog X.w) X.A (setFlight e Y) (λ_ cB=>wpAny (model X.prog X.w) X.A (handleBy e X.env [.ExceptHandler (J (.Name c cp)) (J n) [.Assign [.Name y yp] (.Name n np) sp] hp]) (SP X NN Dd) X.xe cB) X.xe d2) (E₁:=X.xe))) ⟨dc.stk,dc.fr,dc.ex⟩;refine wpAny_mono (run [] s Z H Dd (Inv.toPin ei) ⟨U,cx,h,rs,rh,?_⟩) (λf f3 z=>?_) λ_ _ z=>z
 .unfold yr at q
  cases em:mb cx h with
  |nx Z1 h1=>rw[em]at q;exact q
  |rt v h1=>rw[em]at q;exact q
  |bk Z1 h1=>rw[em]at q;exact q
  |ct Z1 h1=>rw[em]at q;exact q
  |bad=>rw[em]at q;exact q.elim
  |rse x Z1 h1=>rw[em]at q;exact q.elim
  |exc x Z1 h1 =>
   rw[em]at q;dsimp only at q;by_cases a6:x.cls=c1
   .rw[eT a6]at q
    cases eF:eD x fld with
    |none=>rw[eF]at q;exact q.elim
    |some i =>
     rw[eF]at q;dsimp only at q;intro L C U' H' Z' s' g2 dv fx dt l dF et I' a0 ek e8;have b7:=mE eF;obtain⟨z,_⟩|⟨f0,i0,P,z1,rfl,a1⟩:=fx
     .rw[b7]at z;cases z
     rw[b7]at z1;cases z1;have eC:C1=C:=by
      have:=EI.bd
      rw[<-a6,show X.mg x.cls=J (.ref C)from dt]at this;cases this;rfl
     subst eC;obtain⟨B,t,a2,d0,ak,bt⟩:=ek;have ax:X.stack=X.env::X.outer:=dc.stk;have a2:Heap.FlyingW B (X.env::X.outer) L (.ref C1) (.ref t) s'.heap:=by rw[<-ax];exact a2
     have d1:X.A.frames=J (X.env::X.outer):=by rw[<-ax];exact I'.ok.frames
     refine xX (xh _ _) e8 ?_;refine wpAny_looks_onW (base:=B) d1 dc.fr a2 λf5 ay b6 da=>?_;refine xX (j3 _ _) da ?_;refine wpAny_landsW ay λf7 ab b8 c4=>?_;have cn:=b6.trans b8;have I5:=Inv.flown I' a2.1 ab.1 cn a0 ak d0;have an:=Inv.ofPin I5;refine wpAny_handleBy_cons (codeAny_handlers_test (Calls.Name_function_global an.ok.kind (g.gl c (aP hj)) (Calls.loadGlobal_global (by rw[an.ok.glob];exact an.mod.glob.keeps an.bk) ED.bd ?_) (g.dbg c (se _ (aP hj))).1)) (by intro z;cases z);obtain⟨gc,hq,NI,hk,gx,f6,gy,f4,he,gi,ge,g4,g0,gn,fa,_,_⟩:=EI.lk;obtain⟨hh,N2,hs,q2,gb,gg,g1,f1,gs,f2,gk,b0,b1,b2,b3,b5,hc,ew,_,_,T2,_⟩:=E8 an.kIn ED.ok;obtain⟨ob,eh,cs⟩:=ab.there;obtain⟨hn,g5,d5,t5,ey⟩:=s';have ef:=an.kIn _ _ fa;refine rO ef ew eh cs (T2.hasType PySem.F.excBase_ValueError.hasBase) (by rw[PD,PD];simp) ?_;refine codeAny_handlers_suite_as ?_;refine xX (j3 _ _) c4 ?_;refine lands_againW ab λas ag bw ee=>?_;have I6:=Inv.flown I5 ab.1 ag.1 bw a0 ak d0;have b4:=Inv.ofPin I6;obtain⟨oe,vs,f8,oT,ts,a3,⟨ca,g3⟩,a8,_,_,_,_,_,_⟩:=ag.2.2.2;have c3:B.get? L=Y:=ag.2.1;have cd:L∉BL X.stack:=λhm=>by
      obtain⟨_,o,eo,dn⟩:=b4.stack.mem hm;rw[show as.get? L=J oe from a3]at eo;cases eo;exact dn vs a8
     have eL:L≠X.env.locals:=λz=>cd (by rw[ax,z];exact PC.mpr ⟨X.env,C8,dc.fr⟩);have e0:X.s₀.heap.get? L=Y:=by
      cases z:X.s₀.heap.get? L with
      |none=>rfl
      |some o =>
       obtain⟨o',e'⟩:=a0.old L o z (by rw[dc.ex];simp);obtain⟨es,eb⟩:=ak L o' e' cd;rw[c3]at eb;cases eb
     have ec:∀z cc,X.env.cells.lookup z=J cc->cc≠L:=λz cc e w=>by
      obtain⟨v,o,eo,ed⟩:=b4.cell z cc e;rw[w,show as.get? L=J oe from a3]at eo;cases eo;rw[a8]at ed;cases ed
     have ep:∀p∈X.pn++NN,p.1≠L:=λp eH w=>by
      obtain⟨o',e'⟩:=a0.pin p eH;rw[w]at e';obtain⟨es,eb⟩:=ak L o' e' cd;rw[c3]at eb;cases eb
     obtain⟨od,ej,eg⟩:=ee P rfl;have a7:oe.dict=J P:=by
      have:=(Heap.get?_some_iff.mp a3).1
      rw[show(⟨as,g5,d5,t5,ey⟩:Shared).heap.objs[L]?=J od from ej]at this;cases this;exact eg
     have b9:P≠L:=λz=>by rw[z,bt]at a1;cases a1
     have I7:=Inv.track (φ:=dk L C1 P) b4 bt e0 eL ec ep (zP ⟨oe,vs,a3,ca,a8,a7⟩);have a9:X.N.Nodup:=by rw[g.hN];exact g.nd
     refine iJ I7 a9 (g.x ap) (g.loc n (aP ap)) (v:=.ref L) rfl (λs8 Q=>?_) (g.fn n (aP eq))
     let X':Cx:={ X with A:=X.A.mark (J (.ref L)),calm:=T,xe:=λ_ _=>False}
     have el:X'.Ok:=⟨Q.ok.mod,Q.ok.kind,Q.ok.glob,Q.ok.blt,Q.ok.above,Q.ok.inj,Q.ok.has,Q.ok.cab,(λz=>nomatch z),Q.ok.frames,Q.ok.stk,Q.ok.exf,Q.ok.bs,Q.ok.bsz,Q.ok.noex,Q.ok.exfs,Q.ok.funs,Q.ok.frf,Q.ok.tree,Q.ok.top⟩;have eW:Inv X' NN _ _ s8:=⟨el,Q.os,Q.bare,Q.base,Q.loc,Q.cell,Q.free,Q.freeC,Q.pin,Q.hok,Q.len⟩;have bm:R<Z'.length:=by rw[I'.len];exact(w_.mp (g.x ap)).1
     have dn:=g.dbg n (C7 _ (aP ap));have st:=rW (Af (X:=X') (i:=iy) (pos:=sp) (pos':=yp) a9 (g.x dx) (g.loc y (aP dx)) (lD (X:=X') (i:=R) (pos:=np) (g.x ap) (.inl c2) dn.1 dn.2.1) eu (g.fn y (aP e7))) NN s8 _ _
      { nx:=λZ9 H9=>Z9=(Z'.set R (J (.ref L))).set iy (J (.ref L))/\H9=upd H' L (.ext (dk L C1 P)),rt:=λ_ _=>False} eW ⟨.ref L,by rw[B6 bm],rfl,rfl⟩
     refine wpAny_mono st (λfl s9 z9=>?_) λ_ _ z=>z.elim
     cases fl with
     |ret u=>obtain⟨_,_,_,_,_,z⟩:=z9;exact z.elim
     |brk=>obtain⟨_,_,_,z⟩:=z9;exact z.elim
     |cont=>obtain⟨_,_,_,z⟩:=z9;exact z.elim
     |next =>
      obtain⟨Z9,H9,S,e9,ev⟩:=z9;subst e9;subst ev;have ch:Inv X NN ((Z'.set R (J (.ref L))).set iy (J (.ref L))) (upd H' L (.ext (dk L C1 P))) s9:=⟨Q.ok,S.os,S.bare,S.base,S.loc,S.cell,S.free,S.freeC,S.pin,S.hok,S.len⟩;have ed:(upd H' L (.ext (dk L C1 P))) P=J (.ext (FD P fld i)):=by rw[aJ b9];exact a1
      have dV:=ch.hok P _ ed;obtain⟨fp,⟨ac,a5⟩,_⟩:=(show ObjOk X.prog X.w _ s9.heap P (.ext (FD P fld i))from dV);have c0:=ch.write (x:=P) (e:=P) (o:=.frz ac (.ext (FD P fld i))) (h':=s9.heap) (t':=s9.toks) (by rw[ed];trivial) (.inl rfl) (λb u _ z=>z) ⟨_,a5⟩ ⟨a5,dV⟩;have eU:upd (upd H' L (.ext (dk L C1 P))) P (.frz ac (.ext (FD P fld i)))=upd (upd H' P (.frz ac (.ext (FD P fld i)))) L (.ext (dk L C1 P)):=by
       funext w;by_cases hw:w=L
       .subst hw;rw[ba,aJ (Ne.symm b9),ba]
       .by_cases bp:w=P
        .subst bp;rw[ba,aJ hw,ba]
        .rw[aJ bp,aJ hw,aJ hw,aJ bp]
      rw[eU]at c0;have I9:Inv X NN ((Z'.set R (J (.ref L))).set iy (J (.ref L))) (upd (upd H' P (.frz ac (.ext (FD P fld i)))) L (.ext (dk L C1 P))) s9:=c0;obtain⟨eQ,l6⟩:=dF.frzd a1 fp ac;obtain⟨er,l7⟩:=eQ.new (by rw[aJ (Ne.symm b9)];exact bt) (o:=.exc x) (ho:=.ext (dk L C1 P)) ⟨C1,dt,.inr ⟨fld,i,P,ac,b7,rfl,ba⟩⟩;have rv:RP X.K (U'++[L]) (upd (upd H' P (.frz ac (.ext (FD P fld i)))) L (.ext (dk L C1 P))) (.loc h1.length) (.ref L):=.loc (by rw[<-dF.len];simp);have ez:=RS.le (l6.trans l7) et;obtain⟨m9,ds,_⟩:=I9.loc;refine wpAny_nameGoes_keeps c2 ds (by rw[I9.ok.kind];rfl) λha hi dr db=>?_;have e6:=Inv.unbound I9 a9 (g.x ap) ds (t':=s9.toks+1) dr db;refine⟨_,_,e6,?_⟩;exact q (U'++[L]) _ _ ((l.trans l6).trans l7) er (RS.unset ((ez.set R rv).set iy rv) R)
   .rw[hF a6]at q;exact q.elim
 .cases f with
  |next =>
   obtain⟨Z',H',I',z⟩:=z;exact wpAny_execs_nil ⟨Z',H',Inv.ofPin I',z⟩
  |brk=>obtain⟨Z',H',I',z⟩:=z;exact⟨Z',H',Inv.ofPin I',z⟩
  |cont=>obtain⟨Z',H',I',z⟩:=z;exact⟨Z',H',Inv.ofPin I',z⟩
  |ret u=>obtain⟨v,Z',H',I',r,z⟩:=z;exact⟨v,Z',H',Inv.ofPin I',r,z⟩
def F0(j fld:Str)(v:PV)(h:MH):VW:=match v with
 |.loc n=>(match h[n]? with
  |some (.exc x)=>if x.cls=j then (match eD x fld with
   |some i=>.ok (.int i) h
   |none=>.bad)else .bad
  |_=>.bad)
 |_=>.bad
def Ks{S fld:Str}{B:Addr}{e:Expr}{m:Mx PV}{ac:Pos}(M:X.mg S=J (.ref B))(EG:OM X.K B fld)(he:ME X e m)(hb:attributeBase e fld X.env (eval e X.env)=eval e X.env:=by rfl):
  ME X (.Attribute e fld ac) (DF (F0 S fld) m):=by
 intro NN s Z H Q P ⟨U,R,h,rs,rh,q⟩;refine EB hb (kP (he NN s Z H (λx l=>∃a d i E,x=.ref a/\l a=J (.ext (dk a B d))/\l d=J (.frz E (.ext (FD d fld i)))/\Q (.int i) l) P ⟨U,R,h,rs,rh,?_⟩) λu s1 ⟨x,l,F,rx,a,d,i,E,ex,h1,h2,q⟩=>?_)
 .refine Ful.bind q λU1 l x x' h1 _ l1 y rx j=>?_
  cases x with
  |loc n =>
   cases rx with
   |loc en =>
    obtain⟨o,eo,ro⟩:=y.obj en;dsimp only[F0]at j;rw[eo]at j
    cases o with
    |lst _=>exact j.elim
    |dic _ _ _=>exact j.elim
    |exc x =>
     dsimp only at j;by_cases z:x.cls=S
     .rw[eT z]at j
      cases L:eD x fld with
      |none=>rw[L]at j;exact j.elim
      |some i =>
       rw[L]at j;obtain⟨C,hm,⟨hf,_⟩|⟨f,i',dd,E,e1,e2,e3⟩⟩:=ro
       .rw[mE L]at hf;cases hf
       .rw[mE L]at e1;cases e1
        have:B=C:=by rw[z,M]at hm;cases hm;rfl
        subst this;exact⟨_,dd,i,E,rfl,e2,e3,j U1 l _ (Le.refl _ _) y (.int i)⟩
     .rw[hF z]at j;exact j.elim
  |_=>exact j.elim
 .subst ex;obtain rfl:=rx;obtain⟨⟨o,vs,e1,e2,e3,e4⟩,_,_⟩:=F.hok a _ h1;obtain⟨_,fd,_,_⟩:=F.hok d _ h2;obtain⟨aa,t,e5,e6⟩:=FY fd;have ab:PySem.W.InstAt s1.heap a o B (J aa):=⟨e1,e2,by unfold PySem.W.notCls;rw[e3],by rw[e4];exact e5⟩;obtain⟨hp,g,dr,tk,os⟩:=s1;refine Kq F.kIn EG.q ab (PySem.W.findObj_own EG.hd EG.fi rfl e6) rfl ?_;exact⟨.int i,l,F.tok _,⟨_,rfl⟩,q⟩
end
end MM
namespace PU
open MM
def ul(l fld:Str):Hi where
 m:=F0 l fld
 p:=λa=>match a with
  |.exc x=>if x.cls=l then (match eD x fld with
   |some i=>J (.int i)
   |none=>Y)else Y
  |_=>Y
 fr:=I
 ok {q h L O a x d} bd w e:=by
  cases a with
  |exc c =>
   dsimp only at e;by_cases z:c.cls=l
   .rw[eT z]at e
    cases j:eD c fld with
    |none=>rw[j]at e;cases e
    |some i =>
     rw[j]at e;cases e;rcases w with⟨n,rfl,_,g⟩|⟨n,u,xs,y,e,_⟩
     .simp only[F0,g];rw[eT z,j];exact CQ
     .cases u<;>cases e
   .rw[hF z]at e;cases e
  |_=>cases e
section
variable{ws:VN}
def mr(H fld:Str)(C l:Nat)(b:Xd ws)(M:ws.contains C=T:=by exact ys rfl)(h3:ws.contains l=T:=by exact ys rfl):Xd ws where
 m:=yr H fld C l b.m
 p:=λenv s=>match b.p env s with
  |.exc x e s=>if x.cls=H then (match eD x fld with
    |some _=>.nx (((e.set l (J (.exc x))).set C (J (.exc x))).set l Y) s
    |none=>.bad)
   else .bad
  |.rse _ _ _=>.bad
  |r=>r
 fr:=b.fr
 ok {q h L B O Z env s} c d:=by
  have k:=b.ok c d
  show SOk q L h B O ws _ (match b.m Z h with
   |.exc x Z1 M=>if x.cls=H then (match eD x fld with
     |some _=>.nx (((Z1.set l (J (.loc M.length))).set C (J (.loc M.length))).set l Y) (M++[.exc x])
     |none=>.bad)
    else .bad
   |.rse _ _ _=>.bad
   |o=>o) (match b.p env s with
   |.exc x e s=>if x.cls=H then (match eD x fld with
     |some _=>PS.nx (((e.set l (J (.exc x))).set C (J (.exc x))).set l Y) s
     |none=>.bad)
    else .bad
   |.rse _ _ _=>.bad
   |r=>r)
  cases e:b.p env s with
  |nx u s1=>rw[e]at k;obtain⟨G,y,e1,r⟩:=k;rw[e1];exact⟨G,y,rfl,r⟩
  |rt x s1=>rw[e]at k;obtain⟨v,y,e1,r1,r2,r3,r4,r5⟩:=k;rw[e1];exact⟨v,y,rfl,r1,r2,r3,r4,r5⟩
  |bk u s1=>rw[e]at k;obtain⟨G,y,e1,r⟩:=k;rw[e1];exact⟨G,y,rfl,r⟩
  |ct u s1=>rw[e]at k;obtain⟨G,y,e1,r⟩:=k;rw[e1];exact⟨G,y,rfl,r⟩
  |rse x u s1=>trivial
  |bad=>trivial
  |exc x u s1 =>
   rw[e]at k;obtain⟨G,y,e1,S,st,P,d'⟩:=k;rw[e1];dsimp only;have R:l∉ws:=λz=>by simp[z]at h3
   have n2:C∉ws:=λz=>by simp[z]at M
   have kb:=KB.app q y [MO.exc x];have E:=P.kb kb P.pen.app;have r:Rp q (y++[MO.exc x]) S (.exc x) (.loc y.length):=⟨_,rfl,λz=>by have:=P.bd _ z;lia,by simp⟩;obtain⟨W,b1⟩:=E.sr.set R r;by_cases z:x.cls=H
   .rw[eT z,eT z]
    cases ef:eD x fld with
    |none=>trivial
    |some i =>
     obtain⟨a3,Q⟩:=W.set (i:=C) (d:=.exc x) (v:=.loc y.length) n2 r;obtain⟨X,U⟩:=a3.uns R;exact⟨_,_,rfl,S,st.trans (kb.stp P),⟨E.bd,E.sub,E.bb,E.pb,E.hL,E.pen,X⟩,d'.keep λj F=>⟨(U j F).1.trans ((Q j F).1.trans (b1 j F).1),(U j F).2.trans ((Q j F).2.trans (b1 j F).2)⟩⟩
   .rw[hF z,hF z];trivial
end
end PU
namespace MM
open PySem.Spec PyProof.Rows L2
open PU (Xe Xs Xt Xi Xg Xd Fn mr nz ul)
structure Tb(K:hW)(mg:VZ)(c c1 fld:Str):Prop where
 ex:∃(C1 F fI:Addr),Nh K mg c F/\CT K mg c1 C1 F fI fld
structure Tc(K:hW)(mg:VZ)(c1 fld:Str):Prop where
 ex:∃C1:Addr,mg c1=J (.ref C1)/\OM K C1 fld
section
variable{X:Cx}{P:Program}{w:World}{K:hW}{mg:VZ}{base:Heap}{N W:VL}{k:Nat}{sc:Scope}{ws:VN}{x y n c1 fld:Str}{pos cp yp np sp hp:Pos}{i l:Nat}{body:VB}{da:Xd ws}
def Kt{h1 h3}(c:Wc X P w K mg base N W k sc)(d:h_ X)(z:Tb K mg x c1 fld)(Z:gm sc x)(G:N[i]?=J y)(B:W[i]?=J y)(L:N[l]?=J n)(H:W[l]?=J n)(C:sc.names.lookup n=J .local)(hb:∀u:Cx,Wc u P w K mg base N W k sc->h_ u->o_ u body da.m)(E:swapsWith (.Name n np) (J (.Name y yp)) sp.line X.env=pure T):
  Ct X (.Try body [.ExceptHandler (J (.Name x cp)) (J n) [.Assign [.Name y yp] (.Name n np) sp] hp] [] [] pos) (mr c1 fld i l da h1 h3).m:=by
 obtain⟨C1,F,fI,M,Q⟩:=z.ex;obtain⟨j,hj⟩:=c.gj Z;have s:=c.s;rw[<-c.e.e3,<-c.e.e4]at M Q;exact⟨FZ c.g d hj M Q i l G B L H (by rw[s];exact C) (λu U y2 y3 y4 S y6 g R=>(hb u ⟨g,⟨U.trans c.e.e1,y2.trans c.e.e2,y3.trans c.e.e3,y4.trans c.e.e4,S.trans c.e.e5,c.e.b⟩,(congrArg Env.scope y6).trans c.s⟩ R).h) E⟩
def w_fld{e:Expr}{a:Xe ws}(c:Wc X P w K mg base N W k sc)(j:Tc K mg c1 fld)(C:j_ X e a.m)(B:attributeBase e fld X.env (eval e X.env)=eval e X.env):j_ X (.Attribute e fld pos) (nz (ul c1 fld) a).m:=by obtain⟨E,u,z⟩:=j.ex;rw[<-c.e.e4]at u;rw[<-c.e.e3]at z;exact⟨Ks u z C.h B⟩
end
end MM
namespace L2
open PySem.Spec PyProof.Rows PySem.Builtin PySem.Builtin.Str
section
variable{prog:Program}{w:World}{A:Around}{E:VX}{s:Shared}{x y z:Str}{t u v:Tok}{Q:VX}
def F1{D:Addr}{l:List (Str×Tok)}{i:VL}(hl:s.heap.IsList D (strValues l).toArray)(ht:l.map (·.1)=i)(hok:JoinOk x i=I)(j:∀B k,s.toks<=k->Q (.str (Txt.join x i) B) { s with toks:=k}):wpAny (model prog w) A (call (.builtin "str.join") [.str x t,.ref D]) Q E s:=by
 subst ht;unfold JoinOk at hok;rw[PJ]at hok;refine call_meets F.slot_str_join (typeIs_str _ _ _) F.entry_str_join (F.args_str_join_2 _ _) (meets_str_join_list x t D l hok) ⟨hl,?_⟩;have hf:=joinFit_length hok
 match l,hf,j with
 |[],hf,j=>exact⟨hf,j _ _ (GZ _)⟩
 |[p],hf,j=>exact j p.2 s.toks (mh _)
 |_::_::_,hf,j=>exact⟨hf,j _ _ (GZ _)⟩
def fO(x y z:Str)(k:Int):Str:=if((occurrences x y 0 x.length (limitOf x k)).isEmpty||(y.length==0&&z.length==0))=I then x else glued z (partsBetween x (occurrences x y 0 x.length (limitOf x k)) y.length)
def Ku{k:Int}{c:Tok}(H:(decide (k < -(2^63:Int))||decide (k>=2^63))=T)(L:(u==0||v==0)=T)(j:(u==v)=T)(B:(y==z)=T)(hl:tooLong (x.length+(occurrences x y 0 x.length (limitOf x k)).length*z.length)=T)(hf:(fO x y z k).length<=sizeLine)(i:∀G M,Q (.str (fO x y z k) G) { s with toks:=M}):wpAny (model prog w) A (call (.builtin "str.replace") [.str x t,.str y u,.str z v,.int k c]) Q E s:=by
 have g:Gives («str.replace» ⟨[.str x t,.str y u,.str z v,.int k c],[]⟩) (if((occurrences x y 0 x.length (limitOf x k)).isEmpty||(y.length==0&&z.length==0))=I then .val (.str x t)else .str (glued z (partsBetween x (occurrences x y 0 x.length (limitOf x k)) y.length))):=by
  show Gives (do let C <-countLimit "str.replace" (J (.int k c)) (x.length+1);_) _;rw[countLimit_int "str.replace" k c (x.length+1) H]
  show Gives (if ((occurrences x y 0 x.length (limitOf x k)).isEmpty||(y.length==0&&z.length==0))=I then (do rule "str.replace.nothing";ret (.str x t)) else
     (isSame (.str y u) (.str z v) >>= λsame =>
       if same=I then(do rule "str.replace.old-is-new";ret (.str x t)) else
       if tooLong (x.length+(occurrences x y 0 x.length (limitOf x k)).length*z.length)=I then unsupported "str.replace:memory" else
       retStr (glued z (partsBetween x (occurrences x y 0 x.length (limitOf x k)) y.length)))) _
  cases l:((occurrences x y 0 x.length (limitOf x k)).isEmpty||(y.length==0&&z.length==0))
  .rw[isSame_str_other y z u v L j B,hl];exact .of_eq rfl
  .exact .rule (.of_eq rfl)
 refine call_gives F.slot_str_replace (typeIs_str _ _ _) F.entry_str_replace (F.args_str_replace_4 _ _ _ _) g ?_;unfold fO at hf i;cases l:((occurrences x y 0 x.length (limitOf x k)).isEmpty||(y.length==0&&z.length==0))
 .rw[l]at hf i;simp only[ol,if_false]at hf i ⊢;exact⟨hf,i _ _⟩
 .rw[l]at hf i;simp only[if_true]at hf i ⊢;exact i t s.toks
end
section
variable{X:Cx}{NN:List (Addr × Obj)}{Z:List (Option V)}{H H':Hp}{s:Shared}{h':Heap}
def zR{M:Model}{A:Around}{E:VX}{i:Nat}{x:Str}{v:V}{u:Value}{Q:Unit->Shared->Prop}(l:Inv X NN Z H s)(hN:X.N.Nodup)(hi:X.N[i]?=J x)(G:Loc X.env.scope x)(r:bh v u)(h:∀s',Inv X NN (Z.set i (J v)) H s'->s.toks<=s'.toks->Q () s')(hf:X.fn x=I\/X.env.scope.names.lookup x=J .local:=by first | exact .inl rfl | exact .inr rfl | assumption):wpAny M A (storeName X.env x u) Q E s:=by
 obtain⟨m,hn,hl⟩:=id l.loc;have ag:(X.env.scope.kind == .class||(X.env.scope.kind == .module&&X.env.locals != X.env.globals))=T:=by rw[l.ok.kind];rfl
 have P:i<Z.length:=by rw[l.len];exact(w_.mp hi).1
 have cne:=l.cne;have C:∀{a:Addr}{h':Heap},(∃o,s.heap.get? a=J o/\H a=Y)->Heap.SameBut a s.heap h'->HOk X.prog X.w H h':=λ{a h'} ha B b ob e=>by
  obtain⟨_,_,L⟩:=ha;refine(l.hok b ob e).stay (λc w' F q=>(B.2 c ?_).trans q) (λ_ q=>q) λ_ _ q=>q;rintro rfl;rcases F with rfl|F
  .rw[L]at e;cases e
  .rw[L]at F;cases F
 rcases G with R|R
 .refine wpAny_storeName_local R hn (λh' an B=>?_) ag;obtain⟨oL,_,_,ap,_⟩:=id hn;refine h _ ⟨l.ok,l.os,l.bare,⟨λb o e n W G=>?_,λb o e n W G=>?_,l.base.free,λb o e G=>?_,l.base.tups,l.base.frzs,l.base.tbls⟩,⟨_,an,λj y v' e1 e2 e3=>?_⟩,λy c e=>?_,l.free,l.freeC,λp hp=>?_,C ⟨oL,ap,l.free⟩ B,by simpa using l.len⟩ (by first | exact GZ _ | exact mh _)
  .exact (B.2 b (yB (vl (oy e) l.ok.above))).trans (l.base.keep b o e n W G)
  .obtain⟨sl,e1⟩:=l.base.slot b o e n W G;exact⟨sl,(B.2 b (yB (vl (oy e) l.ok.above))).trans e1⟩
  .obtain⟨o',e1⟩:=l.base.there b o e G;exact⟨o',(B.2 b (yB (vl (oy e) l.ok.above))).trans e1⟩
  .by_cases U:j=i
   .subst U;rw[hi]at e1;cases e1;rw[B6 P]at e2;cases e2;exact⟨u,r,.inl ⟨R,by simp⟩⟩
   .rw[pk (Ne.symm U)]at e2;obtain⟨u',r',q⟩:=hl j y v' e1 e2 e3;refine⟨u',r',?_⟩;rcases q with⟨k,e⟩|⟨k,c,e,z⟩
    .refine .inl ⟨k,?_⟩
     have:y≠x:=λe=>U (kc hN e1 (e▸hi))
     simp[this,e]
    .exact .inr ⟨k,c,e,z.sameBut B (cne y c e)⟩
  .obtain⟨w',z⟩:=l.cell y c e;exact⟨w',z.sameBut B (cne y c e)⟩
  .obtain⟨e,n,ne,nf,d⟩:=l.pin p hp;exact⟨(B.2 p.1 ne).trans e,n,ne,nf,d⟩
 .have S:X.fn x=I:=by
   rcases hf with z|z
   .exact z
   .rw[z]at R;cases R
  obtain⟨c,F⟩:=l.ok.has x (.inl R);obtain⟨w',z⟩:=l.cell x c F;refine wpAny_storeName_cell l.ok.kind R F z (λh' ac B=>?_);obtain⟨oc,aa,ab⟩:=id z;refine h { s with heap:=h'} ⟨l.ok,l.os,l.bare,⟨λb o e n W G=>?_,λb o e n W G=>?_,l.base.free,λb o e G=>?_,l.base.tups,l.base.frzs,l.base.tbls⟩,⟨m,hn.sameBut B (Ne.symm (cne x c F)),λj y v' e1 e2 e3=>?_⟩,λy c' e=>?_,l.free,l.freeC,λp hp=>?_,C ⟨oc,aa,l.freeC x c F⟩ B,by simpa using l.len⟩ (by first | exact GZ _ | exact mh _)
  .exact (B.2 b (yB (vl (oy e) (l.ok.cab x c S F)))).trans (l.base.keep b o e n W G)
  .obtain⟨sl,e1⟩:=l.base.slot b o e n W G;exact⟨sl,(B.2 b (yB (vl (oy e) (l.ok.cab x c S F)))).trans e1⟩
  .obtain⟨o',e1⟩:=l.base.there b o e G;exact⟨o',(B.2 b (yB (vl (oy e) (l.ok.cab x c S F)))).trans e1⟩
  .by_cases U:j=i
   .subst U;rw[hi]at e1;cases e1;rw[B6 P]at e2;cases e2;exact⟨u,r,.inr ⟨.inl R,c,F,ac⟩⟩
   .rw[pk (Ne.symm U)]at e2;obtain⟨u',r',q⟩:=hl j y v' e1 e2 e3;refine⟨u',r',?_⟩;rcases q with q|⟨k,c',e,z'⟩
    .exact .inl q
    .refine .inr ⟨k,c',e,z'.sameBut B ?_⟩;rintro rfl;exact U (kc hN e1 (l.ok.inj _ _ _ e F▸hi))
  .by_cases ak:c'=c
   .subst ak;exact⟨_,ac⟩
   .obtain⟨w2,z2⟩:=l.cell y c' e;exact⟨w2,z2.sameBut B ak⟩
  .obtain⟨e,n,ne,nf,d⟩:=l.pin p hp;refine⟨(B.2 p.1 ?_).trans e,n,ne,nf,d⟩;intro q;rw[q,aa]at e;have q':oc=p.2:=Option.some.inj e;exact d w' (by rw[<-q'];exact ab)
def Hw{i:Nat}{x:Str}{C:Pos}{v:V}{E:VX}{Q:VX}(hN:X.N[i]?=J x)(hv:Eo X.env.scope x)(hd:(x==("__debug__":Str))=T)(B:(x==("__classdict__":Str))=T)(y:Inv X NN Z H s)(e:Z[i]?=J (J v))(h:∀u,bh v u->Q u s):wpAny (model X.prog X.w) X.A (eval (.Name x C) X.env) Q E s:=by
 obtain⟨m,L,hl⟩:=y.loc;obtain⟨u,r,l⟩:=hl i x v hN e hv;have fin:Q u s:=h u r;rcases l with⟨z,G⟩|⟨z,c,F,j⟩
 .exact wpAny_Name (wpAny_loadName_local y.ok.kind z L G fin) hd
 .rcases z with z|z
  .exact wpAny_Name (wpAny_loadName_cell y.ok.kind z F j fin) hd
  .exact wpAny_Name (wpAny_loadName_free y.ok.kind z F j fin B) hd
def Uo(X:Cx)(e:Expr)(t:TE):Prop:=∀(NN:VS)(s:Shared)(Z:St)(H:Hp)(Q:VK),Inv X NN Z H s->t Z H Q->wpAny (model X.prog X.w) X.A (eval e X.env) (λu s1=>EP X NN Z Q u s1/\0<s1.toks) X.xe s
def QF(X:Cx)(e:Expr)(t:TE):Prop:=∀(NN:VS)(s:Shared)(Z:St)(H:Hp)(Q:VK),Inv X NN Z H s->0<s.toks->t Z H Q->wpAny (model X.prog X.w) X.A (eval e X.env) (EP X NN Z Q) X.xe s
def Kv{i Q:Nat}{x l:Str}{e P:Expr}{R U B z:Pos}{S C:TE}{u:TS}{j:VB}(hN:X.N.Nodup)(hi:X.N[i]?=J x)(hx:Loc X.env.scope x)(G:X.N[Q]?=J l)(F:Loc X.env.scope l)(h1:Uo X e S)(h0:QF X P C)(h2:PSs X j u)(hs:swapsWith e (J (.Name x U)) R.line X.env=pure T)(L:swapsWith P (J (.Name l z)) B.line X.env=pure T)(hf:X.fn x=I\/X.env.scope.names.lookup x=J .local)(E:X.fn l=I\/X.env.scope.names.lookup l=J .local):
  PSs X (.Assign [.Name x U] e R::.Assign [.Name l z] P B::j) (Er (Eu S (uf i)) (Er (Eu C (uf Q)) u)):=by
 intro NN s Z H D M h;refine wpAny_execs_cons (wpAny_Assign_Name (kP (h1 NN s Z H _ M h) λv s1 ⟨⟨y,H1,I1,r1,W⟩,hp⟩=>?_) hs);refine zR I1 hN hi hx r1 (λs2 I2 et=>?_) hf;refine wpAny_execs_cons (wpAny_Assign_Name (kP (h0 NN s2 _ H1 _ I2 (vl hp et) W) λv s3 ⟨y3,H3,I3,r3,q3⟩=>?_) L);exact iJ I3 hN G F r3 (λs4 I4=>h2 NN s4 _ H3 D I4 q3) E
def Kw{B:Operator}{r:R2}{a b:Expr}{z l:TE}{j:Pos}(R:OpR X (binaryOp B) r)(U:QF X a z)(S:PE X b l):QF X (.BinOp a B b j) (LB r z l):=by intro NN s Z H Q i L h;refine wpAny_BinOp ?_;refine kP (U NN s Z H _ i L h) λv s1 ⟨x,F,P,r1,C⟩=>?_;refine kP (S NN s1 Z F _ P C) λu s2 ⟨y,M,G,r2,E⟩=>?_;exact R NN s2 Z M x y v u Q G r1 r2 E
end
end L2
namespace MM
open PySem.Spec PyProof.Rows L2
section
variable{X:Cx}{N W G:VL}{k:Nat}
def xl(x y:PV)(h:MH):VW:=match x,y with
 |.str a,.int n=>if MulOk a n then .ok (.str (Txt.mul a n)) h else .bad
 |_,_=>.bad
def F2:Cp X (binaryOp .Mult) xl:=by
 intro M s Z H F L u v Q j l i ⟨U,h,x,y,C,E,B,q⟩
 cases E with
 |str a =>
  cases B with
  |int n =>
   obtain⟨t,rfl⟩:=l;obtain⟨R,rfl⟩:=i;dsimp only[xl]at q
   split at q
   .rename_i z
    exact SB.mul z λP k=>⟨.str _,H,j.tok _,⟨_,rfl⟩,q U H _ (Le.refl _ _) C (.str _)⟩
   .exact q.elim
  |_=>exact q.elim
 |_=>cases B<;>exact q.elim
def oP(y z:Str)(v:PV)(h:MH):VW:=match v with
 |.str x=>if(y==z)=T/\PySem.Builtin.Str.tooLong (x.length+(PySem.Builtin.Str.occurrences x y 0 x.length (limitOf x 1)).length*z.length)=T/\(fO x y z 1).length<=sizeLine then .ok (.str (fO x y z 1)) h else .bad
 |_=>.bad
def xw{i:Nat}{j:n7}{h:MH}{R:PV->MH->Out α}{β:Type}{S:Rl α β}{U:VQ}{H:Hp}{Z:L2.St}{Q:β->Hp->Prop}(y:RS X.K U H j Z)(q:Ful X S j U H ((ar i j h).bind R) Q):
  ∃v l,Z[i]?=J (J l)/\RP X.K U H v l/\Ful X S j U H (R v h) Q:=by
 unfold ar at q
 cases e:j[i]? with
 |none=>rw[e]at q;exact q.elim
 |some o =>
  rw[e]at q
  cases o with
  |none=>exact q.elim
  |some v =>
   obtain⟨l,u,r⟩:=y.2 i v e;exact⟨v,l,u,r,q⟩
def F3(g:Good X N W G k)(i:Nat){n y z:Str}{L l j p1 p2 S:Pos}{M k2 P:Nat}(hi:N[i]?=J n)(B:attributeBase (.Name n L) "replace" X.env (eval (.Name n L) X.env)=eval (.Name n L) X.env)(F:((backTo j (starEach [.Constant (.str y) M p1,.Constant (.str z) k2 p2,.Constant (.int 1) P S] X.env)).all (λx=>!x.1)&&(backToKw j (keywordEach [] X.env)).all (λx=>x.1.isSome)
   && decide (3+([]:List Keyword).length+(if([]:List Keyword).isEmpty then 0 else 1)<30))=I)(C:(l.endLine==j.line)=I)(hs:backTo j (starEach [.Constant (.str y) M p1,.Constant (.str z) k2 p2,.Constant (.int 1) P S] X.env)=[(T,eval (.Constant (.str y) M p1) X.env),(T,eval (.Constant (.str z) k2 p2) X.env),(T,eval (.Constant (.int 1) P S) X.env)]):
  QF X (.Call (.Attribute (.Name n L) "replace" l) [.Constant (.str y) M p1,.Constant (.str z) k2 p2,.Constant (.int 1) P S] [] j) (tM X (RV' X) (DF (oP y z) (ar i))):=by
 intro NN s Z H Q E hp ⟨U,aa,h,rs,rh,q⟩;obtain⟨v,v',e',rv,q⟩:=xw (X:=X) (R:=λx h1=>(oP y z x h1).ne) rs q;have d:=g.dbg n (C7 _ (aP hi));have hv:Eo X.env.scope n:=by
  rcases g.loc n (aP hi)with q|q
  .exact .inl q
  .exact .inr (.inl q)
 refine wpAny_Call_method_late B F C hs (Hw (g.x hi) hv d.1 d.2.1 E e' λu ru=>?_)
 cases rv with
 |str x =>
  obtain⟨t,rfl⟩:=ru;dsimp only[oP]at q
  split at q
  .rename_i hc
   refine⟨"str",_,PySem.F.plainAttrs_str,PySem.F.slot_str_replace,PySem.F.type_str_replace,typeIs_str _ _ _,(λ_ e=>nomatch e),?_⟩;refine Calls.callWith_builtin rfl (Calls.evalArgs_plain ?_);refine Calls.spliced_cons (Calls.Constant_str (Calls.spliced_cons (Calls.Constant_str (Calls.spliced_cons (wpAny_Constant_int (Calls.spliced_nil ?_))))));refine Ku (by decide) ?_ ?_ hc.1 hc.2.1 hc.2.2 λt' k'=>⟨.str _,H,E.tok _,⟨_,rfl⟩,q U H _ (Le.refl _ _) rh (.str _)⟩
   .have h1:(s.toks==0)=T:=by simp;ext
    simp[h1]
   .simp
  .exact q.elim
 |_=>exact q.elim
def Bt(g:Good X N W G k)(j:Nat){n z:Str}{np C y p1:Pos}{k1:Nat}(M:N[j]?=J n)(E:attributeBase (.Constant (.str z) k1 p1) "join" X.env (eval (.Constant (.str z) k1 p1) X.env)=eval (.Constant (.str z) k1 p1) X.env)(S:((backTo y (starEach [.Name n np] X.env)).all (λx=>!x.1)&&(backToKw y (keywordEach [] X.env)).all (λx=>x.1.isSome)
   && decide (1+([]:List Keyword).length+(if([]:List Keyword).isEmpty then 0 else 1)<30))=I)(L:(C.endLine==y.line)=I)(hs:backTo y (starEach [.Name n np] X.env)=[(T,eval (.Name n np) X.env)]):
  Uo X (.Call (.Attribute (.Constant (.str z) k1 p1) "join" C) [.Name n np] [] y) (tM X (RV' X) (CW cj (mC (.str z)) (ai (ar j) c_))):=by
 intro NN s Z H Q F ⟨U,B,h,rs,rh,q⟩
 obtain⟨v,v',e',rv,q⟩:=xw (X:=X) (i:=j) (R:=λx P=>(cj z [x] P).ne) rs (by
  have e:CW cj (mC (.str z)) (ai (ar j) c_) B h=(ar j B h).bind λx P=>(cj z [x] P).ne:=by show((ar j B h).bind λx P=>Out.ok [x] P).bind (λvs h2=>(cj z vs h2).ne)=_;cases ar j B h<;>rfl
  rw[e]at q;exact q)
 have d:=g.dbg n (C7 _ (aP M));have hv:Eo X.env.scope n:=by
  rcases g.loc n (aP M)with q|q
  .exact .inl q
  .exact .inr (.inl q)
 refine wpAny_Call_method_late E S L hs (Calls.Constant_str ?_);refine⟨"str",_,PySem.F.plainAttrs_str,PySem.F.slot_str_join,PySem.F.type_str_join,typeIs_str _ _ _,(λ_ e=>nomatch e),?_⟩;refine Calls.callWith_builtin rfl (Calls.evalArgs_plain ?_);refine Calls.spliced_cons (Hw (g.x M) hv d.1 d.2.1 (F.tok (s.toks+1)) e' λu ru=>Calls.spliced_nil ?_)
 cases rv with
 |@loc m a en =>
  dsimp only[cj]at q;obtain⟨o,eo,ro⟩:=rh.obj en;rw[eo]at q
  cases o with
  |lst xs =>
   obtain⟨ys,ey,ry⟩:=ro;cases ru;obtain⟨_,aa,n',r,hl,e⟩:=(F.tok (s.toks+1)).lstM ey;dsimp only at q
   cases es:kv xs with
   |none=>rw[es]at q;exact q.elim
   |some ts =>
    rw[es]at q;dsimp only at q
    split at q
    .rename_i M
     obtain⟨l,rfl,el⟩:=sY ry r es;exact F1 ⟨_,e,rfl,_,rfl⟩ el M λt' k hk=>⟨⟨.str _,H,F.tok k,⟨t',rfl⟩,q U H _ (Le.refl _ _) rh (.str _)⟩,vl (Nat.succ_pos _) hk⟩
    .exact q.elim
  |_=>exact q.elim
 |_=>exact q.elim
def Kx(g:Good X N W G k)(i i' j:Nat){x P n z y Q:Str}{e2:Expr}{m2:Mx PV}{L:VB}{m3:oh}{p1 p2 ab aa np E B S F C u r1 r2 r3 bp:Pos}{R l1 l2 M:Nat}(hi:N[i]?=J x)(hw:W[i]?=J x)(ac:N[i']?=J P)(ak:W[i']?=J P)(hj:N[j]?=J n)(h2:ME X e2 m2)(h3:C0 X L m3)(b1:attributeBase (.Constant (.str z) R S) "join" X.env (eval (.Constant (.str z) R S) X.env)=eval (.Constant (.str z) R S) X.env)(b2:((backTo B (starEach [.Name n np] X.env)).all (λx=>!x.1)&&(backToKw B (keywordEach [] X.env)).all (λx=>x.1.isSome)
   && decide (1+([]:List Keyword).length+(if([]:List Keyword).isEmpty then 0 else 1)<30))=I)(b3:(E.endLine==B.line)=I)(b4:backTo B (starEach [.Name n np] X.env)=[(T,eval (.Name n np) X.env)])(c1:attributeBase (.Name x F) "replace" X.env (eval (.Name x F) X.env)=eval (.Name x F) X.env)(c2:((backTo u (starEach [.Constant (.str y) l1 r1,.Constant (.str Q) l2 r2,.Constant (.int 1) M r3] X.env)).all (λx=>!x.1)&&(backToKw u (keywordEach [] X.env)).all (λx=>x.1.isSome)
   && decide (3+([]:List Keyword).length+(if([]:List Keyword).isEmpty then 0 else 1)<30))=I)(c3:(C.endLine==u.line)=I)(c4:backTo u (starEach [.Constant (.str y) l1 r1,.Constant (.str Q) l2 r2,.Constant (.int 1) M r3] X.env)=[(T,eval (.Constant (.str y) l1 r1) X.env),(T,eval (.Constant (.str Q) l2 r2) X.env),(T,eval (.Constant (.int 1) M r3) X.env)])(hs:swapsWith (.Call (.Attribute (.Constant (.str z) R S) "join" E) [.Name n np] [] B) (J (.Name x p2)) p1.line X.env=pure T)(ap:swapsWith (.BinOp (.Call (.Attribute (.Name x F) "replace" C) [.Constant (.str y) l1 r1,.Constant (.str Q) l2 r2,.Constant (.int 1) M r3] [] u) .Add e2 bp) (J (.Name P aa)) ab.line X.env=pure T):
  C0 X (.Assign [.Name x p2] (.Call (.Attribute (.Constant (.str z) R S) "join" E) [.Name n np] [] B) p1::.Assign [.Name P aa] (.BinOp (.Call (.Attribute (.Name x F) "replace" C) [.Constant (.str y) l1 r1,.Constant (.str Q) l2 r2,.Constant (.int 1) M r3] [] u) .Add e2 bp) ab::L)
   (aZ (bq i (CW cj (mC (.str z)) (ai (ar j) c_))) (aZ (bq i' (aC hU (DF (oP y Q) (ar i)) m2)) m3)):=by
 have hN:X.N.Nodup:=by rw[g.hN];exact g.nd
 refine PSs.imp (Kv hN (g.x hi) (g.loc x (aP hi)) (g.x ac) (g.loc P (aP ac)) (Bt g j hj b1 b2 b3 b4) (Kw fu (F3 g i hi c1 c2 c3 c4) h2) h3 hs ap (g.fn x (aP hw)) (g.fn P (aP ak))) λD Z H ⟨U,an,h,rs,rh,q⟩=>?_;refine⟨U,an,h,rs,rh,bO.ex (bO.then q) λU1 H1 v v' h1 l r z w=>?_⟩;obtain⟨U2,Z2,ax,ag,as,q2⟩:=w U1 H1 _ (Le.refl _ _) r ((rs.le l).set i z);refine qB ⟨U2,Z2,ax,ag,as,bO.ex (bO.then q2) λU3 H3 v3 ay h3 M r3 z3 w3=>?_⟩;exact w3 U3 H3 _ (Le.refl _ _) r3 ((ag.le M).set i' z3)
end
end MM
namespace PU
open MM
def cy:A_ where
 m:=xl
 p:=λa b=>match a,b with
  |.str x,.int n=>if MulOk x n then J (.str (Txt.mul x n))else Y
  |_,_=>Y
 fr:=I
 ok {q h L O a x b y d} bd wa wb e:=by
  cases a with
  |str u =>
   cases b with
   |int v =>
    dsimp only at e;rw[wa.str,wb.int];dsimp only[xl]
    split at e
    .rename_i z
     cases e;rw[eT z];exact Dj rfl λ_ k _ e=>by cases k<;>cases e
    .cases e
   |_=>cases e
  |_=>cases e
def rL(y z:Str):Hi where
 m:=oP y z
 p:=λa=>match a with
  |.str x=>if(y==z)=T/\PySem.Builtin.Str.tooLong (x.length+(PySem.Builtin.Str.occurrences x y 0 x.length (limitOf x 1)).length*z.length)=T/\(L2.fO x y z 1).length<=sizeLine then J (.str (L2.fO x y z 1))else Y
  |_=>Y
 fr:=I
 ok {q h L O a x d} bd w e:=by
  cases a with
  |str u =>
   dsimp only at e;rw[w.str];dsimp only[oP]
   split at e
   .rename_i z
    cases e;rw[eT z];exact Dj rfl λ_ k _ e=>by cases k<;>cases e
   .cases e
  |_=>cases e
section
variable{ws:VN}
def mO(i:Nat)(e:Xe ws)(X:ws.contains i=I:=by exact ys rfl)(hz:e.fz=I:=by exact ys rfl):Xd ws where
 m:=bK (cZ (ai (ar i) (ai e.m c_)))
 p:=λenv s=>match env[i]? with
  |some (J d)=>(match e.p env s with
   |.ok x s1=>.rt (.tup [d,x]) s1
   |_=>.bad)
  |_=>.bad
 fr:=I
 ok {q h L B O Z env s} c d:=by
  show SOk q L h B O ws _ _ (match env[i]? with|some (J d)=>(match e.p env s with|.ok x s1=>PS.rt (.tup [d,x]) s1|_=>.bad)|_=>.bad)
  cases S:env[i]? with
  |none=>trivial
  |some o =>
   cases o with
   |none=>trivial
   |some x =>
    obtain⟨n,C,xs,F,e1,e2,a,b,g,r⟩:=c.sr.ow i x S (by simpa using X);subst e1;have k:=e.ok c
    cases M:e.p env s with
    |exc _ _=>trivial
    |bad=>trivial
    |ok y s1 =>
     rw[M]at k;obtain⟨v,l,em,u,p1,_,rz,_⟩:=k;have ry:=rz hz;have nq:n≠q:=λz=>by have:=c.pL;lia
     have R:l[n]?=J (mo C xs):=(u.keep n (bN g) nq).trans g;have W:Mv O l B l:=⟨λ_ _ _=>rfl,λo E=>.inl (c.sub o E)⟩
     have Q:Mv O l (n::B) l:=⟨λ_ _ _=>rfl,λo E=>.inl (by
      rcases ki.mp E with z|z
      .subst z;exact a
      .exact c.sub o z)⟩
     have f:Frs q L B l (dl C F) (.loc n):=λH G e=>by
      have:H=C/\G=F:=by cases C<;>cases H<;>cases e<;>exact⟨rfl,rfl⟩
      obtain⟨rfl,rfl⟩:=this;exact⟨n,xs,rfl,b,R,(r.mv (u.mv c.pO)).mv Q⟩
     refine⟨.tup [.loc n,v],l,?_,u.len,λj P U=>u.keep j (vl P c.hL) U,p1,⟨_,rfl,_,_,rfl,f.rp c.bb rfl,_,_,rfl,ry.mv W,rfl⟩,λ_ k F e=>by cases k<;>cases e⟩;simp[bK,cZ,ai,ar,e2,em,c_,Out.bind,yR,sizeLine]
end
end PU
namespace MM
open PySem.Spec PyProof.Rows L2
open PU (Xe Xs Xt Xi Xg Xd Fn nz rL aw aQ tx ae a_ xC af ah mO h8)
def Ky{X:L2.Cx}:OJ X (compareOp .NotIn) (PU.kO I):=⟨zB I⟩
def Kz{X:L2.Cx}:OJ X (binaryOp .Mult) PU.cy:=⟨F2⟩
section
variable{X:Cx}{P:Program}{w:World}{K:hW}{mg:VZ}{base:Heap}{N W:VL}{k:Nat}{sc:Scope}{ws:VN}{x x' n y z z':Str}{p1 p2 p1' p2' np apos cpos q1 np' apos' cpos' r1 r2 r3 bp pos:Pos}{i i' j k1 l1 l2 l3:Nat}{rest:VB}{da:Xd ws}{e e2:Expr}{xa:Xe ws}
def Td{h1 h2 h3 h4}(c:Wc X P w K mg base N W k sc)(E:N[i]?=J x)(hw:W[i]?=J x)(u:N[i']?=J x')(l:W[i']?=J x')(M:N[j]?=J n)(H:j_ X e2 xa.m)(hr:o_ X rest da.m)(b1:attributeBase (.Constant (.str z) k1 q1) "join" X.env (eval (.Constant (.str z) k1 q1) X.env)=eval (.Constant (.str z) k1 q1) X.env)(C:(apos.endLine==cpos.line)=I)(L:attributeBase (.Name x np') "replace" X.env (eval (.Name x np') X.env)=eval (.Name x np') X.env)(G:(apos'.endLine==cpos'.line)=I)(F:swapsWith (.Call (.Attribute (.Constant (.str z) k1 q1) "join" apos) [.Name n np] [] cpos) (J (.Name x p2)) p1.line X.env=pure T)(B:swapsWith (.BinOp (.Call (.Attribute (.Name x np') "replace" apos') [.Constant (.str y) l1 r1,.Constant (.str z') l2 r2,.Constant (.int 1) l3 r3] [] cpos') .Add e2 bp) (J (.Name x' p2')) p1'.line X.env=pure T):
  o_ X (.Assign [.Name x p2] (.Call (.Attribute (.Constant (.str z) k1 q1) "join" apos) [.Name n np] [] cpos) p1::.Assign [.Name x' p2'] (.BinOp (.Call (.Attribute (.Name x np') "replace" apos') [.Constant (.str y) l1 r1,.Constant (.str z') l2 r2,.Constant (.int 1) l3 r3] [] cpos') .Add e2 bp) p1'::rest)
   (aw (aQ (ws:=ws) i (tx h8 (xC (.str z)) (ae (af j) a_)) h1 h2) (aw (aQ i' (ah PU.ao (nz (rL y z') (af i)) xa) h3 h4) da)).m :=
 ⟨Kx c.g i i' j E hw u l M H.h hr.h b1 rfl C rfl L rfl G rfl F B⟩
def KA{h1 h2}(u:j_ X e (af (ws:=ws) i).m)(h:j_ X e2 xa.m)(B:starEach [e,e2] X.env=(T,eval e X.env)::starEach [e2] X.env)(l:starEach [e2] X.env=(T,eval e2 X.env)::starEach [] X.env):Ct X (.Return (J (.Tuple [e,e2] j pos)) p1) (mO (ws:=ws) i xa h1 h2).m :=
 ⟨ut (zt (cE u.h (cE h.h fk l) B))⟩
end
end MM
namespace Law
open PySem.Spec PyProof.Rows L2 MM
set_option maxHeartbeats 4000000
noncomputable section
def ya:oh:=(aZ (bq 2 (aC hU (aC jl (mC (.int 7919)) (ar 1)) (mC (.int 11))))
 (aZ (yS (mB (aC DT (ar 1) (xZ C2 (ai (xZ xg (ai (ar 0) c_)) (ai (mC (.int 63)) c_))))) (bq 2 (aC ce (ar 0) (ar 1))) (yS (mB (aC DU (xZ xg (ai (ar 0) c_)) (mC (.int 0)))) (bq 2 (aC hU (aC lx (aC ce (ar 0) (aC lx (ar 1) (xZ C2 (ai (xZ xg (ai (ar 0) c_)) (ai (mC (.int 63)) c_))))) (aC uq (mC (.int 10)) (mC (.int 15)))) (aC jl (mC (.int 48271)) (ar 1)))) i5))
 (aZ (yS (mB (aC Dy (xZ CO (ai (ar 2) c_)) (aC uq (mC (.int 10)) (mC (.int 18))))) (bK (cQ (ai (mC (.int 1)) (ai (xZ CO (ai (ar 2) c_)) (ai (mC (.int 0)) c_))))) i5)
 (bK (cQ (ai (mC (.int 0)) (ai (aC hU (aC lx (ar 2) (mC (.int 2147483587))) (aC jl (mC (.int 40009)) (ar 1))) (ai (mC (.int 0)) c_))))))))
def iG:UZ->MH->VW:=fQ 3 2 ya
def yb:oh:=(aZ (j9 (aC hU (aC ce (ar 0) (mC (.int 2))) (mC (.int 1))) (G6 (ar 0) (mC (.int 2))))
 (aZ (yS (mB (aC Cu (aC ce (ar 0) (mC (.int 0))) (mC (.int 1)))) (aZ (bq 3 (aC lx (aC ce (ar 0) (mC (.int 1))) (ar 1)))
 (aZ (j9 (aC Df (aC ce (ar 0) (mC (.int 1))) (ar 1)) (G6 (ar 0) (mC (.int 1))))
 (bK (ar 3)))) i5)
 (aZ (bq 2 (aC lx (aC jl (aC hU (aC hU (aC ce (ar 0) (mC (.int 1))) (aC jl (mC (.int 40503)) (aC ce (ar 0) (mC (.int 2))))) (mC (.int 1))) (mC (.int 48271))) (mC (.int 2147483647))))
 (aZ (bq 2 (aC lx (aC jl (ar 2) (aC hU (aC hU (aC lx (ar 2) (mC (.int 65521))) (aC ce (ar 0) (mC (.int 2)))) (mC (.int 3)))) (mC (.int 2147483629))))
 (bK (aC lx (aC Df (aC lx (aC jl (ar 2) (aC hU (aC lx (ar 2) (mC (.int 8191))) (mC (.int 7)))) (mC (.int 2147483563))) (mC (.int 64))) (ar 1)))))))
def bJ:UZ->MH->VW:=fQ 4 2 yb
end
end Law
namespace Law
open MM PU SetT SortT
open L2 (xS i_ gB)
set_option maxHeartbeats 4000000
noncomputable section
def fL:Xd []:=(aW (fH (nz (dq ["int"]) (af 0)) (uh (nz (dq ["bool"]) (af 0)))))
def c5:Fn:=bX 1 1 fL
def pj{i:VP}{s:f_}(h:i.length=1):c5.p i s=(fL.p (i3 1 i) s).fin:=bE h
def gE:Xd []:=(aW (fH (nz (dq ["tuple"]) (af 0)) (ah o0 (k4 bY (ae (af 0) a_)) (xC (.int 2)))))
def cw:Fn:=bX 1 1 gE
def re{i:VP}{s:f_}(h:i.length=1):cw.p i s=(gE.p (i3 1 i) s).fin:=bE h
def cU:Xd []:=(aw (LM 2000000 (xB (ah x2 (af 1) (xC (.int 0)))) (aw (aQ 2 (ah jj (af 0) (af 1)))
 (aw (aQ 0 (af 1))
 (aQ 1 (af 2)))) lO)
 (aW (af 0)))
def cS:Fn:=bX 3 2 cU
def nM{i:VP}{s:f_}(h:i.length=2):cS.p i s=(cU.p (i3 3 i) s).fin:=bE h
def dH:Xd []:=(aw (kr (yF (iC (xB (av cw (ae (af 0) a_)))) (yF (iC (xB (av c5 (ae (ah ka (af 0) (xC (.int 0))) a_)))) (iC (xB (av c5 (ae (ah ka (af 0) (xC (.int 1))) a_)))))) (aW (xC (.bl T))) e_)
 (aW (fH (ah D_ (ah ka (af 0) (xC (.int 1))) (xC (.int 1))) (ah o0 (av cS (ae (k4 sA (ae (ah ka (af 0) (xC (.int 0))) a_)) (ae (ah ka (af 0) (xC (.int 1))) a_))) (xC (.int 1))))))
def cK:Fn:=bX 1 1 dH
def j8{i:VP}{s:f_}(h:i.length=1):cK.p i s=(dH.p (i3 1 i) s).fin:=bE h
def eK:Xd []:=(aW (fH (av c5 (ae (af 1) a_)) (g7 DA JL (xC (.int 0)) (af 1) (af 0))))
def cY:Fn:=bX 2 2 eK
def kY{i:VP}{s:f_}(h:i.length=2):cY.p i s=(eK.p (i3 2 i) s).fin:=bE h
def gC:Xd []:=(aW (fH (av cw (ae (af 1) a_)) (fH (av cY (ae (af 0) (ae (ah ka (af 1) (xC (.int 0))) a_))) (fH (av cK (ae (ah ka (af 1) (xC (.int 1))) a_)) (ah x2 (ah ka (af 1) (xC (.int 1))) (Qz 0 1))))))
def cv:Fn:=bX 2 2 gC
def qO{i:VP}{s:f_}(h:i.length=2):cv.p i s=(gC.p (i3 2 i) s).fin:=bE h
def dI:Xd []:=(aw (kr (iC (xB (k4 n6 (ae (c6 1 [0] (fB (af 1)) (ws':=[]) (n3 0) i4 (av cv (ae (af 1) (ae (af 0) a_)))) a_)))) (aW (xC (.bl T))) e_)
 (aW (ah o0 (k4 QB (ae (c6 1 [] (fB (af 1)) (ws':=[]) (n3 0) i4 (ah ka (af 0) (xC (.int 0)))) a_)) (k4 bY (ae (af 1) a_)))))
def dJ:Fn:=bX 2 2 dI
def jJ{i:VP}{s:f_}(h:i.length=2):dJ.p i s=(dI.p (i3 2 i) s).fin:=bE h
def fo:Xd []:=(aW (fH (nz (dq ["tuple"]) (af 1)) (fH (av dJ (ae (af 0) (ae (af 1) a_))) (ah o0 (k4 oW (ae (af 1) a_)) (k4 qS (ae (af 1) a_))))))
def eA:Fn:=bX 2 2 fo
def kK{i:VP}{s:f_}(h:i.length=2):eA.p i s=(fo.p (i3 2 i) s).fin:=bE h
def fv:Xd []:=(aw (aQ 1 (xC (.str "")))
 (aw (LM 2000000 (xB (ah D_ (af 0) (ah kQ (xC (.int 10)) (xC (.int 60))))) (aw (aQ 1 (ah ao (tx Dk (k4 c7 (ae (ah jj (af 0) (ah kQ (xC (.int 10)) (xC (.int 60)))) a_)) (ae (xC (.int 60)) a_)) (af 1)))
 (aQ 0 (ah JM (af 0) (ah kQ (xC (.int 10)) (xC (.int 60)))))) lO)
 (aW (ah ao (k4 c7 (ae (af 0) a_)) (af 1)))))
def dY:Fn:=bX 2 1 fv
def tR{i:VP}{s:f_}(h:i.length=1):dY.p i s=(fv.p (i3 2 i) s).fin:=bE h
def eP:Xd []:=(aw (aQ 1 (av dY (ae (k4 sA (ae (ah ka (af 0) (xC (.int 0))) a_)) a_)))
 (aw (kr (xB (ah JL (ah ka (af 0) (xC (.int 0))) (xC (.int 0)))) (aQ 1 (ah ao (xC (.str "-")) (af 1))) e_)
 (aw (kr (xB (ah x2 (ah ka (af 0) (xC (.int 1))) (xC (.int 1)))) (aQ 1 (ah ao (ah ao (af 1) (xC (.str "/"))) (av dY (ae (ah ka (af 0) (xC (.int 1))) a_)))) e_)
 (aW (af 1)))))
def eM:Fn:=bX 2 1 eP
def rG{i:VP}{s:f_}(h:i.length=1):eM.p i s=(eP.p (i3 2 i) s).fin:=bE h
def du:Xd []:=(aW (fH (g7 DA DA (xC (.int 1)) (k4 bY (ae (af 0) a_)) (xC (.int 60))) (k4 n6 (ae (c6 1 [] (ss (af 0)) (ws':=[]) (n3 0) i4 (ah (kO T) (af 0) (xC (.str "0123456789")))) a_))))
def cb:Fn:=bX 1 1 du
def lu{i:VP}{s:f_}(h:i.length=1):cb.p i s=(du.p (i3 1 i) s).fin:=bE h
def d4:Xd []:=(aw (kr (iC (xB (av cb (ae (af 1) a_)))) (aW (xC .non)) e_)
 (aw (aQ 2 (k4 ko (ae (af 1) a_)))
 (aW (iz (j7 (xB (av cY (ae (af 0) (ae (af 2) a_)))) (xB (ah o0 (k4 c7 (ae (af 2) a_)) (af 1)))) (af 2) (xC .non) I))))
def d6:Fn:=bX 3 2 d4
def nj{i:VP}{s:f_}(h:i.length=2):d6.p i s=(d4.p (i3 3 i) s).fin:=bE h
def dz:Xd []:=(aw (aQ 1 (tx mA (af 0) (ae (xC (.str "/")) a_)))
 (aw (aQ 2 (iz (xB (tx m_ (af 0) (ae (xC (.str "-")) a_))) (xC (.str "-")) (xC (.str "")) I))
 (aw (aQ 3 (FT (ah ka (af 1) (xC (.int 0))) (yJ (k4 bY (ae (af 2) a_))) Cz))
 (aw (aQ 4 (iz (qh (ah ka (af 1) (xC (.int 1)))) (ah ka (af 1) (xC (.int 2))) (xC (.str "1")) I))
 (aw (kr (yF (iC (xB (av cb (ae (af 3) a_)))) (iC (xB (av cb (ae (af 4) a_))))) (aW (xC .non)) e_)
 (aw (aQ 5 (cR (ae (k4 ko (ae (ah ao (af 2) (af 3)) a_)) (ae (k4 ko (ae (af 4) a_)) a_))))
 (aW (iz (j7 (xB (av cK (ae (af 5) a_))) (xB (ah o0 (av eM (ae (af 5) a_)) (af 0)))) (af 5) (xC .non) I))))))))
def bz:Fn:=bX 6 1 dz
def k8{i:VP}{s:f_}(h:i.length=1):bz.p i s=(dz.p (i3 6 i) s).fin:=bE h
def eY:Xd []:=(aw (aQ 2 (tx mA (af 1) (ae (xC (.str "=")) a_)))
 (aW (cR (ae (av d6 (ae (af 0) (ae (ah ka (af 2) (xC (.int 0))) a_))) (ae (av bz (ae (ah ka (af 2) (xC (.int 2))) a_)) a_)))))
def bG:Fn:=bX 3 2 eY
def oj{i:VP}{s:f_}(h:i.length=2):bG.p i s=(eY.p (i3 3 i) s).fin:=bE h
def c9:Xd []:=(aw (aQ 2 (k4 fV (ae (c6 1 [0] (fB (af 1)) (ws':=[]) (n3 0) i4 (av bG (ae (af 1) (ae (af 0) a_)))) a_)))
 (aW (iz (xB (av eA (ae (af 0) (ae (af 2) a_)))) (af 2) (xC .non) I)))
def bQ:Fn:=bX 3 2 c9
def jf{i:VP}{s:f_}(h:i.length=2):bQ.p i s=(c9.p (i3 3 i) s).fin:=bE h
def fE:Xd []:=(aw (kr (iC (xB (nz (dq ["str"]) (af 0)))) (dU "NoText" "the line " " may not stand there" "line" (ae (xC (.int 0)) a_)) e_)
 (aW (iz (qh (af 0)) (tx lT (af 0) (ae (xC (.str "\n")) a_)) (aU a_) I)))
def dD:Fn:=bX 1 1 fE
def pc{i:VP}{s:f_}(h:i.length=1):dD.p i s=(fE.p (i3 1 i) s).fin:=bE h
def dj:Xd [3]:=(aw (aQ 1 (av dD (ae (af 0) a_)))
 (aw (aQ 2 (k4 bY (ae (af 1) a_)))
 (aw (jx 3 (aU a_))
 (aw (mG (iw iE (ae (af 1) a_)) (Di (yV (n3 4) (yV (n3 5) Dh)) 2) (aw (aQ 6 (tx lT (af 5) (ae (xC (.str " ")) a_)))
 (aw (aQ 7 (av bQ (ae (af 2) (ae (Cs (af 6) (yJ (xC (.int 1))) Cz) a_))))
 (aw (kr (yF (xB (ah D_ (af 4) (xC (.int 12)))) (yF (xB (ah x2 (ah ka (af 6) (xC (.int 0))) (nz (JP ":") (af 4)))) (xB (ah (u_ T) (af 7) (xC .non))))) (dU "NoText" "the line " " may not stand there" "line" (ae (af 4) a_)) e_)
 (Ed ql 3 (ae (af 7) a_))))))
 (aW (cR (ae (af 2) (ae (k4 fV (ae (af 3) a_)) a_))))))))
def bH:Fn:=bX 8 1 dj
def ji{i:VP}{s:f_}(h:i.length=1):bH.p i s=(dj.p (i3 8 i) s).fin:=bE h
def dG:Xd [2]:=(aw (jx 2 (aU a_))
 (aw (mG (iw iE (ae (av dD (ae (af 1) a_)) a_)) (Di (yV (n3 3) (yV (n3 4) Dh)) 2) (aw (aQ 5 (tx lT (af 4) (ae (xC (.str " ")) a_)))
 (aw (aQ 6 (av bQ (ae (af 0) (ae (Cs (af 5) Cz (yJ (nz bV (xC (.int 2))))) a_))))
 (aw (aQ 7 (av bz (ae (ah ka (af 5) (nz bV (xC (.int 1)))) a_)))
 (aw (kr (yF (xB (ah D_ (af 3) (xC (.int 20)))) (yF (xB (ah x2 (Cs (af 5) (yJ (nz bV (xC (.int 2)))) (yJ (nz bV (xC (.int 1))))) (aU (ae (xC (.str "|")) a_)))) (yF (xB (ah (u_ T) (af 6) (xC .non))) (xB (ah (u_ T) (af 7) (xC .non)))))) (dU "NoText" "the line " " may not stand there" "line" (ae (af 3) a_)) e_)
 (Ed ql 2 (ae (cR (ae (af 6) (ae (af 7) a_))) a_)))))))
 (ua 2)))
def bM:Fn:=bX 8 2 dG
def jI{i:VP}{s:f_}(h:i.length=2):bM.p i s=(dG.p (i3 8 i) s).fin:=bE h
def sO{h:MH}{p:Nat}{o:MO}(i:p<h.length):(h.set p o)[p]?=J o:=B6 i
def Up:xS 3 2=J 2:=lp (n:=3) (m:=2) (by decide)
def UT:xS 3 1=J 1:=lp (n:=3) (m:=1) (by decide)
def iA(s:f_)(j:Int)(M:0<j)(hl:j.natAbs.log2<9000):∃x:Int×Int,(0<=x.1/\x.1<j)/\∀(h:MH)(p:Nat),cN h p s->bJ [.loc p,.int j] h=.ok (.int x.1) (h.set p (.lst [.int s.1,.int x.2,.int (s.2.2+1)])):=by
 obtain⟨m,c,t⟩:=s;have l:j≠0:=by ext
 have st:∀n:Int,0<=n.fmod j/\n.fmod j<j:=λn=>by
  rw[Pt n (by ext)];exact⟨L5 n l,LZ n M⟩
 by_cases z:m=1
 .subst z;refine⟨(c.fmod j,c.fdiv j),st c,λh p e=>?_⟩;have e:h[p]?=J (.lst [.int 1,.int c,.int t]):=e;have y:p<h.length:=(w_.mp e).1;have e2:(h.set p (.lst [.int 1,.int c,.int (t+1)]))[p]?=J (.lst [.int 1,.int c,.int (t+1)]):=sO y;unfold bJ;refine(o6 (by rfl)).trans ?_;unfold yb;simp[cV,List.replicate,mI e,qd e,Up,mI e2,ip l,xy l,qd e2,UT]
 .have u:∀n k:Int,0<k->0<=n.fmod k/\n.fmod k<k:=λn k P=>by
   rw[Pt n (by ext)];exact⟨L5 n (by ext),LZ n P⟩
  generalize E:((c+40503*(t+1)+1)*48271).fmod 2147483647=A;have b1:=u ((c+40503*(t+1)+1)*48271) 2147483647 (by decide);rw[E]at b1;generalize B:(A*(A.fmod 65521+(t+1)+3)).fmod 2147483629=C;have b2:=u (A*(A.fmod 65521+(t+1)+3)) 2147483629 (by decide);rw[B]at b2;refine⟨((((C*(C.fmod 8191+7)).fmod 2147483563).fdiv 64).fmod j,c),st _,λh p e=>?_⟩;have e:h[p]?=J (.lst [.int m,.int c,.int t]):=e;have y:p<h.length:=(w_.mp e).1;have e2:(h.set p (.lst [.int m,.int c,.int (t+1)]))[p]?=J (.lst [.int m,.int c,.int (t+1)]):=sO y;have G:-(2^64)<A/\A<2^64:=by ext
  have H:-(2^64)<C/\C<2^64:=by ext
  have F:∀{i:Int}{h:MH},jl (.int 40503) (.int i) h=.ok (.int (40503*i)) h:=jF (by decide);have L:∀{i:Int}{h:MH},jl (.int i) (.int 48271) h=.ok (.int (i*48271)) h:=E1 (by decide);unfold bJ;refine(o6 (by rfl)).trans ?_;unfold yb;simp[cV,List.replicate,mI e,qd e,Up,mI e2,z,F,L,ip,E,jF G,B,jF H,xy (show(64:Int)≠0 by decide),ip l]
open Classical in
def kE(s:f_)(i:Int):Int×Int:=if z:0<i/\i.natAbs.log2<9000 then(iA s i z.1 z.2).choose else(0,0)
def qy(j:VP):VU:=match j with
 |[.pen,.int i]=>J i
 |_=>Y
def yN{j:VP}{i:Int}(e:qy j=J i):j=[.pen,.int i]:=by
 unfold qy at e
 split at e
 .cases e;rfl
 .cases e
open Classical in
def aM:Fn where
 m:=bJ
 p:=λj s=>match qy j with
  |some i=>if 0<i/\i.natAbs.log2<9000 then .ok (.int (kE s i).1) (s.1,(kE s i).2,s.2.2+1)else .bad
  |none=>.bad
 fr:=I
 ok {q h O vs j s} bd hq pn r:=by
  cases e:qy j with
  |none=>trivial
  |some i =>
   have:=yN e
   subst this;dsimp only;by_cases z:0<i/\i.natAbs.log2<9000
   .rw[eT z];obtain⟨x,t,rfl,l,y,C,rfl,B,ht⟩:=r;rw[show x=PV.loc q from l,show y=PV.int i from B,show C=[]from ht];have k:=(iA s i z.1 z.2).choose_spec.2 h q pn;have u:kE s i=(iA s i z.1 z.2).choose:=by unfold kE;rw[dif_pos z]
    rw[<-u]at k;refine⟨_,_,k,⟨by simp,λn F E=>pk (Ne.symm E)⟩,sO (bN pn),rfl,λ_ k j e=>by cases k<;>cases e⟩
   .rw[hF z];trivial
def xQ:aM.m=bJ:=rfl
open Classical in
theorem bn{s:f_}{size:Int}(u:0<size)(hl:size<=2000000000):∃d j,0<=d/\d<size/\aM.p [.pen,.int size] s=.ok (.int d) j:=by
 have i:size.natAbs.log2<9000:=by
  have y:size.natAbs<=2000000000:=by ext
  have B:size.natAbs.log2<31:=(Nat.log2_lt (by ext)).mpr (by ext);ext
 have z:0<size/\size.natAbs.log2<9000:=⟨u,i⟩;have l:kE s size=(iA s size z.1 z.2).choose:=by unfold kE;rw[dif_pos z]
 have k:=(iA s size z.1 z.2).choose_spec.1;rw[<-l]at k;exact⟨_,_,k.1,k.2,by show(if 0<size/\size.natAbs.log2<9000 then _ else _)=_;rw[eT z]⟩
def g8:Xd []:=(aw (kW 2 3 (ae (k4 sA (ae (af 0) a_)) (ae (k4 sA (ae (af 1) a_)) a_)))
 (aw (LM 2000000 (xB (ah Dq (af 3) (xC (.int 0)))) (kW 2 3 (ae (af 3) (ae (ah jj (af 2) (af 3)) a_))) lO)
 (aw (kr (xB (ah JL (af 1) (xC (.int 0)))) (aQ 2 (nz bV (af 2))) e_)
 (aW (cR (ae (ah JM (af 0) (af 2)) (ae (ah JM (af 1) (af 2)) a_)))))))
def eG:Fn:=bX 4 2 g8
def wA{i:VP}{s:f_}(h:i.length=2):eG.p i s=(g8.p (i3 4 i) s).fin:=bE h
def fG:Xd []:=(aw (aQ 1 (av aM (ae (af 0) (ae (xC (.int 4)) a_))))
 (aw (aQ 2 (ah ao (xC (.int 1)) (av aM (ae (af 0) (ae (ah ka (aU (ae (xC (.int 6)) (ae (xC (.int 6)) (ae (xC (.int 12)) (ae (xC (.int 999999)) a_))))) (af 1)) a_)))))
 (aw (aQ 3 (ah ao (xC (.int 1)) (av aM (ae (af 0) (ae (ah ka (aU (ae (xC (.int 1)) (ae (xC (.int 1)) (ae (xC (.int 5)) (ae (xC (.int 999999)) a_))))) (af 1)) a_)))))
 (aw (kr (xB (ah o0 (av aM (ae (af 0) (ae (xC (.int 2)) a_))) (xC (.int 1)))) (aQ 2 (ah Fv (xC (.int 0)) (af 2))) e_)
 (aW (av eG (ae (af 2) (ae (af 3) a_))))))))
def bS:Fn:=bX 4 1 fG
def pC{i:VP}{s:f_}(h:i.length=1):bS.p i s=(fG.p (i3 4 i) s).fin:=bE h
def iS:Xd []:=(aw (aQ 2 (ah ao (xC (.int 1)) (av aM (ae (af 0) (ae (xC (.int 4)) a_)))))
 (aW (k4 fV (ae (c6 1 [0,2] (iw LN (ae (af 1) a_)) (ws':=[]) (n3 0) (xB (ah o0 (av aM (ae (af 1) (ae (af 2) a_))) (xC (.int 0)))) (cR (ae (af 0) (ae (av bS (ae (af 1) a_)) a_)))) a_))))
def gK:Fn:=bX 3 2 iS
def xY{i:VP}{s:f_}(h:i.length=2):gK.p i s=(iS.p (i3 3 i) s).fin:=bE h
def jW:Xd []:=(aw (kr (xB (ah o0 (ah ka (af 0) (xC (.int 1))) (xC (.int 1)))) (aW (k4 c7 (ae (ah ka (af 0) (xC (.int 0))) a_))) e_)
 (aW (ah ao (ah ao (k4 c7 (ae (ah ka (af 0) (xC (.int 0))) a_)) (xC (.str "/"))) (k4 c7 (ae (ah ka (af 0) (xC (.int 1))) a_)))))
def gv:Fn:=bX 1 1 jW
def zv{i:VP}{s:f_}(h:i.length=1):gv.p i s=(jW.p (i3 1 i) s).fin:=bE h
def iT:Xd []:=(aW (c6 2 [] (fB (af 0)) (ws':=[]) (Di (yV (n3 0) (yV (n3 1) Dh)) 2) i4 (ah ao (ah ao (k4 c7 (ae (af 0) a_)) (xC (.str "="))) (av gv (ae (af 1) a_)))))
def gJ:Fn:=bX 1 1 iT
def yQ{i:VP}{s:f_}(h:i.length=1):gJ.p i s=(iT.p (i3 1 i) s).fin:=bE h
def io:Xd []:=(aw (aQ 3 (av gJ (ae (av gK (ae (af 0) (ae (af 1) a_))) a_)))
 (aw (kr (xB (ah (u_ T) (af 2) (xC .non))) (aW (ah ao (af 3) (aU (ae (xC (.str "|")) (ae (av gv (ae (av bS (ae (af 0) a_)) a_)) a_))))) e_)
 (aW (ah ao (aU (ae (ah ao (k4 c7 (ae (af 2) a_)) (xC (.str ":"))) a_)) (af 3)))))
def bI:Fn:=bX 4 3 io
def sV{i:VP}{s:f_}(h:i.length=3):bI.p i s=(io.p (i3 4 i) s).fin:=bE h
def dP:Xd []:=(aw (aQ 1 (aU (ae (xC (.str "")) (ae (xC (.str "+5")) (ae (xC (.str "5/1")) (ae (xC (.str "2/4")) (ae (xC (.str "-0")) (ae (xC (.str "0/3")) (ae (xC (.str "05")) (ae (xC (.str "1/0")) (ae (xC (.str "1/-2")) (ae (xC (.str "--1")) (ae (xC (.str "1/")) (ae (xC (.str "/2")) (ae (xC (.str "1.5")) (ae (xC (.str "a")) (ae (xC (.str "1/02")) a_)))))))))))))))))
 (aw (aQ 1 (ah ao (af 1) (aU (ae (xC (.str "- 1")) (ae (xC (.str "1,0")) (ae (xC (.str "1/2/3")) (ae (xC (.str "1_0")) (ae (xC (.str "-")) (ae (xC (.str "0x1")) (ae (xC (.str "1e3")) (ae (xC (.str "3/9")) (ae (xC (.str "-4/6")) a_))))))))))))
 (aw (aQ 1 (ah ao (af 1) (aU (ae (ah cy (xC (.str "9")) (xC (.int 61))) (ae (ah ao (xC (.str "1/")) (ah cy (xC (.str "9")) (xC (.int 61)))) (ae (ah ao (xC (.str "-")) (ah cy (xC (.str "8")) (xC (.int 61)))) (ae (xC (.str "-05")) (ae (xC (.str "-05/6")) (ae (xC (.str "05/6")) (ae (xC (.str "-00")) (ae (xC (.str "1/00")) (ae (xC (.str "00")) (ae (xC (.str "10/25")) a_)))))))))))))
 (aw (pS (av bS (ae (af 0) a_)) (Di (yV (n3 3) (yV (n3 4) Dh)) 2))
 (aw (aQ 2 (ah ao (xC (.int 2)) (av aM (ae (af 0) (ae (ah ka (aU (ae (xC (.int 12)) (ae (ah kQ (xC (.int 10)) (xC (.int 28))) a_))) (av aM (ae (af 0) (ae (xC (.int 2)) a_)))) a_)))))
 (aw (aQ 1 (ah ao (af 1) (ah jT (aU (ae (ah ao (ah ao (k4 c7 (ae (ah jT (af 3) (af 2)) a_)) (xC (.str "/"))) (k4 c7 (ae (ah jT (af 4) (af 2)) a_))) a_)) (xC (.int 4)))))
 (aW (ah ka (af 1) (av aM (ae (af 0) (ae (k4 bY (ae (af 1) a_)) a_)))))))))))
def ci:Fn:=bX 5 1 dP
def rn{i:VP}{s:f_}(h:i.length=1):ci.p i s=(dP.p (i3 5 i) s).fin:=bE h
def fC:Xd []:=(aw (aQ 2 (av aM (ae (af 0) (ae (xC (.int 3)) a_))))
 (aw (kr (xB (ah o0 (af 2) (xC (.int 0)))) (aW (ah ao (xC (.str "0=")) (av ci (ae (af 0) a_)))) e_)
 (aw (aQ 3 (aU (ae (xC (.str "0")) (ae (xC (.str "=5")) (ae (xC (.str "a=1")) (ae (xC (.str "00=1")) (ae (xC (.str "-1=1")) (ae (xC (.str "0==1")) (ae (xC (.str "0=0")) (ae (xC (.str "0:1")) (ae (xC (.str "0 =1")) (ae (xC (.str "0= 1")) (ae (xC (.str "")) (ae (xC (.str "0=1=1")) (ae (xC (.str "=")) (ae (xC (.str "0=-0")) (ae (xC (.str "+0=1")) a_)))))))))))))))))
 (aw (aQ 3 (ah ao (af 3) (aU (ae (ah ao (k4 c7 (ae (af 1) a_)) (xC (.str "=1"))) (ae (ah ao (k4 c7 (ae (ah ao (af 1) (xC (.int 7))) a_)) (xC (.str "=1"))) (ae (ah ao (ah cy (xC (.str "9")) (xC (.int 20))) (xC (.str "=1"))) (ae (xC (.str "0=1;")) (ae (xC (.str "0=1,")) (ae (xC (.str "(0=1)")) a_)))))))))
 (aW (ah ka (af 3) (av aM (ae (af 0) (ae (xC (.int 21)) a_)))))))))
def dR:Fn:=bX 4 2 fC
def t8{i:VP}{s:f_}(h:i.length=2):dR.p i s=(fC.p (i3 4 i) s).fin:=bE h
def eN:Xd []:=(aw (aQ 3 (av bI (ae (af 0) (ae (af 1) (ae (af 2) a_)))))
 (aw (aQ 4 (av aM (ae (af 0) (ae (xC (.int 6)) a_))))
 (aw (kr (xB (ah o0 (af 4) (xC (.int 0)))) (aw (kr (j7 (xB (ah (u_ T) (af 2) (xC .non))) (xB (ah o0 (av aM (ae (af 0) (ae (xC (.int 3)) a_))) (xC (.int 0))))) (aw (aQ 11 (ah ka (aU (ae (xC (.str "x")) (ae (xC (.str "0=1")) a_))) (k4 cm (ae (ah Dq (af 1) (xC (.int 0))) a_))))
 (aW (ah ka (aU (ae (ah ao (ah ao (af 11) (xC (.str "| "))) (ah ka (af 3) (nz bV (xC (.int 1))))) (ae (ah ao (ah ao (af 11) (xC (.str " |"))) (ah ka (af 3) (nz bV (xC (.int 1))))) (ae (ah ao (xC (.str "|")) (ah ka (af 3) (nz bV (xC (.int 1))))) a_)))) (av aM (ae (af 0) (ae (xC (.int 3)) a_)))))) e_)
 (aw (kr (xB (ah (u_ T) (af 2) (xC .non))) (aW (tx h8 (xC (.str " ")) (ae (ah ao (ah ao (Cs (af 3) Cz (yJ (nz bV (xC (.int 2))))) (aU (ae (ah ka (aU (ae (xC (.str "")) (ae (xC (.str "/")) (ae (xC (.str "||")) (ae (xC (.str "| |")) (ae (xC (.str "|1")) a_)))))) (av aM (ae (af 0) (ae (xC (.int 5)) a_)))) a_))) (Cs (af 3) (yJ (nz bV (xC (.int 1)))) Cz)) a_))) e_)
 (aw (aQ 5 (aU (ae (xC (.str "")) (ae (ah ao (k4 c7 (ae (af 1) a_)) (xC (.str ":"))) (ae (xC (.str "0")) (ae (xC (.str ":")) (ae (xC (.str "0 :")) (ae (ah ao (xC (.str "0")) (ah ka (af 3) (xC (.int 0)))) (ae (xC (.str "a:")) (ae (xC (.str "0:0=1")) (ae (ah ao (xC (.str "+")) (ah ka (af 3) (xC (.int 0)))) (ae (xC (.str "0;")) a_))))))))))))
 (aW (tx h8 (xC (.str " ")) (ae (ah ao (aU (ae (ah ka (af 5) (av aM (ae (af 0) (ae (xC (.int 10)) a_)))) a_)) (Cs (af 3) (yJ (xC (.int 1))) Cz)) a_)))))) e_)
 (aw (kr (xB (ah o0 (af 4) (xC (.int 1)))) (aw (aQ 6 (tx h8 (xC (.str " ")) (ae (af 3) a_)))
 (aw (aQ 7 (ah ao (nz (rL " " "  ") (af 6)) (ah cy (xC (.str " ")) (k4 cm (ae (ah (kO I) (xC (.str " ")) (af 6)) a_)))))
 (aW (ah ka (aU (ae (ah ao (xC (.str " ")) (af 6)) (ae (ah ao (af 6) (xC (.str " "))) (ae (af 7) (ae (ah ao (af 6) (xC (.str "|"))) a_))))) (av aM (ae (af 0) (ae (xC (.int 4)) a_))))))) e_)
 (aw (kr (j7 (xB (ah o0 (af 4) (xC (.int 2)))) (xB (ah Dq (af 1) (xC (.int 0))))) (aw (aQ 8 (ah ka (aU (ae (xC (.str "1=1 0=1")) (ae (xC (.str "0=1 0=1")) (ae (xC (.str "0=1 0=2")) a_)))) (av aM (ae (af 0) (ae (xC (.int 3)) a_)))))
 (aw (kr (xB (ah (u_ T) (af 2) (xC .non))) (aW (tx h8 (xC (.str " ")) (ae (ah ao (aU (ae (af 8) a_)) (Cs (af 3) (yJ (nz bV (xC (.int 2)))) Cz)) a_))) e_)
 (aW (ah ao (ah ao (ah ka (af 3) (xC (.int 0))) (xC (.str " "))) (af 8))))) e_)
 (aw (kr (j7 (xB (ah o0 (af 4) (xC (.int 3)))) (xB (ah (u_ T) (af 2) (xC .non)))) (aW (tx h8 (xC (.str " ")) (ae (ah ao (Cs (af 3) Cz (yJ (nz bV (xC (.int 1))))) (aU (ae (av ci (ae (af 0) a_)) a_))) a_))) e_)
 (aw (kr (xB (ah o0 (af 4) (xC (.int 4)))) (aw (aQ 6 (ah ka (aU (ae (xC (.str "")) (ae (xC (.str " ")) (ae (xC (.str "|")) (ae (xC (.str "0=1")) (ae (xC (.str "x")) (ae (xC (.str "1:")) (ae (xC (.str "| 1 1")) (ae (xC (.str "|  1")) a_))))))))) (av aM (ae (af 0) (ae (xC (.int 8)) a_)))))
 (aW (ah ao (af 6) (ah ka (aU (ae (xC (.str "")) (ae (xC (.str "?")) a_))) (k4 cm (ae (ah o0 (af 2) (xC (.int 1))) a_)))))) e_)
 (aw (kW 9 10 (ae (Cs (af 3) Cz (yJ (xC (.int 1)))) (ae (aU a_) a_)))
 (aw (kr (xB (ah (u_ T) (af 2) (xC .non))) (kW 9 10 (ae (aU a_) (ae (Cs (af 3) (yJ (nz bV (xC (.int 2)))) Cz) a_))) e_)
 (aW (tx h8 (xC (.str " ")) (ae (ah ao (ah ao (af 9) (aU (ae (av dR (ae (af 0) (ae (af 1) a_))) a_))) (af 10)) a_))))))))))))
def bL:Fn:=bX 12 3 eN
def lM{i:VP}{s:f_}(h:i.length=3):bL.p i s=(eN.p (i3 12 i) s).fin:=bE h
def gH:Xd []:=(aw (aQ 2 (xC .non))
 (aw (mr "NoText" "line" 2 3 (kr (xB (ah (u_ T) (af 0) (xC .non))) (mH (av bH (ae (af 1) a_))) (mH (av bM (ae (af 0) (ae (af 1) a_))))))
 (aw (kr (xB (ah (u_ T) (af 2) (xC .non))) (aW (xC .non)) e_)
 (aw (kr (yF (iC (xB (nz (jy ["NoText"] ["NoText"]) (af 2)))) (iC (xB (nz (jy ["NoText"] ["NoText"]) (af 2))))) (aW (nz bV (xC (.int 1)))) e_)
 (aw (kr (xB (nz (jy ["NoText"] ([]++([]++([]++([]++([]++([]++[]))))))) (af 2))) (aW (nz bV (xC (.int 1)))) e_)
 (aw (kr (yF (xB (nz (jy ["NoText"] ([]++([]++([]++([]++[]))))) (af 2))) (xB (nz (dq ["bool"]) (nz (ul "NoText" "line") (af 2))))) (aW (nz bV (xC (.int 1)))) e_)
 (aW (nz (ul "NoText" "line") (af 2)))))))))
def aG:Fn:=bX 4 2 gH
def qI{i:VP}{s:f_}(h:i.length=2):aG.p i s=(gH.p (i3 4 i) s).fin:=bE h
def gU:Xd [6,9]:=(aw (aQ 4 (av aM (ae (af 0) (ae (xC (.int 5)) a_))))
 (aw (kr (xB (ah o0 (af 4) (xC (.int 0)))) (aW (cR (ae (ah ao (af 2) (aU (ae (xC (.str "")) a_))) (ae (k4 bY (ae (af 2) a_)) a_)))) e_)
 (aw (kr (xB (ah o0 (af 4) (xC (.int 1)))) (aw (aQ 8 (ah ka (aU (ae (xC (.int 20)) (ae (xC (.int 12)) a_))) (k4 cm (ae (af 3) a_))))
 (aw (jx 9 (ah ao (af 2) (c6 1 [3] (iw Qs (ae (k4 bY (ae (af 2) a_)) (ae (ah ao (ah ao (af 8) (xC (.int 1))) (av aM (ae (af 0) (ae (xC (.int 3)) a_)))) a_))) (ws':=[]) (n3 0) i4 (ah ka (aU (ae (xC (.str "| 1")) (ae (ah ao (k4 c7 (ae (af 0) a_)) (xC (.str ":"))) a_))) (k4 cm (ae (af 1) a_))))))
 (aw (aQ 5 (av aM (ae (af 0) (ae (ah jT (xC (.int 2)) (k4 bY (ae (af 9) a_))) a_))))
 (aw (kr (xB (ah JL (af 5) (k4 bY (ae (af 9) a_)))) (sE 9 (av bL (ae (af 0) (ae (ah ka (aU (ae (af 1) (ae (k4 bY (ae (af 9) a_)) a_))) (k4 cm (ae (af 3) a_))) (ae (ah ka (aU (ae (xC .non) (ae (af 5) a_))) (k4 cm (ae (af 3) a_))) a_)))) (af 5)) e_)
 (mO 9 (k4 Fw (ae (af 5) (ae (af 8) a_)))))))) e_)
 (aw (aQ 5 (av aM (ae (af 0) (ae (k4 bY (ae (af 2) a_)) a_))))
 (aw (jx 6 (k4 oW (ae (af 2) a_)))
 (aw (sE 6 (av bL (ae (af 0) (ae (af 1) (ae (ah ka (aU (ae (xC .non) (ae (af 5) a_))) (k4 cm (ae (af 3) a_))) a_)))) (af 5))
 (aw (aQ 7 (ah ao (af 5) (av aM (ae (af 0) (ae (ah Fv (k4 bY (ae (af 2) a_)) (af 5)) a_)))))
 (aw (kr (xB (ah Dq (af 7) (af 5))) (sE 6 (av bL (ae (af 0) (ae (af 1) (ae (ah ka (aU (ae (xC .non) (ae (af 7) a_))) (k4 cm (ae (af 3) a_))) a_)))) (af 7)) e_)
 (aw (kr (xB (ah o0 (af 6) (aU (ae (xC (.str "")) a_)))) (jx 6 (aU (ae (xC (.str "?")) a_))) e_)
 (mO 6 (af 5)))))))))))
def cF:Fn:=bX 10 4 gU
def wu{i:VP}{s:f_}(h:i.length=4):cF.p i s=(gU.p (i3 10 i) s).fin:=bE h
def dS:Xd []:=(aw (aQ 3 (ah ao (xC (.int 1)) (av aM (ae (af 2) (ae (xC (.int 12)) a_)))))
 (aw (aQ 4 (c6 1 [2,3] (iw LN (ae (af 3) a_)) (ws':=[]) (n3 0) i4 (tx h8 (xC (.str " ")) (ae (av bI (ae (af 1) (ae (af 2) (ae (af 0) a_)))) a_))))
 (aw (aQ 5 (av aM (ae (af 2) (ae (xC (.int 13)) a_))))
 (aw (aQ 6 (c6 1 [2,5] (iw LN (ae (ah ao (xC (.int 1)) (av aM (ae (af 2) (ae (xC (.int 20)) a_)))) a_)) (ws':=[]) (n3 0) i4 (tx h8 (xC (.str " ")) (ae (av bI (ae (af 1) (ae (af 2) (ae (xC .non) a_)))) a_))))
 (aw (mG (iw LN (ae (xC (.int 6)) a_)) (n3 7) (aw (aQ 11 (ah o0 (ah jj (af 7) (xC (.int 2))) (xC (.int 0))))
 (aw (aQ 12 (ah ka (aU (ae (af 5) (ae (xC .non) a_))) (k4 cm (ae (af 11) a_))))
 (aw (aQ 13 (ah ka (aU (ae (af 6) (ae (af 4) a_))) (k4 cm (ae (af 11) a_))))
 (aw (pS (av cF (ae (af 2) (ae (ah ka (aU (ae (af 5) (ae (af 3) a_))) (k4 cm (ae (af 11) a_))) (ae (af 13) (ae (af 11) a_))))) (Di (yV (n3 14) (yV (n3 15) Dh)) 2))
 (aw (kr (xB (ah (u_ I) (av aG (ae (af 12) (ae (tx h8 (xC (.str "\n")) (ae (af 13) a_)) a_))) (xC .non))) (aW (xC (.bl T))) e_)
 (kr (xB (ah x2 (av aG (ae (af 12) (ae (tx h8 (xC (.str "\n")) (ae (af 14) a_)) a_))) (af 15))) (aW (xC (.bl T))) e_)))))))
 (aw (mG (fB (cR (ae (xC .non) (ae (xC (.int 3)) (ae (xC (.bl I)) (ae (aU (ae (xC (.str "0:")) a_)) (ae (cR (ae (xC (.str "0:")) a_)) (ae DZ (ae (aU a_) (ae (cR (ae (xC (.int 1)) (ae (cR (ae (cR a_) a_)) a_))) a_)))))))))) (n3 8) (kr (yF (xB (ah x2 (av aG (ae (xC .non) (ae (af 8) a_))) (xC (.int 0)))) (xB (ah x2 (av aG (ae (af 5) (ae (af 8) a_))) (xC (.int 0))))) (aW (xC (.bl T))) e_))
 (aw (aQ 9 (ah cy (xC (.str "9")) (ah ao (xC (.int 61)) (ah jT (av aM (ae (af 2) (ae (xC (.int 2)) a_))) (xC (.int 4300))))))
 (aw (mG (fB (cR (ae (ah ao (xC (.str "0=")) (af 9)) (ae (ah ao (af 9) (xC (.str "=1"))) (ae (ah ao (xC (.str "0=1/")) (af 9)) (ae (ah ao (xC (.str "0=-")) (af 9)) a_)))))) (n3 10) (kr (yF (xB (ah x2 (av aG (ae (xC .non) (ae (ah ao (xC (.str "0: ")) (af 10)) a_))) (xC (.int 0)))) (xB (ah x2 (av aG (ae (xC (.int 12)) (ae (ah ao (af 10) (xC (.str " | 1"))) a_))) (xC (.int 0))))) (aW (xC (.bl T))) e_))
 (kr (yF (xB (ah x2 (av aG (ae (af 5) (ae (ah ao (xC (.str "| ")) (af 9)) a_))) (xC (.int 0)))) (xB (ah x2 (av aG (ae (af 5) (ae (ah ao (xC (.str "| 1/")) (af 9)) a_))) (xC (.int 0))))) (aW (xC (.bl T))) e_)))))))))
def Hx:oh:=(aZ (fR (dm (ai (mC (.int 2)) c_)) (v1 1) (aZ (bq 2 (aY iG (ai (ar 0) (ai (ar 1) c_))))
 (aZ (bq 3 (aC hU (mC (.int 1)) (aY bJ (ai (ar 2) (ai (mC (.int 12)) c_)))))
 (aZ (bq 4 (gh 1 [2,3] (dm (ai (ar 3) c_)) (v1 0) A9 (CW cj (mC (.str " ")) (ai (aY bI.m (ai (ar 1) (ai (ar 2) (ai (ar 0) c_)))) c_))))
 (aZ (bq 5 (aY bJ (ai (ar 2) (ai (mC (.int 13)) c_))))
 (aZ (bq 6 (gh 1 [2,5] (dm (ai (aC hU (mC (.int 1)) (aY bJ (ai (ar 2) (ai (mC (.int 20)) c_)))) c_)) (v1 0) A9 (CW cj (mC (.str " ")) (ai (aY bI.m (ai (ar 1) (ai (ar 2) (ai (mC .non) c_)))) c_))))
 (aZ (fR (dm (ai (mC (.int 6)) c_)) (v1 7) (aZ (bq 11 (aC Cu (aC lx (ar 7) (mC (.int 2))) (mC (.int 0))))
 (aZ (bq 12 (aC ce (cQ (ai (ar 5) (ai (mC .non) c_))) (xZ xc (ai (ar 11) c_))))
 (aZ (bq 13 (aC ce (cQ (ai (ar 6) (ai (ar 4) c_))) (xZ xc (ai (ar 11) c_))))
 (aZ (j9 (aY cF.m (ai (ar 2) (ai (aC ce (cQ (ai (ar 5) (ai (ar 3) c_))) (xZ xc (ai (ar 11) c_))) (ai (ar 13) (ai (ar 11) c_))))) (EV (DH (v1 14) (DH (v1 15) ET)) 2))
 (aZ (yS (mB (aC (sM I) (aY aG.m (ai (ar 12) (ai (CW cj (mC (.str "\n")) (ai (ar 13) c_)) c_))) (mC .non))) (bK (mC (.bl T))) i5)
 (yS (mB (aC n9 (aY aG.m (ai (ar 12) (ai (CW cj (mC (.str "\n")) (ai (ar 14) c_)) c_))) (ar 15))) (bK (mC (.bl T))) i5)))))))
 (aZ (fR (kf (cZ (ai (mC .non) (ai (mC (.int 3)) (ai (mC (.bl I)) (ai (cQ (ai (mC (.str "0:")) c_)) (ai (cZ (ai (mC (.str "0:")) c_)) (ai Dz (ai (cQ c_) (ai (cZ (ai (mC (.int 1)) (ai (cZ (ai (cZ c_) c_)) c_))) c_)))))))))) (v1 8) (yS (DG (mB (aC n9 (aY aG.m (ai (mC .non) (ai (ar 8) c_))) (mC (.int 0)))) (mB (aC n9 (aY aG.m (ai (ar 5) (ai (ar 8) c_))) (mC (.int 0))))) (bK (mC (.bl T))) i5))
 (aZ (bq 9 (aC xl (mC (.str "9")) (aC hU (mC (.int 61)) (aC jl (aY bJ (ai (ar 2) (ai (mC (.int 2)) c_))) (mC (.int 4300))))))
 (aZ (fR (kf (cZ (ai (aC hU (mC (.str "0=")) (ar 9)) (ai (aC hU (ar 9) (mC (.str "=1"))) (ai (aC hU (mC (.str "0=1/")) (ar 9)) (ai (aC hU (mC (.str "0=-")) (ar 9)) c_)))))) (v1 10) (yS (DG (mB (aC n9 (aY aG.m (ai (mC .non) (ai (aC hU (mC (.str "0: ")) (ar 10)) c_))) (mC (.int 0)))) (mB (aC n9 (aY aG.m (ai (mC (.int 12)) (ai (aC hU (ar 10) (mC (.str " | 1"))) c_))) (mC (.int 0))))) (bK (mC (.bl T))) i5))
 (yS (DG (mB (aC n9 (aY aG.m (ai (ar 5) (ai (aC hU (mC (.str "| ")) (ar 9)) c_))) (mC (.int 0)))) (mB (aC n9 (aY aG.m (ai (ar 5) (ai (aC hU (mC (.str "| 1/")) (ar 9)) c_))) (mC (.int 0))))) (bK (mC (.bl T))) i5)))))))))))
 (bK (mC (.bl I))))
def Dw:UZ->MH->VW:=fQ 16 1 Hx
end
def pJ{lo:Int}{c:Nat}:(d3 lo c).length=c:=by simp[d3]
def oN{j:VN}{env:aN}{s s1:f_}{o:JK}{i:Nat}{a:Xs j}{u:j.contains i=I}{l:a.fz=I}{as ds ds':VP}{r:D}(e1:a.p env s=.ok as s1)(e2:env[i]?=J (J (.lst ds)))(e3:o.p ds as=J (r,ds')):(Ed o i a u l).p env s=.nx (env.set i (J (.lst ds'))) s1:=by rw[NK,Au e1 e2 e3]
abbrev nD(t b:Int):D:=.tup [.int t,.int b]
def mV{a b:Int}(j:0<=a)(i:0<=b):Int.gcd b (a % b)=Int.gcd a b:=by obtain⟨m,rfl⟩:=Tz j;obtain⟨n,rfl⟩:=Tz i;show Nat.gcd n (m % n)=Nat.gcd m n;rw[Nat.gcd_comm m n,Nat.gcd_rec n m,Nat.gcd_comm]
def pY{a b:Int}(i:0<b):jj.p (.int a) (.int b)=J (.int (a % b)):=by rw[FA (by ext),Pt _ (by ext)]
def KC{a b:Int}(i:b≠0):JM.p (.int a) (.int b)=J (.int (a.fdiv b)):=eT i
def xA{a b:Int}(i:0<b):JM.p (.int a) (.int b)=J (.int (a/b)):=by rw[KC (by ext),Int.fdiv_eq_ediv_of_nonneg _ (by ext)]
def KG{a:Int}:(if a<0 then -a else a)=(a.natAbs:Int):=by split<;>ext
def jX{a:Int}:sA.p [.int a]=J (.int (a.natAbs:Int)):=by show J (D.int (if a<0 then -a else a))=_;rw[KG]
def yU{i:VN}{N:Nat}{t:Xt i}{b:Xd i}(j:∀{Z h n},cW t.m b.m n Z h≠.bad->Jf t.m b.m Z h=cW t.m b.m n Z h){env:aN}{s:f_}:(LM N t b j).p env s=eJ t.p b.p N env s:=rfl
def uE{b r:Int}(i:0<r)(l:r<b):0<=b % r/\b % r<r/\2*(b % r)<b:=by
 have u:=L5 b (show r≠0 by ext);have z:=LZ b i;have y:=Int.mul_ediv_add_emod b r;have j:1<=b/r:=by rw[TC i];ext
 have B:r*1<=r*(b/r):=Int.mul_le_mul_of_nonneg_left j (by ext);ext
def gF{a:Int}(h:0<=a):((Int.gcd a 0:Nat):Int)=a:=by rw[Int.gcd_zero_right];ext
abbrev F4:Xt []:=xB (ah Dq (af 3) (xC (.int 0)))
abbrev F5:Xd []:=kW 2 3 (ae (af 3) (ae (ah jj (af 2) (af 3)) a_))
def OR{x y:VA}{a b:Int}{n:Nat}{s:f_}(i:0<b):eJ F4.p F5.p (n+1) [x,y,J (.int a),J (.int b)] s=eJ F4.p F5.p n [x,y,J (.int b),J (.int (a % b))] s:=by rw[eJ];simp[pY i,i,PR.bl]
def KH{x y:VA}{a:Int}{n:Nat}{s:f_}:eJ F4.p F5.p (n+1) [x,y,J (.int a),J (.int 0)] s=.nx [x,y,J (.int a),J (.int 0)] s:=by rw[eJ];simp[PR.bl]
def F6{x y:VA}{s:f_}:∀(k n:Nat)(a b:Int),0<=a->0<=b->b<2^k->2*k+1<=n->eJ F4.p F5.p n [x,y,J (.int a),J (.int b)] s=.nx [x,y,J (.int (Int.gcd a b)),J (.int 0)] s:=by
 intro k
 induction k with
 |zero =>
  intro n a b l j u E;obtain⟨m,rfl⟩:∃m,n=m+1:=⟨n-1,by ext⟩
  have:b=0:=by simp at u;ext
  subst this;rw[KH,gF l]
 |succ k B =>
  intro n a b l j u E;obtain⟨m,rfl⟩:∃m,n=m+1+1:=⟨n-2,by ext⟩;by_cases e:b=0
  .subst e;rw[KH,gF l]
  .have i:0<b:=by ext
   rw[OR i,<-mV l j];have r0:=L5 a e;have r1:=LZ a i;generalize a % b=r at r0 r1 ⊢;by_cases z:r=0
   .subst z;rw[KH,gF j]
   .obtain⟨C,G,F⟩:=uE (b:=b) (r:=r) (by ext) r1;rw[OR (by ext),<-mV j r0];refine B m r (b % r) r0 C ?_ (by ext);rw[Int.pow_succ]at u;ext
abbrev qD(q:Rat):D:=nD q.num (q.den:Int)
def zr{n k:Nat}(i:0<k)(h:n<2^k):n.log2+1<=k:=by
 rcases Nat.eq_zero_or_pos n with e|e
 .subst e;simp only[Nat.log2_zero];ext
 .exact (Nat.log2_lt (by ext)).mpr h
def sD(t:Int)(b:Nat)(i:b≠0):(Rat.divInt t b).num=t/(Nat.gcd t.natAbs b:Int)/\(Rat.divInt t b).den=b/Nat.gcd t.natAbs b:=by rw[Rat.divInt_ofNat];unfold mkRat;rw[dif_neg i,Rat.normalize_eq];exact⟨rfl,rfl⟩
def sF{t:Int}{g:Nat}:(t/(g:Int)).natAbs<=t.natAbs:=Int.natAbs_ediv_le_natAbs t g
local macro_rules | `(tactic| simp! [$a,*]) => `(tactic| simp only [$a,*, Pb, Pf, aj, am])
local macro_rules | `(tactic| dsimp! [$a,*]) => `(tactic| simp only [$a,*, Pb, aj, al, aq])
local macro_rules | `(tactic| simp_all! [$a,*]) => `(tactic| simp only [$a,*, if_true])
def v4{t:Int}{b k:Nat}{s:f_}(E:b≠0)(B:b<2^k)(F:k<=950000):eG.p [.int t,.int (b:Int)] s=.ok (qD (Rat.divInt t b)) s:=by
 obtain⟨e1,e2⟩:=sD t b E;have i:((b:Nat):Int)<2^k:=by
  have:=Int.ofNat_lt.mpr B
  simpa using this
 have j:0<(Nat.gcd t.natAbs b:Int):=by
  have:0<Nat.gcd t.natAbs b:=Nat.gcd_pos_of_pos_right _ (by ext)
  ext
 rw[wA (by rfl)];unfold g8;have C:i3 4 [D.int t,.int (b:Int)]=[J (.int t),J (.int (b:Int)),Y,Y]:=rfl;have q:=F6 (x:=J (.int t)) (y:=J (.int (b:Int))) (s:=s) k 2000000 (t.natAbs:Int) ((b:Int).natAbs:Int) (by ext) (by ext) (by simpa using i) (by ext);rw[C];simp![aD,vA,al,aq,aX,jX,Pg,ln,lv,PU.au];rw[yU lO];refine(congrArg (λz:PS=>(z.then _).fin) q).trans ?_;rw[Int.gcd_natCast_natCast,Dm];have u:=xA (a:=t) j;have l:=xA (a:=(b:Int)) j;rw[qD,e1,e2];simp[PR.bl,show ¬(b:Int)<0 by ext,u,l]
def KI{s:f_}{size:Int}(u:0<size)(i:size.natAbs.log2<9000):∃d j,0<=d/\d<size/\aM.p [.pen,.int size] s=.ok (.int d) j:=by
 have z:0<size/\size.natAbs.log2<9000:=⟨u,i⟩;have l:kE s size=(iA s size z.1 z.2).choose:=by unfold kE;rw[dif_pos z]
 have k:=(iA s size z.1 z.2).choose_spec.1;rw[<-l]at k;exact⟨_,_,k.1,k.2,by show(if 0<size/\size.natAbs.log2<9000 then _ else _)=_;rw[eT z]⟩
def BY(t b:Int):Prop:=t.natAbs<10^60/\1<=b/\b<10^60/\Nat.gcd t.natAbs b.natAbs=1
def OS{t b:Int}{s:f_}(B:1<=b)(u:t.natAbs<10^60)(y:b<10^60):∃i j,eG.p [.int t,.int b] s=.ok (nD i j) s/\BY i j/\(t≠0->i≠0):=by
 obtain⟨n,rfl⟩:∃n:Nat,b=n:=⟨b.toNat,by ext⟩;have l:n≠0:=by ext
 obtain⟨e1,e2⟩:=sD t n l;refine⟨_,_,v4 (k:=200) l (DO (show n<10^60 by ext) (by decide +kernel)) (by decide),⟨?_,?_,?_,?_⟩,λht z=>?_⟩
 .rw[e1];exact PH sF u
 .have:=(Rat.divInt t n).den_pos;ext
 .have:(Rat.divInt t n).den<=n:=by rw[e2];exact Q9 _ _
  ext
 .rw[Dm];exact(Rat.divInt t n).reduced
 .rw[e1]at z;have hd:((Nat.gcd t.natAbs n:Nat):Int) ∣ t:=by
   have:=Nat.gcd_dvd_left t.natAbs n
   exact Int.ofNat_dvd_left.mpr this
  have:=Int.ediv_mul_cancel hd
  rw[z]at this;ext
def vE{s:f_}:∃t b C,bS.p [.pen] s=.ok (nD t b) C/\BY t b/\t≠0:=by
 obtain⟨w,s1,w0,Z,j⟩:=bn (s:=s) (size:=4) (by decide) (by decide);obtain⟨m,em,G,R⟩:∃m:Int,i_ [D.int 6,.int 6,.int 12,.int 999999] w=J (.int m)/\0<m/\m<=999999:=by
  obtain rfl|rfl|rfl|rfl:w=0\/w=1\/w=2\/w=3:=by ext
  .exact⟨6,rfl,by decide,by decide⟩
  .exact⟨6,rfl,by decide,by decide⟩
  .exact⟨12,rfl,by decide,by decide⟩
  .exact⟨999999,rfl,by decide,by decide⟩
 obtain⟨n,y,P,n1⟩:∃m:Int,i_ [D.int 1,.int 1,.int 5,.int 999999] w=J (.int m)/\0<m/\m<=999999:=by
  obtain rfl|rfl|rfl|rfl:w=0\/w=1\/w=2\/w=3:=by ext
  .exact⟨1,rfl,by decide,by decide⟩
  .exact⟨1,rfl,by decide,by decide⟩
  .exact⟨5,rfl,by decide,by decide⟩
  .exact⟨999999,rfl,by decide,by decide⟩
 obtain⟨t,s2,t0,W,l⟩:=bn (s:=s1) (size:=m) G (by ext);obtain⟨b,Q,U,b1,u⟩:=bn (s:=s2) (size:=n) P (by ext);obtain⟨g,s4,X,S,B⟩:=bn (s:=Q) (size:=2) (by decide) (by decide);obtain⟨H,F,i,L,E⟩:=OS (t:=if g=1 then 0-(1+t)else 1+t) (b:=1+b) (s:=s4) (by ext) (by split<;>ext) (by ext);refine⟨H,F,s4,?_,L,E (by split<;>ext)⟩;rw[pC (by rfl)];unfold fG;have M:i3 4 [D.pen]=[J .pen,Y,Y,Y]:=rfl;rw[M];by_cases z:g=1
 .rw[eT z,Int.zero_sub]at i;simp[j,em,l,y,u,B,PR.bl,z,i]
 .rw[hF z]at i;simp[j,em,l,y,u,B,PR.bl,z,i]
def UU:kQ.p (.int 10) (.int 60)=J (.int ((10^60:Nat):Int)):=by exact eT (show gB 10 60 from⟨by decide,by decide,by decide⟩)
abbrev tS(i:Int):Str:=Str.ofString (toString i)
def F7(a b:String):Str.ofString (a++b)=Str.ofString a++Str.ofString b:=by simp only[Str.ofString_eq_toList];show(⟨((a++b).toList.map Char.toNat).toArray⟩:Str)=⟨_++_⟩;simp
def dg(n:Nat):VN:=(Nat.toDigits 10 n).map Char.toNat
def zZ(n:Nat):tS (n:Int)=⟨(dg n).toArray⟩:=by unfold tS dg;rw[Str.ofString_eq_toList,QT,Ra,eT (by ext)];simp
def lB{i:Int}(h:i<0):tS i=Str.ofString "-"++tS (i.natAbs:Int):=by unfold tS;rw[QT,Ra,hF (by ext),F7,QT,Ra,eT (by ext)];congr 3;ext
def kA{n c:Nat}(h:c∈dg n):48<=c/\c<=57:=by
 unfold dg at h;obtain⟨d,hd,rfl⟩:=sk.mp h
 have:=Nat.isDigit_of_mem_toDigits (by decide) (by decide) hd
 unfold Char.isDigit at this;simp at this;obtain⟨a,b⟩:=this;constructor
 .exact UInt32.le_iff_toNat_le.mp a
 .exact UInt32.le_iff_toNat_le.mp b
def nE{n k:Nat}(i:0<k):(dg n).length<=k↔n<10^k:=by unfold dg;rw[CM];exact Nat.length_toDigits_le_iff (by decide) i
def cM{i:Int}{k:Nat}(j:0<k)(h:i.natAbs<10^k):(tS i).length<=k+1:=by unfold tS;rw[PySem.ofString_length];exact PySem.int_text_length_le10 j h
def d8(x:Str):Str.empty++x=x:=by show(⟨#[]++x.cps⟩:Str)=x;simp
def i8(x:Str):x++Str.empty=x:=by show(⟨x.cps++#[]⟩:Str)=x;simp
def bT(x y z:Str):x++y++z=x++(y++z):=by show(⟨x.cps++y.cps++z.cps⟩:Str)=⟨x.cps++(y.cps++z.cps)⟩;simp
def lg{i:Int}(h:i.natAbs<10^60):i.natAbs.log2<1920:=by
 have:=zr (k:=200) (by decide) (DO h (by decide +kernel))
 ext
def xO:1000000<=sizeLine:=by decide
def dC{i:Int}(h:i.natAbs<10^60):c7.p [.int i]=J (.str (tS i)):=by exact eT (lg h)
abbrev ia:Str:=Str.ofString "/"
def k_(t b:Int):Str:=if b=1 then tS t else tS t++ia++tS b
def qt{x:String}(h:x.length=1):(Str.ofString x).length=1:=by rw[PySem.ofString_length];exact h
def ib:ia.length=1:=qt rfl
def KJ:(Str.ofString "-").length=1:=qt rfl
def F8{t b:Int}{k:Nat}(i:0<k)(j:t.natAbs<10^k)(l:b.natAbs<10^k):(k_ t b).length<=2*k+3:=by
 have a:=cM i j;have c:=cM i l;unfold k_;split
 .ext
 .rw[strLen_append,strLen_append,ib];ext
def F9(x y:Int):i_ [D.int x,.int y] 0=J (.int x):=rfl
def F_(x y:Int):i_ [D.int x,.int y] 1=J (.int y):=rfl
def vU{t b:Int}{s:f_}(i:t.natAbs<10^60)(j:b.natAbs<10^60):gv.p [nD t b] s=.ok (.str (k_ t b)) s:=by
 rw[zv (by rfl)];unfold jW;have u:i3 1 [nD t b]=[J (nD t b)]:=rfl;have a:=cM (k:=60) (by decide) i;have c:=cM (k:=60) (by decide) j;have z:=xO;rw[u];by_cases l:b=1
 .subst l;simp[F9,F_,dC i,PR.bl,k_]
 .have e1:ao.p (.str (tS t)) (.str ia)=J (.str (tS t++ia)):=aO (by rw[ib];ext);have e2:ao.p (.str (tS t++ia)) (.str (tS b))=J (.str (tS t++ia++tS b)):=aO (by rw[strLen_append,ib];ext);simp[F9,F_,dC i,dC j,PR.bl,k_,l,e1,e2]
abbrev Uq:Xt []:=xB (ah D_ (af 0) (ah kQ (xC (.int 10)) (xC (.int 60))))
abbrev UV:Xd []:=aw (aQ 1 (ah ao (tx Dk (k4 c7 (ae (ah jj (af 0) (ah kQ (xC (.int 10)) (xC (.int 60)))) a_)) (ae (xC (.int 60)) a_)) (af 1)))
 (aQ 0 (ah JM (af 0) (ah kQ (xC (.int 10)) (xC (.int 60)))))
def UW{n m:Nat}{x:Str}{s:f_}(h:n<10^60):eJ Uq.p UV.p (m+1) [J (.int (n:Int)),J (.str x)] s=.nx [J (.int (n:Int)),J (.str x)] s:=by
 rw[eJ]
 have:¬((10^60:Nat):Int)<=(n:Int):=by ext
 simp only[Uq,bc,aA,aj,Pb,aF,aH,UU,Pf,qQ,PR.bl,Pg,decide_eq_true_eq,this,if_false]
def nT{n:Nat}{s:f_}(h:n<10^60):dY.p [.int (n:Int)] s=.ok (.str (tS (n:Int))) s:=by
 rw[tR (by rfl)];unfold fv;have j:i3 2 [D.int (n:Int)]=[J (.int (n:Int)),Y]:=rfl;have q:=UW (n:=n) (m:=1999999) (x:=Str.empty) (s:=s) h;rw[j];simp only[aD,aK,aF,aR,Pg,ln,lv,PU.au];rw[yU lO];refine(congrArg (λz:PS=>(z.then _).fin) q).trans ?_;have l:=cM (i:=(n:Int)) (k:=60) (by decide) (by rw[Dm];exact h);have e1:ao.p (.str (tS (n:Int))) (.str Str.empty)=J (.str (tS (n:Int))):=by rw[aO (by have:=xO;have:Str.empty.length=0:=rfl;ext),i8]
 have e2:c7.p [.int (n:Int)]=J (.str (tS (n:Int))):=dC (by rw[Dm];exact h);simp![PU.au,aS,aA,aX,al,aq,e2,e1,Pg,PU.bx]
def nk{t b:Int}{s:f_}(u:t.natAbs<10^60)(F:1<=b)(B:b.natAbs<10^60):eM.p [nD t b] s=.ok (.str (k_ t b)) s:=by
 rw[rG (by rfl)];unfold eP;have C:i3 2 [nD t b]=[J (nD t b),Y]:=rfl;have l:=nT (s:=s) u;have y:=nT (s:=s) B;rw[show((b.natAbs:Nat):Int)=b by ext]at y;have a:=cM (k:=60) (by decide) u;have E:=cM (i:=(t.natAbs:Int)) (k:=60) (by decide) (by rw[Dm];exact u);have c:=cM (k:=60) (by decide) B;have z:=xO;have e1:ao.p (.str (tS t)) (.str ia)=J (.str (tS t++ia)):=aO (by rw[ib];ext);have e2:ao.p (.str (tS t++ia)) (.str (tS b))=J (.str (tS t++ia++tS b)):=aO (by rw[strLen_append,ib];ext);rw[C];by_cases ht:t<0
 .have e3:ao.p (.str (Str.ofString "-")) (.str (tS (t.natAbs:Int)))=J (.str (tS t)):=by
   rw[lB ht];exact aO (by rw[KJ];ext)
  by_cases j:b=1
  .simp[F9,F_,jX,l,PR.bl,ht,e3,j,k_]
  .simp[F9,F_,jX,l,PR.bl,ht,e3,j,k_,e1,y,e2]
 .have e3:((t.natAbs:Int))=t:=by ext
  rw[e3]at l;by_cases j:b=1
  .simp[F9,F_,jX,e3,l,PR.bl,ht,j,k_]
  .simp[F9,F_,jX,e3,l,PR.bl,ht,j,k_,e1,y,e2]
def bZ(x:String):PyData.strOk (Str.ofString x)=I:=by
 unfold PyData.strOk;rw[Str.ofString_eq_toList];simp only[List.all_toArray,DE,sk,decide_eq_true_eq];rintro n ⟨c,_,rfl⟩
 have:=c.valid
 show c.val.toNat<1114112;rcases this with h|h
 .have:c.val.toNat<55296:=h
  ext
 .have:c.val.toNat<1114112:=h.2
  ext
def gP{x y:Str}(j:PyData.strOk x=I)(i:PyData.strOk y=I):PyData.strOk (x++y)=I:=by unfold PyData.strOk at j i ⊢;show(x.cps++y.cps).all _=I;rw[Array.all_append,j,i];rfl
def n4(t b:Int):PyData.strOk (k_ t b)=I:=by
 unfold k_;split
 .exact bZ _
 .exact gP (gP (bZ _) (bZ _)) (bZ _)
def r9{z:Str}(j:PyData.strOk z=I):∀i:VL,(∀x∈i,PyData.strOk x=I)->PyData.strOk (Txt.join z i)=I:=by
 intro i h;show PyData.strOk (Builtin.Str.glued z i)=I;rw[StrLaws.glued_eq_join]
 induction i with
 |nil=>show PyData.strOk Str.empty=I;simp[PyData.strOk,Str.empty]
 |cons x i l =>
  cases i with
  |nil=>exact h x (by simp)
  |cons y i=>exact gP (gP (h x (by simp)) j) (l λw hw=>h w (pW _ hw))
def lI{neg:Bool}{x y:Str}(j:PyData.strOk x=I)(i:PyData.strOk y=I):y1 neg (.str x) (.str y)=J (.bl (if neg then !decide (x=y)else decide (x=y))):=by simp[y1,py,Cy,SeqAt.shaped,PyData.canLay0,PyData.depth,PyData.eqv,j,i,Bool.beq_eq_decide_eq]
abbrev l0:=Int×Int×Int
abbrev d_(p:l0):D:=.tup [.int p.1,nD p.2.1 p.2.2]
def iN(p:l0):Prop:=0<=p.1/\p.1<20/\BY p.2.1 p.2.2
abbrev wx:Str:=Str.ofString "="
abbrev spS:Str:=Str.ofString " "
abbrev ml:Str:=Str.ofString "\n"
abbrev i6:Str:=Str.ofString ":"
abbrev il:Str:=Str.ofString "|"
def b_(p:l0):Str:=tS p.1++wx++k_ p.2.1 p.2.2
def iZ{t b:Int}(h:BY t b):t.natAbs<10^60/\b.natAbs<10^60:=⟨h.1,by have:=h.2.1;have:=h.2.2.1;ext⟩
def u0:wx.length=1:=qt rfl
def fS:spS.length=1:=qt rfl
def vH:ml.length=1:=qt rfl
def dE:i6.length=1:=qt rfl
def j4:il.length=1:=qt rfl
def jD{t b:Int}(h:BY t b):(k_ t b).length<=123:=F8 (k:=60) (by decide) (iZ h).1 (iZ h).2
def cO{i:Int}(j:0<=i)(l:i<100):(tS i).length<=3:=cM (k:=2) (by decide) (by ext)
def gz{p:l0}(h:iN p):(b_ p).length<=130:=by
 obtain⟨j,l,i⟩:=h
 have:=jD i
 have:=cO j (by ext)
 unfold b_;rw[strLen_append,strLen_append,u0];ext
def wM(p:l0):PyData.strOk (b_ p)=I:=gP (gP (bZ _) (bZ _)) (n4 _ _)
def jm{i:Int}(j:0<=i)(l:i<100):i.natAbs<10^60:=by
 have e:1000001<=10^60:=by decide +kernel
 ext
def wD:D->D
 |.tup [.int j,.tup [.int t,.int b]]=>.str (b_ (j,t,b))
 |d=>d
def zO(ps:List l0):((ps.map d_).filter λ_=>I).map wD=(ps.map b_).map .str:=by rw[AA,CY,CY];rfl
def Bw{p:l0}(h:iN p):c7.p [.int p.1]=J (.str (tS p.1))/\ao.p (.str (tS p.1)) (.str wx)=J (.str (tS p.1++wx))/\ao.p (.str (tS p.1++wx)) (.str (k_ p.2.1 p.2.2))=J (.str (b_ p)):=by obtain⟨i,l,j⟩:=h;have z:=xO;have a:=jD j;have b:=cO i (by ext);refine⟨dC (jm i (by ext)),aO (by rw[u0];ext),aO (by rw[strLen_append,u0];ext)⟩
def zD{ps:List l0}{s:f_}(hl:ps.length<=16)(h:∀p∈ps,iN p):gJ.p [.tup (ps.map d_)] s=.ok (.lst ((ps.map b_).map .str)) s:=by
 rw[yQ (by rfl)];unfold iT
 rw[show i3 1 [D.tup (ps.map d_)]=[J (.tup (ps.map d_))]from rfl,aS,NQ (ds:=ps.map d_) (λ_=>I) wD (by rfl) (by simp;ext) (λx j=>by
  obtain⟨p,i,rfl⟩:=sk.mp j;obtain⟨e1,e2,e3⟩:=Bw (h p i);obtain⟨a,b⟩:=iZ (h p i).2.2;refine⟨.int p.1,nD p.2.1 p.2.2,rfl,rfl,λ_=>?_⟩;simp![aA,aX,al,aq,e1,aF,aR,e2,aB,vU a b,e3]
  rfl),zO]
 rfl
def KL{i:VL}{c:Nat}(h:∀x∈i,x.length<=c):(i.map (·.length)).sum<=i.length*c:=by
 induction i with
 |nil=>simp
 |cons x i j =>
  have u:=h x (by simp);have z:=j λy l=>h y (pW _ l);simp only[yw,List.sum_cons,n_,Nat.succ_mul];ext
def tF:∀i:VL,kM (i.map .str)=J i
 |[]=>rfl
 |x::i=>by simp[kM,tF i]
def Ax{z:Str}{i:VL}{c m:Nat}(h:∀x∈i,x.length<=c)(hl:i.length<=m):(i.map (·.length)).sum+i.length*z.length<=m*(c+z.length):=by have l:=KL h;have j:i.length*(c+z.length)<=m*(c+z.length):=Nat.mul_le_mul_right _ hl;rw[Nat.mul_add]at j;ext
def k9{z:Str}{ts:VL}{c m:Nat}(h:∀x∈ts,x.length<=c)(hl:ts.length<=m)(i:m*(c+z.length)<=1000000):h8.p z [.lst (ts.map .str)]=J (.str (Txt.join z ts)):=by
 show(match kM (ts.map .str)with | some ts=>if JoinOk z ts=I then J (D.str (Txt.join z ts))else Y | none=>Y)=_;rw[tF];refine eT ?_;unfold JoinOk;rw[StrLaws.joinTotal]
 have:=Ax (z:=z) h hl
 have:=xO
 simp only[Builtin.Str.tooLong,PJ,decide_eq_false_iff_not];ext
def ig{z:Str}{ts:VL}{c m:Nat}(h:∀x∈ts,x.length<=c)(hl:ts.length<=m):(Txt.join z ts).length<=m*(c+z.length):=by show(Builtin.Str.glued z ts).length<=_;rw[StrLaws.glued_eq_join];exact wy (StrLaws.join_length_le z ts) (Ax h hl)
abbrev gp(rs:List (List l0)):VP:=rs.map λps=>.tup (ps.map d_)
def df(ps:List l0):Prop:=ps.length<=15/\∀p∈ps,iN p
def line(i:Int)(ps:List l0):Str:=Txt.join spS ((tS i++i6)::ps.map b_)
def xV{i:Int}{ps:List l0}(l:0<=i)(u:i<100)(h:df ps):∀x∈(tS i++i6)::ps.map b_,x.length<=130:=λx j=>by
 rcases ki.mp j with rfl|j
 .rw[strLen_append,dE];have:=cO l u;ext
 .obtain⟨p,y,rfl⟩:=sk.mp j;exact gz (h.2 p y)
def vI{i:Int}{ps:List l0}(h:df ps):((tS i++i6)::ps.map b_).length<=16:=by simp;exact h.1
def vf{i:Int}{ps:List l0}(j:0<=i)(l:i<100)(h:df ps):(line i ps).length<=2096:=by
 have:=ig (z:=spS) (xV j l h) (vI h)
 rw[fS]at this;exact this
def Ga(i:Int)(ps:List l0):PyData.strOk (line i ps)=I:=r9 (bZ _) _ λx j=>by
 rcases ki.mp j with rfl|j
 .exact gP (bZ _) (bZ _)
 .obtain⟨p,l,rfl⟩:=sk.mp j;exact wM p
def wY{x:Str}{ts:VL}(h:ts.length<=99):ao.p (.lst [.str x]) (.lst (ts.map .str))=J (.lst ((x::ts).map .str)):=by rw[qk,rT (by simp;ext)];rfl
def Te{i:Int}(j:0<=i)(l:i<100):(JP i6).p (.int i)=J (.str (tS i++i6)):=by have a:(Str.ofString (toString i)).length<=3:=cO j l;have z:=xO;have e:(JP i6).p (.int i)=J (.str (Str.empty++tS i++i6)):=eT ⟨lg (jm j l),by rw[d8];ext,by rw[strLen_append,d8,dE];ext⟩;rw[e,d8]
abbrev Rw:=List l0×Int×Int
abbrev gT(r:Rw):D:=.tup [.tup (r.1.map d_),nD r.2.1 r.2.2]
def jO(r:Rw):Prop:=df r.1/\BY r.2.1 r.2.2
def q_(r:Rw):Str:=Txt.join spS (r.1.map b_++[il,k_ r.2.1 r.2.2])
def pf{r:Rw}(h:jO r):∀x∈r.1.map b_++[il,k_ r.2.1 r.2.2],x.length<=130:=λx i=>by
 rcases v_.mp i with i|i
 .obtain⟨p,j,rfl⟩:=sk.mp i;exact gz (h.1.2 p j)
 .simp only[ki,t_,or_false]at i;rcases i with rfl|rfl
  .rw[j4];decide
  .have:=jD h.2;ext
def nN{r:Rw}(h:jO r):(r.1.map b_++[il,k_ r.2.1 r.2.2]).length<=17:=by
 have:=h.1.1
 simp;ext
def tQ{r:Rw}(h:jO r):(q_ r).length<=2227:=by
 have:=ig (z:=spS) (pf h) (nN h)
 rw[fS]at this;exact this
def Bb(r:Rw):PyData.strOk (q_ r)=I:=r9 (bZ _) _ λx i=>by
 rcases v_.mp i with i|i
 .obtain⟨p,j,rfl⟩:=sk.mp i;exact wM p
 .simp only[ki,t_,or_false]at i;rcases i with rfl|rfl
  .exact bZ _
  .exact n4 _ _
def yv{r:Rw}(h:jO r):h8.p spS [.lst ((r.1.map b_++[il,k_ r.2.1 r.2.2]).map .str)]=J (.str (q_ r)) :=
 k9 (pf h) (nN h) (by rw[fS];decide)
def KN{x y:Str}{ts:VL}(h:ts.length<=99):ao.p (.lst (ts.map .str)) (.lst [.str x,.str y])=J (.lst ((ts++[x,y]).map .str)):=by rw[qk,rT (by simp;ext)];simp
structure Row(n:Int)(ps:List l0):Prop where
 ris:ps.Pairwise λp q=>p.1<q.1
 len:(ps.length:Int)<=n
 mem:∀p∈ps,0<=p.1/\p.1<n/\BY p.2.1 p.2.2/\p.2.1≠0
def Row.ok{n:Int}{ps:List l0}(h:Row n ps)(j:n<=15):df ps:=⟨by have:=h.len;ext,λp i=>⟨(h.mem p i).1,by have:=(h.mem p i).2.1;ext,(h.mem p i).2.2.1⟩⟩
def u5(lo:Int)(c:Nat):d3 lo (c+1)=.int lo::d3 (lo+1) c:=by unfold d3;rw[TB,yw,CY];refine congr (congrArg _ (by simp)) (QU λi _=>?_);show D.int _=D.int _;congr 1;simp;ext
def rN{k:Int}(l:0<k)(E:k<=4):∀(c:Nat)(lo:Int)(z:VA)(s:f_),∃(ps:List l0)(G:f_),cG (n3 0:Xg []).p (xB (ah o0 (av aM (ae (af 1) (ae (af 2) a_))) (xC (.int 0))):Xt []).p (cR (ae (af 0) (ae (av bS (ae (af 1) a_)) a_)):Xe []).p (d3 lo c) [z,J .pen,J (.int k)] s=.ok (ps.map d_) G /\
  ps.Pairwise (λp q=>p.1<q.1)/\ps.length<=c/\∀p∈ps,lo<=p.1/\p.1<lo+c/\BY p.2.1 p.2.2/\p.2.1≠0
 |0,lo,z,s=>⟨[],s,rfl,.nil,by simp,by simp⟩
 |c+1,lo,z,s=>by
  obtain⟨d,s1,P,M,F⟩:=bn (s:=s) (size:=k) l (by ext);have e1:(n3 0:Xg []).p (.int lo) [z,J .pen,J (.int k)]=J [J (.int lo),J .pen,J (.int k)]:=rfl;have e2:(xB (ah o0 (av aM (ae (af 1) (ae (af 2) a_))) (xC (.int 0))):Xt []).p [J (.int lo),J .pen,J (.int k)] s=.ok (decide (d=0)) s1:=by simp[F,o0,PR.bl]
  rw[u5,cG,e1];dsimp only;rw[e2,Pb];by_cases C:d=0
  .obtain⟨t,b,s2,H,L⟩:=vE (s:=s1);obtain⟨ps,u,y,B,le,j⟩:=rN l E c (lo+1) (J (.int lo)) s2;have e3:(cR (ae (af 0) (ae (av bS (ae (af 1) a_)) a_)):Xe []).p [J (.int lo),J .pen,J (.int k)] s1=.ok (d_ (lo,t,b)) s2:=by
    simp[H,d_]
   refine⟨(lo,t,b)::ps,u,by rw[decide_eq_true C,eT rfl,e3,Pb,y,Pb];rfl,PF.mpr ⟨λp i=>by have:=(j p i).1;show lo<p.1;ext,B⟩,by simp;ext,λp i=>?_⟩;rcases ki.mp i with rfl|i
   .exact⟨by simp,by show lo<_;ext,L⟩
   .have:=j p i;exact⟨by ext,by ext,this.2.2⟩
  .obtain⟨ps,u,y,B,le,j⟩:=rN l E c (lo+1) (J (.int lo)) s1;refine⟨ps,u,by rw[decide_eq_false C,hF (by simp),y],B,by ext,λp i=>?_⟩
   have:=j p i;exact⟨by ext,by ext,this.2.2⟩
def Gb{n:Nat}{s:f_}(E:n<=15):∃ps j,gK.p [.pen,.int (n:Int)] s=.ok (.tup (ps.map d_)) j/\Row n ps:=by
 obtain⟨d,s1,C,B,i⟩:=bn (s:=s) (size:=4) (by decide) (by decide);obtain⟨ps,s2,u,y,le,z⟩:=rN (k:=1+d) (by ext) (by ext) n 0 Y s1;refine⟨ps,s2,?_,y,by ext,λp l=>?_⟩
 .rw[xY (by rfl)];unfold iS;rw[show i3 3 [D.pen,.int (n:Int)]=[J .pen,J (.int (n:Int)),Y]from rfl];dsimp![aD,aK,aA,aF,aH,aB,i,fh,Pf,Pg,ln,lv,PU.au,aS,aX];rw[ij,fU,al,am,aj,Pb,aq,Pb,Pb,ug (by ext),Lx,Pf,Pb,eT (by unfold d3;simp;ext)];rw[show v2 1 [0,2] [J D.pen,J (.int (n:Int)),J (.int (1+d))]=[Y,J .pen,J (.int (1+d))]from rfl,u];simp
 .have:=z p l
  exact⟨this.1,by ext,this.2.2⟩
def KO(n:Int)(r:Rw):Prop:=Row n r.1/\BY r.2.1 r.2.2
abbrev sg(c:Nat):Str:=⟨#[c]⟩
def aL(x y:Str):(x++y).cps.toList=x.cps.toList++y.cps.toList:=by show(x.cps++y.cps).toList=_;simp
def cg{x y:Str}(h:x.cps.toList=y.cps.toList):x=y:=by cases x;cases y;simp only[Str.mk.injEq];exact Array.toList_inj.mp h
def rA(c:Nat):∀l:VN,0<=PyProof.Rows.cnt c l
 |[]=>by rw[PyProof.Rows.cnt_nil];exact Int.le_refl _
 |a::l=>by
  have:=rA c l
  rw[PyProof.Rows.cnt_cons]
  split<;>ext
def OT{c:Nat}:∀{l:VN},PyProof.Rows.cnt c l=0↔c∉l
 |[]=>by simp[PyProof.Rows.cnt_nil]
 |a::l=>by
  have h:=OT (c:=c) (l:=l);have n:=rA c l;rw[PyProof.Rows.cnt_cons,ki];by_cases z:a=c
  .rw[eT z];exact⟨λe=>by ext,λe=>absurd (.inl z.symm) e⟩
  .rw[hF z,Int.zero_add,h];exact⟨λe q=>q.elim (λq=>z q.symm) e,λe q=>e (.inr q)⟩
def iB{c:Nat}:∀{a b uu ww:VN},c∉a->c∉b->a++c::uu=b++c::ww->a=b/\uu=ww
 |[],[],uu,ww,_,_,e=>by simpa using e
 |[],y::b,uu,ww,_,i,e=>by simp at e;exact absurd (by simp[e.1]) i
 |x::a,[],uu,ww,j,_,e=>by simp at e;exact absurd (by simp[e.1]) j
 |x::a,y::b,uu,ww,j,i,e=>by
  simp only[HN,List.cons.injEq]at e;obtain⟨l,u⟩:=iB (λz=>j (pW _ z)) (λz=>i (pW _ z)) e.2;exact⟨by rw[e.1,l],u⟩
def oH(z x y:Str)(i:VL):Str.join z (x::y::i)=x++z++Str.join z (y::i):=rfl
def mw(c:Nat)(i:VL):Int:=(i.map λt=>PyProof.Rows.cnt c t.cps.toList).sum
def kI(c:Nat)(t:Str)(i:VL):mw c (t::i)=PyProof.Rows.cnt c t.cps.toList+mw c i:=by simp[mw]
def wH(c:Nat):∀i:VL,0<=mw c i
 |[]=>Int.le_refl _
 |t::i=>by
  have:=wH c i
  have:=rA c t.cps.toList
  rw[kI];ext
def qU{c:Nat}:∀{ts:VL},mw c ts=0↔∀t∈ts,c∉t.cps.toList
 |[]=>by simp[mw]
 |t::ts=>by
  have h:=qU (c:=c) (ts:=ts);have j:=wH c ts;have u:=rA c t.cps.toList;have i:=OT (c:=c) (l:=t.cps.toList);rw[kI,List.forall_mem_cons,<-h,<-i];ext
def nh(c:Nat):∀(t:Str)(i:VL),PyProof.Rows.cnt c (Str.join (sg c) (t::i)).cps.toList=mw c (t::i)+i.length
 |t,[]=>by
  show PyProof.Rows.cnt c t.cps.toList=_;rw[kI];simp[mw]
 |t,u::i=>by
  rw[oH,aL,aL,PyProof.Rows.cnt_append,PyProof.Rows.cnt_append,nh c u i,kI c t,show PyProof.Rows.cnt c (sg c).cps.toList=1 by
   show PyProof.Rows.cnt c [c]=1
   rw[PyProof.Rows.cnt_cons,PyProof.Rows.cnt_nil,eT rfl];rfl]
  simp only[n_];ext
def vY{c:Nat}:∀(j i:VL),j.length=i.length->(∀t∈j,c∉t.cps.toList)->(∀t∈i,c∉t.cps.toList)->Str.join (sg c) j=Str.join (sg c) i->j=i
 |[],[],_,_,_,_=>rfl
 |[],_::_,e,_,_,_=>by cases e
 |_::_,[],e,_,_,_=>by cases e
 |[t],[u],_,_,_,e=>by rw[show t=u from e]
 |[t],u::v::i,e,_,_,_=>by simp at e
 |t::v::j,[u],e,_,_,_=>by simp at e
 |t::y::j,u::z::i,hl,B,C,e=>by
  rw[oH,oH]at e;have E:=congrArg (λx:Str=>x.cps.toList) e;simp only[aL,El]at E;obtain⟨p,q⟩:=iB (uu:=(Str.join (sg c) (y::j)).cps.toList) (ww:=(Str.join (sg c) (z::i)).cps.toList) (B t (by simp)) (C u (by simp)) E;rw[cg p,vY (y::j) (z::i) (by simpa using hl) (λx l=>B x (pW _ l)) (λx l=>C x (pW _ l)) (cg q)]
def xL{c:Nat}{i:VL}(C:i≠[])(y:∀t∈i,c∉t.cps.toList):Txt.split (Txt.join (sg c) i) (sg c)=i:=by
 have F:Txt.join (sg c) i=Str.join (sg c) i:=StrLaws.glued_eq_join _ _;rw[F];have e1:=StrLaws.join_split (Str.join (sg c) i) (sg c);have e2:((Txt.split (Str.join (sg c) i) (sg c)).length:Int)=1+PyProof.Rows.cnt c (Str.join (sg c) i).cps.toList:=PyProof.Rows.split_len (Str.join (sg c) i) c;obtain⟨t,r,rfl⟩:=Tu C;rw[nh,qU.mpr y]at e2;have hl:(Txt.split (Str.join (sg c) (t::r)) (sg c)).length=(t::r).length:=by simp only[n_];ext
 generalize Txt.split (Str.join (sg c) (t::r)) (sg c)=E at *;obtain⟨u,j,rfl⟩:=Tu (l:=E) (by intro z;subst z;simp at hl);have e3:=nh c u j;rw[e1,nh,qU.mpr y]at e3;have B:mw c (u::j)=0:=by simp only[n_]at hl;ext
 exact vY _ _ hl (qU.mp B) y e1
def OU(a b:Str):Builtin.Str.strSub (a++b) 0 a.length=a:=by apply cg;rw[StrLaws.strSub_toList,aL];simp[Str.length]
def OV(a b:Str):Builtin.Str.strSub (a++b) a.length (a++b).length=b:=by apply cg;rw[StrLaws.strSub_toList,aL];simp[Str.length,show(a++b).cps=a.cps++b.cps from rfl];exact QR (by simp)
def KP{c:Nat}{a b:VN}(h:c∉a){k:Nat}(i:k<a.length):(a++b)[k]?≠J c:=λe=>by
 rw[BH i]at e;exact h (Ek e)
def gI{c:Nat}{a b:Str}(h:c∉a.cps.toList):Txt.partition (a++sg c++b) (sg c)=(a,sg c,b):=by
 have u:(a++sg c++b).cps.toList=a.cps.toList++(c::b.cps.toList):=by rw[aL,aL];simp
 have l:(a++sg c++b).cps.toList[a.length]?=J c:=by rw[u];simp[Str.length]
 rcases PyProof.Rows.partition_whole (a++sg c++b) (sg c)with⟨_,j⟩|⟨i,y,C,j⟩
 .exact absurd ((StrLaws.subAt_one _ c _).mpr l) (j _)
 .have e1:=(StrLaws.subAt_one _ c i).mp C;have B:i=a.length:=by
   rcases Nat.lt_trichotomy i a.length with z|z | z
   .rw[u]at e1;exact absurd e1 (KP h z)
   .exact z
   .exact absurd ((StrLaws.subAt_one _ c _).mpr l) (j _ z)
  subst B;rw[y];have s1:Builtin.Str.strSub (a++sg c++b) 0 a.length=a:=by rw[bT];exact OU _ _
  have s2:Builtin.Str.strSub (a++sg c++b) (a.length+(sg c).length) (a++sg c++b).length=b:=by
   have:=OV (a++sg c) b
   rw[strLen_append]at this;exact this
  rw[s1,s2]
def lK{c:Nat}{a:Str}(h:c∉a.cps.toList):Txt.partition a (sg c)=(a,Str.empty,Str.empty):=by
 rcases PyProof.Rows.partition_whole a (sg c)with⟨j,_⟩|⟨i,j,l,u⟩
 .exact j
 .exact absurd (Ek ((StrLaws.subAt_one _ c i).mp l)) h
abbrev QG:Xt []:=xB (ah x2 (af 1) (xC (.int 0)))
abbrev QH:Xd []:=(aw (aQ 2 (ah jj (af 0) (af 1))) (aw (aQ 0 (af 1)) (aQ 1 (af 2))))
def Ur{x:VA}{a b:Int}{n:Nat}{s:f_}(i:0<b):eJ QG.p QH.p (n+1) [J (.int a),J (.int b),x] s=eJ QG.p QH.p n [J (.int b),J (.int (a % b)),J (.int (a % b))] s:=by rw[eJ];simp[pY i,PR.bl,show ¬b=0 by ext]
def Tf{x:VA}{a:Int}{n:Nat}{s:f_}:eJ QG.p QH.p (n+1) [J (.int a),J (.int 0),x] s=.nx [J (.int a),J (.int 0),x] s:=by rw[eJ];simp[PR.bl]
def KQ{s:f_}:∀(k n:Nat)(a b:Int)(x:VA),0<=a->0<=b->b<2^k->2*k+1<=n->∃y,eJ QG.p QH.p n [J (.int a),J (.int b),x] s=.nx [J (.int (Int.gcd a b)),J (.int 0),y] s:=by
 intro k
 induction k with
 |zero =>
  intro n a b x l j u E;obtain⟨m,rfl⟩:∃m,n=m+1:=⟨n-1,by ext⟩
  have:b=0:=by simp at u;ext
  subst this;exact⟨x,by rw[Tf,gF l]⟩
 |succ k B =>
  intro n a b x l j u E;obtain⟨m,rfl⟩:∃m,n=m+1+1:=⟨n-2,by ext⟩;by_cases e:b=0
  .subst e;exact⟨x,by rw[Tf,gF l]⟩
  .have i:0<b:=by ext
   rw[Ur i,<-mV l j];have r0:=L5 a e;have r1:=LZ a i;generalize a % b=r at r0 r1 ⊢;by_cases z:r=0
   .subst z;exact⟨_,by rw[Tf,gF j]⟩
   .obtain⟨C,G,F⟩:=uE (b:=b) (r:=r) (by ext) r1;rw[Ur (by ext),<-mV j r0];refine B m r (b % r) _ r0 C ?_ (by ext);rw[Int.pow_succ]at u;ext
def OW{a k:Nat}(h:a<2^k):((a:Nat):Int)<2^k:=by
 have:=Int.ofNat_lt.mpr h
 simpa using this
def vZ{a b k:Nat}{s:f_}(i:b<2^k)(j:k<=950000):cS.p [.int (a:Int),.int (b:Int)] s=.ok (.int (Nat.gcd a b:Int)) s:=by rw[nM (by rfl)];unfold cU;obtain⟨l,q⟩:=KQ (s:=s) k 2000000 (a:Int) (b:Int) Y (by ext) (by ext) (OW i) (by ext);rw[show i3 3 [D.int (a:Int),.int (b:Int)]=[J (.int (a:Int)),J (.int (b:Int)),Y]from rfl,aD,yU lO];refine(congrArg (λz:PS=>(z.then _).fin) q).trans ?_;simp
def jC{i:Int}{s:f_}:c5.p [.int i] s=.ok (.bl I) s:=by rw[pj (by rfl)];unfold fL;have e1:(dq ["int"]).p (.int i)=J (.bl I):=rfl;have e2:(dq ["bool"]).p (.int i)=J (.bl T):=rfl;rw[show i3 1 [D.int i]=[J (.int i)]from rfl];simp_all![aS,cu,cz,aj,Pb,e1,e2,Pf,PR.bl,Fx,HQ,Pg,PU.bx]
open PySem.NumText in
theorem An(n:Nat):AllDigits (dg n):=λc i=>kA i
def mM(n:Nat):dg n≠[]:=λe=>by
 have h:=toDigits_len_ge 10 n;unfold dg at e;rw[List.map_eq_nil_iff.mp e]at h;exact absurd h (by decide)
def cD(n:Nat):(tS (n:Int)).cps.toList=dg n:=by rw[zZ]
def ik{t:Int}(h:t<0):(tS t).cps.toList=45::dg t.natAbs:=by rw[lB h,aL,cD];rfl
def ii(t:Int){c:Nat}(h:c∈(tS t).cps.toList):c=45\/48<=c/\c<=57:=by
 by_cases ht:t<0
 .rw[ik ht]at h;rcases ki.mp h with h|h
  .exact .inl h
  .exact .inr (kA h)
 .obtain⟨n,rfl⟩:∃n:Nat,t=n:=⟨t.toNat,by ext⟩;rw[cD]at h;exact .inr (kA h)
def qY{t:Int}(h:t.natAbs<10^60):ko.p [.str (tS t)]=J (.int t):=by
 have hl:=cM (k:=60) (by decide) h;have e:PySem.intText? (tS t)=J t:=by
  by_cases ht:t<0
  .rw[PySem.intText_neg (ik ht) (An _) (mM _) (by ext)];unfold dg;rw[PySem.W.KIN.val_back];congr 1;ext
  .obtain⟨n,rfl⟩:∃n:Nat,t=n:=⟨t.toNat,by ext⟩
   have:=PySem.intText_digits (x:=tS (n:Int)) (by rw[cD];exact An _) (by rw[cD];exact mM _) (by ext)
   rw[cD]at this;rw[this];unfold dg;rw[PySem.W.KIN.val_back]
 show(match PySem.intText? (tS t)with | some n=>if(tS t).length<=640 then J (D.int n)else Y | none=>Y)=_;rw[e];exact eT (by ext)
def KR{c:Nat}(h:48<=c/\c<=57):(kO T).p (.str ⟨#[c]⟩) (.str "0123456789")=J (.bl I):=by
 have:∀k,k<10->(!(PySem.Builtin.Str.occurrences (Str.ofString "0123456789") ⟨#[48+k]⟩ 0 (Str.ofString "0123456789").length 1).isEmpty)=I:=by decide +kernel
 have e:=this (c-48) (by ext);rw[show 48+(c-48)=c by ext]at e;show J (D.bl (!(PySem.Builtin.Str.occurrences (Str.ofString "0123456789") ⟨#[c]⟩ 0 (Str.ofString "0123456789").length 1).isEmpty))=_;rw[e]
def kH:∀(i:VP),(∀d∈i,d=.bl I)->iu i=J (i.map λ_=>I)
 |[],_=>rfl
 |d::i,h=>by
  rw[h d (by simp)];unfold iu;rw[kH i λx j=>h x (pW _ j)];rfl
def nS{n:Nat}{s:f_}(h:n<10^60):cb.p [.str (tS (n:Int))] s=.ok (.bl I) s:=by
 have B:(tS (n:Int)).length=(dg n).length:=by rw[<-cD];simp[Str.length]
 have F:(dg n).length<=60:=(nE (by decide)).mpr h;have G:0<(dg n).length:=QV.mpr (mM n);rw[lu (by rfl)];unfold du;rw[show i3 1 [D.str (tS (n:Int))]=[J (.str (tS (n:Int)))]from rfl];have C:bY.p [.str (tS (n:Int))]=J (.int ((dg n).length:Int)):=by rw[<-B];exact eT (by have:=xO;ext)
 have E:OE (.str (tS (n:Int)))=J ((dg n).map λc=>.str ⟨#[c]⟩):=by
  show(if(tS (n:Int)).cps.all (·<128)=I then J ((tS (n:Int)).cps.toList.map λc=>D.str ⟨#[c]⟩)else Y)=_;rw[eT,cD];rw[<-Q4,cD,DE];intro c j
  have:=kA j
  simp;ext
 have y:=kL (ws:=[]) (ws':=[]) (env:=[J (.str (tS (n:Int)))]) (s:=s) (fm:=[]) (i:=ss (af 0)) (t:=i4) (e:=ah (kO T) (af 0) (xC (.str "0123456789"))) (ds:=(dg n).map λc=>.str ⟨#[c]⟩) (λ_=>I) (λ_=>.bl I) (by
   rw[zn,aj,Pb,E];rfl) (by simp;ext) (λx u=>by
   obtain⟨c,j,rfl⟩:=sk.mp u;refine⟨rfl,λ_=>?_⟩
   rw[aA,aj,Pb,aF,Pb,show(Cn.str "0123456789").d=D.str "0123456789" from rfl,KR (kA j)];rfl)
 rw[aS,cu];have l:(g7 DA DA (xC (.int 1)) (k4 bY (ae (af 0) a_)) (xC (.int 60)):Xe []).p [J (.str (tS (n:Int)))] s=.ok (.bl I) s:=by simp[C,PR.bl,show(1:Int)<=((dg n).length:Int) by ext,show((dg n).length:Int)<=60 by ext]
 rw[l];simp_all![PR.bl,Pb,aX,al,aq];rw[y];simp only[Pb];have z:n6.p [.lst (List.map (λ_=>D.bl I) (List.filter (λ_=>I) (List.map (λc=>D.str ⟨#[c]⟩) (dg n))))]=J (.bl I):=by show((iu _).map λbs=>D.bl (bs.all id))=_;rw[kH _ λd hd=>by obtain⟨_,_,rfl⟩:=sk.mp hd;rfl];simp
 rw[z];rfl
def rM{x:Str}{k:Nat}(E:k<=x.length):Txt.slice x (J (k:Int)) Y=⟨(x.cps.toList.drop k).toArray⟩:=by
 have e:Builtin.Str.strSliceIndices (J (k:Int)) Y 1 x.length=(List.range (x.length-k)).map λi=>k+i:=by
  unfold Builtin.Str.strSliceIndices sliceRange;simp_all![show(1:Int)>0 by decide,show ¬((k:Int)<0) by ext,if_false];rw[show max 0 (min (k:Int) (x.length:Int))=(k:Int) by ext];by_cases z:(k:Int)<(x.length:Int)
  .rw[eT z,Int.ediv_one,show((x.length:Int)-(k:Int)+1-1).toNat=x.length-k by ext];exact QU λi _=>by ext
  .rw[hF z,show x.length-k=0 by ext];rfl
 unfold Txt.slice;rw[e];by_cases z:k=0
 .subst z;rw[eT (by simp)];simp
 .by_cases y:x.length=0
  .ext
  rw[hF (by simp;ext)];congr 2;have C:x.cps.toList.length=x.length:=by simp[Str.length]
  apply List.ext_getElem?;intro i;rw[List.filterMap_map,QY];have B:((λj:Nat=>x.cps[j]?)∘λi=>k+i)=λi=>x.cps.toList[k+i]?:=by funext i;simp
  rw[B];have l:∀m,m<=x.length-k->((List.range m).filterMap λi=>x.cps.toList[k+i]?)=(x.cps.toList.drop k).take m:=by
   intro m
   induction m with
   |zero=>intro _;simp
   |succ m u =>
    intro F;rw[List.range_succ,List.filterMap_append,u (by ext),List.take_succ,QY]
    have:k+m<x.cps.toList.length:=by ext
    rw[C_ this];have hg:x.cps.toList[k+m]?=J x.cps.toList[k+m]:=C_ this;rw[Pz,hg];rfl
  rw[l _ (mh _),QR (by simp[Str.length]),QY]
def uR(n:Nat)(y:Str):Txt.startswith (tS (n:Int)++y) (sg 45)=T:=by
 unfold Txt.startswith;rw[Bool.and_eq_false_iff];right
 cases e:Builtin.Str.subAt (tS (n:Int)++y) (sg 45) 0 with
 |false=>rfl
 |true =>
  have hl:0<(dg n).length:=QV.mpr (mM n)
  have e2:=(StrLaws.subAt_one (tS (n:Int)++y) 45 0).mp ⟨by
   rw[strLen_append]
   have:(tS (n:Int)).length=(dg n).length:=by rw[<-cD];simp[Str.length]
   show 0+1<=_
   ext,e⟩
  rw[aL,cD,BH hl]at e2
  have:=kA (Ek e2)
  ext
def u3(y:Str):Txt.startswith (sg 45++y) (sg 45)=I:=by
 unfold Txt.startswith;have e2:=(StrLaws.subAt_one (sg 45++y) 45 0).mpr (by rw[aL];simp);rw[e2.2]
 have:=e2.1
 simp only[Bool.and_true,decide_eq_true_eq];exact this
def qb(t:Int):47∉(tS t).cps.toList:=λh=>by rcases ii t h with h|h<;>ext
def sL(t:Int):61∉(tS t).cps.toList:=λh=>by rcases ii t h with h|h<;>ext
def Ea(b:Int):Str:=if b=1 then Str.empty else ia
def Eg(b:Int):Str:=if b=1 then Str.empty else tS b
def AY(t b:Int):Txt.partition (k_ t b) ia=(tS t,Ea b,Eg b):=by
 unfold k_ Ea Eg;by_cases z:b=1
 .rw[eT z,eT z,eT z];exact lK (c:=47) (qb t)
 .rw[hF z,hF z,hF z];exact gI (c:=47) (qb t)
def qV{a b:D}{s:f_}:cw.p [.tup [a,b]] s=.ok (.bl I) s:=by rw[re (by rfl)];unfold gE;have e1:(dq ["tuple"]).p (.tup [a,b])=J (.bl I):=rfl;have e2:bY.p [.tup [a,b]]=J (.int 2):=rfl;rw[show i3 1 [D.tup [a,b]]=[J (.tup [a,b])]from rfl];simp[e1,e2,PR.bl,show jd "tuple" "tuple"=I from rfl]
def oE{t b:Int}{s:f_}(h:BY t b):cK.p [nD t b] s=.ok (.bl I) s:=by obtain⟨y,j,u,i⟩:=h;obtain⟨n,rfl⟩:∃n:Nat,b=n:=⟨b.toNat,by ext⟩;have q:=vZ (a:=t.natAbs) (b:=n) (k:=200) (s:=s) (DO (show n<10^60 by ext) (by decide +kernel)) (by decide);rw[Dm]at i;rw[i]at q;rw[j8 (by rfl)];unfold dH;rw[show i3 1 [nD t (n:Int)]=[J (nD t (n:Int))]from rfl];have l:cw.p [nD t (n:Int)] s=.ok (.bl I) s:=qV;simp[l,F9,F_,jC,PR.bl,jX,q,j]
def lH{n i:Int}{s:f_}(j:0<=i)(l:i<n):cY.p [.int n,.int i] s=.ok (.bl I) s:=by rw[kY (by rfl)];unfold eK;rw[show i3 2 [D.int n,.int i]=[J (.int n),J (.int i)]from rfl];simp[jC,PR.bl,j,l]
def jk{t b:Int}{s:f_}(h:BY t b):bz.p [.str (k_ t b)] s=.ok (nD t b) s:=by
 have l:=iZ h;have Z:=jD h;have z:=xO;have lt:=cM (k:=60) (by decide) l.1;have X:=cM (k:=60) (by decide) l.2;have R:=oE (s:=s) h;have E:=nk (s:=s) l.1 h.2.1 l.2;have e1:mA.p (k_ t b) [.str ia]=J (.tup [.str (tS t),.str (Ea b),.str (Eg b)]):=by show(if(ia.length==0)=T/\(k_ t b).length<=sizeLine then J (D.tup [.str (Txt.partition (k_ t b) ia).1,.str (Txt.partition (k_ t b) ia).2.1,.str (Txt.partition (k_ t b) ia).2.2])else Y)=_;rw[eT ⟨rfl,by ext⟩,AY]
 obtain⟨f,j⟩:∃f:Str,f=if t<0 then Str.ofString "-" else Str.ofString "":=⟨_,rfl⟩
 have e2:m_.p (k_ t b) [.str (Str.ofString "-")]=J (.bl (decide (t<0))):=by
  show J (D.bl (Txt.startswith (k_ t b) (Str.ofString "-")))=_;congr 2;unfold k_;by_cases ht:t<0
  .rw[decide_eq_true ht,lB ht];split
   .exact u3 _
   .rw[bT,bT];exact u3 _
  .obtain⟨n,rfl⟩:∃n:Nat,t=n:=⟨t.toNat,by ext⟩;rw[decide_eq_false ht];split
   .have:=uR n Str.empty
    rw[i8]at this;exact this
   .rw[bT];exact uR n _
 have e3:bY.p [.str f]=J (.int (f.length:Int)):=eT (by rw[j];split<;>decide);have e4:qr (.str (tS t)) (J (f.length:Int)) Y=J (.str (tS (t.natAbs:Int))):=by
  show(if(tS t).length<=sizeLine then J (D.str (Txt.slice (tS t) (J (f.length:Int)) Y))else Y)=_;rw[eT (by ext)];congr 2;by_cases ht:t<0
  .rw[eT ht]at j
   have:f.length=1:=by rw[j];rfl
   rw[this,rM (k:=1) (by rw[lB ht,strLen_append];have:(Str.ofString "-").length=1:=rfl;ext),ik ht,zZ];rfl
  .rw[hF ht]at j
   have:f.length=0:=by rw[j];rfl
   rw[this,rM (k:=0) (CN _)];obtain⟨n,rfl⟩:∃n:Nat,t=n:=⟨t.toNat,by ext⟩;simp
 have e5:sv (.str (Ea b))=J (!decide (b=1)):=by
  unfold Ea;by_cases y:b=1
  .rw[eT y,decide_eq_true y];show(if Str.empty.length<=sizeLine then J ((Str.empty.length:Int) != 0)else Y)=_;rw[eT (by decide)];rfl
  .rw[hF y,decide_eq_false y];show(if ia.length<=sizeLine then J ((ia.length:Int) != 0)else Y)=_;rw[eT (by decide)];rfl
 have G:=nS (n:=t.natAbs) (s:=s) l.1;have u:=nS (n:=b.natAbs) (s:=s) l.2;rw[show((b.natAbs:Nat):Int)=b by have:=h.2.1;ext]at u;have P:ao.p (.str f) (.str (tS (t.natAbs:Int)))=J (.str (tS t)):=by
  by_cases ht:t<0
  .rw[eT ht]at j;rw[j,lB ht];refine aO ?_;have W:=cM (i:=(t.natAbs:Int)) (k:=60) (by decide) (by rw[Dm];exact l.1)
   have:(Str.ofString "-").length=1:=rfl
   ext
  .rw[hF ht]at j;obtain⟨n,rfl⟩:∃n:Nat,t=n:=⟨t.toNat,by ext⟩;rw[j,show(Str.ofString "")=Str.empty from rfl,Dm,aO (by have:Str.empty.length=0:=rfl;ext),d8]
 have U:(if decide (t<0)=I then D.str (Str.ofString "-")else D.str (Str.ofString ""))=D.str f:=by
  rw[j];by_cases ht:t<0
  .rw[decide_eq_true ht,eT rfl,eT ht]
  .rw[decide_eq_false ht,hF (by simp),hF ht]
 have F:o0.p (.str (k_ t b)) (.str (k_ t b))=J (.bl I):=by simp[o0,lI (n4 t b) (n4 t b)]
 have C:=qY l.1;have S:=qY l.2;rw[k8 (by rfl)];unfold dz;rw[show i3 6 [D.str (k_ t b)]=[J (.str (k_ t b)),Y,Y,Y,Y,Y]from rfl];have H:(iz (xB (tx m_ (af 0) (ae (xC (.str "-")) a_))) (xC (.str "-")) (xC (.str "")) I:Xe []).p [J (.str (k_ t b)),J (.tup [.str (tS t),.str (Ea b),.str (Eg b)]),Y,Y,Y,Y] s=.ok (.str f) s:=by
  by_cases ht:t<0
  .rw[eT ht]at j;rw[decide_eq_true ht]at e2;dsimp![cT,bc,ck,aF,aR,e2,Pf,PR.bl,if_true,j]
  .rw[hF ht]at j;rw[decide_eq_false ht]at e2;dsimp![cT,bc,ck,aF,aR,e2,Pf,PR.bl,ol,if_false,j]
 have Q:(iz (qh (ah ka (af 1) (xC (.int 1)))) (ah ka (af 1) (xC (.int 2))) (xC (.str "1")) I:Xe []).p [J (.str (k_ t b)),J (.tup [.str (tS t),.str (Ea b),.str (Eg b)]),J (.str f),J (.str (tS (t.natAbs:Int))),Y,Y] s=.ok (.str (tS b)) s:=by
  have B:i_ [D.str (tS t),.str (Ea b),.str (Eg b)] 1=J (.str (Ea b)):=rfl;have M:i_ [D.str (tS t),.str (Ea b),.str (Eg b)] 2=J (.str (Eg b)):=rfl;by_cases y:b=1
  .rw[decide_eq_true y]at e5;simp![cT,nI,aA,aF,aH,aR,fF,B,e5,CV,ol,if_false];rw[y];rfl
  .rw[decide_eq_false y]at e5;simp![cT,nI,aA,aF,aH,aR,fF,B,M,e5,HQ,if_true];rw[show Eg b=tS b from hF y]
 have L:i_ [D.str (tS t),.str (Ea b),.str (Eg b)] 0=J (.str (tS t)):=rfl;dsimp![aD,aK,ck,aF,aR,aH,e1,Pf,Pg,ln,lv,PU.au];rw[H];simp![aD,aK,Pg,ln,lv,PU.au,AC,aA,fF,L,fK,gS,aX,al,aq,e3,e4,aF,aH];rw[Q];simp![aD,aK,Pg,ln,lv,PU.au,bg,gZ,dZ,bc,aB,al,aq,G,u,PR.bl,CV,ol,if_false,bv,j6,aX,aA,P,C,S,aS,cT,ft,R,E,F,if_true,n_,pa,show(0+1+1:Nat)<=100000 by decide];rfl
def eq_self{x:Str}(i:PyData.strOk x=I):o0.p (.str x) (.str x)=J (.bl I):=by simp[o0,lI i i]
def vC{n j:Int}{s:f_}(l:0<=j)(y:j<n)(z:j<100):d6.p [.int n,.str (tS j)] s=.ok (.int j) s:=by have i:=jm l z;have u:=nS (n:=j.natAbs) (s:=s) i;rw[show((j.natAbs:Nat):Int)=j by ext]at u;have B:=eq_self (x:=tS j) (bZ _);rw[nj (by rfl)];unfold d4;rw[show i3 3 [D.int n,.str (tS j)]=[J (.int n),J (.str (tS j)),Y]from rfl];simp![aD,aK,Pg,ln,lv,PU.au,bg,dZ,bc,aB,al,aq,u,PR.bl,CV,ol,if_false,bv,aX,aA,qY i,aS,cT,ft,lH l y,dC i,B,if_true];rfl
def pd{n:Int}{p:l0}{s:f_}(h:iN p)(i:p.1<n):bG.p [.int n,.str (b_ p)] s=.ok (d_ p) s:=by
 have u:=gz h;have z:=xO;have e1:mA.p (b_ p) [.str wx]=J (.tup [.str (tS p.1),.str wx,.str (k_ p.2.1 p.2.2)]):=by show(if(wx.length==0)=T/\(b_ p).length<=sizeLine then J (D.tup [.str (Txt.partition (b_ p) wx).1,.str (Txt.partition (b_ p) wx).2.1,.str (Txt.partition (b_ p) wx).2.2])else Y)=_;rw[eT ⟨rfl,by ext⟩,show Txt.partition (b_ p) wx=(tS p.1,wx,k_ p.2.1 p.2.2)from gI (c:=61) (sL p.1)]
 have j:i_ [D.str (tS p.1),.str wx,.str (k_ p.2.1 p.2.2)] 0=J (.str (tS p.1)):=rfl;have l:i_ [D.str (tS p.1),.str wx,.str (k_ p.2.1 p.2.2)] 2=J (.str (k_ p.2.1 p.2.2)):=rfl;rw[oj (by rfl)];unfold eY;rw[show i3 3 [D.int n,.str (b_ p)]=[J (.int n),J (.str (b_ p)),Y]from rfl];simp![aD,aK,ck,al,aF,aR,aH,aq,e1,Pg,ln,lv,PU.au,aS,j6,aB,aA,fF,j,l,vC h.1 i (by have:=h.2.1;ext),jk h.2.2,n_,pa,show(0+1+1:Nat)<=100000 by decide,if_true];rfl
def gu(k:Nat)(d:D):Prop:=∃x,py d=J x/\Cy d<=k/\x.canLay0=I/\x.depth<=k
def vv{i:Int}{k:Nat}:gu k (.int i):=⟨.int i,rfl,by simp[Cy],rfl,by simp[PyData.depth]⟩
def vG{k:Nat}{i:VP}(h:∀d∈i,gu k d):∃xs,Dr i=J xs/\BS i<=k/\PyData.canLayAll0 xs=I/\PyData.depthAll xs<=k:=by
 induction i with
 |nil=>exact⟨[],rfl,by simp[BS],rfl,by simp[PyData.depthAll]⟩
 |cons d i j =>
  obtain⟨xs,l,C,y,B⟩:=j λd hd=>h d (pW _ hd);obtain⟨x,b1,b2,u,z⟩:=h d (by simp);exact⟨x::xs,by simp[Dr,l,b1],by simp only[BS];ext,by simp[PyData.canLayAll0,y,u],by simp only[PyData.depthAll];ext⟩
def uI{k:Nat}{i:VP}(h:∀d∈i,gu k d):gu (k+1) (.tup i):=by obtain⟨xs,j,y,l,u⟩:=vG h;exact⟨.tuple xs,by simp[py,j],by simp only[Cy];ext,by simpa [PyData.canLay0]using l,by simp only[PyData.depth];ext⟩
def ic{k:Nat}{i:VP}(h:∀d∈i,gu k d):gu (k+1) (.lst i):=by obtain⟨xs,j,y,l,u⟩:=vG h;exact⟨.list xs,by simp[py,j],by simp only[Cy];ext,by simpa [PyData.canLay0]using l,by simp only[PyData.depth];ext⟩
def vm{k:Nat}{t b:Int}:gu (k+1) (nD t b):=uI λd hd=>by
 simp only[ki,t_,or_false]at hd;rcases hd with rfl|rfl<;>exact vv
def tI{d:D}{i:Bool}(h:gu 60 d):y1 i d d=J (.bl (!i)):=by obtain⟨x,u,l,j,y⟩:=h;unfold y1;rw[u];dsimp only;rw[eT ⟨⟨l,l⟩,d7 j (by ext),d7 j (by ext)⟩,SeqAt.eqv_refl x j];cases i<;>rfl
def OX:∀m,m<16->SortT.yy (List.range m)=I:=by decide +kernel
def KU{l:VM}(h:l.Pairwise (·<·))(hl:l.length<16):SortT.iY l :=
 ⟨List.range l.length,OX _ hl,by simp,λi j u y=>by
  rw[SortT.FM h u y,HI,HI,QW u,QW y];rfl⟩
def wI{t b:Int}(h:t≠0):y1 I (nD t b) (nD 0 1)=J (.bl I):=by simp[y1,py,Dr,Cy,BS,SeqAt.shaped,PyData.canLay0,PyData.canLayAll0,PyData.depth,PyData.depthAll,PyData.eqv,PyData.eqvAll,h]
def yO{i j:Int}{l:VN}{env:aN}{s:f_}:(Qz i j:Xe l).p env s=.ok (nD i j) s:=rfl
def tf{n:Int}{p:l0}{s:f_}(i:0<=p.1)(l:p.1<n)(y:BY p.2.1 p.2.2)(u:p.2.1≠0):cv.p [.int n,d_ p] s=.ok (.bl I) s:=by rw[qO (by rfl)];unfold gC;rw[show i3 2 [D.int n,d_ p]=[J (.int n),J (d_ p)]from rfl];have z:cw.p [d_ p] s=.ok (.bl I) s:=qV;have B:i_ [D.int p.1,nD p.2.1 p.2.2] 0=J (.int p.1):=rfl;have j:i_ [D.int p.1,nD p.2.1 p.2.2] 1=J (nD p.2.1 p.2.2):=rfl;simp![aS,cu,aB,al,aq,z,PR.bl,if_true,aA,aF,aH,fF,B,j,lH i l,oE y,yO,ui,wI u,Pg,PU.bx]
def zF{k:Nat}{p:l0}:gu (k+2) (d_ p):=uI λd hd=>by
 simp only[ki,t_,or_false]at hd;rcases hd with rfl|rfl
 .exact vv
 .exact vm
def QI{i:VP}:(dq ["tuple"]).p (.tup i)=J (.bl I):=rfl
def wj{n:Int}{ps:List l0}{s:f_}(h:Row n ps)(ok:df ps):dJ.p [.int n,.tup (ps.map d_)] s=.ok (.bl I) s:=by
 have hl:ps.length<=15:=ok.1
 have y:=kL (ws:=[]) (ws':=[]) (env:=[J (.int n),J (.tup (ps.map d_))]) (s:=s) (fm:=[0]) (i:=fB (af 1)) (t:=i4) (e:=av cv (ae (af 1) (ae (af 0) a_))) (ds:=ps.map d_) (λ_=>I) (λ_=>.bl I) (by
   rw[fT,am,aj,Pb];rfl) (by simp;ext) (λx j=>by
   obtain⟨p,l,rfl⟩:=sk.mp j;refine⟨rfl,λ_=>?_⟩;obtain⟨a,b,c,d⟩:=h.mem p l;show(av cv (ae (af 1) (ae (af 0) a_)):Xe []).p [J (d_ p),J (.int n)] s=_
   dsimp![aB,am,tf a b c d])
 have z:=kL (ws:=[]) (ws':=[]) (env:=[J (.int n),J (.tup (ps.map d_))]) (s:=s) (fm:=[]) (i:=fB (af 1)) (t:=i4) (e:=ah ka (af 0) (xC (.int 0))) (ds:=ps.map d_) (λ_=>I) (λd=>.int (zb d)) (by
   rw[fT,am,aj,Pb];rfl) (by simp;ext) (λx j=>by
   obtain⟨p,l,rfl⟩:=sk.mp j
   exact⟨rfl,λ_=>rfl⟩)
 have B:n6.p [.lst (List.map (λ_=>D.bl I) (List.filter (λ_=>I) (ps.map d_)))]=J (.bl I):=by show((iu _).map λbs=>D.bl (bs.all id))=_;rw[kH _ λd hd=>by obtain⟨_,_,rfl⟩:=sk.mp hd;rfl];simp
 have C:List.map (λd=>D.int (zb d)) (List.filter (λ_=>I) (ps.map d_))=(ps.map λp:l0=>p.1).map .int:=by rw[HK.mpr λ_ _=>rfl,CY,CY];rfl
 have nd:(ps.map λp:l0=>p.1).Nodup:=(HL.mpr h.ris).imp λh=>Int.ne_of_lt h;have em:QB.p [.lst ((ps.map λp:l0=>p.1).map .int)]=J (.int (ps.length:Int)):=by rw[Hm (by simp;ext),wP.mpr nd];simp
 have u:bY.p [.tup (ps.map d_)]=J (.int (ps.length:Int)):=by show J (D.int ((ps.map d_).length:Int))=_;simp
 rw[jJ (by rfl)];unfold dI;rw[show i3 2 [D.int n,.tup (ps.map d_)]=[J (.int n),J (.tup (ps.map d_))]from rfl];rw[aD,bg,dZ,bc,aX,al,y];simp only[Pb,aq,B,Pf,PR.bl,CV,Pg,ol,if_false,bv,PU.au];rw[aS,aA,aX,al,z,C];simp![aq,em,aX,al,u,uc,JO,ol,if_false,decide_true,Pg,PU.bx]
def BI{n:Int}{ps:List l0}{s:f_}(h:Row n ps)(ok:df ps):eA.p [.int n,.tup (ps.map d_)] s=.ok (.bl I) s:=by
 have hl:ps.length<=15:=ok.1;have i:(ps.map λp:l0=>p.1).Pairwise (·<·):=HL.mpr h.ris;have j:(ps.map d_).map zb=ps.map λp:l0=>p.1:=by rw[CY];rfl
 have nd:((ps.map d_).map zb).Nodup:=by rw[j];exact i.imp λh=>Int.ne_of_lt h
 have l:bo zb (ps.map d_)=ps.map d_:=(mK (List.Perm.refl _) nd (HL.mpr (h.ris.imp λh=>Int.le_of_lt h))).symm;have e1:qS.p [.tup (ps.map d_)]=J (.lst (bo zb (ps.map d_))):=eT ⟨λd hd=>by obtain⟨p,_,rfl⟩:=sk.mp hd;rfl,nd,by rw[j];exact KU i (by simp;ext),by simp;ext⟩;rw[l]at e1;have e2:oW.p [.tup (ps.map d_)]=J (.lst (ps.map d_)):=by show(if(ps.map d_).length<=100000 then J (D.lst (ps.map d_))else Y)=_;rw[eT (by simp;ext)]
 have e3:y1 T (.lst (ps.map d_)) (.lst (ps.map d_))=J (.bl I):=tI (ic λd hd=>by
  obtain⟨p,_,rfl⟩:=sk.mp hd;exact zF)
 rw[kK (by rfl)];unfold fo;rw[show i3 2 [D.int n,.tup (ps.map d_)]=[J (.int n),J (.tup (ps.map d_))]from rfl];simp![aS,cu,cz,aB,al,aq,QI,PR.bl,if_true,wj h ok,aA,aX,e1,e2,uc,e3,Pg,PU.bx]
def di{n:Int}{ps:List l0}{s:f_}(h:Row n ps)(ok:df ps):bQ.p [.int n,.lst ((ps.map b_).map .str)] s=.ok (.tup (ps.map d_)) s:=by
 have hl:ps.length<=15:=ok.1;obtain⟨r,s2,B,hr⟩:∃r s2,(c6 1 [0] (fB (af 1)) (ws':=[]) (n3 0) i4 (av bG (ae (af 1) (ae (af 0) a_))):Xe []).p [J (.int n),J (.lst ((ps.map b_).map .str)),Y] s=.ok (.lst r) s2/\r=ps.map d_/\s2=s:=by
  have j:∀(i:List l0)(z:VA),(∀p∈i,p∈ps)->cG (n3 0:Xg []).p (i4:Xt []).p (av bG (ae (af 1) (ae (af 0) a_)):Xe []).p ((i.map b_).map .str) [z,J (.int n)] s=.ok (i.map d_) s:=by
   intro i
   induction i with
   |nil=>intro z _;rfl
   |cons p i y =>
    intro z l;have u:=l p (by simp);have e1:(n3 0:Xg []).p (.str (b_ p)) [z,J (.int n)]=J [J (.str (b_ p)),J (.int n)]:=rfl;have e3:(av bG (ae (af 1) (ae (af 0) a_)):Xe []).p [J (.str (b_ p)),J (.int n)] s=.ok (d_ p) s:=by dsimp![aB,am,pd (ok.2 p u) (h.mem p u).2.1]
    rw[yw,yw,cG,e1];dsimp only;rw[show(i4:Xt []).p [J (.str (b_ p)),J (.int n)] s=.ok I s from rfl,Pb,eT rfl,e3,Pb,y _ λx C=>l x (pW _ C),Pb];rfl
  refine⟨_,_,?_,rfl,rfl⟩;rw[ij,fT,am,aj,Pb,show(D.lst ((ps.map b_).map .str)).items=J ((ps.map b_).map .str)from rfl,Pf,Pb,eT (by simp;ext)];rw[show v2 1 [0] [J (.int n),J (.lst ((ps.map b_).map D.str)),Y]=[Y,J (.int n)]from rfl,j ps Y λ_ h=>h]
 obtain⟨rfl,rfl⟩:=hr;have E:fV.p [.lst (ps.map d_)]=J (.tup (ps.map d_)):=rfl;rw[jf (by rfl)];unfold c9;rw[show i3 3 [D.int n,.lst ((ps.map b_).map .str)]=[J (.int n),J (.lst ((ps.map b_).map .str)),Y]from rfl];rw[aD,aK,aX,al,B];simp![aq,E,Pg,ln,lv,PU.au,aS,cT,bc,aB,al,BI h ok,PR.bl,if_true,PU.bx]
def Bi(x:Str):Prop:=∀c∈x.cps.toList,c<128
def hV{x:Str}(h:Bi x):PyData.strOk x=I:=by
 unfold PyData.strOk;rw[<-Q4,DE];intro c i
 have:=h c i
 simp;ext
def Gc{x:Str}(h:Bi x):x.cps.all (·<128)=I:=by
 rw[<-Q4,DE];intro c i
 have:=h c i
 simp;ext
def DM(c:Nat):Bool:=decide (48<=c)&&decide (c<=57)
def Ge(x:Str):Prop:=1<=x.length/\x.length<=60/\∀c∈x.cps.toList,DM c=I
def OY{c:Nat}(h:c<128):(kO T).p (.str ⟨#[c]⟩) (.str "0123456789")=J (.bl (DM c)):=by
 have:∀k,k<128->(!(PySem.Builtin.Str.occurrences (Str.ofString "0123456789") ⟨#[k]⟩ 0 (Str.ofString "0123456789").length 1).isEmpty)=DM k:=by decide +kernel
 have e:=this c h;show J (D.bl (!(PySem.Builtin.Str.occurrences (Str.ofString "0123456789") ⟨#[c]⟩ 0 (Str.ofString "0123456789").length 1).isEmpty))=_;rw[e]
def vT(f:D->Bool):∀i:VP,iu (i.map λd=>D.bl (f d))=J (i.map f)
 |[]=>rfl
 |d::i=>by
  rw[yw];unfold iu;rw[vT f i];rfl
def fD:D->Bool
 |.str z=>z.cps.toList.all DM
 |_=>T
def va{x:Str}{s:f_}(C:Bi x)(hl:x.length<=1000000)[Decidable (Ge x)]:cb.p [.str x] s=.ok (.bl (decide (Ge x))) s:=by
 rw[lu (by rfl)];unfold du;rw[show i3 1 [D.str x]=[J (.str x)]from rfl];have z:=xO;have B:bY.p [.str x]=J (.int (x.length:Int)):=eT (by ext);by_cases u:1<=x.length/\x.length<=60
 .have j:(g7 DA DA (xC (.int 1)) (k4 bY (ae (af 0) a_)) (xC (.int 60)):Xe []).p [J (.str x)] s=.ok (.bl I) s:=by
   simp[B,PR.bl,show(1:Int)<=(x.length:Int) by ext,show(x.length:Int)<=60 by ext]
  have H:OE (.str x)=J (x.cps.toList.map λc=>.str ⟨#[c]⟩):=eT (Gc C);have M:x.cps.toList.length=x.length:=by simp[Str.length]
  have F:=kL (ws:=[]) (ws':=[]) (env:=[J (.str x)]) (s:=s) (fm:=[]) (i:=ss (af 0)) (t:=i4) (e:=ah (kO T) (af 0) (xC (.str "0123456789"))) (ds:=x.cps.toList.map λc=>.str ⟨#[c]⟩) (λ_=>I) (λd=>.bl (fD d)) (by
   rw[zn,aj,Pb,H];rfl) (by rw[CM];ext) (λy E=>by
   obtain⟨c,l,rfl⟩:=sk.mp E;refine⟨rfl,λ_=>?_⟩;rw[aA,aj,Pb,aF,Pb,show(Cn.str "0123456789").d=D.str "0123456789" from rfl,OY (C c l)]
   simp[fD])
  rw[aS,cu,j];simp_all![PR.bl,Pb,aX,al,aq];rw[F];simp only[Pb];have G:n6.p [.lst (List.map (λd=>D.bl (fD d)) (List.filter (λ_=>I) (List.map (λc=>D.str ⟨#[c]⟩) x.cps.toList)))]=J (.bl (decide (Ge x))):=by
   show((iu _).map λbs=>D.bl (bs.all id))=_;rw[HK.mpr λ_ _=>rfl,vT];show J (D.bl _)=_;congr 2;rw[PP,PP,Q8,DE,decide_eq_true_iff];constructor
   .intro h;exact⟨u.1,u.2,λc l=>by have:=h c l;simpa [fD]using this⟩
   .intro h c l;simpa [fD]using h.2.2 c l
  rw[G];rfl
 .rw[decide_eq_false (λh:Ge x=>u ⟨h.1,h.2.1⟩)];by_cases L:1<=x.length
  .have j:(g7 DA DA (xC (.int 1)) (k4 bY (ae (af 0) a_)) (xC (.int 60)):Xe []).p [J (.str x)] s=.ok (.bl T) s:=by
    simp[B,PR.bl,show(1:Int)<=(x.length:Int) by ext,show ¬(x.length:Int)<=60 by ext]
   rw[aS,cu,j];rfl
  .have j:(g7 DA DA (xC (.int 1)) (k4 bY (ae (af 0) a_)) (xC (.int 60)):Xe []).p [J (.str x)] s=.ok (.bl T) s:=by
    simp[B,PR.bl,show ¬(1:Int)<=(x.length:Int) by ext]
   rw[aS,cu,j];rfl
def o7:∀(i:VN)(a:Nat),(∀c∈i,DM c=I)->i.foldl (λj c=>j*10+(c-48)) a<(a+1)*10^i.length
 |[],a,_=>by simp
 |c::i,a,h=>by
  have l:=h c (by simp);unfold DM at l;simp at l;have k:=o7 i (a*10+(c-48)) λd hd=>h d (pW _ hd);rw[Q6,n_,Nat.pow_succ];refine vl k ?_;rw[Rb (10^i.length),<-Nat.mul_assoc];exact Nat.mul_le_mul_right _ (by ext)
open PySem.NumText in
theorem xu{l:VN}(h:∀c∈l,DM c=I):AllDigits l:=λc i=>by
 have:=h c i
 unfold DM at this;simpa using this
def gN{x:Str}:x.cps.toList.length=x.length:=by simp[Str.length]
def yA{x:Str}(h:Ge x):∃v:Nat,ko.p [.str x]=J (.int (v:Int))/\v<10^60:=by have hl:=h.1;have l:=h.2.1;have i:=gN (x:=x);have e:=PySem.intText_digits (x:=x) (xu h.2.2) (λz=>by rw[z]at i;simp at i;ext) (by ext);have k:=o7 x.cps.toList 0 h.2.2;have j:10^x.cps.toList.length<=10^60:=Nat.pow_le_pow_right (by decide) (by ext);refine⟨_,?_,vl k (by ext)⟩;show(match PySem.intText? x with|some n=>if x.length<=640 then J (D.int n)else Y|none=>Y)=_;rw[e];exact eT (by ext)
def KW{x:Str}(h:Ge x):∃v:Nat,ko.p [.str (Str.ofString "-"++x)]=J (.int (-(v:Int)))/\v<10^60:=by
 have hl:=h.1;have u:=h.2.1;have i:=gN (x:=x);have j:(Str.ofString "-"++x).length=x.length+1:=by rw[strLen_append];have:(Str.ofString "-").length=1:=rfl;ext
 have e:=PySem.intText_neg (x:=Str.ofString "-"++x) (cs:=x.cps.toList) (by rw[aL];rfl) (xu h.2.2) (λz=>by rw[z]at i;simp at i;ext) (by ext);have k:=o7 x.cps.toList 0 h.2.2;have l:10^x.cps.toList.length<=10^60:=Nat.pow_le_pow_right (by decide) (by ext);refine⟨_,?_,vl k (by ext)⟩;show(match PySem.intText? (Str.ofString "-"++x) with|some n=>if(Str.ofString "-"++x).length<=640 then J (D.int n)else Y|none=>Y)=_;rw[e];exact eT (by ext)
def Gf{n i:Int}{s:f_}:cY.p [.int n,.int i] s=.ok (.bl (decide (0<=i)&&decide (i<n))) s:=by
 rw[kY (by rfl)];unfold eK;rw[show i3 2 [D.int n,.int i]=[J (.int n),J (.int i)]from rfl];by_cases j:0<=i
 .by_cases l:i<n<;>simp[jC,PR.bl,j,l]
 .simp[jC,PR.bl,j]
def uG{n:Int}{x:Str}{s:f_}(z:Bi x)(hl:x.length<=1000000):∃r,d6.p [.int n,.str x] s=.ok r s/\(r=.non\/∃j:Int,r=.int j/\0<=j/\j<n/\x=tS j):=by
 classical
 have u:=va (s:=s) z hl;rw[nj (by rfl)];unfold d4;rw[show i3 3 [D.int n,.str x]=[J (.int n),J (.str x),Y]from rfl];by_cases hf:Ge x
 .rw[decide_eq_true hf]at u;obtain⟨v,B,C⟩:=yA hf;have e1:=Gf (n:=n) (i:=(v:Int)) (s:=s);have e2:=dC (i:=(v:Int)) (by rw[Dm];exact C);have e3:o0.p (.str (tS (v:Int))) (.str x)=J (.bl (decide (tS (v:Int)=x))):=(show y1 T (.str (tS (v:Int))) (.str x)=_ by rw[lI (bZ _) (hV z)];rfl);rw[show decide (0<=(v:Int))=I from decide_eq_true (by ext),Bool.true_and]at e1;simp![aD,aK,Pg,ln,lv,PU.au,bg,dZ,bc,aB,al,aq,u,PR.bl,CV,ol,if_false,bv,aX,aA,B,aS,cT,ft,e1,e2,e3];by_cases l:(v:Int)<n
  .by_cases y:tS (v:Int)=x
   .exact⟨.int (v:Int),by simp[l,y],.inr ⟨_,rfl,by ext,l,y.symm⟩⟩
   .exact⟨.non,by simp[l,y],.inl rfl⟩
  .exact⟨.non,by simp[l],.inl rfl⟩
 .rw[decide_eq_false hf]at u;refine⟨.non,?_,.inl rfl⟩;dsimp![aD,aK,Pg,PU.au,bg,dZ,bc,aB,am,u,PR.bl,HQ,if_true,aS,aF,bi];rfl
def Gg{t:Int}{v:Nat}{s:f_}(hv:v<10^60):cK.p [nD t (v:Int)] s=.ok (.bl (decide (1<=v)&&decide (Nat.gcd t.natAbs v=1))) s:=by
 have q:=vZ (a:=t.natAbs) (b:=v) (k:=200) (s:=s) (DO hv (by decide +kernel)) (by decide);rw[j8 (by rfl)];unfold dH;rw[show i3 1 [nD t (v:Int)]=[J (nD t (v:Int))]from rfl];have l:cw.p [nD t (v:Int)] s=.ok (.bl I) s:=qV;by_cases j:1<=v
 .have i:(1:Int)<=(v:Int):=by ext
  have u:(((Nat.gcd t.natAbs v:Nat):Int)=1)↔Nat.gcd t.natAbs v=1:=by ext
  simp[l,F9,F_,jC,PR.bl,jX,q,j,i,u]
 .have i:¬(1:Int)<=(v:Int):=by ext
  simp[l,F9,F_,jC,PR.bl,j,i]
def oV{x y:Str}(j:Bi x)(h:∀c∈y.cps.toList,c∈x.cps.toList):Bi y:=λc i=>j c (h c i)
def yH(x:Str):∃a m c:Str,Txt.partition x ia=(a,m,c)/\(∀d∈a.cps.toList,d∈x.cps.toList)/\(∀d∈c.cps.toList,d∈x.cps.toList)/\a.length<=x.length/\c.length<=x.length/\(m=ia\/m=Str.empty)/\∃r,x=a++r/\(r=Str.empty\/∃q,r=ia++q):=by
 by_cases h:47∈x.cps.toList
 .obtain⟨i,bs,e,j⟩:=Tv h;have ex:x=⟨i.toArray⟩++sg 47++⟨bs.toArray⟩:=cg (by rw[aL,aL,e];simp);have l:=congrArg Str.length ex;rw[strLen_append,strLen_append]at l;refine⟨⟨i.toArray⟩,ia,⟨bs.toArray⟩,?_,λd hd=>by rw[e];exact C7 _ (by simpa using hd),λd hd=>by rw[e];exact se _ (pW _ (by simpa using hd)),by ext,by ext,.inl rfl,ia++⟨bs.toArray⟩,?_,.inr ⟨_,rfl⟩⟩
  .have:=gI (c:=47) (a:=⟨i.toArray⟩) (b:=⟨bs.toArray⟩) (by simpa using j)
   rw[<-ex]at this;exact this
  .rw[ex,bT];rfl
 .exact⟨x,Str.empty,Str.empty,lK (c:=47) h,λd hd=>hd,(λd hd=>by cases hd),mh _,CN _,.inr rfl,Str.empty,(i8 x).symm,.inl rfl⟩
def Gh{a:Str}{k:Nat}(l:k<=1):∃y:Str,Txt.slice a (J (k:Int)) Y=y/\(∀d∈y.cps.toList,d∈a.cps.toList)/\y.length<=a.length:=by
 by_cases h:k<=a.length
 .refine⟨_,rM h,λd hd=>List.mem_of_mem_drop (by simpa using hd),?_⟩
  have:=gN (x:=a)
  simp[Str.length]
 .have j:a=Str.empty:=by
   have:a.length=0:=by ext
   have:=gN (x:=a)
   exact cg (Tt (by ext))
  have i:k=1:=by ext
  subst j i;exact⟨Str.empty,by decide +kernel,λd hd=>hd,mh _⟩
def uO{x:Str}{s:f_}(S:Bi x)(hl:x.length<=100000):∃r,bz.p [.str x] s=.ok r s/\(r=.non\/∃t b:Int,r=nD t b/\BY t b/\x=k_ t b):=by
 classical
 have z:=xO;obtain⟨a,m,c,e0,ma,mc,la,lc,F,_⟩:=yH x;have e1:mA.p x [.str ia]=J (.tup [.str a,.str m,.str c]):=by show(if(ia.length==0)=T/\x.length<=sizeLine then J (D.tup [.str (Txt.partition x ia).1,.str (Txt.partition x ia).2.1,.str (Txt.partition x ia).2.2])else Y)=_;rw[eT ⟨rfl,by ext⟩,e0]
 obtain⟨E,Q⟩:∃E,E=Txt.startswith x (Str.ofString "-"):=⟨_,rfl⟩;have e2:m_.p x [.str (Str.ofString "-")]=J (.bl E):=by rw[Q];rfl
 obtain⟨f,M⟩:∃f:Str,f=if E=I then Str.ofString "-" else Str.ofString "":=⟨_,rfl⟩
 have lf:f.length<=1:=by rw[M];split<;>decide
 have e3:bY.p [.str f]=J (.int (f.length:Int)):=eT (by ext);obtain⟨j,et,mt,lt⟩:=Gh (a:=a) lf;have e4:qr (.str a) (J (f.length:Int)) Y=J (.str j):=by show(if a.length<=sizeLine then J (D.str (Txt.slice a (J (f.length:Int)) Y))else Y)=_;rw[eT (by ext),et]
 obtain⟨y,B⟩:∃y:Bool,y=decide (m=ia):=⟨_,rfl⟩;have e5:sv (.str m)=J y:=by
  rcases F with F|F
  .rw[B,F,decide_eq_true rfl];show(if ia.length<=sizeLine then J ((ia.length:Int) != 0)else Y)=_;rw[eT (by decide)];rfl
  .rw[B,F,decide_eq_false (by intro h;have:=congrArg Str.length h;exact absurd this (by decide))];show(if Str.empty.length<=sizeLine then J ((Str.empty.length:Int) != 0)else Y)=_;rw[eT (by decide)];rfl
 obtain⟨u,L⟩:∃u:Str,u=if y=I then c else Str.ofString "1":=⟨_,rfl⟩
 have at':Bi j:=oV S λd hd=>ma d (mt d hd);have R:Bi u:=by
  rw[L];split
  .exact oV S mc
  .intro d hd
   have:d=49:=by rw[show(Str.ofString "1").cps.toList=[49]from rfl]at hd;simpa using hd
   ext
 have lb:u.length<=100000:=by
  rw[L];split
  .ext
  .decide
 have C:=va (x:=j) (s:=s) at' (by ext);have H:=va (x:=u) (s:=s) R (by ext);have c1:(iz (xB (tx m_ (af 0) (ae (xC (.str "-")) a_))) (xC (.str "-")) (xC (.str "")) I:Xe []).p [J (.str x),J (.tup [.str a,.str m,.str c]),Y,Y,Y,Y] s=.ok (.str f) s:=by
  cases E with
  |true=>dsimp![cT,bc,ck,aF,aR,e2,Pf,PR.bl,if_true,M]
  |false=>dsimp![cT,bc,ck,aF,aR,e2,Pf,PR.bl,ol,if_false,M]
 have g0:i_ [D.str a,.str m,.str c] 0=J (.str a):=rfl;have X:i_ [D.str a,.str m,.str c] 1=J (.str m):=rfl;have g2:i_ [D.str a,.str m,.str c] 2=J (.str c):=rfl;have c2:(iz (qh (ah ka (af 1) (xC (.int 1)))) (ah ka (af 1) (xC (.int 2))) (xC (.str "1")) I:Xe []).p [J (.str x),J (.tup [.str a,.str m,.str c]),J (.str f),J (.str j),Y,Y] s=.ok (.str u) s:=by
  cases y with
  |true=>simp![cT,nI,aA,aF,aH,aR,fF,X,g2,e5,if_true,L]
  |false=>simp![cT,nI,aA,aF,aH,aR,fF,X,e5,ol,if_false,L]
 rw[k8 (by rfl)];unfold dz;rw[show i3 6 [D.str x]=[J (.str x),Y,Y,Y,Y,Y]from rfl];dsimp![aD,aK,ck,aF,aR,aH,e1,Pf,Pg,ln,lv,PU.au];rw[c1];simp![aD,aK,Pg,ln,lv,PU.au,AC,aA,fF,g0,fK,gS,aX,al,aq,e3,e4,aF,aH];rw[c2];by_cases G:Ge j
 .rw[decide_eq_true G]at C;by_cases P:Ge u
  .rw[decide_eq_true P]at H;have aa:=G.2.1;have e6:ao.p (.str f) (.str j)=J (.str (f++j)):=aO (by ext);obtain⟨i,i1,li⟩:∃i:Int,ko.p [.str (f++j)]=J (.int i)/\i.natAbs<10^60:=by
    rw[M];split
    .obtain⟨v,e,l⟩:=KW G;exact⟨_,e,by ext⟩
    .obtain⟨v,e,l⟩:=yA G;rw[show Str.ofString ""=Str.empty from rfl,d8];exact⟨_,e,by ext⟩
   obtain⟨v,i2,Z⟩:=yA P;have qn:=Gg (t:=i) (s:=s) Z;have e8:o0.p (.str (k_ i (v:Int))) (.str x)=J (.bl (decide (k_ i (v:Int)=x))):=(show y1 T (.str (k_ i (v:Int))) (.str x)=_ by rw[lI (n4 _ _) (hV S)];rfl);simp![aD,aK,Pg,ln,lv,PU.au,bg,gZ,dZ,bc,aB,al,aq,C,H,PR.bl,CV,ol,if_false,bv,j6,aX,aA,e6,i1,i2,aS,cT,ft,qn,n_,pa,show(0+1+1:Nat)<=100000 by decide,if_true];by_cases h3:1<=v
   .by_cases W:Nat.gcd i.natAbs v=1
    .have qs:=nk (t:=i) (b:=(v:Int)) (s:=s) li (by ext) (by rw[Dm];exact Z);rw[decide_eq_true h3,decide_eq_true W];simp_all![Bool.and_self,Pb,qs,e8,Pf,PR.bl];by_cases U:k_ i (v:Int)=x
     .exact⟨nD i (v:Int),by rw[decide_eq_true U];rfl,.inr ⟨i,(v:Int),rfl,⟨li,by ext,by ext,by rw[Dm];exact W⟩,U.symm⟩⟩
     .exact⟨.non,by rw[decide_eq_false U];rfl,.inl rfl⟩
    .exact⟨.non,by rw[decide_eq_false W,Bool.and_false];rfl,.inl rfl⟩
   .exact⟨.non,by rw[decide_eq_false h3,Bool.false_and];rfl,.inl rfl⟩
  .rw[decide_eq_false P]at H;refine⟨.non,?_,.inl rfl⟩;dsimp![aD,aK,Pg,ln,lv,PU.au,bg,gZ,dZ,bc,aB,am,C,H,PR.bl,CV,HQ,ol,if_false,if_true,aS,aF,bi];rfl
 .rw[decide_eq_false G]at C;refine⟨.non,?_,.inl rfl⟩;dsimp![aD,aK,Pg,ln,lv,PU.au,bg,gZ,dZ,bc,aB,am,C,PR.bl,HQ,if_true,aS,aF,bi];rfl
def gL{i:VP}{j:Nat}{d:D}(e:(iL i)[j]?=J d):∃x,i[j]?=J x/\d=.tup [.int (j:Int),x]:=by
 unfold iL at e;rw[CG,List.getElem?_zipIdx]at e
 cases e1:i[j]? with
 |none=>rw[e1]at e;cases e
 |some x=>rw[e1]at e;simp at e;exact⟨x,rfl,e.symm⟩
abbrev No(c:Nat)(x:Str):Prop:=c∉x.cps.toList
def bF{c:Nat}{x y:Str}(i:No c x)(j:No c y):No c (x++y):=λh=>by
 rw[aL]at h;exact(v_.mp h).elim i j
def oQ{c:Nat}{z:Str}(j:No c z):∀i:VL,(∀x∈i,No c x)->No c (Txt.join z i):=by
 intro i h;show No c (Builtin.Str.glued z i);rw[StrLaws.glued_eq_join]
 induction i with
 |nil=>exact λh=>by cases h
 |cons x i l =>
  cases i with
  |nil=>exact h x (by simp)
  |cons y i=>exact bF (bF (h x (by simp)) j) (l λw hw=>h w (pW _ hw))
def gV{c:Nat}(h:c=10\/c=32)(t:Int):No c (tS t):=λi=>by rcases ii t i with h|h<;>ext
def iM{c d:Nat}(h:c≠d):No c (sg d):=λi=>h (by simpa using i)
def qR{c:Nat}(h:c=10\/c=32)(t b:Int):No c (k_ t b):=by
 unfold k_;split
 .exact gV h t
 .exact bF (bF (gV h t) (iM (d:=47) (by ext))) (gV h b)
def o5{c:Nat}(h:c=10\/c=32)(p:l0):No c (b_ p):=bF (bF (gV h _) (iM (d:=61) (by ext))) (qR h _ _)
def sC{c:Nat}(h:c=10\/c=32)(i:Int):No c (tS i++i6):=bF (gV h _) (iM (d:=58) (by ext))
def Hy{c:Nat}(h:c=10\/c=32)(i:Int)(ps:List l0):∀x∈(tS i++i6)::ps.map b_,No c x:=λx j=>by
 rcases ki.mp j with rfl|j
 .exact sC h i
 .obtain⟨p,_,rfl⟩:=sk.mp j;exact o5 h p
def Gi(i:Int)(ps:List l0):No 10 (line i ps):=oQ (iM (d:=32) (by ext)) _ (Hy (.inl rfl) i ps)
def Hz{c:Nat}(h:c=10\/c=32)(r:Rw):∀x∈r.1.map b_++[il,k_ r.2.1 r.2.2],No c x:=λx i=>by
 rcases v_.mp i with i|i
 .obtain⟨p,_,rfl⟩:=sk.mp i;exact o5 h p
 .simp only[ki,t_,or_false]at i;rcases i with rfl|rfl
  .exact iM (d:=124) (by ext)
  .exact qR h _ _
def BP(r:Rw):No 10 (q_ r):=oQ (iM (d:=32) (by ext)) _ (Hz (.inl rfl) r)
def lh{c:Nat}{ts:VL}(i:ts≠[])(j:∀t∈ts,No c t)(hl:(Txt.join (sg c) ts).length<=1000000)(l:ts.length<=100):lT.p (Txt.join (sg c) ts) [.str (sg c)]=J (.lst (ts.map .str)):=by have e:=xL i j;have z:=xO;show(if((sg c).length==0)=T/\(Txt.join (sg c) ts).length<=sizeLine/\(Txt.split (Txt.join (sg c) ts) (sg c)).length<=sizeLine then J (D.lst ((Txt.split (Txt.join (sg c) ts) (sg c)).map .str))else Y)=_;rw[e,eT ⟨rfl,by ext,by ext⟩]
def qw{z x:Str}{i:VL}(h:1<=x.length):1<=(Txt.join z (x::i)).length:=by
 show 1<=(Builtin.Str.glued z (x::i)).length;rw[StrLaws.glued_eq_join]
 cases i with
 |nil=>exact h
 |cons y i=>rw[oH,strLen_append,strLen_append];ext
def qJ(t:Int):1<=(tS t).length:=by
 by_cases ht:t<0
 .rw[lB ht,strLen_append];have:(Str.ofString "-").length=1:=rfl;ext
 .obtain⟨n,rfl⟩:∃n:Nat,t=n:=⟨t.toNat,by ext⟩;have i:(tS (n:Int)).length=(dg n).length:=by rw[<-cD];simp[Str.length]
  have j:0<(dg n).length:=QV.mpr (mM n);ext
def KY{c:Nat}(x:Str):(c∉x.cps.toList/\Txt.partition x (sg c)=(x,Str.empty,Str.empty))\/∃a b:Str,c∉a.cps.toList/\x=a++sg c++b/\Txt.partition x (sg c)=(a,sg c,b):=by
 by_cases h:c∈x.cps.toList
 .obtain⟨i,bs,e,j⟩:=Tv h;have ex:x=⟨i.toArray⟩++sg c++⟨bs.toArray⟩:=cg (by rw[aL,aL,e];simp);refine .inr ⟨⟨i.toArray⟩,⟨bs.toArray⟩,by simpa using j,ex,?_⟩
  have:=gI (c:=c) (a:=⟨i.toArray⟩) (b:=⟨bs.toArray⟩) (by simpa using j)
  rw[<-ex]at this;exact this
 .exact .inl ⟨h,lK h⟩
def Gj(t b:Int):1<=(k_ t b).length:=by
 unfold k_
 have:=qJ t
 split
 .exact this
 .rw[strLen_append,strLen_append];ext
def QJ(n:Int)(p:D):Prop:=p=.non\/∃j:Int,p=.int j/\0<=j/\j<n
def QK(q:D):Prop:=q=.non\/∃t b:Int,q=nD t b/\BY t b
def vB(n:Int)(x:Str)(s:f_)(C:Bi x)(hl:x.length<=100000):∃p q,bG.p [.int n,.str x] s=.ok (.tup [p,q]) s/\QJ n p/\QK q/\∀j t b:Int,p=.int j->q=nD t b->x=b_ (j,t,b):=by
 have z:=xO;obtain⟨a,m,c,S,M,R,Z,lc,u⟩:∃a m c:Str,Txt.partition x wx=(a,m,c)/\Bi a/\Bi c/\a.length<=x.length/\c.length<=x.length/\(c=Str.empty\/x=a++wx++c):=by
  rcases KY (c:=61) x with⟨_,e⟩|⟨a,c,na,ex,e⟩
  .exact⟨x,Str.empty,Str.empty,e,C,(λd hd=>by cases hd),mh _,CN _,.inl rfl⟩
  .have W:=congrArg Str.length ex;rw[strLen_append,strLen_append]at W;refine⟨a,wx,c,e,oV C λd hd=>?_,oV C λd hd=>?_,by ext,by ext,.inr ex⟩
   .rw[ex,aL,aL];exact C7 _ (C7 _ hd)
   .rw[ex,aL];exact se _ hd
 have e1:mA.p x [.str wx]=J (.tup [.str a,.str m,.str c]):=by show(if(wx.length==0)=T/\x.length<=sizeLine then J (D.tup [.str (Txt.partition x wx).1,.str (Txt.partition x wx).2.1,.str (Txt.partition x wx).2.2])else Y)=_;rw[eT ⟨rfl,by ext⟩,S]
 obtain⟨p,H,l⟩:=uG (n:=n) (s:=s) M (by ext);obtain⟨q,L,i⟩:=uO (s:=s) R (by ext);have P:i_ [D.str a,.str m,.str c] 0=J (.str a):=rfl;have Q:i_ [D.str a,.str m,.str c] 2=J (.str c):=rfl;refine⟨p,q,?_,?_,?_,λj t b y B=>?_⟩
 .rw[oj (by rfl)];unfold eY;rw[show i3 3 [D.int n,.str x]=[J (.int n),J (.str x),Y]from rfl];simp![aD,aK,ck,al,aF,aR,aH,aq,e1,Pg,ln,lv,PU.au,aS,j6,aB,aA,fF,P,Q,H,L,n_,pa,show(0+1+1:Nat)<=100000 by decide,if_true];rfl
 .rcases l with l|⟨j,l,E,F,_⟩
  .exact .inl l
  .exact .inr ⟨j,l,E,F⟩
 .rcases i with i|⟨t,b,i,h,_⟩
  .exact .inl i
  .exact .inr ⟨t,b,i,h⟩
 .rcases l with l|⟨X,l,E,F,U⟩
  .rw[l]at y;cases y
  .rw[l]at y;cases y;rcases i with i|⟨t',b',i,h,G⟩
   .rw[i]at B;cases B
   .rw[i]at B;cases B;rcases u with u|u
    .have:=Gj t b
     rw[<-G,u]at this;exact absurd this (by decide)
    .unfold b_;rw[u,U,G]
def gD:D->Bool
 |.tup [.int _,.tup [.int t,.int _]]=>decide (t≠0)
 |_=>T
def Bl{s:f_}:cw.p [.non] s=.ok (.bl T) s:=by rw[re (by rfl)];unfold gE;rw[show i3 1 [D.non]=[J .non]from rfl];have e1:(dq ["tuple"]).p .non=J (.bl T):=rfl;simp only[aS,cu,cz,aj,Pb,e1,Pf,PR.bl,ol,if_false];rfl
def zo{s:f_}:c5.p [.non] s=.ok (.bl T) s:=by rw[pj (by rfl)];unfold fL;rw[show i3 1 [D.non]=[J .non]from rfl];have e1:(dq ["int"]).p .non=J (.bl T):=rfl;simp only[aS,cu,cz,aj,Pb,e1,Pf,PR.bl,ol,if_false];rfl
def zN{n:Int}{s:f_}:cY.p [.int n,.non] s=.ok (.bl T) s:=by rw[kY (by rfl)];unfold eK;rw[show i3 2 [D.int n,.non]=[J (.int n),J .non]from rfl];simp[zo,PR.bl]
def Gk{s:f_}:cK.p [.non] s=.ok (.bl T) s:=by rw[j8 (by rfl)];unfold dH;rw[show i3 1 [D.non]=[J .non]from rfl];simp[Bl,PR.bl]
def BE{n:Int}{p q:D}{s:f_}(C:QJ n p)(B:QK q):cv.p [.int n,.tup [p,q]] s=.ok (.bl (gD (.tup [p,q]))) s:=by
 have i:i_ [p,q] 0=J p:=rfl;have y:i_ [p,q] 1=J q:=rfl;have l:cw.p [.tup [p,q]] s=.ok (.bl I) s:=qV;rw[qO (by rfl)];unfold gC;rw[show i3 2 [D.int n,.tup [p,q]]=[J (.int n),J (.tup [p,q])]from rfl];rcases C with rfl|⟨j,rfl,u,z⟩
 .simp![aS,cu,aB,al,aq,l,PR.bl,if_true,aA,aF,aH,fF,i,zN,ol,if_false,Pg,PU.bx];rfl
 .rcases B with rfl|⟨t,b,rfl,h⟩
  .simp![aS,cu,aB,al,aq,l,PR.bl,if_true,aA,aF,aH,fF,i,y,lH u z,Gk,ol,if_false,Pg,PU.bx];rfl
  .by_cases ht:t=0
   .subst ht;have E:b=1:=by
     have:=h.2.2.2
     rw[Int.natAbs_zero,Nat.gcd_zero_left]at this
     have:=h.2.1
     ext
    subst E;have F:y1 I (nD 0 1) (nD 0 1)=J (.bl T):=tI (vm (k:=59));simp![aS,cu,aB,al,aq,l,PR.bl,if_true,aA,aF,aH,fF,i,y,lH u z,oE h,yO,ui,F,Pg,PU.bx];rfl
   .simp![aS,cu,aB,al,aq,l,PR.bl,if_true,aA,aF,aH,fF,i,y,lH u z,oE h,yO,ui,wI ht,Pg,PU.bx];simp[gD,ht]
def rq(n:Int)(p:l0):Prop:=0<=p.1/\p.1<n/\BY p.2.1 p.2.2/\p.2.1≠0
def eI(n:Int)(x:Str):Prop:=∀p:l0,rq n p->x≠b_ p
def sw(x:Str):Prop:=Bi x/\x.length<=100000
open Classical in
def pv(n:Int)(s:f_):D->D
 |.str x=>if h:sw x then .tup [(vB n x s h.1 h.2).choose,(vB n x s h.1 h.2).choose_spec.choose]else .non
 |_=>.non
def rH{n:Int}{s:f_}{x:Str}(h:sw x):∃p q,pv n s (.str x)=.tup [p,q]/\bG.p [.int n,.str x] s=.ok (.tup [p,q]) s/\QJ n p/\QK q/\∀j t b:Int,p=.int j->q=nD t b->x=b_ (j,t,b) :=
 ⟨_,_,dif_pos h,(vB n x s h.1 h.2).choose_spec.choose_spec⟩
def dw(n:Int)(i:VL)(r:D):Prop:=∀s,bQ.p [.int n,.lst (i.map .str)] s=.ok r s
def tV{n:Int}{row:VP}{s:f_}(hr:∀d∈row,∃p q,d=.tup [p,q]/\QJ n p/\QK q)(z:∃d∈row,gD d=T)(hl:row.length<=10000):dJ.p [.int n,.tup row] s=.ok (.bl T) s:=by
 have u:=kL (ws:=[]) (ws':=[]) (env:=[J (.int n),J (.tup row)]) (s:=s) (fm:=[0]) (i:=fB (af 1)) (t:=i4) (e:=av cv (ae (af 1) (ae (af 0) a_))) (ds:=row) (λ_=>I) (λd=>.bl (gD d)) (by
   rw[fT,am,aj,Pb];rfl) (by ext) (λx j=>by
   obtain⟨p,q,rfl,y,l⟩:=hr x j;refine⟨rfl,λ_=>?_⟩;show(av cv (ae (af 1) (ae (af 0) a_)):Xe []).p [J (.tup [p,q]),J (.int n)] s=_
   dsimp![aB,am,BE y l])
 have B:n6.p [.lst (List.map (λd=>D.bl (gD d)) (List.filter (λ_=>I) row))]=J (.bl T):=by show((iu _).map λbs=>D.bl (bs.all id))=_;rw[HK.mpr λ_ _=>rfl,vT];show J (D.bl _)=_;congr 2;obtain⟨d,hd,e⟩:=z;rw[PP,List.all_eq_false];exact⟨d,hd,by simp[e]⟩
 rw[jJ (by rfl)];unfold dI;rw[show i3 2 [D.int n,.tup row]=[J (.int n),J (.tup row)]from rfl];rw[aD,bg,dZ,bc,aX,al,u];simp_all![Pb,aq,B,Pf,PR.bl,HQ,Pg,aS,aF];rfl
def kN{n:Int}{u:VL}(L:∀x∈u,sw x)(hl:u.length<=10000)(H:∃x∈u,eI n x):dw n u .non:=λs=>by
 have F:=kL (ws:=[]) (ws':=[]) (env:=[J (.int n),J (.lst (u.map .str)),Y]) (s:=s) (fm:=[0]) (i:=fB (af 1)) (t:=i4) (e:=av bG (ae (af 1) (ae (af 0) a_))) (ds:=u.map .str) (λ_=>I) (pv n s) (by
   rw[fT,am,aj,Pb];rfl) (by rw[CM];ext) (λy E=>by
   obtain⟨x,z,rfl⟩:=sk.mp E;obtain⟨p,q,e1,e2,_⟩:=rH (n:=n) (s:=s) (L x z);refine⟨rfl,λ_=>?_⟩;show(av bG (ae (af 1) (ae (af 0) a_)):Xe []).p [J (.str x),J (.int n)] s=_
   dsimp![aB,am,e2,e1])
 rw[HK.mpr λ_ _=>rfl]at F;obtain⟨l,B⟩:∃l,l=(u.map D.str).map (pv n s):=⟨_,rfl⟩;rw[<-B]at F;have Q:fV.p [.lst l]=J (.tup l):=rfl
 have S:=tV (n:=n) (row:=l) (s:=s) (λd hd=>by
  rw[B]at hd;obtain⟨y,E,rfl⟩:=sk.mp hd;obtain⟨x,z,rfl⟩:=sk.mp E;obtain⟨p,q,e1,_,G,C,_⟩:=rH (n:=n) (s:=s) (L x z)
  exact⟨p,q,e1,G,C⟩) (by
  obtain⟨x,z,H⟩:=H;obtain⟨p,q,e1,_,G,C,hw⟩:=rH (n:=n) (s:=s) (L x z);refine⟨pv n s (.str x),by rw[B];exact sk.mpr ⟨_,sk.mpr ⟨x,z,rfl⟩,rfl⟩,?_⟩;rw[e1];rcases G with rfl|⟨j,rfl,P,R⟩
  .rfl
  .rcases C with rfl|⟨t,b,rfl,h⟩
   .rfl
   .show decide (t≠0)=T;refine decide_eq_false λht=>?_
    exact H (j,t,b) ⟨P,R,h,ht⟩ (hw j t b rfl rfl)) (by rw[B];simp;ext)
 have M:eA.p [.int n,.tup l] s=.ok (.bl T) s:=by rw[kK (by rfl)];unfold fo;rw[show i3 2 [D.int n,.tup l]=[J (.int n),J (.tup l)]from rfl];simp![aS,cu,cz,aB,al,aq,QI,PR.bl,if_true,S,ol,if_false,Pg,PU.bx]
 rw[jf (by rfl)];unfold c9;rw[show i3 3 [D.int n,.lst (u.map .str)]=[J (.int n),J (.lst (u.map .str)),Y]from rfl];rw[aD,aK,aX,al,F];simp![aq,Q,Pg,ln,lv,PU.au,aS,cT,bc,aB,al,M,PR.bl,ol,if_false,aF,bi,PU.bx]
def pF{g:D->aN->Option aN}{b:aN->f_->PS}(y:Nat->aN->f_->Prop)(R:tr->f_->Prop):∀(k:Nat)(B:VP)(j:Nat)(env:aN)(s:f_),k<B.length->y j env s ->
  (∀m,m<k->∀env s d,y (j+m) env s->B[m]?=J d->∃l i u,g d env=J l/\b l s=.nx i u/\y (j+m+1) i u) ->
  (∀env s d,y (j+k) env s->B[k]?=J d->∃l c i u,g d env=J l/\b l s=.rse c i u/\R c u)->∃c i u,DJ g b B env s=.rse c i u/\R c u
 |_,[],_,_,_,h,_,_,_=>absurd h (L6 _)
 |0,d::B,j,env,s,_,G,_,F=>by
  obtain⟨l,c,i,u,e1,e2,r⟩:=F env s d G rfl;exact⟨c,i,u,by rw[pM e1,e2];rfl,r⟩
 |k+1,d::B,j,env,s,h,G,st,F=>by
  obtain⟨l,C,s2,e1,e2,H⟩:=st 0 (Nat.succ_pos _) env s d G rfl
  obtain⟨c,E,M,e3,r⟩:=pF y R k B (j+1) C s2 (Nat.lt_of_succ_lt_succ h) H (λm L i u x q z=>by
   have:=st (m+1) (Nat.succ_lt_succ L) i u x (by rw[show j+(m+1)=j+1+m by ext];exact q) (by simpa using z)
   rw[show j+(m+1)+1=j+1+m+1 by ext]at this
   exact this) (λi u x q z=>F i u x (by rw[show j+(k+1)=j+1+k by ext];exact q) (by simpa using z))
  exact⟨c,E,M,by rw[pM e1,e2];exact e3,r⟩
def HA{i:Int}(j:0<=i)(l:i<100):iI "the line " " may not stand there" i:=by
 have u:=cO j l;have e:(Str.empty++Str.ofString "the line ")=Str.ofString "the line ":=d8 _;have z:=xO;unfold iI;refine⟨lg (jm j l),?_,?_,?_⟩
 .rw[e];decide
 .rw[e,strLen_append];have:(Str.ofString "the line ").length=9:=rfl;show 9+(tS i).length<=_;ext
 .rw[e,strLen_append,strLen_append];have:(Str.ofString "the line ").length=9:=rfl;have:(Str.ofString " may not stand there").length=20:=rfl;show 9+(tS i).length+20<=_;ext
def jq{ls:VL}{s:f_}(hl:(Txt.join ml ls).length<=1000000)(l:ls.length<=100)(i:∀x∈ls,No 10 x)(y:1<=(Txt.join ml ls).length)(j:ls≠[]):dD.p [.str (Txt.join ml ls)] s=.ok (.lst (ls.map .str)) s:=by
 have z:=xO;rw[pc (by rfl)];unfold fE;rw[show i3 1 [D.str (Txt.join ml ls)]=[J (.str (Txt.join ml ls))]from rfl];have u:(dq ["str"]).p (.str (Txt.join ml ls))=J (.bl I):=rfl;have e1:sv (.str (Txt.join ml ls))=J I:=by show(if(Txt.join ml ls).length<=sizeLine then J (((Txt.join ml ls).length:Int) != 0)else Y)=_;rw[eT (by ext)];congr 1;rw[bne_iff_ne];ext
 have e2:=lh (c:=10) (ts:=ls) j i hl l;dsimp![aD,bg,dZ,bc,cz,u,Pf,PR.bl,CV,Pg,ol,if_false,bv,PU.au,aS,cT,nI,e1,if_true,ck,aF,aR];rw[show lT.p (Txt.join ml ls) [D.str (Str.ofString "\n")]=_ from e2];rfl
abbrev zd(k:Int):tr:=⟨"NoText",[("line",.int k)]⟩
def sy{ws:VN}{i:Nat}{env:aN}{s:f_}{k:Int}(h:(af i:Xe ws).p env s=.ok (.int k) s)(j:0<=k)(l:k<100):(dU "NoText" "the line " " may not stand there" "line" (ae (af i) a_):Xd ws).p env s=.rse (zd k) env s:=by
 have e:(ae (af i) a_:Xs ws).p env s=.ok [.int k] s:=by rw[al,h,Pb,aq];rfl
 unfold dU;dsimp only;rw[e];exact eT (HA j l)
structure QL(n:Int)(x w:Str)(ws:VL)(r:D):Prop where
 sp:lT.p x [.str spS]=J (.lst ((w::ws).map .str))
 ok:PyData.strOk w=I
 le:ws.length<=999
 is:dw n ws r
 r:r=.non\/∃ds,r=.tup ds
abbrev QM:Xd [3]:=(aw (aQ 6 (tx lT (af 5) (ae (xC (.str " ")) a_)))
 (aw (aQ 7 (av bQ (ae (af 2) (ae (Cs (af 6) (yJ (xC (.int 1))) Cz) a_))))
 (aw (kr (yF (xB (ah D_ (af 4) (xC (.int 12)))) (yF (xB (ah x2 (ah ka (af 6) (xC (.int 0))) (nz (JP ":") (af 4)))) (xB (ah (u_ T) (af 7) (xC .non))))) (dU "NoText" "the line " " may not stand there" "line" (ae (af 4) a_)) e_)
 (Ed ql 3 (ae (af 7) a_)))))
def pT{x:Str}{xs:VL}:i_ ((x::xs).map D.str) 0=J (.str x):=by simp[i_,xS]
def cut1'{x:D}{xs:VP}:dQ (x::xs) (J 1) Y=xs:=by unfold dQ HT.l_;simp
def KZ:D->Bool
 |.non=>I
 |_=>T
def vq{d:D}(h:d=.non\/∃i,d=.tup i):(u_ T).p d .non=J (.bl (KZ d)):=by rcases h with rfl|⟨i,rfl⟩<;>rfl
open Classical in
theorem su{n k:Int}{x w:Str}{j:VL}{r:D}{z1 z2 z3 z6 z7:VA}{s:f_}(h:QL n x w j r)(B:0<=k)(z:k<100):QM.p [z1,z2,J (.int n),z3,J (.int k),J (.str x),z6,z7] s =
  (if (12<=k\/w≠tS k++i6)\/r=.non then PS.rse (zd k) [z1,z2,J (.int n),z3,J (.int k),J (.str x),J (.lst ((w::j).map .str)),J r] s
    else(Ed ql 3 (ae (af 7) a_):Xd [3]).p [z1,z2,J (.int n),z3,J (.int k),J (.str x),J (.lst ((w::j).map .str)),J r] s):=by
 have e2:Dt (.lst ((w::j).map .str)) (J 1) Y=J (.lst (j.map .str)):=by rw[fX,yw,cut1']
 have e3:=h.is s;have e4:i_ ((w::j).map D.str) 0=J (.str w):=pT;have e5:=Te (i:=k) B z;have F:x2.p (.str w) (.str (tS k++i6))=J (.bl (!decide (w=tS k++i6))):=(show y1 I (.str w) (.str (tS k++i6))=_ by rw[lI h.ok (gP (bZ _) (bZ ":"))];rfl);have C:=vq h.r;have G:=sy (ws:=[3]) (i:=4) (env:=[z1,z2,J (.int n),z3,J (.int k),J (.str x),J (.lst ((w::j).map .str)),J r]) (s:=s) (k:=k) rfl B z;unfold QM;rw[aD,aK,ck];dsimp![am,aF,aR];rw[show lT.p x [D.str (Str.ofString " ")]=_ from h.sp];simp![Pg,ln,lv,PU.au,aD,aK,aB,al,gX,fK,aF,aH,gS,e2,aq,e3];rw[bg];have E:(yF (xB (ah D_ (af 4) (xC (.int 12)))) (yF (xB (ah x2 (ah ka (af 6) (xC (.int 0))) (nz (JP ":") (af 4)))) (xB (ah (u_ T) (af 7) (xC .non)))):Xt [3]).p [z1,z2,J (.int n),z3,J (.int k),J (.str x),J (.lst ((w::j).map .str)),J r] s=.ok (decide ((12<=k\/w≠tS k++i6)\/r=.non)) s:=by
  simp![gZ,bc,aA,aF,aH,qQ,PR.bl];by_cases y:12<=k
  .simp[y]
  .rw[decide_eq_false y];simp![ol,if_false,bW,e4,cz];rw[show(JP (Str.ofString ":")).p (.int k)=_ from e5];simp only[Pf,Pb,F];by_cases l:w=tS k++i6
   .rw[decide_eq_true l];simp only[CV,ol,if_false,bi,C,Pf,Pb];rcases h.r with rfl|⟨H,rfl⟩
    .simp[KZ]
    .simp[y,l,KZ]
   .rw[decide_eq_false l];simp[l]
 rw[E];by_cases u:(12<=k\/w≠tS k++i6)\/r=.non
 .rw[eT u,decide_eq_true u];simp_all![Pg,G];rfl
 .rw[hF u,decide_eq_false u];simp only[Pg,ol,if_false,bv,PU.au]
def qi{n:Int}{i:Nat}{ps:List l0}(h:Row n ps)(ok:df ps)(l:i<100):QL n (line (i:Int) ps) (tS (i:Int)++i6) (ps.map b_) (.tup (ps.map d_)):=by have j:=vf (i:=(i:Int)) (by ext) (by ext) ok;have u:=vI (i:=(i:Int)) ok;exact⟨lh (c:=32) (by simp) (Hy (.inr rfl) _ _) (by unfold line at j;exact wy j (by decide)) (by ext),gP (bZ _) (bZ ":"),by have:=ok.1;simp;ext,λs=>di h ok,.inr ⟨_,rfl⟩⟩
def tw{n k:Nat}{ls:VL}{s:f_}(hl:ls.length=n)(hn:n<=100)(hj:(Txt.join ml ls).length<=1000000)(P:∀x∈ls,No 10 x)(hp:1<=(Txt.join ml ls).length)(F:∀j,j<k->∃ps,ls[j]?=J (line (j:Int) ps)/\Row n ps/\df ps/\j<12)(bad:∃x w W r,ls[k]?=J x/\QL n x w W r/\((12<=(k:Int)\/w≠tS (k:Int)++i6)\/r=.non)):bH.p [.str (Txt.join ml ls)] s=.exc (zd k) s:=by
 obtain⟨x,w,W,r,B,hi,hb⟩:=bad;have X:k<ls.length:=(w_.mp B).1;have q1:=jq (ls:=ls) (s:=s) hj (by ext) P hp (λz=>by rw[z]at X;cases X);obtain⟨c,Z,s4,q4,hc,hs⟩:=pF (g:=(Di (yV (n3 4) (yV (n3 5) Dh)) 2:Xg [3]).p) (b:=QM.p)
  (λj env l=>∃u L R E C,env=[J (.str (Txt.join ml ls)),J (.lst (ls.map .str)),J (.int (n:Int)),J (.lst (gp u)),L,R,E,C]/\u.length=j/\l=s) (λc l=>c=zd k/\l=s) k (iL (ls.map .str)) 0 [J (.str (Txt.join ml ls)),J (.lst (ls.map .str)),J (.int (n:Int)),J (.lst []),Y,Y,Y,Y] s (by simp[iL];ext) ⟨[],Y,Y,Y,Y,rfl,rfl,rfl⟩ (λj Q env l d S hd=>by
   obtain⟨u,L,R,E,C,M,hr,H⟩:=S;subst M H;obtain⟨x,B,rfl⟩:=gL hd;obtain⟨ps,hg,G,ok,aa⟩:=F j Q;rw[CG,hg]at B;cases B;have t:=su (z1:=J (.str (Txt.join ml ls))) (z2:=J (.lst (ls.map .str))) (z3:=J (.lst (gp u))) (z6:=E) (z7:=C) (s:=l) (qi (i:=j) G ok (by ext)) (show(0:Int)<=(j:Int) by ext) (by ext)
   rw[hF (by
    intro h;rcases h with(h|h)|h
    .ext
    .exact h rfl
    .cases h),oN (s1:=l) (as:=[.tup (ps.map d_)]) (ds:=gp u) (ds':=gp (u++[ps])) (r:=.non) (by simp) rfl (by
    rw[kC (by simp;ext)];simp)]at t
   exact⟨_,_,l,rfl,t,u++[ps],_,_,_,_,rfl,by simp;ext,rfl⟩) (λenv l d S hd=>by
   obtain⟨u,L,R,E,C,M,hr,H⟩:=S;subst M H;obtain⟨y,U,rfl⟩:=gL hd;rw[CG,B]at U;cases U;have t:=su (z1:=J (.str (Txt.join ml ls))) (z2:=J (.lst (ls.map .str))) (z3:=J (.lst (gp u))) (z6:=E) (z7:=C) (s:=l) hi (show(0:Int)<=(k:Int) by ext) (by ext);rw[eT hb]at t
   exact⟨_,_,_,l,rfl,t,rfl,rfl⟩)
 obtain⟨rfl,rfl⟩:=And.intro hc hs;have en:bY.p [.lst (ls.map .str)]=J (.int (n:Int)):=by show J (D.int ((ls.map D.str).length:Int))=_;rw[CM,hl]
 rw[ji (by rfl)];unfold dj;rw[show i3 8 [D.str (Txt.join ml ls)]=[J (.str (Txt.join ml ls)),Y,Y,Y,Y,Y,Y,Y]from rfl];simp![aD,aK,gG,iU,aB,al,aq,q1,Pg,ln,lv,PU.au,aX,en,bf,pa,CN,if_true];rw[iV,fU];simp![al,aq,FE,Pg];refine(congrArg (λz:PS=>(z.then _).fin) q4).trans ?_;rfl
def j0{k:Nat}{x:Str}(h:PyData.strOk x=I):gu k (.str x):=⟨.str x,rfl,by simp[Cy],by simpa [PyData.canLay0]using h,by simp[PyData.depth]⟩
def zk{xs:VP}{a b:D}:dQ (xs++[a,b]) Y (J (-2))=xs:=by unfold dQ HT.l_;simp_all![Dc,n_,pa,show((-2:Int)<0)=True by simp,List.drop_zero,Nat.sub_zero];rw[show((-2:Int)+((xs.length+(0+1+1):Nat):Int)).toNat=xs.length by ext];simp
def K1{xs:VP}{a b:D}:dQ (xs++[a,b]) (J (-2)) (J (-1))=[a]:=by unfold dQ HT.l_;simp_all![Dc,n_,pa,show((-2:Int)<0)=True by simp,show((-1:Int)<0)=True by simp];rw[show((-2:Int)+((xs.length+(0+1+1):Nat):Int)).toNat=xs.length by ext,show((-1:Int)+((xs.length+(0+1+1):Nat):Int)).toNat-xs.length=1 by ext];simp
def w9{xs:VP}{a b:D}:i_ (xs++[a,b]) (-1)=J b:=by unfold i_ xS;rw[hF (by decide),eT (by simp;ext)];simp only[HM,Dc,n_,pa];rw[show((-1:Int)+((xs.length+(0+1+1):Nat):Int)).toNat=xs.length+1 by ext];simp
def Gm{x y:Str}(i:PyData.strOk x=I)(l:PyData.strOk y=I):y1 I (.lst [.str x]) (.lst [.str y])=J (.bl (!decide (x=y))):=by
 have a:=lI (neg:=I) i l;have nx:gu 10 (.lst [.str x]):=ic (k:=9) λd hd=>by
  have:d=.str x:=by simpa using hd
  subst this;exact j0 i
 have B:gu 10 (.lst [.str y]):=ic (k:=9) λd hd=>by
  have:d=.str y:=by simpa using hd
  subst this;exact j0 l
 obtain⟨L,e1,H,z,G⟩:=nx;obtain⟨E,e2,M,C,F⟩:=B;have j:py (.lst [.str x])=J (.list [.str x]):=rfl;have u:py (.lst [.str y])=J (.list [.str y]):=rfl;rw[j]at e1;cases e1;rw[u]at e2;cases e2;simp only[y1,j,u];rw[eT ⟨⟨by ext,by ext⟩,d7 z (by ext),d7 C (by ext)⟩];simp only[PyData.eqv,PyData.eqvAll,Bool.and_true];by_cases h:x=y
 .subst h;simp
 .simp[h]
structure Tg(n:Int)(x:Str)(A:VL)(b c:Str)(r q:D):Prop where
 sp:lT.p x [.str spS]=J (.lst ((A++[b,c]).map .str))
 ok:PyData.strOk b=I
 is:dw n A r
 nu:∀s,bz.p [.str c] s=.ok q s
 r:r=.non\/∃ds,r=.tup ds
 q:q=.non\/∃ds,q=.tup ds
structure OZ(x w:Str)(q:D):Prop where
 sp:lT.p x [.str spS]=J (.lst [.str w])
 nu:∀s,bz.p [.str w] s=.ok q s
 q:q=.non\/∃ds,q=.tup ds
abbrev LV:Xd [2]:=(aw (aQ 5 (tx lT (af 4) (ae (xC (.str " ")) a_)))
 (aw (aQ 6 (av bQ (ae (af 0) (ae (Cs (af 5) Cz (yJ (nz bV (xC (.int 2))))) a_))))
 (aw (aQ 7 (av bz (ae (ah ka (af 5) (nz bV (xC (.int 1)))) a_)))
 (aw (kr (yF (xB (ah D_ (af 3) (xC (.int 20)))) (yF (xB (ah x2 (Cs (af 5) (yJ (nz bV (xC (.int 2)))) (yJ (nz bV (xC (.int 1))))) (aU (ae (xC (.str "|")) a_)))) (yF (xB (ah (u_ T) (af 6) (xC .non))) (xB (ah (u_ T) (af 7) (xC .non)))))) (dU "NoText" "the line " " may not stand there" "line" (ae (af 3) a_)) e_)
 (Ed ql 2 (ae (cR (ae (af 6) (ae (af 7) a_))) a_))))))
def pR:bV.p (.int 2)=J (.int (-2)):=rfl
def pN:bV.p (.int 1)=J (.int (-1)):=rfl
open Classical in
theorem sd{n k:Int}{x b c:Str}{A:VL}{r q:D}{z1 z2 z5 z6 z7:VA}{s:f_}(h:Tg n x A b c r q)(L:0<=k)(F:k<100):LV.p [J (.int n),z1,z2,J (.int k),J (.str x),z5,z6,z7] s =
  (if (20<=k\/b≠il)\/r=.non\/q=.non then PS.rse (zd k) [J (.int n),z1,z2,J (.int k),J (.str x),J (.lst ((A++[b,c]).map .str)),J r,J q] s
    else(Ed ql 2 (ae (cR (ae (af 6) (ae (af 7) a_))) a_):Xd [2]).p [J (.int n),z1,z2,J (.int k),J (.str x),J (.lst ((A++[b,c]).map .str)),J r,J q] s):=by
 have em:((A++[b,c]).map D.str)=A.map D.str++[.str b,.str c]:=by simp
 have j:=h.sp;rw[em]at j ⊢;have e2:Dt (.lst (A.map D.str++[.str b,.str c])) Y (J (-2))=J (.lst (A.map .str)):=by rw[fX,zk]
 have C:Dt (.lst (A.map D.str++[.str b,.str c])) (J (-2)) (J (-1))=J (.lst [.str b]):=by rw[fX,K1]
 have e3:=h.is s;have z:=h.nu s;have e4:i_ (A.map D.str++[.str b,.str c]) (-1)=J (.str c):=w9;have H:x2.p (.lst [.str b]) (.lst [.str il])=J (.bl (!decide (b=il))):=Gm h.ok (bZ "|");have E:=vq h.r;have y:=vq h.q;have P:=sy (ws:=[2]) (i:=3) (env:=[J (.int n),z1,z2,J (.int k),J (.str x),J (.lst (A.map D.str++[.str b,.str c])),J r,J q]) (s:=s) (k:=k) rfl L F;unfold LV;rw[aD,aK,ck];dsimp![am,aF,aR];rw[show lT.p x [D.str (Str.ofString " ")]=_ from j];simp![Pg,ln,lv,PU.au,aD,aK,aB,al,gX,fK,cz,aF,aH,pR,pN,gS,e2,aq,e3,aA,bW,e4,z];rw[bg];have G:(yF (xB (ah D_ (af 3) (xC (.int 20)))) (yF (xB (ah x2 (Cs (af 5) (yJ (nz bV (xC (.int 2)))) (yJ (nz bV (xC (.int 1))))) (aU (ae (xC (.str "|")) a_)))) (yF (xB (ah (u_ T) (af 6) (xC .non))) (xB (ah (u_ T) (af 7) (xC .non))))):Xt [2]).p [J (.int n),z1,z2,J (.int k),J (.str x),J (.lst (A.map D.str++[.str b,.str c])),J r,J q] s=.ok (decide ((20<=k\/b≠il)\/r=.non\/q=.non)) s:=by
  simp![gZ,bc,aA,aF,aH,qQ,PR.bl];by_cases B:20<=k
  .simp[B]
  .rw[decide_eq_false B];simp![ol,if_false,gX,fK,cz,aF,aH,pR,pN,C,bf,al,aq,aR,n_,pa,show(0+1:Nat)<=100000 by decide,if_true];rw[show x2.p (.lst [.str b]) (.lst [.str (Str.ofString "|")])=_ from H];simp only[Pf,Pb];by_cases l:b=il
   .rw[decide_eq_true l];simp only[CV,ol,if_false,bi,E,Pf,Pb];rcases h.r with rfl|⟨M,rfl⟩
    .simp[KZ]
    .simp only[KZ,ol,if_false,y,Pf,Pb];rcases h.q with rfl|⟨M,rfl⟩
     .simp[KZ]
     .simp[B,l,KZ]
   .rw[decide_eq_false l];simp[l]
 rw[G];by_cases u:(20<=k\/b≠il)\/r=.non\/q=.non
 .rw[eT u,decide_eq_true u];simp_all![Pg,P];rfl
 .rw[hF u,decide_eq_false u];simp only[Pg,ol,if_false,bv,PU.au]
def oA{n:Int}(h:0<=n):Row n []:=⟨.nil,by simpa using h,λp i=>by cases i⟩
def K2{n k:Int}{x w:Str}{q:D}{z1 z2 z5 z6 z7:VA}{s:f_}(h:OZ x w q)(P:0<=n)(M:0<=k)(B:k<100):LV.p [J (.int n),z1,z2,J (.int k),J (.str x),z5,z6,z7] s=PS.rse (zd k) [J (.int n),z1,z2,J (.int k),J (.str x),J (.lst [.str w]),J (.tup []),J q] s:=by
 have e2:Dt (.lst [D.str w]) Y (J (-2))=J (.lst []):=by rw[fX];rfl
 have l:Dt (.lst [D.str w]) (J (-2)) (J (-1))=J (.lst []):=by rw[fX];rfl
 have e3:bQ.p [.int n,.lst []] s=.ok (.tup []) s:=di (ps:=[]) (oA P) ⟨by simp,λp H=>by cases H⟩;have j:=h.nu s;have e4:i_ [D.str w] (-1)=J (.str w):=rfl;have G:x2.p (.lst []) (.lst [.str il])=J (.bl I):=by
  have E:gu 10 (.lst [.str il]):=ic (k:=9) λd hd=>by
   have:d=.str il:=by simpa using hd
   subst this;exact j0 (bZ "|")
  obtain⟨L,e2,R,F,Q⟩:=E;have C:py (.lst [])=J (.list []):=rfl;have u:py (.lst [.str il])=J (.list [.str il]):=rfl;rw[u]at e2;cases e2;rw[ui];simp only[y1,C,u];rw[eT ⟨⟨by simp[Cy,BS],by ext⟩,d7 rfl (by simp[PyData.depth,PyData.depthAll]),d7 F (by ext)⟩];rfl
 have z:=sy (ws:=[2]) (i:=3) (env:=[J (.int n),z1,z2,J (.int k),J (.str x),J (.lst [.str w]),J (.tup []),J q]) (s:=s) (k:=k) rfl M B;unfold LV;rw[aD,aK,ck];dsimp![am,aF,aR];rw[show lT.p x [D.str (Str.ofString " ")]=_ from h.sp];simp![Pg,ln,lv,PU.au,aD,aK,aB,al,gX,fK,cz,aF,aH,pR,pN,gS,e2,aq,e3,aA,bW,e4,j];rw[bg];simp![gZ,bc,aA,aF,aH,qQ,PR.bl];by_cases y:20<=k
 .rw[decide_eq_true y];simp_all![Pg,z];rfl
 .rw[decide_eq_false y];simp![ol,if_false,gX,fK,cz,aF,aH,pR,pN,l,bf,al,aq,aR,n_,pa,show(0+1:Nat)<=100000 by decide,if_true];rw[show x2.p (.lst []) (.lst [.str (Str.ofString "|")])=_ from G];simp_all![Pf,Pb,Pg,z];rfl
def pG{n:Int}{i:Rw}(h:KO n i)(ok:jO i):Tg n (q_ i) (i.1.map b_) il (k_ i.2.1 i.2.2) (.tup (i.1.map d_)) (nD i.2.1 i.2.2):=by have j:=tQ ok;have l:=nN ok;exact⟨lh (c:=32) (by simp) (Hz (.inr rfl) _) (by unfold q_ at j;exact wy j (by decide)) (by ext),bZ "|",λs=>di h.1 ok.1,λs=>jk h.2,.inr ⟨_,rfl⟩,.inr ⟨_,rfl⟩⟩
def nB(n k:Int)(x:Str):Prop:=(∃A b c r q,Tg n x A b c r q/\((20<=k\/b≠il)\/r=.non\/q=.non))\/∃w q,OZ x w q
def rV(n k:Int)(x:Str):Prop:=∃w i r,QL n x w i r/\((12<=k\/w≠tS k++i6)\/r=.non)
def pK{n:Int}{k:Nat}{ls:VL}{s:f_}(h0:0<=n)(hn:ls.length<=100)(hj:(Txt.join ml ls).length<=1000000)(Q:∀x∈ls,No 10 x)(hp:1<=(Txt.join ml ls).length)(F:∀j,j<k->∃r,ls[j]?=J (q_ r)/\KO n r/\jO r/\j<20)(bad:∃x,ls[k]?=J x/\nB n (k:Int) x):bM.p [.int n,.str (Txt.join ml ls)] s=.exc (zd k) s:=by
 obtain⟨x,E,S⟩:=bad;have Z:k<ls.length:=(w_.mp E).1;have q1:=jq (ls:=ls) (s:=s) hj (by ext) Q hp (λz=>by rw[z]at Z;cases Z);obtain⟨c,aa,s4,q4,hc,hs⟩:=pF (g:=(Di (yV (n3 3) (yV (n3 4) Dh)) 2:Xg [2]).p) (b:=LV.p)
  (λj env i=>∃l M U C B u,env=[J (.int n),J (.str (Txt.join ml ls)),J (.lst (l.map gT)),M,U,C,B,u]/\l.length=j/\i=s) (λc i=>c=zd k/\i=s) k (iL (ls.map .str)) 0 [J (.int n),J (.str (Txt.join ml ls)),J (.lst []),Y,Y,Y,Y,Y] s (by simp[iL];ext) ⟨[],Y,Y,Y,Y,Y,rfl,rfl,rfl⟩ (λj R env i d W hd=>by
   obtain⟨l,M,U,C,B,u,P,hr,H⟩:=W;subst P H;obtain⟨x,E,rfl⟩:=gL hd;obtain⟨r,hg,G,ok,ab⟩:=F j R;rw[CG,hg]at E;cases E;have t:=sd (z1:=J (.str (Txt.join ml ls))) (z2:=J (.lst (l.map gT))) (z5:=C) (z6:=B) (z7:=u) (s:=i) (pG G ok) (show(0:Int)<=(j:Int) by ext) (by ext)
   rw[hF (by
    intro h;rcases h with(h|h)|h | h
    .ext
    .exact h rfl
    .cases h
    .cases h),oN (s1:=i) (as:=[gT r]) (ds:=l.map gT) (ds':=(l++[r]).map gT) (r:=.non) (by simp) rfl (by
    rw[kC (by simp;ext)];simp)]at t
   exact⟨_,_,i,rfl,t,l++[r],_,_,_,_,_,rfl,by simp;ext,rfl⟩) (λenv i d W hd=>by
   obtain⟨l,M,U,C,B,u,P,hr,H⟩:=W;subst P H;obtain⟨y,X,rfl⟩:=gL hd;rw[CG,E]at X;cases X;rcases S with⟨A,b,c,r,q,L,S⟩|⟨w,q,L⟩
   .have t:=sd (z1:=J (.str (Txt.join ml ls))) (z2:=J (.lst (l.map gT))) (z5:=C) (z6:=B) (z7:=u) (s:=i) L (show(0:Int)<=(k:Int) by ext) (by ext);rw[eT S]at t;exact⟨_,_,_,i,rfl,t,rfl,rfl⟩
   .have t:=K2 (z1:=J (.str (Txt.join ml ls))) (z2:=J (.lst (l.map gT))) (z5:=C) (z6:=B) (z7:=u) (s:=i) L h0 (show(0:Int)<=(k:Int) by ext) (by ext)
    exact⟨_,_,_,i,rfl,t,rfl,rfl⟩)
 obtain⟨rfl,rfl⟩:=And.intro hc hs;rw[jI (by rfl)];unfold dG;rw[show i3 8 [D.int n,.str (Txt.join ml ls)]=[J (.int n),J (.str (Txt.join ml ls)),Y,Y,Y,Y,Y,Y]from rfl];simp_all![aD,gG,iU,bf,aq,Pb,Pg,ln,lv,PU.au,pa,CN];rw[iV,fU];simp![al,aB,aq,q1,FE,Pg];refine(congrArg (λz:PS=>(z.then _).fin) q4).trans ?_;rfl
def yh{n:Nat}{ls:VL}{s:f_}(hl:ls.length=n)(hn:n<=12)(W:(Txt.join ml ls).length<=1000000)(P:∀x∈ls,No 10 x)(Q:1<=(Txt.join ml ls).length)(y:∀j,j<n->∃ps,ls[j]?=J (line (j:Int) ps)/\Row n ps/\df ps):∃d,bH.p [.str (Txt.join ml ls)] s=.ok d s:=by
 have U:=jq (ls:=ls) (s:=s) W (by ext) P Q (λz=>by rw[z]at Q;exact absurd Q (by decide));obtain⟨S,s4,q4,l,H,R,E,C,M,hr,G⟩:=jE (g:=(Di (yV (n3 4) (yV (n3 5) Dh)) 2:Xg [3]).p) (b:=QM.p)
  (λj env u=>∃l H R E C,env=[J (.str (Txt.join ml ls)),J (.lst (ls.map .str)),J (.int (n:Int)),J (.lst (gp l)),H,R,E,C]/\l.length=j/\u=s) (iL (ls.map .str)) 0 [J (.str (Txt.join ml ls)),J (.lst (ls.map .str)),J (.int (n:Int)),J (.lst []),Y,Y,Y,Y] s ⟨[],Y,Y,Y,Y,rfl,rfl,rfl⟩ (λj env u d hI hd=>by
   obtain⟨l,H,R,E,C,M,hr,G⟩:=hI;subst M G;obtain⟨x,F,rfl⟩:=gL hd;have L:j<n:=by
    have:=(w_.mp F).1
    rw[CM]at this;ext
   obtain⟨ps,hg,B,ok⟩:=y j L;rw[CG,hg]at F;cases F;have t:=su (z1:=J (.str (Txt.join ml ls))) (z2:=J (.lst (ls.map .str))) (z3:=J (.lst (gp l))) (z6:=E) (z7:=C) (s:=u) (qi (i:=j) B ok (by ext)) (show(0:Int)<=(j:Int) by ext) (by ext)
   rw[hF (by
    intro h;rcases h with(h|h)|h
    .ext
    .exact h rfl
    .cases h),oN (s1:=u) (as:=[.tup (ps.map d_)]) (ds:=gp l) (ds':=gp (l++[ps])) (r:=.non) (by simp) rfl (by
    rw[kC (by simp;ext)];simp)]at t
   exact⟨_,_,u,rfl,t,l++[ps],_,_,_,_,rfl,by simp;ext,rfl⟩)
 subst M G;have X:fV.p [.lst (gp l)]=J (.tup (gp l)):=rfl;have Z:bY.p [.lst (ls.map .str)]=J (.int (n:Int)):=by show J (D.int ((ls.map D.str).length:Int))=_;rw[CM,hl]
 refine⟨.tup [.int (n:Int),.tup (gp l)],?_⟩;rw[ji (by rfl)];unfold dj;rw[show i3 8 [D.str (Txt.join ml ls)]=[J (.str (Txt.join ml ls)),Y,Y,Y,Y,Y,Y,Y]from rfl];simp![aD,aK,gG,iU,aB,al,aq,U,Pg,ln,lv,PU.au,aX,Z,bf,pa,CN,if_true];rw[iV,fU];simp![al,aq,FE,Pg];refine(congrArg (λz:PS=>(z.then _).fin) q4).trans ?_;simp![PU.au,aS,j6,al,aX,aq,X,n_,pa,show(0+1+1:Nat)<=100000 by decide,if_true,Pg,PU.bx]
def AI{n:Int}{ls:VL}{s:f_}(hn:ls.length<=20)(W:(Txt.join ml ls).length<=1000000)(P:∀x∈ls,No 10 x)(Q:1<=(Txt.join ml ls).length)(u:∀j,j<ls.length->∃r,ls[j]?=J (q_ r)/\KO n r/\jO r):∃d,bM.p [.int n,.str (Txt.join ml ls)] s=.ok d s:=by
 have U:=jq (ls:=ls) (s:=s) W (by ext) P Q (λz=>by rw[z]at Q;exact absurd Q (by decide));obtain⟨S,s4,X,i,H,R,E,C,B,M,hr,G⟩:=jE (g:=(Di (yV (n3 3) (yV (n3 4) Dh)) 2:Xg [2]).p) (b:=LV.p)
  (λj env l=>∃i H R E C B,env=[J (.int n),J (.str (Txt.join ml ls)),J (.lst (i.map gT)),H,R,E,C,B]/\i.length=j/\l=s) (iL (ls.map .str)) 0 [J (.int n),J (.str (Txt.join ml ls)),J (.lst []),Y,Y,Y,Y,Y] s ⟨[],Y,Y,Y,Y,Y,rfl,rfl,rfl⟩ (λj env l d Z hd=>by
   obtain⟨i,H,R,E,C,B,M,hr,G⟩:=Z;subst M G;obtain⟨x,F,rfl⟩:=gL hd;have L:j<ls.length:=by
    have:=(w_.mp F).1
    rw[CM]at this;ext
   obtain⟨r,hg,y,ok⟩:=u j L;rw[CG,hg]at F;cases F;have t:=sd (z1:=J (.str (Txt.join ml ls))) (z2:=J (.lst (i.map gT))) (z5:=E) (z6:=C) (z7:=B) (s:=l) (pG y ok) (show(0:Int)<=(j:Int) by ext) (by ext)
   rw[hF (by
    intro h;rcases h with(h|h)|h | h
    .ext
    .exact h rfl
    .cases h
    .cases h),oN (s1:=l) (as:=[gT r]) (ds:=i.map gT) (ds':=(i++[r]).map gT) (r:=.non) (by simp) rfl (by
    rw[kC (by simp;ext)];simp)]at t
   exact⟨_,_,l,rfl,t,i++[r],_,_,_,_,_,rfl,by simp;ext,rfl⟩)
 subst M G;refine⟨.lst (i.map gT),?_⟩;rw[jI (by rfl)];unfold dG;rw[show i3 8 [D.int n,.str (Txt.join ml ls)]=[J (.int n),J (.str (Txt.join ml ls)),Y,Y,Y,Y,Y,Y]from rfl];simp_all![aD,gG,iU,bf,aq,Pb,Pg,ln,lv,PU.au,pa,CN];rw[iV,fU];simp![al,aB,aq,U,FE,Pg];refine(congrArg (λz:PS=>(z.then _).fin) X).trans ?_;rw[PU.au,Fy (d:=.lst (i.map gT)) rfl,PU.bx]
def vy{d:D}{s:f_}(e:(dq ["str"]).p d=J (.bl T)):dD.p [d] s=.exc (zd 0) s:=by
 have i:(dU "NoText" "the line " " may not stand there" "line" (ae (xC (.int 0)) a_):Xd []).p [J d] s=.rse (zd 0) [J d] s:=by
  have e:(ae (xC (.int 0)) a_:Xs []).p [J d] s=.ok [.int 0] s:=by rw[al,aF,Pb,aq];rfl
  unfold dU;dsimp only;rw[e];exact eT (HA (by decide) (by decide))
 rw[pc (by rfl)];unfold fE;rw[show i3 1 [d]=[J d]from rfl];rw[aD,bg];simp_all![dZ,bc,cz,aj,Pb,e,Pf,PR.bl,HQ,Pg,i];rfl
def Cm{d:D}{s:f_}(e:(dq ["str"]).p d=J (.bl T)):bH.p [d] s=.exc (zd 0) s:=by rw[ji (by rfl)];unfold dj;rw[show i3 8 [d]=[J d,Y,Y,Y,Y,Y,Y,Y]from rfl];rw[aD,aK,aB,al,aj,Pb,aq,Pb,Pb,vy e];rfl
def Gn{n:Int}{d:D}{s:f_}(e:(dq ["str"]).p d=J (.bl T)):bM.p [.int n,d] s=.exc (zd 0) s:=by rw[jI (by rfl)];unfold dG;rw[show i3 8 [D.int n,d]=[J (.int n),J d,Y,Y,Y,Y,Y,Y]from rfl];simp_all![aD,gG,iU,bf,aq,Pb,Pg,ln,lv,PU.au,pa,CN];rw[iV,fU,al,aB,al,am,aj,Pb,aq,Pb,Pb,vy e];rfl
def pI(l:VN):Bool:=!l.isEmpty&&decide (l.length<=60)&&l.all DM&&(l.head? != J 48||l.length==1)
def kx(l:VN):Bool :=
 let i:=if l.head? == J 45 then l.tail else l
 let a:=i.takeWhile (· != 47)
 let b:=i.dropWhile (· != 47)
 pI a&&(match b with
  |[]=>!(l.head? == J 45&&a == [48])
  |_::c=>pI c&&c != [49]&&c != [48]&&Nat.gcd (PySem.NumText.digitsVal a) (PySem.NumText.digitsVal c)==1)
def jN(l:VN):Bool :=
 let a:=l.takeWhile (· != 61)
 let b:=l.dropWhile (· != 61)
 pI a&&(match b with
  |[]=>T
  |_::c=>kx c&&c != [48])
def x9{c:Nat}:∀{l:VN},c∉l->l.takeWhile (· != c)=l/\l.dropWhile (· != c)=[]
 |[],_=>⟨rfl,rfl⟩
 |x::l,h=>by
  have i:(x != c)=I:=by simp;intro e;exact h (by simp[e])
  obtain⟨a,b⟩:=x9 (l:=l) λz=>h (pW _ z);exact⟨by rw[List.takeWhile_cons,eT i,a],by rw[List.dropWhile_cons,eT i,b]⟩
def yW{c:Nat}{m:VN}:∀{l:VN},c∉l->(l++c::m).takeWhile (· != c)=l/\(l++c::m).dropWhile (· != c)=c::m
 |[],_=>⟨by simp,by simp⟩
 |x::l,h=>by
  have i:(x != c)=I:=by simp;intro e;exact h (by simp[e])
  obtain⟨a,b⟩:=yW (m:=m) (l:=l) λz=>h (pW _ z);exact⟨by rw[HN,List.takeWhile_cons,eT i,a],by rw[HN,List.dropWhile_cons,eT i,b]⟩
def i7(n:Nat):PySem.NumText.digitsVal (dg n)=n:=PySem.W.KIN.val_back n
def zf{n c:Nat}(h:c∈dg n):DM c=I:=by
 have:=kA h
 unfold DM;simp[this]
def yi{n:Nat}(h:n<10^60):pI (dg n)=I:=by
 have y:=(nE (n:=n) (k:=60) (by decide)).mpr h;have B:=mM n;have z:(dg n).all DM=I:=DE.mpr λc i=>zf i;have l:((dg n).head? != J 48||(dg n).length==1)=I:=by
  cases e:dg n with
  |nil=>rfl
  |cons c r =>
   by_cases i:c=48
   .subst i
    cases r with
    |nil=>rfl
    |cons d r =>
     exfalso;have v:=i7 n;rw[e]at v;have E:PySem.NumText.digitsVal (d::r)=n:=v;have k:=o7 (d::r) 0 λx u=>zf (n:=n) (by rw[e];exact pW _ u);have C:n<10^(d::r).length:=by rw[<-E];have j:=k;rw[Nat.zero_add,Nat.one_mul]at j;exact j
     have:=(nE (n:=n) (k:=(d::r).length) (by simp)).mpr C
     rw[e]at this;simp only[n_]at this;ext
   .simp[i]
 unfold pI;rw[z,l,decide_eq_true y];simp[B]
def my{n c:Nat}(h:c<48\/57<c):c∉dg n:=λi=>by have:=kA i;ext
def xT{n:Nat}(h:dg n=[49]):n=1:=by
 have:=i7 n
 rw[h]at this;exact this.symm
def kU{n:Nat}(h:dg n=[48]):n=0:=by
 have:=i7 n
 rw[h]at this;exact this.symm
def zq{t b:Int}(h:BY t b):kx (k_ t b).cps.toList=I:=by
 have L:=iZ h;obtain⟨n,rfl⟩:∃n:Nat,b=n:=⟨b.toNat,by have:=h.2.1;ext⟩;obtain⟨m,B⟩:∃m,m=t.natAbs:=⟨_,rfl⟩;have g:Nat.gcd m n=1:=by have:=h.2.2.2;rw[Dm,<-B]at this;exact this
 have Q:n<10^60:=by have:=L.2;rwa [Dm]at this
 have C:m<10^60:=by rw[B];exact L.1
 have H:=yi C;have P:=yi Q;have j:(dg m).head?≠J 45:=λe=>my (n:=m) (c:=45) (.inl (by ext)) (List.mem_of_mem_head? e)
 have F:∀(i:Bool)(tl:VN),(i=I->t<0)->kx ((if i=I then [45]else [])++(dg m++tl))=(pI ((dg m++tl).takeWhile (· != 47))&&(match (dg m++tl).dropWhile (· != 47) with
   |[]=>!(i&&(dg m++tl).takeWhile (· != 47) == [48])
   |_::c=>pI c&&c != [49]&&c != [48]&&Nat.gcd (PySem.NumText.digitsVal ((dg m++tl).takeWhile (· != 47))) (PySem.NumText.digitsVal c)==1)):=by
  intro i tl _;unfold kx
  cases i with
  |true=>simp
  |false =>
   have:(dg m++tl).head?≠J 45:=by
    cases e:dg m with
    |nil=>exact absurd e (mM m)
    |cons c r=>rw[e]at j;simpa using j
   have M:((dg m++tl).head? == J 45)=T:=by simpa using this
   simp only[ol,if_false,PM,M,Bool.false_and]
 have y:∀i:Bool,(i=I->t<0)->kx ((if i=I then [45]else [])++(dg m++(if n=1 then []else 47::dg n)))=I:=by
  intro i u;rw[F i _ u];by_cases z:n=1
  .rw[eT z,HP];obtain⟨a,b⟩:=x9 (c:=47) (l:=dg m) (my (.inl (by ext)));rw[a,b,H]
   cases i with
   |false=>rfl
   |true =>
    have:dg m≠[48]:=λe=>by have:=kU e;have:=u rfl;ext
    simp[this]
  .rw[hF z];obtain⟨a,b⟩:=yW (c:=47) (m:=dg n) (l:=dg m) (my (.inl (by ext)));rw[a,b,H]
   have:dg n≠[49]:=λe=>z (xT e)
   have E:dg n≠[48]:=λe=>by have:=kU e;have:=h.2.1;ext
   simp[P,this,E,i7,g]
 have e2:(k_ t (n:Int)).cps.toList=(if decide (t<0)=I then [45]else [])++(dg m++(if n=1 then []else 47::dg n)):=by
  have G:(tS t).cps.toList=(if decide (t<0)=I then [45]else [])++dg m:=by
   by_cases ht:t<0
   .rw[ik ht,decide_eq_true ht,<-B];rfl
   .rw[decide_eq_false ht]
    have:tS t=tS (m:Int):=by rw[B];congr 1;ext
    rw[this,cD];rfl
  unfold k_;by_cases z:n=1
  .rw[eT (by ext),eT z,G,HP]
  .rw[hF (by ext),hF z,aL,aL,G,cD];simp;rfl
 rw[e2];exact y _ λh=>of_decide_eq_true h
def AS{p:l0}(y:0<=p.1)(E:p.1<100)(h:BY p.2.1 p.2.2)(u:p.2.1≠0):jN (b_ p).cps.toList=I:=by
 obtain⟨j,t,b⟩:=p;obtain⟨n,rfl⟩:∃n:Nat,j=n:=⟨j.toNat,by simp at y;ext⟩;have G:n<10^60:=DO (show n<100 by simp at E;ext) (by decide +kernel);have e:(b_ ((n:Int),t,b)).cps.toList=dg n++61::(k_ t b).cps.toList:=by unfold b_;rw[aL,aL,cD];simp;rfl
 obtain⟨a,B⟩:=yW (c:=61) (m:=(k_ t b).cps.toList) (l:=dg n) (my (.inr (by ext)));have k:=zq h;have C:(k_ t b).cps.toList≠[48]:=λz=>by
  have ht:t≠0:=u;unfold k_ at z
  split at z
  .by_cases i:t<0
   .rw[ik i]at z;simp at z
   .obtain⟨m,rfl⟩:∃m:Nat,t=m:=⟨t.toNat,by ext⟩;rw[cD]at z;exact ht (by rw[kU z];rfl)
  .have:=congrArg List.length z
   rw[aL,aL,Dc,Dc]at this;have F:=qJ t;rw[<-gN]at F
   have:ia.cps.toList.length=1:=rfl
   simp at *;ext
 unfold jN;rw[e];dsimp only;rw[a,B,yi G];have H:kx (k_ t b).cps.toList=I:=k;simp[H,C]
def fW{n:Int}{x:Str}(j:n<=100)(h:jN x.cps.toList=T):eI n x:=λp i e=>by
 have:=AS i.1 (by have:=i.2.1;ext) i.2.2.1 i.2.2.2
 rw[<-e,h]at this;cases this
def ff(x:Str):Prop:=∀t b:Int,BY t b->x≠k_ t b
def Al{x:Str}(h:kx x.cps.toList=T):ff x:=λt b i e=>by
 have:=zq i
 rw[<-e,h]at this;cases this
def mq{x:Str}(j:Bi x)(hl:x.length<=100000)(h:ff x):∀s,bz.p [.str x] s=.ok .non s:=λs=>by
 obtain⟨r,q,hr⟩:=uO (s:=s) j hl;rcases hr with rfl|⟨t,b,_,i,e⟩
 .exact q
 .exact absurd e (h t b i)
def oR{n:Int}{j x:Str}(l:61∉j.cps.toList)(h:ff x):eI n (j++wx++x):=λp i e=>by
 have e2:=congrArg (λz:Str=>z.cps.toList) e;unfold b_ at e2;simp only[aL,show wx.cps.toList=[61]from rfl,El,Ej]at e2;have k:=iB (c:=61) l (sL p.1) (uu:=x.cps.toList) (ww:=(k_ p.2.1 p.2.2).cps.toList) e2;exact h _ _ i.2.2.1 (cg k.2)
def nC{n:Int}{j x:Str}(u:61∉j.cps.toList)(h:∀i:Int,0<=i->i<n->j≠tS i):eI n (j++wx++x):=λp l e=>by
 have e2:=congrArg (λz:Str=>z.cps.toList) e;unfold b_ at e2;simp only[aL,show wx.cps.toList=[61]from rfl,El,Ej]at e2;have k:=iB (c:=61) u (sL p.1) (uu:=x.cps.toList) (ww:=(k_ p.2.1 p.2.2).cps.toList) e2;exact h _ l.1 l.2.1 (cg k.1)
def qM{i j:Int}(l:i.natAbs<10^60)(u:j.natAbs<10^60)(h:tS i=tS j):i=j:=by have a:=qY l;have b:=qY u;rw[h,b]at a;cases a;rfl
structure Pcs(x:Str)(ps:VL):Prop where
 e:x=Txt.join spS ps
 ne:ps≠[]
 no:∀p∈ps,No 32 p/\No 10 p/\Bi p/\p.length<=500
 le:ps.length<=40
def eX(z x y:Str)(i:VL):Txt.join z (x::y::i)=x++(z++Txt.join z (y::i)):=by show Builtin.Str.glued z (x::y::i)=x++(z++Builtin.Str.glued z (y::i));rw[StrLaws.glued_eq_join,StrLaws.glued_eq_join,oH,bT]
def bU(z x:Str):Txt.join z [x]=x:=by show Builtin.Str.glued z [x]=x;rw[StrLaws.glued_eq_join];rfl
def mT(z:Str):∀(A B:VL),A≠[]->B≠[]->Txt.join z (A++B)=Txt.join z A++(z++Txt.join z B)
 |[],_,h,_=>absurd rfl h
 |[a],b::B,_,_=>by rw[Ej,eX,bU]
 |[_],[],_,h=>absurd rfl h
 |a::i::A,B,_,h=>by
  have k:=mT z (i::A) B (by simp) h;rw[HN,HN,eX,<-HN,k,eX,bT,bT]
def Pcs.one{x:Str}(j:No 32 x)(l:No 10 x)(i:Bi x)(y:x.length<=500):Pcs x [x]:=⟨(bU _ _).symm,by simp,λp u=>by
 have:p=x:=by simpa using u
 subst this;exact⟨j,l,i,y⟩,by simp⟩
def Pcs.app{x y:Str}{ps j:VL}(a:Pcs x ps)(b:Pcs y j)(hl:ps.length+j.length<=40):Pcs (x++(spS++y)) (ps++j):=by
 refine⟨by rw[mT _ _ _ a.ne b.ne,<-a.e,<-b.e],λz=>a.ne (List.append_eq_nil_iff.mp z).1,λp i=>?_,by simp;exact hl⟩;rcases v_.mp i with i|i
 .exact a.no p i
 .exact b.no p i
def Pcs.sp{x:Str}{ps:VL}(h:Pcs x ps):lT.p x [.str spS]=J (.lst (ps.map .str)):=by have j:=ig (z:=spS) (ts:=ps) (c:=500) (m:=40) (λp i=>(h.no p i).2.2.2) h.le;rw[fS]at j;rw[h.e];exact lh (c:=32) h.ne (λp i=>(h.no p i).1) (by change (Txt.join spS ps).length<=_;ext) (by have:=h.le;ext)
def Pcs.n10{x:Str}{ps:VL}(h:Pcs x ps):No 10 x:=by rw[h.e];exact oQ (iM (d:=32) (by ext)) _ λp i=>(h.no p i).2.1
def Pcs.len{x:Str}{ps:VL}(h:Pcs x ps):x.length<=20040:=by have j:=ig (z:=spS) (ts:=ps) (c:=500) (m:=40) (λp i=>(h.no p i).2.2.2) h.le;rw[fS,<-h.e]at j;ext
def qg:∀(xs:List (Str×VL)),xs≠[]->(∀p∈xs,Pcs p.1 p.2)->(xs.flatMap (·.2)).length<=40->Pcs (Txt.join spS (xs.map (·.1))) (xs.flatMap (·.2))
 |[],h,_,_=>absurd rfl h
 |[p],_,h,_=>by
  rw[yw,List.map_nil,bU];simpa using h p (by simp)
 |p::q::xs,_,h,hl=>by
  have k:=qg (q::xs) (by simp) (λr hr=>h r (pW _ hr)) (by simp at hl ⊢;ext);rw[yw,yw,eX,<-yw,PK];exact(h p (by simp)).app k (by simp at hl ⊢;ext)
def xn(t b:Int):Bi (k_ t b):=by
 have k:∀t:Int,∀c∈(tS t).cps.toList,c<128:=λt c i=>by rcases ii t i with h|h<;>ext
 intro c i;unfold k_ at i
 split at i
 .exact k t c i
 .rw[aL,aL]at i;rcases v_.mp i with i|i
  .rcases v_.mp i with i|i
   .exact k t c i
   .have j:c∈[47]:=i
    have:c=47:=by simpa using j
    ext
  .exact k b c i
def cP{x y:Str}(j:Bi x)(l:Bi y):Bi (x++y):=λc i=>by
 rw[aL]at i;exact(v_.mp i).elim (j c) (l c)
def nX(t:Int):Bi (tS t):=λc i=>by rcases ii t i with h|h<;>ext
def uk{c:Nat}(h:c<128):Bi (sg c):=λd hd=>by
 have:d=c:=by simpa using hd
 ext
def Bu(p:l0):Bi (b_ p):=cP (cP (nX _) (uk (c:=61) (by ext))) (xn _ _)
def plain(l:VN):Bool:=l.all λc=>decide (c<128)&&c != 32&&c != 10
def gA{x:Str}(h:plain x.cps.toList=I):No 32 x/\No 10 x/\Bi x:=by
 unfold plain at h;rw[DE]at h;have k:∀c∈x.cps.toList,c<128/\c≠32/\c≠10:=λc i=>by
  have:=h c i
  simp at this;exact⟨this.1.1,this.1.2,this.2⟩
 exact⟨λi=>(k _ i).2.1 rfl,λi=>(k _ i).2.2 rfl,λc i=>(k c i).1⟩
def aI{x:Str}(h:(plain x.cps.toList&&decide (x.length<=500))=I):Pcs x [x]:=by rw[DD]at h;obtain⟨a,b,c⟩:=gA h.1;exact Pcs.one a b c (of_decide_eq_true h.2)
def qe{p:l0}(h:iN p):Pcs (b_ p) [b_ p]:=Pcs.one (o5 (.inr rfl) p) (o5 (.inl rfl) p) (Bu p) (by have:=gz h;ext)
def Go{t b:Int}(h:BY t b):Pcs (k_ t b) [k_ t b]:=Pcs.one (qR (.inr rfl) t b) (qR (.inl rfl) t b) (xn t b) (by have:=jD h;ext)
def n8{ps:List l0}(h:df ps):∀x∈ps.map b_,Pcs x [x]:=λx j=>by
 obtain⟨p,i,rfl⟩:=sk.mp j;exact qe (h.2 p i)
def fy:∀xs:VL,(xs.map λx=>(x,[x])).flatMap (·.2)=xs
 |[]=>rfl
 |x::xs=>by rw[yw,PK,fy xs];rfl
def gM{x:Str}{ps:VL}(h:Pcs x ps):∀p∈ps,sw p:=λp i=>⟨(h.no p i).2.2.1,by have:=(h.no p i).2.2.2;ext⟩
def og{n:Int}{ps:VL}(h:∀p∈ps,sw p)(hl:ps.length<=40)(i:∃x∈ps,eI n x):dw n ps .non:=kN h (by ext) i
def Am{n k:Int}{x w:Str}{i:VL}{r:D}(h:Pcs x (w::i))(hw:w≠tS k++i6)(l:dw n i r)(hr:r=.non\/∃j,r=.tup j):rV n k x :=
 ⟨w,i,r,⟨h.sp,hV (h.no w (by simp)).2.2.1,by have:=h.le;simp at this;ext,l,hr⟩,.inl (.inr hw)⟩
def fw{n k:Int}{x w:Str}{ws:VL}(h:Pcs x (w::ws))(j:∃x∈ws,eI n x):rV n k x :=
 ⟨w,ws,.non,⟨h.sp,hV (h.no w (by simp)).2.2.1,by have:=h.le;simp at this;ext,og (λp i=>gM h p (pW _ i)) (by have:=h.le;simp at this;ext) j,.inl rfl⟩,.inr rfl⟩
def Gp{n k:Int}{x w:Str}{i:VL}(h:Pcs x (w::i))(j:dw n i .non):rV n k x :=
 ⟨w,i,.non,⟨h.sp,hV (h.no w (by simp)).2.2.1,by have:=h.le;simp at this;ext,j,.inl rfl⟩,.inr rfl⟩
def rC{c:Str}(h:sw c):∃q,(∀s,bz.p [.str c] s=.ok q s)/\(q=.non\/∃l,q=.tup l):=by
 by_cases j:∃t b:Int,BY t b/\c=k_ t b
 case neg=>exact⟨.non,mq h.1 h.2 λt b i e=>j ⟨t,b,i,e⟩,.inl rfl⟩
 case pos =>
  obtain⟨t,b,i,e⟩:=j;exact⟨nD t b,λs=>by rw[e];exact jk i,.inr ⟨_,rfl⟩⟩
def BU{n k:Int}{x:Str}(h:Pcs x [x]):nB n k x:=by obtain⟨q,e,i⟩:=rC (gM h x (by simp));exact .inr ⟨x,q,h.sp,e,i⟩
def uA{n k:Int}{x b c:Str}{A:VL}{r:D}(h:Pcs x (A++[b,c]))(u:b≠il)(l:dw n A r)(hr:r=.non\/∃j,r=.tup j):nB n k x:=by obtain⟨q,e,i⟩:=rC (gM h c (by simp));exact .inl ⟨A,b,c,r,q,⟨h.sp,hV (h.no b (by simp)).2.2.1,l,e,hr,i⟩,.inl (.inr u)⟩
def xp{n k:Int}{x b c:Str}{A:VL}(h:Pcs x (A++[b,c]))(j:dw n A .non):nB n k x:=by obtain⟨q,e,i⟩:=rC (gM h c (by simp));exact .inl ⟨A,b,c,.non,q,⟨h.sp,hV (h.no b (by simp)).2.2.1,j,e,.inl rfl,i⟩,.inr (.inl rfl)⟩
def Aa{n k:Int}{x b c:Str}{A:VL}(h:Pcs x (A++[b,c]))(j:∃x∈A,eI n x):nB n k x :=
 xp h (og (λp i=>gM h p (C7 _ i)) (by have:=h.le;simp at this;ext) j)
def A6{n k:Int}{x b c:Str}{A:VL}{r:D}(h:Pcs x (A++[b,c]))(i:ff c)(l:dw n A r)(hr:r=.non\/∃j,r=.tup j):nB n k x:=by have k:=gM h c (by simp);exact .inl ⟨A,b,c,r,.non,⟨h.sp,hV (h.no b (by simp)).2.2.1,l,mq k.1 k.2 i,hr,.inl rfl⟩,.inr (.inr rfl)⟩
def vi{n:Nat}{s:f_}(l:n<=15):∃ps i,gK.p [.pen,.int (n:Int)] s=.ok (.tup (ps.map d_)) i/\gJ.p [.tup (ps.map d_)] i=.ok (.lst ((ps.map b_).map .str)) i/\Row n ps/\df ps:=by obtain⟨ps,s1,j,hr⟩:=Gb (s:=s) l;have ok:=hr.ok (by ext);exact⟨ps,s1,j,zD (by have:=ok.1;ext) ok.2,hr,ok⟩
def yZ{n i:Nat}{s:f_}(y:n<=15)(z:i<100):∃ps l,bI.p [.pen,.int (n:Int),.int (i:Int)] s=.ok (.lst (((tS (i:Int)++i6)::ps.map b_).map .str)) l/\Row n ps/\df ps:=by obtain⟨ps,s1,j,u,hr,ok⟩:=vi (s:=s) y;refine⟨ps,s1,?_,hr,ok⟩;have e1:(u_ T).p (.int (i:Int)) .non=J (.bl T):=rfl;have e2:=dC (jm (i:=(i:Int)) (by ext) (by ext));have e3:ao.p (.str (tS (i:Int))) (.str i6)=J (.str (tS (i:Int)++i6)):=aO (by have:=cO (i:=(i:Int)) (by ext) (by ext);have:=dE;have:=xO;ext);have e4:=wY (x:=tS (i:Int)++i6) (ts:=ps.map b_) (by have:=ok.1;simp;ext);rw[sV (by rfl)];unfold io;rw[show i3 4 [D.pen,.int (n:Int),.int (i:Int)]=[J .pen,J (.int (n:Int)),J (.int (i:Int)),Y]from rfl];simp![aD,aK,aB,al,aq,j,u,Pg,ln,lv,PU.au,bg,bc,aA,aF,bi,e1,PR.bl,ol,if_false,bv,aS,bf,aX,e2,aR,e3,n_,pa,show(0+1:Nat)<=100000 by decide,if_true,e4,PU.bx]
def zW{n:Nat}{s:f_}(E:n<=15):∃(r:Rw)(u:f_),bI.p [.pen,.int (n:Int),.non] s=.ok (.lst ((r.1.map b_++[il,k_ r.2.1 r.2.2]).map .str)) u/\KO n r/\jO r:=by obtain⟨ps,s1,l,z,hr,ok⟩:=vi (s:=s) E;obtain⟨t,b,s2,B,i,_⟩:=vE (s:=s1);have j:=iZ i;have C:=vU (s:=s2) j.1 j.2;refine⟨(ps,t,b),s2,?_,⟨hr,i⟩,⟨ok,i⟩⟩;have e1:(u_ T).p D.non .non=J (.bl I):=rfl;have e4:=KN (x:=il) (y:=k_ t b) (ts:=ps.map b_) (by have:=ok.1;simp;ext);rw[sV (by rfl)];unfold io;rw[show i3 4 [D.pen,.int (n:Int),.non]=[J .pen,J (.int (n:Int)),J .non,Y]from rfl];simp![aD,aK,aB,al,aq,l,z,Pg,ln,lv,PU.au,bg,bc,aA,aF,bi,e1,PR.bl,if_true,aS,bf,B,C,aR,n_,pa,show(0+1+1:Nat)<=100000 by decide,e4,PU.lr,PU.bx]
def g9{A B:VL}(h:A.length+B.length<=1000):ao.p (.lst (A.map .str)) (.lst (B.map .str))=J (.lst ((A++B).map .str)):=by rw[qk,rT (by simp;ext)];simp
def nK{ts:VL}{d:Int}(j:0<=d)(l:d<ts.length):∃z∈ts,i_ (ts.map D.str) d=J (.str z):=by
 obtain⟨k,rfl⟩:∃k:Nat,d=k:=⟨d.toNat,by ext⟩;have i:k<ts.length:=by ext
 refine⟨ts[k],Q3 i,?_⟩;unfold i_ xS;rw[eT (by ext),eT (by simp;ext)];simp[i]
def oq{x:Str}{n:Int}(h:MulOk x n):cy.p (.str x) (.int n)=J (.str (Txt.mul x n)):=eT h
abbrev O(x:String):Str:=Str.ofString x
def fb:VL:=[O "",O "+5",O "5/1",O "2/4",O "-0",O "0/3",O "05",O "1/0",O "1/-2",O "--1",O "1/",O "/2",O "1.5",O "a",O "1/02"]
def eZ:VL:=[O "- 1",O "1,0",O "1/2/3",O "1_0",O "-",O "0x1",O "1e3",O "3/9",O "-4/6"]
def HB:Str:=Txt.mul (O "9") 61
def O0:Str:=Txt.mul (O "8") 61
def fN:VL:=[HB,O "1/"++HB,O "-"++O0,O "-05",O "-05/6",O "05/6",O "-00",O "1/00",O "00",O "10/25"]
def O3{c:String}{n:Int}(h:(decide (n < -(2^63:Int))||decide (n>=2^63))=T)(i:(O c).length=1)(l:1<=n)(j:n<=100000):MulOk (O c) n:=by
 have z:=xO;refine⟨h,λ_ _=>?_,λ_ _=>?_⟩
 .rw[i]
  have:(1:Int)<=(2^63-1)/n:=(TC (by ext)).mpr (by ext)
  ext
 .rw[i];unfold Builtin.Str.tooLong;exact decide_eq_false (by ext)
def rX(x:Str):Prop:=(Pcs x [x]/\ff x/\x.length<=300)\/x=O "- 1"
def K3(x:Str):Bool:=(plain x.cps.toList&&decide (x.length<=500))&&(!kx x.cps.toList&&decide (x.length<=300))||decide (x=O "- 1")
def Gq{x:Str}(h:K3 x=I):rX x:=by
 unfold K3 at h;rw[PL,DD]at h;rcases h with⟨j,i⟩|h
 .rw[DD]at i;exact .inl ⟨aI j,Al (by simpa using i.1),of_decide_eq_true i.2⟩
 .exact .inr (of_decide_eq_true h)
def Bs:∀x∈fb++eZ++fN,rX x:=by
 have:(fb++eZ++fN).all K3=I:=by decide +kernel
 rw[DE]at this;exact λx i=>Gq (this x i)
def K4{t b k:Int}(h:BY t b)(ht:t≠0)(L:2<=k)(C:(t*k).natAbs<10^60)(u:(b*k).natAbs<10^60):rX (tS (t*k)++ia++tS (b*k)):=by
 have H:=h.2.1;have F:2<=b*k:=by
  have:1*2<=b*k:=Int.mul_le_mul H L (by decide) (by ext)
  ext
 have M:=cM (k:=60) (by decide) C;have P:=cM (k:=60) (by decide) u;refine .inl ⟨Pcs.one (bF (bF (gV (.inr rfl) _) (iM (d:=47) (by ext))) (gV (.inr rfl) _)) (bF (bF (gV (.inl rfl) _) (iM (d:=47) (by ext))) (gV (.inl rfl) _)) (cP (cP (nX _) (uk (c:=47) (by ext))) (nX _)) (by rw[strLen_append,strLen_append,ib];ext),λl y B e=>?_,by rw[strLen_append,strLen_append,ib];ext⟩;have j:=iZ B;have e2:=congrArg (λz:Str=>z.cps.toList) e;unfold k_ at e2;by_cases i:y=1
 .rw[eT i]at e2
  have:47∈(tS l).cps.toList:=by rw[<-show _=(tS l).cps.toList from e2];simp only[aL];exact C7 _ (se _ (by exact yu.mpr rfl))
  exact qb l this
 .rw[hF i]at e2;simp only[aL,show ia.cps.toList=[47]from rfl,El,Ej]at e2;have c:=iB (c:=47) (qb (t*k)) (qb l) (uu:=(tS (b*k)).cps.toList) (ww:=(tS y).cps.toList) e2;have E:=qM C j.1 (cg c.1);have G:=qM u j.2 (cg c.2);have g:=B.2.2.2;rw[<-E,<-G,PN,PN]at g;have d:k.natAbs ∣ Nat.gcd (t.natAbs*k.natAbs) (b.natAbs*k.natAbs):=Nat.dvd_gcd (Nat.dvd_mul_left _ _) (Nat.dvd_mul_left _ _);rw[g]at d
  have:=Nat.le_of_dvd (by decide) d
  ext
def Th{x:Str}:jT.p (.lst [.str x]) (.int 4)=J (.lst ([x,x,x,x].map .str)):=rfl
def Ti{t b:Int}{s:f_}(B:1<=b)(u:t.natAbs<10^60)(y:b<10^60):∃i j,eG.p [.int t,.int b] s=.ok (nD i j) s/\BY i j/\(t≠0->i≠0)/\i.natAbs<=t.natAbs/\j<=b:=by
 obtain⟨n,rfl⟩:∃n:Nat,b=n:=⟨b.toNat,by ext⟩;have l:n≠0:=by ext
 obtain⟨e1,e2⟩:=sD t n l;refine⟨_,_,v4 (k:=200) l (DO (show n<10^60 by ext) (by decide +kernel)) (by decide),⟨?_,?_,?_,?_⟩,λht z=>?_,?_,?_⟩
 .rw[e1];exact PH sF u
 .have:=(Rat.divInt t n).den_pos;ext
 .have:(Rat.divInt t n).den<=n:=by rw[e2];exact Q9 _ _
  ext
 .rw[Dm];exact(Rat.divInt t n).reduced
 .rw[e1]at z;have hd:((Nat.gcd t.natAbs n:Nat):Int) ∣ t:=by
   have:=Nat.gcd_dvd_left t.natAbs n
   exact Int.ofNat_dvd_left.mpr this
  have:=Int.ediv_mul_cancel hd
  rw[z]at this;ext
 .rw[e1];exact sF
 .have:(Rat.divInt t n).den<=n:=by rw[e2];exact Q9 _ _
  ext
def BF{s:f_}:∃t b C,bS.p [.pen] s=.ok (nD t b) C/\BY t b/\t≠0/\t.natAbs<=10^6/\b<=10^6:=by
 obtain⟨w,s1,w0,w1,j⟩:=bn (s:=s) (size:=4) (by decide) (by decide);obtain⟨m,em,G,S⟩:∃m:Int,i_ [D.int 6,.int 6,.int 12,.int 999999] w=J (.int m)/\0<m/\m<=999999:=by
  obtain rfl|rfl|rfl|rfl:w=0\/w=1\/w=2\/w=3:=by ext
  .exact⟨6,rfl,by decide,by decide⟩
  .exact⟨6,rfl,by decide,by decide⟩
  .exact⟨12,rfl,by decide,by decide⟩
  .exact⟨999999,rfl,by decide,by decide⟩
 obtain⟨n,y,P,n1⟩:∃m:Int,i_ [D.int 1,.int 1,.int 5,.int 999999] w=J (.int m)/\0<m/\m<=999999:=by
  obtain rfl|rfl|rfl|rfl:w=0\/w=1\/w=2\/w=3:=by ext
  .exact⟨1,rfl,by decide,by decide⟩
  .exact⟨1,rfl,by decide,by decide⟩
  .exact⟨5,rfl,by decide,by decide⟩
  .exact⟨999999,rfl,by decide,by decide⟩
 obtain⟨t,s2,t0,X,l⟩:=bn (s:=s1) (size:=m) G (by ext);obtain⟨b,R,W,b1,u⟩:=bn (s:=s2) (size:=n) P (by ext);obtain⟨g,s4,Z,U,B⟩:=bn (s:=R) (size:=2) (by decide) (by decide);obtain⟨H,F,i,L,E,Q,h4⟩:=Ti (t:=if g=1 then 0-(1+t)else 1+t) (b:=1+b) (s:=s4) (by ext) (by split<;>ext) (by ext);refine⟨H,F,s4,?_,L,E (by split<;>ext),wy Q (by split<;>ext),by ext⟩;rw[pC (by rfl)];unfold fG;have M:i3 4 [D.pen]=[J .pen,Y,Y,Y]:=rfl;rw[M];by_cases z:g=1
 .rw[eT z,Int.zero_sub]at i;simp[j,em,l,y,u,B,PR.bl,z,i]
 .rw[hF z]at i;simp[j,em,l,y,u,B,PR.bl,z,i]
def bA{env:aN}{s:f_}:((aU (ae (xC (.str "")) (ae (xC (.str "+5")) (ae (xC (.str "5/1")) (ae (xC (.str "2/4")) (ae (xC (.str "-0")) (ae (xC (.str "0/3")) (ae (xC (.str "05")) (ae (xC (.str "1/0")) (ae (xC (.str "1/-2")) (ae (xC (.str "--1")) (ae (xC (.str "1/")) (ae (xC (.str "/2")) (ae (xC (.str "1.5")) (ae (xC (.str "a")) (ae (xC (.str "1/02")) a_)))))))))))))))):Xe []).p env s=.ok (.lst (fb.map .str)) s:=rfl
def bB{env:aN}{s:f_}:((aU (ae (xC (.str "- 1")) (ae (xC (.str "1,0")) (ae (xC (.str "1/2/3")) (ae (xC (.str "1_0")) (ae (xC (.str "-")) (ae (xC (.str "0x1")) (ae (xC (.str "1e3")) (ae (xC (.str "3/9")) (ae (xC (.str "-4/6")) a_)))))))))):Xe []).p env s=.ok (.lst (eZ.map .str)) s:=rfl
def m9:cy.p (.str (O "9")) (.int 61)=J (.str HB):=oq (O3 (by decide) rfl (by decide) (by decide))
def m8:cy.p (.str (O "8")) (.int 61)=J (.str O0):=oq (O3 (by decide) rfl (by decide) (by decide))
def Gr:HB.length=61:=by decide +kernel
def Gs:O0.length=61:=by decide +kernel
def bC{env:aN}{s:f_}:((aU (ae (ah cy (xC (.str "9")) (xC (.int 61))) (ae (ah ao (xC (.str "1/")) (ah cy (xC (.str "9")) (xC (.int 61)))) (ae (ah ao (xC (.str "-")) (ah cy (xC (.str "8")) (xC (.int 61)))) (ae (xC (.str "-05")) (ae (xC (.str "-05/6")) (ae (xC (.str "05/6")) (ae (xC (.str "-00")) (ae (xC (.str "1/00")) (ae (xC (.str "00")) (ae (xC (.str "10/25")) a_))))))))))):Xe []).p env s=.ok (.lst (fN.map .str)) s:=by have z:=xO;have i:ao.p (.str (O "1/")) (.str HB)=J (.str (O "1/"++HB)):=aO (by rw[Gr];have:(O "1/").length=2:=rfl;ext);have j:ao.p (.str (O "-")) (.str O0)=J (.str (O "-"++O0)):=aO (by rw[Gs];have:(O "-").length=1:=rfl;ext);simp only[bf,al,aA,aF,aR,aH,aq,Pb,m9,m8,Pf,i,j];rfl
def nU{s:f_}:∃x F,ci.p [.pen] s=.ok (.str x) F/\rX x:=by
 obtain⟨t,b,s1,E,j,ht,u,S⟩:=BF (s:=s);obtain⟨w,s2,w0,w1,G⟩:=bn (s:=s1) (size:=2) (by decide) (by decide);have pw:kQ.p (.int 10) (.int 28)=J (.int ((10^28:Nat):Int)):=eT (show gB 10 28 from⟨by decide,by decide,by decide⟩);obtain⟨m,em,R,m1⟩:∃m:Int,i_ [D.int 12,.int ((10^28:Nat):Int)] w=J (.int m)/\0<m/\m<=10^28:=by
  obtain rfl|rfl:w=0\/w=1:=by ext
  .exact⟨12,rfl,by decide,by decide⟩
  .exact⟨_,rfl,by decide,by decide⟩
 obtain⟨k,s3,k0,k1,q3⟩:=KI (s:=s2) (size:=m) R (by
  have:m.natAbs<2^200:=DO (show m.natAbs<10^28+1 by ext) (by decide +kernel)
  have:=zr (k:=200) (by decide) this
  ext)
 obtain⟨K,hK⟩:∃K:Int,K=2+k:=⟨_,rfl⟩;have l:2<=K/\K<=10^29:=by ext
 have b1:(t*K).natAbs<10^60:=by
  rw[PN]
  have:t.natAbs*K.natAbs<=10^6*10^29:=Nat.mul_le_mul u (by ext)
  exact PH this (by decide +kernel)
 have b2:(b*K).natAbs<10^60:=by
  rw[PN]
  have:b.natAbs*K.natAbs<=10^6*10^29:=Nat.mul_le_mul (by have:=j.2.1;ext) (by ext)
  exact PH this (by decide +kernel)
 have B:=K4 j ht l.1 b1 b2;obtain⟨y,C⟩:∃y,y=tS (t*K)++ia++tS (b*K):=⟨_,rfl⟩;rw[<-C]at B;obtain⟨d,s4,d0,d1,q4⟩:=bn (s:=s3) (size:=38) (by decide) (by decide)
 obtain⟨z,i,L⟩:=nK (ts:=fb++eZ++fN++[y,y,y,y]) (d:=d) d0 (by
  show d<((fb++eZ++fN).length+4:Nat)
  have:(fb++eZ++fN).length=34:=by decide +kernel
  ext)
 have H:rX z:=by
  rcases v_.mp i with i|i
  .exact Bs z i
  .have:z=y:=by simpa using i
   rw[this];exact B
 refine⟨z,s4,?_,H⟩;have l1:=cM (k:=60) (by decide) b1;have l2:=cM (k:=60) (by decide) b2;have zl:=xO;have U:jT.p (.int t) (.int K)=J (.int (t*K)):=eT (IntMulOk.of_left (intBits_le_64 (by ext) (by ext)));have M:jT.p (.int b) (.int K)=J (.int (b*K)):=eT (IntMulOk.of_left (intBits_le_64 (by have:=j.2.1;ext) (by ext)));have W:=dC b1;have Z:=dC b2;have P:ao.p (.str (tS (t*K))) (.str ia)=J (.str (tS (t*K)++ia)):=aO (by rw[ib];ext);have X:ao.p (.str (tS (t*K)++ia)) (.str (tS (b*K)))=J (.str y):=by rw[C];exact aO (by rw[strLen_append,ib];ext)
 have ga:ao.p (.lst (fb.map .str)) (.lst (eZ.map .str))=J (.lst ((fb++eZ).map .str)):=g9 (by decide);have gb:ao.p (.lst ((fb++eZ).map .str)) (.lst (fN.map .str))=J (.lst ((fb++eZ++fN).map .str)):=g9 (by decide +kernel);have Q:ao.p (.lst ((fb++eZ++fN).map .str)) (.lst ([y,y,y,y].map .str))=J (.lst ((fb++eZ++fN++[y,y,y,y]).map .str)):=g9 (by show(fb++eZ++fN).length+4<=1000;decide +kernel);have gl:bY.p [.lst ((fb++eZ++fN++[y,y,y,y]).map .str)]=J (.int 38):=by show J (D.int (((fb++eZ++fN++[y,y,y,y]).map D.str).length:Int))=_;rw[CM,Dc,show(fb++eZ++fN).length=34 by decide +kernel];rfl
 rw[rn (by rfl)];unfold dP;rw[show i3 5 [D.pen]=[J .pen,Y,Y,Y,Y]from rfl];rw[aD,aK,bA];simp only[Pg,ln,lv,PU.au];rw[aD,aK,aA,am,aj,Pb,bB,Pb,ga];simp only[Pf,Pg,ln,lv,PU.au];rw[aD,aK,aA,am,aj,Pb,bC,Pb,gb];simp only[Pf,Pg,ln,lv,PU.au];have ag:(pS (av bS (ae (af 0) a_)) (Di (yV (n3 3) (yV (n3 4) Dh)) 2):Xd []).p [J .pen,J (.lst ((fb++eZ++fN).map .str)),Y,Y,Y] s=.nx [J .pen,J (.lst ((fb++eZ++fN).map .str)),Y,J (.int t),J (.int b)] s1:=by rw[za,aB,al,aj,Pb,aq,Pb,Pb,E];rfl
 rw[aD,ag,PU.au];simp![aD,aK,aA,aF,aH,aB,al,aq,bf,pw,n_,pa,show(0+1+1:Nat)<=100000 by decide,if_true,G,bW,em,q3,fh,Pg,ln,lv,PU.au,<-hK,U,M,aX,W,Z,aR,P];rw[show ao.p (.str (tS (t*K)++Str.ofString "/")) (.str (tS (b*K)))=_ from X];simp![n_,pa,show(0+1:Nat)<=100000 by decide,if_true,Th,Q,Pg,ln,lv,PU.au,aS,aA,aB,al,aX,aq,gl,q4,bW,L,PU.bx]
def r6:VL:=[O "0",O "=5",O "a=1",O "00=1",O "-1=1",O "0==1",O "0=0",O "0:1",O "0 =1",O "0= 1",O "",O "0=1=1",O "=",O "0=-0",O "+0=1"]
def mP:Str:=Txt.mul (O "9") 20
def rK(n:Nat):VL:=[tS (n:Int)++O "=1",tS ((n:Int)+7)++O "=1",mP++O "=1",O "0=1;",O "0=1,",O "(0=1)"]
def kJ(n:Int)(x:Str):Prop:=∃ps,Pcs x ps/\ps.length<=2/\∃w∈ps,eI n w
def yg(x:Str):Bool:=((plain x.cps.toList&&decide (x.length<=500)) && !jN x.cps.toList)||decide (x=O "0 =1")||decide (x=O "0= 1")
def eV{x y:Str}(i:Pcs x [x])(j:Pcs y [y]):Pcs (x++(spS++y)) [x,y]:=i.app j (by simp)
def nc{n:Int}{x:Str}(i:n<=100)(h:yg x=I):kJ n x:=by
 unfold yg at h;rw[PL,PL,DD]at h;rcases h with(⟨j,l⟩|h)|h
 .exact⟨[x],aI j,by simp,x,by simp,fW i (by simpa using l)⟩
 .have e:x=O "0"++(spS++O "=1"):=(of_decide_eq_true h).trans (by decide +kernel);rw[e];exact⟨_,eV (aI (by decide +kernel)) (aI (by decide +kernel)),by simp,O "0",by simp,fW i (by decide +kernel)⟩
 .have e:x=O "0="++(spS++O "1"):=(of_decide_eq_true h).trans (by decide +kernel);rw[e];exact⟨_,eV (aI (by decide +kernel)) (aI (by decide +kernel)),by simp,O "0=",by simp,fW i (by decide +kernel)⟩
def AV{n:Int}(j:n<=100):∀x∈r6,kJ n x:=by
 have:r6.all yg=I:=by decide +kernel
 rw[DE]at this;exact λx i=>nc j (this x i)
def Tj:O "=1"=wx++O "1":=by decide +kernel
def w6{j:Str}(l:No 32 j)(u:No 10 j)(i:Bi j)(y:j.length<=100):Pcs (j++O "=1") [j++O "=1"]:=by obtain⟨a,b,c⟩:=gA (x:=O "=1") (by decide +kernel);exact Pcs.one (bF l a) (bF u b) (cP i c) (by rw[strLen_append];have:(O "=1").length=2:=rfl;ext)
def sU{n:Nat}{k:Int}(y:(n:Int)<=k)(j:k<100):kJ n (tS k++O "=1"):=by
 refine⟨_,w6 (gV (.inr rfl) _) (gV (.inl rfl) _) (nX _) (by have:=cO (i:=k) (by ext) j;ext),by simp,_,yu.mpr rfl,?_⟩;rw[Tj,<-bT];refine nC (sL k) λi l u e=>?_
 have:=qM (jm (by ext) j) (jm l (by ext)) e
 ext
def n5:mP.length=20:=by decide +kernel
def As{n:Nat}(u:n<=100):kJ n (mP++O "=1"):=by
 obtain⟨a,b,c⟩:=gA (x:=mP) (by decide +kernel);refine⟨_,w6 a b c (by rw[n5];ext),by simp,_,yu.mpr rfl,?_⟩;rw[Tj,<-bT];refine nC (by decide +kernel) λi j l e=>?_
 have:=cO j (show i<100 by ext)
 rw[<-e,n5]at this;ext
def BD{n:Nat}(j:n<=20):∀x∈rK n,kJ n x:=by
 intro x i;unfold rK at i;simp only[ki,t_,or_false]at i;rcases i with rfl|rfl|rfl|rfl|rfl|rfl
 .exact sU (by ext) (by ext)
 .exact sU (by ext) (by ext)
 .exact As (by ext)
 .exact nc (by ext) (by decide +kernel)
 .exact nc (by ext) (by decide +kernel)
 .exact nc (by ext) (by decide +kernel)
def B2{n:Int}{x:Str}(l:n<=100)(h:rX x):kJ n (O "0="++x):=by
 rcases h with⟨i,j,u⟩|h
 .obtain⟨a,b,c⟩:=gA (x:=O "0=") (by decide +kernel);have k:=i.no x (by simp);have e:O "0="=O "0"++wx:=by decide +kernel
  refine⟨[O "0="++x],Pcs.one (bF a k.1) (bF b k.2.1) (cP c k.2.2.1) ?_,by simp,_,yu.mpr rfl,?_⟩
  .rw[strLen_append];have:(O "0=").length=2:=rfl;ext
  .rw[e];exact oR (by decide +kernel) j
 .have e:O "0="++x=O "0=-"++(spS++O "1"):=by rw[h];decide +kernel
  rw[e];exact⟨_,eV (aI (by decide +kernel)) (aI (by decide +kernel)),by simp,O "0=-",by simp,fW l (by decide +kernel)⟩
def pA{env:aN}{s:f_}:((aU (ae (xC (.str "0")) (ae (xC (.str "=5")) (ae (xC (.str "a=1")) (ae (xC (.str "00=1")) (ae (xC (.str "-1=1")) (ae (xC (.str "0==1")) (ae (xC (.str "0=0")) (ae (xC (.str "0:1")) (ae (xC (.str "0 =1")) (ae (xC (.str "0= 1")) (ae (xC (.str "")) (ae (xC (.str "0=1=1")) (ae (xC (.str "=")) (ae (xC (.str "0=-0")) (ae (xC (.str "+0=1")) a_)))))))))))))))):Xe []).p env s=.ok (.lst (r6.map .str)) s:=rfl
def UX:cy.p (.str (O "9")) (.int 20)=J (.str mP):=oq (O3 (by decide) rfl (by decide) (by decide))
def pB{n:Nat}{B j C:VA}{s:f_}(H:n<=20):((aU (ae (ah ao (k4 c7 (ae (af 1) a_)) (xC (.str "=1"))) (ae (ah ao (k4 c7 (ae (ah ao (af 1) (xC (.int 7))) a_)) (xC (.str "=1"))) (ae (ah ao (ah cy (xC (.str "9")) (xC (.int 20))) (xC (.str "=1"))) (ae (xC (.str "0=1;")) (ae (xC (.str "0=1,")) (ae (xC (.str "(0=1)")) a_))))))):Xe []).p [B,J (.int (n:Int)),j,C] s=.ok (.lst ((rK n).map .str)) s:=by have z:=xO;have F:=dC (jm (i:=(n:Int)) (by ext) (by ext));have l:=dC (jm (i:=(n:Int)+7) (by ext) (by ext));have M:=cO (i:=(n:Int)) (by ext) (by ext);have L:=cO (i:=(n:Int)+7) (by ext) (by ext);have G:(O "=1").length=2:=rfl;have u:ao.p (.str (tS (n:Int))) (.str (O "=1"))=J (.str (tS (n:Int)++O "=1")):=aO (by ext);have E:ao.p (.str (tS ((n:Int)+7))) (.str (O "=1"))=J (.str (tS ((n:Int)+7)++O "=1")):=aO (by ext);have y:ao.p (.str mP) (.str (O "=1"))=J (.str (mP++O "=1")):=aO (by rw[n5];ext);simp![bf,al,aA,aX,aF,aR,aH,aq,F,fh,l,UX,u,E,y];rfl
def qN{n:Nat}{s:f_}(B:n<=20):∃x C,dR.p [.pen,.int (n:Int)] s=.ok (.str x) C/\kJ n x:=by
 obtain⟨w,s1,P,M,y⟩:=bn (s:=s) (size:=3) (by decide) (by decide);rw[t8 (by rfl)];unfold fC;rw[show i3 4 [D.pen,.int (n:Int)]=[J .pen,J (.int (n:Int)),Y,Y]from rfl];by_cases h:w=0
 .subst h;obtain⟨x,s2,l,F⟩:=nU (s:=s1);have j:=B2 (n:=(n:Int)) (by ext) F;have u:o0.p (.int 0) (.int 0)=J (.bl I):=rfl
  have E:ao.p (.str (O "0=")) (.str x)=J (.str (O "0="++x)):=aO (by
   obtain⟨ps,k,_⟩:=j
   have:=k.len
   have:=xO
   rw[strLen_append]at *
   ext)
  refine⟨O "0="++x,s2,?_,j⟩;simp![aD,aK,aB,al,aF,aH,aq,y,Pg,ln,lv,PU.au,bg,bc,aA,u,PR.bl,if_true,aS,aR,l,E,PU.lr,PU.bx]
 .have u:o0.p (.int w) (.int 0)=J (.bl T):=by
   rw[show o0.p (.int w) (.int 0)=J (.bl (decide (w=0)))from rfl,decide_eq_false h]
  obtain⟨d,s2,H,L,l⟩:=bn (s:=s1) (size:=21) (by decide) (by decide);obtain⟨z,i,G⟩:=nK (ts:=r6++rK n) (d:=d) H (by show d<((15+6:Nat):Int);ext);have j:kJ n z:=by
   rcases v_.mp i with i|i
   .exact AV (by ext) z i
   .exact BD B z i
  have ga:ao.p (.lst (r6.map .str)) (.lst ((rK n).map .str))=J (.lst ((r6++rK n).map .str)):=g9 (by show 15+6<=1000;decide);refine⟨z,s2,?_,j⟩;simp![aD,aK,aB,al,aF,aH,aq,y,Pg,ln,lv,PU.au,bg,bc,aA,u,PR.bl,ol,if_false,bv];rw[show((aU (ae (xC (.str "0")) (ae (xC (.str "=5")) (ae (xC (.str "a=1")) (ae (xC (.str "00=1")) (ae (xC (.str "-1=1")) (ae (xC (.str "0==1")) (ae (xC (.str "0=0")) (ae (xC (.str "0:1")) (ae (xC (.str "0 =1")) (ae (xC (.str "0= 1")) (ae (xC (.str "")) (ae (xC (.str "0=1=1")) (ae (xC (.str "=")) (ae (xC (.str "0=-0")) (ae (xC (.str "+0=1")) a_)))))))))))))))):Xe []).p _ _=_ from pA];simp only[Pg,ln,lv,PU.au,Pb];rw[aD,aK,aA,am,am,am,aj,Pb,pB B];simp![ga,Pg,ln,lv,PU.au,aS,aA,aB,al,aF,aH,aq,l,bW,G,PU.bx]
def Gu{x y:Str}{i:Nat}{r:VN}(h:Builtin.Str.occurrences x y 0 x.length 1=i::r):r=[]:=by
 have:=StrLaws.occ_length_le x y 0 x.length 1
 rw[h]at this
 cases r with
 |nil=>rfl
 |cons _ _=>simp at this
def K5(x:Str):limitOf x 1=1:=rfl
def K6{x:Str}(h:32∉x.cps.toList):L2.fO x spS (O "  ") 1=x:=by
 have p:=lK h;unfold L2.fO;rw[K5]
 cases e:Builtin.Str.occurrences x spS 0 x.length 1 with
 |nil=>rfl
 |cons i r =>
  exfalso;unfold Txt.partition at p;rw[show Builtin.Str.occurrences x (sg 32) 0 x.length 1=i::r from e]at p
  have:=congrArg (λq=>q.2.1.length) p
  exact absurd (show(1:Nat)=0 from this) (by decide)
def Gw{a b:Str}(h:32∉a.cps.toList):L2.fO (a++sg 32++b) spS (O "  ") 1=a++(O "  "++b):=by
 have p:=gI (b:=b) h;unfold L2.fO;rw[K5];unfold Txt.partition at p
 cases e:Builtin.Str.occurrences (a++sg 32++b) spS 0 (a++sg 32++b).length 1 with
 |nil =>
  rw[show Builtin.Str.occurrences (a++sg 32++b) (sg 32) 0 (a++sg 32++b).length 1=[]from e]at p
  have:=congrArg (λq=>q.2.1.length) p
  exact absurd (show(0:Nat)=1 from this) (by decide)
 |cons i r =>
  have:=Gu e
  subst this;rw[show Builtin.Str.occurrences (a++sg 32++b) (sg 32) 0 (a++sg 32++b).length 1=[i]from e]at p;have j:=congrArg (λq=>q.1) p;have l:=congrArg (λq=>q.2.2) p;dsimp only at j l;rw[hF (show ¬(([i].isEmpty||spS.length==0&&(O "  ").length==0)=I)from λz=>absurd (show(T||((1:Nat)==0&&(2:Nat)==0))=I from z) (by decide))];unfold Builtin.Str.partsBetween;show Builtin.Str.glued (O "  ") [Builtin.Str.strSub (a++sg 32++b) 0 i,Builtin.Str.strSub (a++sg 32++b) (i+spS.length) (a++sg 32++b).length]=_;rw[j,show Builtin.Str.strSub (a++sg 32++b) (i+spS.length) (a++sg 32++b).length=b from l,StrLaws.glued_eq_join,oH,bT];rfl
def yI{n:Int}{ps:List l0}{s:f_}(h:∀p∈ps,iN p/\p.1<n)(hl:ps.length<=100):(c6 1 [0] (fB (af 1)) (ws':=[]) (n3 0) i4 (av bG (ae (af 1) (ae (af 0) a_))):Xe []).p [J (.int n),J (.lst ((ps.map b_).map .str)),Y] s=.ok (.lst (ps.map d_)) s:=by
 have j:∀(i:List l0)(z:VA),(∀p∈i,p∈ps)->cG (n3 0:Xg []).p (i4:Xt []).p (av bG (ae (af 1) (ae (af 0) a_)):Xe []).p ((i.map b_).map .str) [z,J (.int n)] s=.ok (i.map d_) s:=by
  intro i
  induction i with
  |nil=>intro z _;rfl
  |cons p i y =>
   intro z l;have u:=l p (by simp);have e1:(n3 0:Xg []).p (.str (b_ p)) [z,J (.int n)]=J [J (.str (b_ p)),J (.int n)]:=rfl;have e3:(av bG (ae (af 1) (ae (af 0) a_)):Xe []).p [J (.str (b_ p)),J (.int n)] s=.ok (d_ p) s:=by dsimp![aB,am,pd (h p u).1 (h p u).2]
   rw[yw,yw,cG,e1];dsimp only;rw[show(i4:Xt []).p [J (.str (b_ p)),J (.int n)] s=.ok I s from rfl,Pb,eT rfl,e3,Pb,y _ λx B=>l x (pW _ B),Pb];rfl
 rw[ij,fT,am,aj,Pb,show(D.lst ((ps.map b_).map .str)).items=J ((ps.map b_).map .str)from rfl,Pf,Pb,eT (by simp;ext)];rw[show v2 1 [0] [J (.int n),J (.lst ((ps.map b_).map D.str)),Y]=[Y,J (.int n)]from rfl,j ps Y λ_ h=>h]
def jY{n:Int}{ps:List l0}(h:∀p∈ps,iN p/\p.1<n)(hl:ps.length<=100)(hr:∀s,eA.p [.int n,.tup (ps.map d_)] s=.ok (.bl T) s):dw n (ps.map b_) .non:=λs=>by
 have i:fV.p [.lst (ps.map d_)]=J (.tup (ps.map d_)):=rfl;rw[jf (by rfl)];unfold c9;rw[show i3 3 [D.int n,.lst ((ps.map b_).map .str)]=[J (.int n),J (.lst ((ps.map b_).map .str)),Y]from rfl];rw[aD,aK,aX,al,yI h hl];simp![aq,i,Pg,ln,lv,PU.au,aS,cT,bc,aB,al,hr,PR.bl,ol,if_false,aF,bi,PU.bx]
def pg{n:Int}{ps:List l0}{s:f_}(h:∀p∈ps,rq n p)(hl:ps.length<=100)[Decidable (ps.map λp:l0=>p.1).Nodup]:dJ.p [.int n,.tup (ps.map d_)] s=.ok (.bl (decide (ps.map λp:l0=>p.1).Nodup)) s:=by
 have z:=kL (ws:=[]) (ws':=[]) (env:=[J (.int n),J (.tup (ps.map d_))]) (s:=s) (fm:=[0]) (i:=fB (af 1)) (t:=i4) (e:=av cv (ae (af 1) (ae (af 0) a_))) (ds:=ps.map d_) (λ_=>I) (λ_=>.bl I) (by
   rw[fT,am,aj,Pb];rfl) (by simp;ext) (λx j=>by
   obtain⟨p,l,rfl⟩:=sk.mp j;refine⟨rfl,λ_=>?_⟩;obtain⟨a,b,c,d⟩:=h p l;show(av cv (ae (af 1) (ae (af 0) a_)):Xe []).p [J (d_ p),J (.int n)] s=_
   dsimp![aB,am,tf a b c d])
 have B:=kL (ws:=[]) (ws':=[]) (env:=[J (.int n),J (.tup (ps.map d_))]) (s:=s) (fm:=[]) (i:=fB (af 1)) (t:=i4) (e:=ah ka (af 0) (xC (.int 0))) (ds:=ps.map d_) (λ_=>I) (λd=>.int (zb d)) (by
   rw[fT,am,aj,Pb];rfl) (by simp;ext) (λx j=>by
   obtain⟨p,l,rfl⟩:=sk.mp j
   exact⟨rfl,λ_=>rfl⟩)
 have C:n6.p [.lst (List.map (λ_=>D.bl I) (List.filter (λ_=>I) (ps.map d_)))]=J (.bl I):=by show((iu _).map λbs=>D.bl (bs.all id))=_;rw[kH _ λd hd=>by obtain⟨_,_,rfl⟩:=sk.mp hd;rfl];simp
 have E:List.map (λd=>D.int (zb d)) (List.filter (λ_=>I) (ps.map d_))=(ps.map λp:l0=>p.1).map .int:=by rw[HK.mpr λ_ _=>rfl,CY,CY];rfl
 have em:=Hm (ns:=ps.map λp:l0=>p.1) (by simp;ext);have y:bY.p [.tup (ps.map d_)]=J (.int (ps.length:Int)):=by show J (D.int ((ps.map d_).length:Int))=_;simp
 have u:o0.p (.int (x6 (ps.map λp:l0=>p.1):Int)) (.int (ps.length:Int))=J (.bl (decide (ps.map λp:l0=>p.1).Nodup)):=by rw[show o0.p (.int (x6 (ps.map λp:l0=>p.1):Int)) (.int (ps.length:Int))=J (.bl (decide ((x6 (ps.map λp:l0=>p.1):Int)=(ps.length:Int))))from rfl];congr 2;have k:=wP (ns:=ps.map λp:l0=>p.1);rw[CM]at k;rw[decide_eq_decide,<-k];ext
 rw[jJ (by rfl)];unfold dI;rw[show i3 2 [D.int n,.tup (ps.map d_)]=[J (.int n),J (.tup (ps.map d_))]from rfl];rw[aD,bg,dZ,bc,aX,al,z];simp only[Pb,aq,C,Pf,PR.bl,CV,Pg,ol,if_false,bv,PU.au];rw[aS,aA,aX,al,B,E];simp![aq,em,aX,al,y,u,Pg,PU.bx]
def xz{n:Int}{ps:List l0}{s:f_}(h:∀p∈ps,rq n p)(hl:ps.length<=100)(nd:¬(ps.map λp:l0=>p.1).Nodup):eA.p [.int n,.tup (ps.map d_)] s=.ok (.bl T) s:=by
 classical
 have a:=pg (s:=s) h hl;rw[decide_eq_false nd]at a;rw[kK (by rfl)];unfold fo;rw[show i3 2 [D.int n,.tup (ps.map d_)]=[J (.int n),J (.tup (ps.map d_))]from rfl];simp![aS,cu,cz,aB,al,aq,QI,PR.bl,if_true,a,ol,if_false,Pg,PU.bx]
def two_row{n:Int}{s:f_}(h:∀p∈[((1:Int),(1:Int),(1:Int)),(0,1,1)],rq n p):eA.p [.int n,.tup ([((1:Int),(1:Int),(1:Int)),(0,1,1)].map d_)] s=.ok (.bl T) s:=by
 classical
 have a:=pg (s:=s) h (by simp);rw[decide_eq_true (by decide)]at a
 have e1:qS.p [.tup ([((1:Int),(1:Int),(1:Int)),(0,1,1)].map d_)]=J (.lst (bo zb ([((1:Int),(1:Int),(1:Int)),(0,1,1)].map d_))):=eT ⟨λd hd=>by obtain⟨p,_,rfl⟩:=sk.mp hd;rfl,by decide,⟨[1,0],by decide +kernel,rfl,λi j y l=>by
  have u:i<2:=y;have z:j<2:=l;obtain rfl|rfl:i=0\/i=1:=by ext
  .obtain rfl|rfl:j=0\/j=1:=by ext
   .decide
   .decide
  .obtain rfl|rfl:j=0\/j=1:=by ext
   .decide
   .decide⟩,by decide⟩
 have B:bo zb ([((1:Int),(1:Int),(1:Int)),(0,1,1)].map d_)=[((0:Int),(1:Int),(1:Int)),(1,1,1)].map d_:=(mK (List.Perm.swap _ _ _) (by decide) (by decide)).symm;rw[B]at e1;have e2:oW.p [.tup ([((1:Int),(1:Int),(1:Int)),(0,1,1)].map d_)]=J (.lst ([((1:Int),(1:Int),(1:Int)),(0,1,1)].map d_)):=rfl;have e3:y1 T (.lst ([((1:Int),(1:Int),(1:Int)),(0,1,1)].map d_)) (.lst ([((0:Int),(1:Int),(1:Int)),(1,1,1)].map d_))=J (.bl T):=by simp[y1,py,Dr,Cy,BS,SeqAt.shaped,PyData.canLay0,PyData.canLayAll0,PyData.depth,PyData.depthAll,PyData.eqv,PyData.eqvAll]
 rw[kK (by rfl)];unfold fo;rw[show i3 2 [D.int n,.tup ([((1:Int),(1:Int),(1:Int)),(0,1,1)].map d_)]=[J (.int n),J (.tup ([((1:Int),(1:Int),(1:Int)),(0,1,1)].map d_))]from rfl];simp![aS,cu,cz,aB,al,aq,QI,PR.bl,if_true,a,aA,aX,e1,e2,uc,e3,Pg,PU.bx]
def Gx{t:Int}(h:t=1\/t=2):BY t 1:=by rcases h with rfl|rfl<;>exact⟨by decide +kernel,by decide,by decide,by decide⟩
def Tk:b_ (0,1,1)=O "0=1":=by decide +kernel
def UY:b_ (0,2,1)=O "0=2":=by decide +kernel
def Us:b_ (1,1,1)=O "1=1":=by decide +kernel
def twice:List (VL):=[[O "1=1",O "0=1"],[O "0=1",O "0=1"],[O "0=1",O "0=2"]]
def ve{n:Int}(B:1<=n)(G:n<=100):∀t∈twice,dw n t .non:=by
 intro t ht;have g:∀j t:Int,0<=j->j<n->(t=1\/t=2)->rq n (j,t,1):=λj t C B y=>⟨C,B,Gx y,by simp;ext⟩;have u:∀j t:Int,0<=j->j<20->(t=1\/t=2)->iN (j,t,1):=λj t C B y=>⟨C,B,Gx y⟩;unfold twice at ht;simp only[ki,t_,or_false]at ht;rcases ht with rfl|rfl|rfl
 .by_cases y:2<=n
  .rw[<-Us,<-Tk]
   exact jY (ps:=[(1,1,1),(0,1,1)]) (λp l=>by
    simp only[ki,t_,or_false]at l;rcases l with rfl|rfl
    .exact⟨u 1 1 (by decide) (by decide) (.inl rfl),by show(1:Int)<n;ext⟩
    .exact⟨u 0 1 (by decide) (by decide) (.inl rfl),by show(0:Int)<n;ext⟩) (by simp) λs=>two_row λp l=>by
    simp only[ki,t_,or_false]at l;rcases l with rfl|rfl
    .exact g 1 1 (by decide) (by ext) (.inl rfl)
    .exact g 0 1 (by decide) (by ext) (.inl rfl)
  .refine kN (λx F=>?_) (by simp) ⟨O "1=1",by simp,λp l e=>?_⟩
   .simp only[ki,t_,or_false]at F;rcases F with rfl|rfl
    .exact gM (aI (x:=O "1=1") (by decide +kernel)) _ (by simp)
    .exact gM (aI (x:=O "0=1") (by decide +kernel)) _ (by simp)
   .have E:p.1=0:=by have:=l.1;have:=l.2.1;ext
    have e2:=congrArg (λz:Str=>z.cps.toList) (Us.trans e);unfold b_ at e2;simp only[aL,show wx.cps.toList=[61]from rfl,El,Ej]at e2;have k:=iB (c:=61) (sL 1) (sL p.1) e2
    have:=qM (i:=1) (j:=p.1) (by decide) (by rw[E];decide) (cg k.1)
    ext
 .rw[<-Tk]
  exact jY (ps:=[(0,1,1),(0,1,1)]) (λp l=>by
   simp only[ki,t_,or_false]at l
   rcases l with rfl|rfl<;>exact⟨u 0 1 (by decide) (by decide) (.inl rfl),by show(0:Int)<n;ext⟩) (by simp) λs=>xz (λp l=>by
   simp only[ki,t_,or_false]at l
   rcases l with rfl|rfl<;>exact g 0 1 (by decide) (by ext) (.inl rfl)) (by simp) (by decide)
 .rw[<-Tk,<-UY]
  exact jY (ps:=[(0,1,1),(0,2,1)]) (λp l=>by
   simp only[ki,t_,or_false]at l;rcases l with rfl|rfl
   .exact⟨u 0 1 (by decide) (by decide) (.inl rfl),by show(0:Int)<n;ext⟩
   .exact⟨u 0 2 (by decide) (by decide) (.inr rfl),by show(0:Int)<n;ext⟩) (by simp) λs=>xz (λp l=>by
   simp only[ki,t_,or_false]at l;rcases l with rfl|rfl
   .exact g 0 1 (by decide) (by ext) (.inl rfl)
   .exact g 0 2 (by decide) (by ext) (.inr rfl)) (by simp) (by decide)
abbrev Eh:Xd []:=(aw (kr (j7 (xB (ah (u_ T) (af 2) (xC .non))) (xB (ah o0 (av aM (ae (af 0) (ae (xC (.int 3)) a_))) (xC (.int 0))))) (aw (aQ 11 (ah ka (aU (ae (xC (.str "x")) (ae (xC (.str "0=1")) a_))) (k4 cm (ae (ah Dq (af 1) (xC (.int 0))) a_)))) (aW (ah ka (aU (ae (ah ao (ah ao (af 11) (xC (.str "| "))) (ah ka (af 3) (nz bV (xC (.int 1))))) (ae (ah ao (ah ao (af 11) (xC (.str " |"))) (ah ka (af 3) (nz bV (xC (.int 1))))) (ae (ah ao (xC (.str "|")) (ah ka (af 3) (nz bV (xC (.int 1))))) a_)))) (av aM (ae (af 0) (ae (xC (.int 3)) a_)))))) e_) (aw (kr (xB (ah (u_ T) (af 2) (xC .non))) (aW (tx h8 (xC (.str " ")) (ae (ah ao (ah ao (Cs (af 3) Cz (yJ (nz bV (xC (.int 2))))) (aU (ae (ah ka (aU (ae (xC (.str "")) (ae (xC (.str "/")) (ae (xC (.str "||")) (ae (xC (.str "| |")) (ae (xC (.str "|1")) a_)))))) (av aM (ae (af 0) (ae (xC (.int 5)) a_)))) a_))) (Cs (af 3) (yJ (nz bV (xC (.int 1)))) Cz)) a_))) e_) (aw (aQ 5 (aU (ae (xC (.str "")) (ae (ah ao (k4 c7 (ae (af 1) a_)) (xC (.str ":"))) (ae (xC (.str "0")) (ae (xC (.str ":")) (ae (xC (.str "0 :")) (ae (ah ao (xC (.str "0")) (ah ka (af 3) (xC (.int 0)))) (ae (xC (.str "a:")) (ae (xC (.str "0:0=1")) (ae (ah ao (xC (.str "+")) (ah ka (af 3) (xC (.int 0)))) (ae (xC (.str "0;")) a_)))))))))))) (aW (tx h8 (xC (.str " ")) (ae (ah ao (aU (ae (ah ka (af 5) (av aM (ae (af 0) (ae (xC (.int 10)) a_)))) a_)) (Cs (af 3) (yJ (xC (.int 1))) Cz)) a_))))))
abbrev Gy:Xd []:=(aw (aQ 6 (tx h8 (xC (.str " ")) (ae (af 3) a_))) (aw (aQ 7 (ah ao (nz (rL " " "  ") (af 6)) (ah cy (xC (.str " ")) (k4 cm (ae (ah (kO I) (xC (.str " ")) (af 6)) a_))))) (aW (ah ka (aU (ae (ah ao (xC (.str " ")) (af 6)) (ae (ah ao (af 6) (xC (.str " "))) (ae (af 7) (ae (ah ao (af 6) (xC (.str "|"))) a_))))) (av aM (ae (af 0) (ae (xC (.int 4)) a_)))))))
abbrev Gz:Xd []:=(aw (aQ 8 (ah ka (aU (ae (xC (.str "1=1 0=1")) (ae (xC (.str "0=1 0=1")) (ae (xC (.str "0=1 0=2")) a_)))) (av aM (ae (af 0) (ae (xC (.int 3)) a_))))) (aw (kr (xB (ah (u_ T) (af 2) (xC .non))) (aW (tx h8 (xC (.str " ")) (ae (ah ao (aU (ae (af 8) a_)) (Cs (af 3) (yJ (nz bV (xC (.int 2)))) Cz)) a_))) e_) (aW (ah ao (ah ao (ah ka (af 3) (xC (.int 0))) (xC (.str " "))) (af 8)))))
abbrev K7:Xd []:=(aW (tx h8 (xC (.str " ")) (ae (ah ao (Cs (af 3) Cz (yJ (nz bV (xC (.int 1))))) (aU (ae (av ci (ae (af 0) a_)) a_))) a_)))
abbrev GA:Xd []:=(aw (aQ 6 (ah ka (aU (ae (xC (.str "")) (ae (xC (.str " ")) (ae (xC (.str "|")) (ae (xC (.str "0=1")) (ae (xC (.str "x")) (ae (xC (.str "1:")) (ae (xC (.str "| 1 1")) (ae (xC (.str "|  1")) a_))))))))) (av aM (ae (af 0) (ae (xC (.int 8)) a_))))) (aW (ah ao (af 6) (ah ka (aU (ae (xC (.str "")) (ae (xC (.str "?")) a_))) (k4 cm (ae (ah o0 (af 2) (xC (.int 1))) a_))))))
abbrev GB:Xd []:=(aw (kW 9 10 (ae (Cs (af 3) Cz (yJ (xC (.int 1)))) (ae (aU a_) a_))) (aw (kr (xB (ah (u_ T) (af 2) (xC .non))) (kW 9 10 (ae (aU a_) (ae (Cs (af 3) (yJ (nz bV (xC (.int 2)))) Cz) a_))) e_) (aW (tx h8 (xC (.str " ")) (ae (ah ao (ah ao (af 9) (aU (ae (av dR (ae (af 0) (ae (af 1) a_))) a_))) (af 10)) a_)))))
abbrev GC:Xt []:=(xB (ah o0 (af 4) (xC (.int 0))))
abbrev GD:Xt []:=(xB (ah o0 (af 4) (xC (.int 1))))
abbrev GF:Xt []:=(j7 (xB (ah o0 (af 4) (xC (.int 2)))) (xB (ah Dq (af 1) (xC (.int 0)))))
abbrev GG:Xt []:=(j7 (xB (ah o0 (af 4) (xC (.int 3)))) (xB (ah (u_ T) (af 2) (xC .non))))
abbrev GH:Xt []:=(xB (ah o0 (af 4) (xC (.int 4))))
def xm:eN=(aw (aQ 3 (av bI (ae (af 0) (ae (af 1) (ae (af 2) a_)))))
 (aw (aQ 4 (av aM (ae (af 0) (ae (xC (.int 6)) a_))))
 (aw (kr GC Eh e_)
 (aw (kr GD Gy e_)
 (aw (kr GF Gz e_)
 (aw (kr GG K7 e_)
 (aw (kr GH GA e_)
 GB))))))):=rfl
def cC(n i:Nat)(x:Str):Prop:=rV n i x/\No 10 x/\x.length<=21000/\PyData.strOk x=I
def bR(n:Nat)(x:Str):Prop:=(∀k:Int,nB n k x)/\No 10 x/\x.length<=21000/\PyData.strOk x=I
def Pcs.sok{x:Str}{ps:VL}(h:Pcs x ps):PyData.strOk x=I:=by rw[h.e];exact r9 (bZ _) _ λp i=>hV (h.no p i).2.2.1
def Pcs.bs{n i:Nat}{x:Str}{ps:VL}(h:Pcs x ps)(b:rV n i x):cC n i x:=⟨b,h.n10,by have:=h.len;ext,h.sok⟩
def Pcs.br{n:Nat}{x:Str}{ps:VL}(h:Pcs x ps)(b:∀k:Int,nB n k x):bR n x:=⟨b,h.n10,by have:=h.len;ext,h.sok⟩
def jn{ts:VL}(h:∀x∈ts,x.length<=10100)(hl:ts.length<=45):h8.p spS [.lst (ts.map .str)]=J (.str (Txt.join spS ts)):=k9 (c:=10100) (m:=45) h hl (by rw[fS];decide)
def mQ:∀xs:VL,(xs.map λx=>(x,[x])).map (·.1)=xs
 |[]=>rfl
 |x::xs=>by rw[yw,yw,mQ xs]
def jG{W:VL}(i:W≠[])(h:∀x∈W,Pcs x [x])(hl:W.length<=40):Pcs (Txt.join spS W) W:=by have k:=qg (W.map λx=>(x,[x])) (by simpa using i) (λp j=>by obtain⟨x,l,rfl⟩:=sk.mp j;exact h x l) (by rw[fy];exact hl);rw[fy,mQ]at k;exact k
def im{A C bs:VL}{b:Str}(l:∀x∈A,Pcs x [x])(u:Pcs b bs)(y:∀x∈C,Pcs x [x])(hl:A.length+bs.length+C.length<=40):Pcs (Txt.join spS (A++(b::C))) (A++(bs++C)):=by
 have k:=qg (A.map (λx=>(x,[x]))++((b,bs)::C.map λx=>(x,[x]))) (by simp) (λp i=>by
  rcases v_.mp i with i|i
  .obtain⟨x,j,rfl⟩:=sk.mp i;exact l x j
  .rcases ki.mp i with rfl|i
   .exact u
   .obtain⟨x,j,rfl⟩:=sk.mp i;exact y x j) (by
  rw[List.flatMap_append,fy,PK,fy];simp;ext)
 rw[List.flatMap_append,fy,PK,fy,List.map_append,yw,mQ,mQ]at k;exact k
abbrev eS(n i:Nat)(W:VL)(w:Int):aN:=[J .pen,J (.int (n:Int)),J (.int (i:Int)),J (.lst (W.map .str)),J (.int w),Y,Y,Y,Y,Y,Y,Y]
abbrev eR(n:Nat)(W:VL)(w:Int):aN:=[J .pen,J (.int (n:Int)),J .non,J (.lst (W.map .str)),J (.int w),Y,Y,Y,Y,Y,Y,Y]
def jS{i:Nat}(j:i<100):Pcs (tS (i:Int)++i6) [tS (i:Int)++i6] :=
 Pcs.one (sC (.inr rfl) _) (sC (.inl rfl) _) (cP (nX _) (uk (c:=58) (by ext))) (by rw[strLen_append,dE];have:=cO (i:=(i:Int)) (by ext) (by ext);ext)
def lR(i:Nat):(tS (i:Int)++i6).cps.toList=dg i++[58]:=by rw[aL,cD];rfl
def kD{i:Nat}{x:Str}{c:Nat}(h:c∈x.cps.toList)(j:(c<48\/57<c)/\c≠58):x≠tS (i:Int)++i6:=λe=>by
 rw[e,lR]at h;rcases v_.mp h with h|h
 .exact my j.1 h
 .exact j.2 (by simpa using h)
def jK{i:Nat}{x:Str}(h:x.length<=1):x≠tS (i:Int)++i6:=λe=>by
 have:=qJ (i:Int)
 rw[e,strLen_append,dE]at h;ext
def K8{n:Int}{i:Nat}(j:n<=100):eI n (tS (i:Int)++i6):=fW j (by
 unfold jN
 obtain⟨a,b⟩:=x9 (c:=61) (l:=(tS (i:Int)++i6).cps.toList) (by
  rw[lR];intro h;rcases v_.mp h with h|h
  .exact my (.inr (by ext)) h
  .simp at h)
 dsimp only;rw[b]
 simp)
def nW{n i:Nat}{ps:List l0}{x h:Str}(hr:Row n ps)(ok:df ps)(l:Pcs x (h::ps.map b_))(j:h≠tS (i:Int)++i6):rV n i x:=Am l j (λ_=>di hr ok) (.inr ⟨_,rfl⟩)
def s5{n i:Nat}{ps:List l0}{w:Int}{s:f_}(P:n<=15)(G:i<100):∃x u,GB.p (eS n i ((tS (i:Int)++i6)::ps.map b_) w) s=.rt (.str x) u/\cC n i x:=by
 obtain⟨x,s1,l,bs,pb,bl,H⟩:=qN (n:=n) (s:=s) (by ext);have p:Pcs (Txt.join spS ((tS (i:Int)++i6)::[x])) ((tS (i:Int)++i6)::bs):=by
  have:=im (A:=[tS (i:Int)++i6]) (C:=[]) (λy j=>by rw[yu.mp j];exact jS G) pb (λy j=>by cases j) (by simp;ext)
  simpa using this
 have e1:Dt (.lst (((tS (i:Int)++i6)::ps.map b_).map .str)) Y (J 1)=J (.lst [.str (tS (i:Int)++i6)]):=by rw[fX];rfl
 have e2:(u_ T).p (.int (i:Int)) .non=J (.bl T):=rfl;have E:ao.p (.lst [.str (tS (i:Int)++i6)]) (.lst [.str x])=J (.lst ([tS (i:Int)++i6,x].map .str)):=g9 (A:=[tS (i:Int)++i6]) (B:=[x]) (by simp);have M:ao.p (.lst ([tS (i:Int)++i6,x].map .str)) (.lst [])=J (.lst ([tS (i:Int)++i6,x].map .str)):=g9 (A:=[tS (i:Int)++i6,x]) (B:=[]) (by simp);have L:=pb.len
 have F:=k9 (z:=spS) (ts:=[tS (i:Int)++i6,x]) (c:=20040) (m:=2) (λy j=>by
  simp only[ki,t_,or_false]at j;rcases j with rfl|rfl
  .rw[strLen_append,dE];have:=cO (i:=(i:Int)) (by ext) (by ext);ext
  .exact L) (by simp) (by rw[fS];decide)
 refine⟨_,s1,?_,p.bs (fw p H)⟩;unfold GB eS;simp![aD,vA,al,gX,gS,fK,aF,aH,e1,bf,aq,pa,CN,if_true,Pg,ln,lv,PU.au,bg,bc,aA,bi,e2,PR.bl,ol,if_false,bv,aS,ck,aR,aB,l,n_,show(0+1:Nat)<=100000 by decide,E,M];rw[show h8.p (Str.ofString " ") _=_ from F];rfl
def O4{i:Int}:(u_ T).p (.int i) .non=J (.bl T):=rfl
def nY:(u_ T).p D.non .non=J (.bl I):=rfl
def C4(n i:Nat):VL:=[O "",tS (n:Int)++i6,O "0",O ":",O "0 :",O "0"++(tS (i:Int)++i6),O "a:",O "0:0=1",O "+"++(tS (i:Int)++i6),O "0;"]
def y0{n i:Nat}{ps:List l0}(hr:Row n ps)(ok:df ps)(M:i<n)(P:n<=15):∀h∈C4 n i,cC n i (Txt.join spS (h::ps.map b_)):=by
 have B:=n8 ok;have lw:(ps.map b_).length<=15:=by simp;exact ok.1
 have one:∀h:Str,Pcs h [h]->h≠tS (i:Int)++i6->cC n i (Txt.join spS (h::ps.map b_)):=λh E j=>by
  have p:=im (A:=[]) (b:=h) (bs:=[h]) (C:=ps.map b_) (λy l=>by cases l) E B (by simp at lw ⊢;ext);exact p.bs (nW hr ok p j)
 have H:=jS (i:=i) (by ext);have u:=H.no _ (yu.mpr rfl);have L:=cO (i:=(i:Int)) (by ext) (by ext);have pre:∀x:Str,Pcs x [x]->x.length=1->Pcs (x++(tS (i:Int)++i6)) [x++(tS (i:Int)++i6)]:=λx F G=>by
  have k:=F.no x (yu.mpr rfl);exact Pcs.one (bF k.1 u.1) (bF k.2.1 u.2.1) (cP k.2.2.1 u.2.2.1) (by rw[strLen_append,strLen_append,dE];ext)
 intro h j;unfold C4 at j;simp only[ki,t_,or_false]at j;rcases j with rfl|rfl|rfl|rfl|rfl|rfl|rfl|rfl|rfl|rfl
 .exact one _ (aI (by decide +kernel)) (jK (by decide))
 .refine one _ (jS (by ext)) λe=>?_;have e2:=congrArg (λz:Str=>z.cps.toList) e;rw[lR,lR]at e2
  have:=Tx e2
  have v:=congrArg PySem.NumText.digitsVal this;rw[i7,i7]at v;ext
 .exact one _ (aI (by decide +kernel)) (jK (by decide))
 .exact one _ (aI (by decide +kernel)) (jK (by decide))
 .have e:O "0 :"=O "0"++(spS++O ":"):=by decide +kernel
  have p:=im (A:=[]) (b:=O "0 :") (bs:=[O "0",O ":"]) (C:=ps.map b_) (λy l=>by cases l) (by rw[e];exact eV (aI (by decide +kernel)) (aI (by decide +kernel))) B (by simp at lw ⊢;ext);exact p.bs (fw p ⟨O ":",by simp,fW (by ext) (by decide +kernel)⟩)
 .exact one _ (pre _ (aI (by decide +kernel)) rfl) λe=>by
   have:=congrArg Str.length e
   rw[strLen_append,show(O "0").length=1 from rfl]at this;ext
 .exact one _ (aI (by decide +kernel)) (kD (c:=97) (by decide +kernel) (by ext))
 .exact one _ (aI (by decide +kernel)) (kD (c:=61) (by decide +kernel) (by ext))
 .exact one _ (pre _ (aI (by decide +kernel)) rfl) (kD (c:=43) (by
   rw[aL];exact C7 _ (by decide +kernel)) (by ext))
 .exact one _ (aI (by decide +kernel)) (kD (c:=59) (by decide +kernel) (by ext))
def uY{i:Nat}{ps:List l0}(ok:df ps)(u:i<100):∀x∈(tS (i:Int)++i6)::ps.map b_,x.length<=200:=λx j=>by
 rcases ki.mp j with rfl|j
 .rw[strLen_append,dE];have:=cO (i:=(i:Int)) (by ext) (by ext);ext
 .obtain⟨p,l,rfl⟩:=sk.mp j
  have:=gz (ok.2 p l);ext
def Ar{n i:Nat}(z:n<100)(y:i<100):∀h∈C4 n i,h.length<=200:=by have l:=cO (i:=(i:Int)) (by ext) (by ext);have u:=cO (i:=(n:Int)) (by ext) (by ext);intro h j;unfold C4 at j;simp only[ki,t_,or_false]at j;rcases j with rfl | rfl | rfl | rfl | rfl | rfl | rfl | rfl | rfl | rfl<;>first | decide | (simp only[strLen_append,dE,show(O "0").length=1 from rfl,show(O "+").length=1 from rfl];ext)
def s0{n i:Nat}{ps:List l0}{s:f_}(hr:Row n ps)(ok:df ps)(L:i<n)(U:n<=15):∃x B,Eh.p (eS n i ((tS (i:Int)++i6)::ps.map b_) 0) s=.rt (.str x) B/\cC n i x:=by
 have z:=xO;obtain⟨d,s1,Q,X,u⟩:=bn (s:=s) (size:=10) (by decide) (by decide);obtain⟨h,l,F⟩:=nK (ts:=C4 n i) (d:=d) Q (by show d<((10:Nat):Int);ext);have Z:=cO (i:=(i:Int)) (by ext) (by ext);have W:=cO (i:=(n:Int)) (by ext) (by ext);have P:=dC (jm (i:=(n:Int)) (by ext) (by ext));have C:ao.p (.str (tS (n:Int))) (.str (O ":"))=J (.str (tS (n:Int)++i6)):=aO (by have:(O ":").length=1:=rfl;ext);have R:ao.p (.str (O "0")) (.str (tS (i:Int)++i6))=J (.str (O "0"++(tS (i:Int)++i6))):=aO (by rw[strLen_append,dE];have:(O "0").length=1:=rfl;ext);have S:ao.p (.str (O "+")) (.str (tS (i:Int)++i6))=J (.str (O "+"++(tS (i:Int)++i6))):=aO (by rw[strLen_append,dE];have:(O "+").length=1:=rfl;ext);have M:i_ (((tS (i:Int)++i6)::ps.map b_).map D.str) 0=J (.str (tS (i:Int)++i6)):=pT;have e2:Dt (.lst (((tS (i:Int)++i6)::ps.map b_).map .str)) (J 1) Y=J (.lst ((ps.map b_).map .str)):=by rw[fX,yw,cut1']
 have E:=wY (x:=h) (ts:=ps.map b_) (by have:=ok.1;simp;ext);have G:=uY (i:=i) ok (by ext)
 have H:=jn (ts:=h::ps.map b_) (λy j=>by
  rcases ki.mp j with rfl|j
  .have:=Ar (n:=n) (i:=i) (by ext) (by ext) y l;ext
  .have:=G y (pW _ j);ext) (by have:=ok.1;simp;ext)
 refine⟨_,s1,?_,y0 hr ok L U h l⟩;unfold Eh eS;simp![aD,bg,ft,bc,aA,aF,bi,O4,PR.bl,Pg,ol,if_false,bv,PU.au,aK,bf,al,aR,aH,aX,aq,P,C,bW,M,R,S];rw[eT (by simp)];dsimp![Pg,ln,lv,PU.au,aS,ck,aF,aR,aA,bf,am,aB,aH,u,bW];rw[show i_ [D.str (Str.ofString ""),.str (tS (n:Int)++i6),.str (Str.ofString "0"),.str (Str.ofString ":"),.str (Str.ofString "0 :"),.str (O "0"++(tS (i:Int)++i6)),.str (Str.ofString "a:"),.str (Str.ofString "0:0=1"),.str (O "+"++(tS (i:Int)++i6)),.str (Str.ofString "0;")] d=J (.str h)from F];simp![n_,pa,show(0+1:Nat)<=100000 by decide,if_true,gX,fK,aF,aH,gS,e2,E];rw[show h8.p (Str.ofString " ") _=_ from H];rfl
def s2{n i:Nat}{ps:List l0}{s:f_}(G:i<n)(M:n<=15):∃x u,Gz.p (eS n i ((tS (i:Int)++i6)::ps.map b_) 2) s=.rt (.str x) u/\cC n i x:=by
 have z:=xO;obtain⟨d,s1,L,H,l⟩:=bn (s:=s) (size:=3) (by decide) (by decide);have C:i_ (((tS (i:Int)++i6)::ps.map b_).map D.str) 0=J (.str (tS (i:Int)++i6)):=pT;have F:=cO (i:=(i:Int)) (by ext) (by ext);obtain⟨a,b,ht,B,j⟩:∃a b:Str,[a,b]∈twice/\i_ [D.str (O "1=1 0=1"),.str (O "0=1 0=1"),.str (O "0=1 0=2")] d=J (.str (a++(spS++b)))/\(Pcs a [a]/\Pcs b [b]/\(a++(spS++b)).length=7):=by
  obtain rfl|rfl|rfl:d=0\/d=1\/d=2:=by ext
  .exact⟨O "1=1",O "0=1",by simp[twice],by rw[show O "1=1"++(spS++O "0=1")=O "1=1 0=1" by decide +kernel];rfl,aI (by decide +kernel),aI (by decide +kernel),by decide +kernel⟩
  .exact⟨O "0=1",O "0=1",by simp[twice],by rw[show O "0=1"++(spS++O "0=1")=O "0=1 0=1" by decide +kernel];rfl,aI (by decide +kernel),aI (by decide +kernel),by decide +kernel⟩
  .exact⟨O "0=1",O "0=2",by simp[twice],by rw[show O "0=1"++(spS++O "0=2")=O "0=1 0=2" by decide +kernel];rfl,aI (by decide +kernel),aI (by decide +kernel),by decide +kernel⟩
 have y:ao.p (.str (tS (i:Int)++i6)) (.str (O " "))=J (.str (tS (i:Int)++i6++O " ")):=aO (by rw[strLen_append,dE];have:(O " ").length=1:=rfl;ext);have E:ao.p (.str (tS (i:Int)++i6++O " ")) (.str (a++(spS++b)))=J (.str (tS (i:Int)++i6++O " "++(a++(spS++b)))):=aO (by rw[j.2.2,strLen_append,strLen_append,dE];have:(O " ").length=1:=rfl;ext);have p:Pcs (tS (i:Int)++i6++O " "++(a++(spS++b))) [tS (i:Int)++i6,a,b]:=by rw[bT];exact(jS (by ext)).app (eV j.1 j.2.1) (by simp)
 refine⟨_,s1,?_,p.bs (Gp p (ve (by ext) (by ext) _ ht))⟩;unfold Gz eS;simp![aD,aK,aA,bf,al,aF,aR,aH,aq,n_,pa,show(0+1+1+1:Nat)<=100000 by decide,if_true,aB,l,bW,B,Pg,ln,lv,PU.au,bg,bc,bi,O4,PR.bl,ol,if_false,bv,aS,C,y,E,PU.bx]
def Cl{x:Str}(h:32∉x.cps.toList):Builtin.Str.occurrences x spS 0 x.length 1=[]:=by
 have p:=lK h
 cases e:Builtin.Str.occurrences x spS 0 x.length 1 with
 |nil=>rfl
 |cons i r =>
  exfalso;unfold Txt.partition at p;rw[show Builtin.Str.occurrences x (sg 32) 0 x.length 1=i::r from e]at p
  have:=congrArg (λq=>q.2.1.length) p
  exact absurd (show(1:Nat)=0 from this) (by decide)
def BM{a b:Str}(h:32∉a.cps.toList):(Builtin.Str.occurrences (a++sg 32++b) spS 0 (a++sg 32++b).length 1).isEmpty=T:=by
 have p:=gI (b:=b) h
 cases e:Builtin.Str.occurrences (a++sg 32++b) spS 0 (a++sg 32++b).length 1 with
 |cons i r=>rfl
 |nil =>
  exfalso;unfold Txt.partition at p;rw[show Builtin.Str.occurrences (a++sg 32++b) (sg 32) 0 (a++sg 32++b).length 1=[]from e]at p
  have:=congrArg (λq=>q.2.1.length) p
  exact absurd (show(0:Nat)=1 from this) (by decide)
def HC{x y:Str}(h:L2.fO x spS (O "  ") 1=y)(j:x.length<=300000)(i:y.length<=500000):(rL (O " ") (O "  ")).p (.str x)=J (.str y):=by
 have z:=xO;have l:=StrLaws.occ_length_le x spS 0 x.length 1
 have:(O " " == O "  ")=T/\Builtin.Str.tooLong (x.length+(Builtin.Str.occurrences x (O " ") 0 x.length (limitOf x 1)).length*(O "  ").length)=T/\(L2.fO x (O " ") (O "  ") 1).length<=sizeLine:=by
  refine⟨by decide +kernel,?_,?_⟩
  .unfold Builtin.Str.tooLong;rw[K5,show(O "  ").length=2 from rfl];refine decide_eq_false ?_
   have:(Builtin.Str.occurrences x (O " ") 0 x.length 1).length<=1:=l
   ext
  .rw[show L2.fO x (O " ") (O "  ") 1=y from h];ext
 show(if _ then J (D.str (L2.fO x (O " ") (O "  ") 1))else Y)=_;rw[eT this,show L2.fO x (O " ") (O "  ") 1=y from h]
def O5:cy.p (.str (O " ")) (.int 1)=J (.str (O " ")):=by rw[oq (O3 (by decide) rfl (by decide) (by decide))];congr 2
def O6:cy.p (.str (O " ")) (.int 0)=J (.str (O "")):=by rw[oq ⟨by decide,λh=>absurd (by decide) h,λh=>absurd (by decide) h⟩];congr 2
def Ut{W:VL}{L:Str}(l:W≠[])(i:Pcs L W):∃(y:Str) (b:Bool),(rL (O " ") (O "  ")).p (.str L)=J (.str y)/\(kO I).p (.str (O " ")) (.str L)=J (.bl b)/\y.length<=300000/\∃A B:VL,W=A++B/\A.length=1/\(W.length+1<=40->Pcs (y++(if b=I then O " " else O "")) (A++(O ""::B))):=by
 have E:=i.len
 cases W with
 |nil=>exact absurd rfl l
 |cons w W =>
  have n32:=(i.no w (by simp)).1
  cases W with
  |nil =>
   have e:L=w:=i.e.trans (bU _ _);subst e;refine⟨L,I,HC (K6 n32) (by ext) (by ext),?_,by ext,[L],[],rfl,rfl,λ_=>?_⟩
   .show J (D.bl (!(!(Builtin.Str.occurrences L spS 0 L.length 1).isEmpty)))=_;rw[Cl n32];rfl
   .have p:=i.app (aI (x:=O "") (by decide +kernel)) (by simp)
    have:L++(spS++O "")=L++O " ":=by congr 1
    rw[this]at p;exact p
  |cons v W =>
   have e:L=w++sg 32++Txt.join spS (v::W):=by rw[i.e,eX,bT];rfl
   have pv:Pcs (Txt.join spS (v::W)) (v::W):=⟨rfl,by simp,λp j=>i.no p (pW _ j),by have:=i.le;simp at this ⊢;ext⟩;refine⟨w++(O "  "++Txt.join spS (v::W)),T,?_,?_,?_,[w],v::W,rfl,rfl,λhl=>?_⟩
   .have z:(w++(O "  "++Txt.join spS (v::W))).length=L.length+1:=by
     rw[e,strLen_append,strLen_append,strLen_append,strLen_append]
     have:(O "  ").length=2:=rfl
     have:(sg 32).length=1:=rfl
     ext
    exact HC (by rw[e];exact Gw n32) (by ext) (by ext)
   .show J (D.bl (!(!(Builtin.Str.occurrences L spS 0 L.length 1).isEmpty)))=_
    have:=BM (b:=Txt.join spS (v::W)) n32
    rw[<-e]at this;rw[this];rfl
   .rw[strLen_append,strLen_append];have u:=congrArg Str.length e;rw[strLen_append,strLen_append]at u
    have:(O "  ").length=2:=rfl
    ext
   .have C:Pcs w [w]:=⟨(bU _ _).symm,by simp,λp j=>by rw[yu.mp j];exact i.no w (by simp),by simp⟩;have p:=C.app ((aI (x:=O "") (by decide +kernel)).app pv (by simp at hl ⊢;ext)) (by simp at hl ⊢;ext);have e2:w++(spS++(O ""++(spS++Txt.join spS (v::W))))=w++(O "  "++Txt.join spS (v::W))++(if T=I then O " " else O ""):=by
     apply cg;rw[hF (by decide)];simp only[aL];rw[show(O "").cps.toList=[]from rfl,show(O "  ").cps.toList=[32,32]from rfl,show spS.cps.toList=[32]from rfl];simp
    rw[e2]at p;exact p
def tj(z x y:Str)(A:VL):Txt.join z (A++[x])++y=Txt.join z (A++[x++y]):=by
 cases A with
 |nil=>rw[PM,PM,bU,bU]
 |cons a A=>rw[mT _ _ _ (by simp) (by simp),mT _ _ _ (by simp) (by simp),bU,bU,bT,bT]
def u6(t b:Int):124∉(k_ t b).cps.toList:=λh=>by
 have k:∀t:Int,124∉(tS t).cps.toList:=λt j=>by rcases ii t j with h|h<;>ext
 unfold k_ at h
 split at h
 .exact k t h
 .rw[aL,aL]at h;rcases v_.mp h with h|h
  .rcases v_.mp h with h|h
   .exact k t h
   .have i:124∈[47]:=h;simp at i
  .exact k b h
def K9(p:l0):124∉(b_ p).cps.toList:=λh=>by
 unfold b_ at h;rw[aL,aL]at h;rcases v_.mp h with h|h
 .rcases v_.mp h with h|h
  .rcases ii p.1 h with h|h<;>ext
  .have i:124∈[61]:=h;simp at i
 .exact u6 _ _ h
def GJ{n:Int}{x:Str}:eI n (x++O "|"):=λp _ e=>K9 p (by rw[<-e,aL];exact se _ (by decide +kernel))
def GK{x:Str}:ff (x++O "|"):=λt b _ e=>u6 t b (by rw[<-e,aL];exact se _ (by decide +kernel))
def Tl{i:Nat}{ps:List l0}(ok:df ps)(l:i<100):Pcs (Txt.join spS ((tS (i:Int)++i6)::ps.map b_)) ((tS (i:Int)++i6)::ps.map b_) :=
 jG (by simp) (λx j=>by
  rcases ki.mp j with rfl|j
  .exact jS l
  .exact n8 ok x j) (by have:=ok.1;simp;ext)
def s1{n i:Nat}{ps:List l0}{s:f_}(hr:Row n ps)(ok:df ps)(hi:i<n)(hn:n<=15):∃x X,Gy.p (eS n i ((tS (i:Int)++i6)::ps.map b_) 1) s=.rt (.str x) X/\cC n i x:=by
 have z:=xO;have lw:=ok.1;have l:=Tl (i:=i) ok (by ext);obtain⟨L,C⟩:∃L,L=Txt.join spS ((tS (i:Int)++i6)::ps.map b_):=⟨_,rfl⟩;rw[<-C]at l;have ll:=l.len;have M:=uY (i:=i) ok (by ext);have Q:=jn (ts:=(tS (i:Int)++i6)::ps.map b_) (λy hy=>by have:=M y hy;ext) (by simp;ext);rw[<-C]at Q;obtain⟨y,b,r1,r2,yl,A,B,H,lA,py⟩:=Ut (by simp) l;have py:=py (by simp;ext);have rb:cy.p (.str (O " ")) (.int (if b=I then 1 else 0))=J (.str (if b=I then O " " else O "")):=by
  cases b with
  |true=>exact O5
  |false=>exact O6
 have rc:cm.p [.bl b]=J (.int (if b=I then 1 else 0)):=rfl
 have ra:ao.p (.str y) (.str (if b=I then O " " else O ""))=J (.str (y++(if b=I then O " " else O ""))):=aO (by
  have:(if b=I then O " " else O "").length<=1:=by cases b<;>decide
  ext)
 obtain⟨d,s1,d0,d1,U⟩:=bn (s:=s) (size:=4) (by decide) (by decide);have Z:ao.p (.str (O " ")) (.str L)=J (.str (O " "++L)):=aO (by have:(O " ").length=1:=rfl;ext);have a2:ao.p (.str L) (.str (O " "))=J (.str (L++O " ")):=aO (by have:(O " ").length=1:=rfl;ext);have a3:ao.p (.str L) (.str (O "|"))=J (.str (L++O "|")):=aO (by have:(O "|").length=1:=rfl;ext);have G:=aI (x:=O "") (by decide +kernel);have R:eI (n:Int) (O ""):=fW (by ext) (by decide +kernel);have k0:cC n i (O " "++L):=by have p:=G.app l (by simp;ext);have e:O ""++(spS++L)=O " "++L:=d8 _;rw[e]at p;exact p.bs (fw p ⟨_,by simp,K8 (i:=i) (by ext)⟩)
 have k1:cC n i (L++O " "):=by
  have p:=l.app G (by simp;ext);have e:L++(spS++O "")=L++O " ":=by congr 1
  rw[e]at p;exact p.bs (fw (w:=tS (i:Int)++i6) (ws:=ps.map b_++[O ""]) p ⟨O "",by simp,R⟩)
 have k2:cC n i (y++(if b=I then O " " else O "")):=by
  match A,lA,H,py with
  |[a],_,H,py=>exact py.bs (fw (w:=a) (ws:=O ""::B) py ⟨O "",by simp,R⟩)
 have k3:cC n i (L++O "|"):=by
  have pb:=gA (x:=O "|") (by decide +kernel);have S:∀x:Str,Pcs x [x]->x.length<=300->Pcs (x++O "|") [x++O "|"]:=λx px j=>by
   have k:=px.no x (yu.mpr rfl);exact Pcs.one (bF k.1 pb.1) (bF k.2.1 pb.2.1) (cP k.2.2.1 pb.2.2) (by rw[strLen_append];have:(O "|").length=1:=rfl;ext)
  rcases List.eq_nil_or_concat ps with rfl|⟨u,p,rfl⟩
  .have e:L++O "|"=(tS (i:Int)++i6)++O "|":=by rw[C];exact congrArg (·++O "|") (bU _ _)
   rw[e];have p:=S _ (jS (i:=i) (by ext)) (by have:=M _ (C8);ext);exact p.bs (nW (ps:=[]) hr ok p (kD (c:=124) (by rw[aL];exact se _ (by decide +kernel)) (by ext)))
  .have e:L++O "|"=Txt.join spS (((tS (i:Int)++i6)::u.map b_)++[b_ p++O "|"]):=by
    rw[C,<-tj];congr 2;simp
   rw[e];have E:∀q∈u,iN q:=λq F=>ok.2 q (by simp[F])
   have P:=jG (W:=((tS (i:Int)++i6)::u.map b_)++[b_ p++O "|"]) (by simp) (λx j=>by
    rcases v_.mp j with j|j
    .rcases ki.mp j with rfl|j
     .exact jS (by ext)
     .obtain⟨q,F,rfl⟩:=sk.mp j;exact qe (E q F)
    .rw[yu.mp j];have h:=ok.2 p (by simp)
     exact S _ (qe h) (by have:=gz h;ext)) (by simp at lw ⊢;ext)
   exact P.bs (fw (w:=tS (i:Int)++i6) (ws:=u.map b_++[b_ p++O "|"]) P ⟨b_ p++O "|",by simp,GJ⟩)
 obtain⟨x,j,ex⟩:∃x,cC n i x/\i_ [D.str (O " "++L),.str (L++O " "),.str (y++(if b=I then O " " else O "")),.str (L++O "|")] d=J (.str x):=by
  obtain rfl|rfl|rfl|rfl:d=0\/d=1\/d=2\/d=3:=by ext
  .exact⟨_,k0,rfl⟩
  .exact⟨_,k1,rfl⟩
  .exact⟨_,k2,rfl⟩
  .exact⟨_,k3,rfl⟩
 refine⟨x,s1,?_,j⟩;unfold Gy eS;dsimp![aD,aK,ck,aF,aR,am];rw[show h8.p (Str.ofString " ") _=_ from Q];simp![Pg,ln,lv,PU.au,aD,aK,aA,cz,r1,aF,aR,aX,al,r2,aq,rc,rb,ra];simp![Pg,ln,lv,PU.au,aS,aA,bf,al,aF,aR,aH,aq,Z,a2,a3,n_,pa,show(0+1+1+1+1:Nat)<=100000 by decide,if_true,aB,U,bW];rw[ex];rfl
def nO:VL:=[O "",O " ",O "|",O "0=1",O "x",O "1:",O "| 1 1",O "|  1"]
def wT:∀ps:VL,ps≠[]->(ps.all λx=>plain x.cps.toList&&decide (x.length<=500))=I->ps.length<=40->Pcs (Txt.join spS ps) ps:=λps i h hl =>
 jG i (λx j=>aI (DE.mp h x j)) hl
def K_{n:Nat}:Row (n:Int) []:=oA (by ext)
def O7:df []:=⟨by simp,λp i=>by cases i⟩
def iW{n i:Nat}{x:Str}(h:Pcs x [x])(j:x≠tS (i:Int)++i6):cC n i x:=h.bs (nW (ps:=[]) K_ O7 h j)
def La{n i:Nat}{x w:Str}{j:VL}(h:Pcs x (w::j))(l:∃y∈j,eI n y):cC n i x:=h.bs (fw h l)
def LW:tS ((1:Nat):Int)++i6=O "1:":=by decide +kernel
def Lb{i:Nat}(h:O "1:"=tS (i:Int)++i6):i=1:=by rw[<-LW]at h;have e2:=congrArg (λz:Str=>z.cps.toList) h;rw[lR,lR]at e2;have v:=congrArg PySem.NumText.digitsVal (Tx e2);rw[i7,i7]at v;exact v.symm
def BX{n i:Nat}(C:n<=15):∀x∈nO,cC n i (x++(if i=1 then O "?" else O "")):=by
 have z:(n:Int)<=100:=by ext
 have bs:∀x:Str,jN x.cps.toList=T->eI (n:Int) x:=λx h=>fW z h;have two:∀(x:Str)(w:Str)(l:VL),x=Txt.join spS (w::l)->((w::l).all λx=>plain x.cps.toList&&decide (x.length<=500))=I->(w::l).length<=40->(∃y∈l,jN y.cps.toList=T)->cC n i x:=λx w l e h hl ⟨y,B,hw⟩=>by
  have p:=wT (w::l) (by simp) h hl;rw[<-e]at p;exact La p ⟨y,B,bs y hw⟩
 by_cases u:i=1
 .subst u;rw[eT rfl];intro x j;unfold nO at j;simp only[ki,t_,or_false]at j;have q:∀x:Str,(plain (x++O "?").cps.toList&&decide ((x++O "?").length<=500))=I->cC n 1 (x++O "?"):=λx h=>iW (aI h) (kD (c:=63) (by rw[aL];exact se _ (by decide +kernel)) (by ext));rcases j with rfl|rfl|rfl|rfl|rfl|rfl|rfl|rfl
  .exact q _ (by decide +kernel)
  .exact two _ (O "") [O "?"] (by decide +kernel) (by decide +kernel) (by simp) ⟨O "?",by simp,by decide +kernel⟩
  .exact q _ (by decide +kernel)
  .exact q _ (by decide +kernel)
  .exact q _ (by decide +kernel)
  .exact q _ (by decide +kernel)
  .exact two _ (O "|") [O "1",O "1?"] (by decide +kernel) (by decide +kernel) (by simp) ⟨O "1",by simp,by decide +kernel⟩
  .exact two _ (O "|") [O "",O "1?"] (by decide +kernel) (by decide +kernel) (by simp) ⟨O "",by simp,by decide +kernel⟩
 .rw[hF u];intro x j;rw[show x++O ""=x from i8 x];unfold nO at j;simp only[ki,t_,or_false]at j;rcases j with rfl|rfl|rfl|rfl|rfl|rfl|rfl|rfl
  .exact iW (aI (by decide +kernel)) (jK (by decide))
  .exact two _ (O "") [O ""] (by decide +kernel) (by decide +kernel) (by simp) ⟨O "",by simp,by decide +kernel⟩
  .exact iW (aI (by decide +kernel)) (jK (by decide))
  .exact iW (aI (by decide +kernel)) (kD (c:=61) (by decide +kernel) (by ext))
  .exact iW (aI (by decide +kernel)) (jK (by decide))
  .exact iW (aI (by decide +kernel)) λe=>u (Lb e)
  .exact two _ (O "|") [O "1",O "1"] (by decide +kernel) (by decide +kernel) (by simp) ⟨O "1",by simp,by decide +kernel⟩
  .exact two _ (O "|") [O "",O "1"] (by decide +kernel) (by decide +kernel) (by simp) ⟨O "",by simp,by decide +kernel⟩
def vp:∀x∈nO,x.length<=10:=by
 have:(nO.all λx=>decide (x.length<=10))=I:=by decide +kernel
 exact λx i=>of_decide_eq_true (DE.mp this x i)
def s4{n i:Nat}{W:VL}{s:f_}(F:n<=15):∃x u,GA.p (eS n i W 4) s=.rt (.str x) u/\cC n i x:=by
 have z:=xO;obtain⟨d,s1,B,G,l⟩:=bn (s:=s) (size:=8) (by decide) (by decide);obtain⟨x,j,ex⟩:=nK (ts:=nO) (d:=d) B (by show d<((8:Nat):Int);ext);have hl:=vp x j;have C:=BX (i:=i) F x j;have e1:o0.p (.int (i:Int)) (.int 1)=J (.bl (decide ((i:Int)=1))):=rfl;have E:cm.p [.bl (decide ((i:Int)=1))]=J (.int (if i=1 then 1 else 0)):=by
  by_cases h:i=1
  .rw[decide_eq_true (by ext),eT h];rfl
  .rw[decide_eq_false (by ext),hF h];rfl
 have e2:i_ [D.str (O ""),.str (O "?")] (if i=1 then 1 else 0)=J (.str (if i=1 then O "?" else O "")):=by
  by_cases h:i=1
  .rw[eT h,eT h];rfl
  .rw[hF h,hF h];rfl
 have y:ao.p (.str x) (.str (if i=1 then O "?" else O ""))=J (.str (x++(if i=1 then O "?" else O ""))):=aO (by
  have:(if i=1 then O "?" else O "").length<=1:=by split<;>decide
  ext)
 refine⟨_,s1,?_,C⟩;unfold GA eS;dsimp![aD,aK,aA,bf,aF,aR,aH,n_,pa,show(0+1+1+1+1+1+1+1+1:Nat)<=100000 by decide,if_true,aB,am,l,bW];rw[show i_ [D.str (Str.ofString ""),.str (Str.ofString " "),.str (Str.ofString "|"),.str (Str.ofString "0=1"),.str (Str.ofString "x"),.str (Str.ofString "1:"),.str (Str.ofString "| 1 1"),.str (Str.ofString "|  1")] d=J (.str x)from ex];simp![Pg,ln,lv,PU.au,aS,aA,bf,al,aF,aR,aH,aq,n_,pa,show(0+1+1:Nat)<=100000 by decide,if_true,aX,e1,E,bW,e2,y,PU.bx]
def Dl{w k:Int}:o0.p (.int w) (.int k)=J (.bl (decide (w=k))):=rfl
def Lc{n i:Nat}{s:f_}(y:i<n)(l:n<=15):∃x j,bL.p [.pen,.int (n:Int),.int (i:Int)] s=.ok (.str x) j/\cC n i x:=by
 obtain⟨ps,s1,z,hr,ok⟩:=yZ (i:=i) (s:=s) l (by ext);obtain⟨w,s2,M,L,C⟩:=bn (s:=s1) (size:=6) (by decide) (by decide);have gt:Dq.p (.int (n:Int)) (.int 0)=J (.bl I):=by rw[show Dq.p (.int (n:Int)) (.int 0)=J (.bl (decide ((n:Int)>0)))from rfl,decide_eq_true (by ext)]
 obtain⟨W,u⟩:∃W,W=(tS (i:Int)++i6)::ps.map b_:=⟨_,rfl⟩;rw[<-u]at z;have G:(GC:Xt []).p (eS n i W w) s2=.ok (decide (w=0)) s2:=by unfold GC eS;simp![bc,aA,aF,aH,Dl,PR.bl]
 have F:(GD:Xt []).p (eS n i W w) s2=.ok (decide (w=1)) s2:=by unfold GD eS;simp![bc,aA,aF,aH,Dl,PR.bl]
 have B:(GF:Xt []).p (eS n i W w) s2=.ok (decide (w=2)) s2:=by unfold GF eS;simp![ft,bc,aA,aF,aH,Dl,PR.bl,gt];by_cases h:w=2<;>simp[h]
 have T3:(GG:Xt []).p (eS n i W w) s2=.ok T s2:=by unfold GG eS;simp![ft,bc,aA,aF,aH,bi,Dl,PR.bl,O4];by_cases h:w=3<;>simp[h]
 have H:(GH:Xt []).p (eS n i W w) s2=.ok (decide (w=4)) s2:=by unfold GH eS;simp![bc,aA,aF,aH,Dl,PR.bl]
 have go:∀x j,(aw (kr GC Eh e_) (aw (kr GD Gy e_) (aw (kr GF Gz e_) (aw (kr GG K7 e_) (aw (kr GH GA e_) GB)))):Xd []).p (eS n i W w) s2=.rt (.str x) j->bL.p [.pen,.int (n:Int),.int (i:Int)] s=.ok (.str x) j:=λx j e=>by
  rw[lM (by rfl),xm];rw[show i3 12 [D.pen,.int (n:Int),.int (i:Int)]=[J .pen,J (.int (n:Int)),J (.int (i:Int)),Y,Y,Y,Y,Y,Y,Y,Y,Y]from rfl];rw[aD,aK,aB,al,aj,Pb,al,am,aj,Pb,al,am,am,aj,Pb,aq,Pb,Pb,Pb,Pb,z,Pg,PU.au];simp only[ln,lv];rw[aD,aK,aB,al,aj,Pb,al,aF,Pb,aq,Pb,Pb,Pb,aH,C,Pg,PU.au];simp only[ln,lv];exact congrArg PS.fin e
 have step:∀(t:Xt [])(b r:Xd [])(c:Bool),t.p (eS n i W w) s2=.ok c s2->(aw (kr t b e_) r:Xd []).p (eS n i W w) s2=if c=I then(b.p (eS n i W w) s2).then r.p else r.p (eS n i W w) s2:=λt b r c h=>by
  rw[aD,bg,h,Pg];cases c<;>simp
 have E:w=0\/w=1\/w=2\/w=3\/w=4\/w=5:=by ext
 have fin:∃x j,(aw (kr GC Eh e_) (aw (kr GD Gy e_) (aw (kr GF Gz e_) (aw (kr GG K7 e_) (aw (kr GH GA e_) GB)))):Xd []).p (eS n i W w) s2=.rt (.str x) j/\cC n i x:=by
  rw[step _ _ _ _ G,step _ _ _ _ F,step _ _ _ _ B,step _ _ _ _ T3,step _ _ _ _ H];rcases E with rfl|rfl|rfl|rfl|rfl|rfl
  .obtain⟨x,j,q,h⟩:=s0 (s:=s2) hr ok y l;rw[<-u]at q;exact⟨x,j,by rw[eT (by decide),q];rfl,h⟩
  .obtain⟨x,j,q,h⟩:=Law.s1 (s:=s2) hr ok y l;rw[<-u]at q;exact⟨x,j,by rw[hF (by decide),eT (by decide),q];rfl,h⟩
  .obtain⟨x,j,q,h⟩:=Law.s2 (ps:=ps) (s:=s2) y l;rw[<-u]at q;exact⟨x,j,by rw[hF (by decide),hF (by decide),eT (by decide),q];rfl,h⟩
  .obtain⟨x,j,q,h⟩:=s5 (i:=i) (ps:=ps) (w:=3) (s:=s2) l (by ext);rw[<-u]at q;exact⟨x,j,by rw[hF (by decide),hF (by decide),hF (by decide),hF (by decide),hF (by decide),q],h⟩
  .obtain⟨x,j,q,h⟩:=s4 (i:=i) (W:=W) (s:=s2) l;exact⟨x,j,by rw[hF (by decide),hF (by decide),hF (by decide),hF (by decide),eT (by decide),q];rfl,h⟩
  .obtain⟨x,j,q,h⟩:=s5 (i:=i) (ps:=ps) (w:=5) (s:=s2) l (by ext);rw[<-u]at q;exact⟨x,j,by rw[hF (by decide),hF (by decide),hF (by decide),hF (by decide),hF (by decide),q],h⟩
 obtain⟨x,j,q,h⟩:=fin;exact⟨x,j,go x j q,h⟩
def vM{xs:VP}{a b:D}:dQ (xs++[a,b]) (J (-2)) Y=[a,b]:=by unfold dQ HT.l_;simp_all![Dc,n_,pa,show((-2:Int)<0)=True by simp];rw[show((-2:Int)+((xs.length+(0+1+1):Nat):Int)).toNat=xs.length by ext];simp
def Ld{xs:VP}{a b:D}:dQ (xs++[a,b]) (J (-1)) Y=[b]:=by unfold dQ HT.l_;simp_all![Dc,n_,pa,show((-1:Int)<0)=True by simp];rw[show((-1:Int)+((xs.length+(0+1+1):Nat):Int)).toNat=xs.length+1 by ext];simp
def Lf{xs:VP}{a b:D}:dQ (xs++[a,b]) Y (J (-1))=xs++[a]:=by unfold dQ HT.l_;simp_all![Dc,n_,pa,show((-1:Int)<0)=True by simp,List.drop_zero,Nat.sub_zero];rw[show((-1:Int)+((xs.length+(0+1+1):Nat):Int)).toNat=xs.length+1 by ext];simp only[List.take_append,show xs.length+1-xs.length=1 by ext];rw[QR (by ext)];rfl
def C5:Pcs il [il]:=aI (by decide +kernel)
def DB{n:Int}(i:n<=100):eI n il:=fW i (by decide +kernel)
structure RW(n:Nat)(ws:VL)(t:Str):Prop where
 hw:∀x∈ws,Pcs x [x]
 hl:ws.length<=15
 ht:Pcs t [t]
 lt:t.length<=130
 lw:∀x∈ws,x.length<=130
 ps:∃ds,dw n ws (.tup ds)
 nt:t≠il
def rw_of{n:Nat}{r:Rw}(h:KO n r)(ok:jO r):RW n (r.1.map b_) (k_ r.2.1 r.2.2) :=
 ⟨n8 ok.1,by have:=ok.1.1;simp;ext,Go ok.2,by have:=jD ok.2;ext,λx j=>by
  obtain⟨p,i,rfl⟩:=sk.mp j;exact gz (ok.1.2 p i),⟨_,λs=>di h.1 ok.1⟩,λe=>u6 _ _ (by rw[e];decide +kernel)⟩
def rm{n:Nat}{i:VL}{t m:Str}{ms:VL}(h:RW n i t)(l:Pcs m ms)(hl:ms.length<=5):Pcs (Txt.join spS (i++[m,t])) (i++(ms++[t])) :=
 im h.hw l (λy j=>by rw[yu.mp j];exact h.ht) (by have:=h.hl;simp;ext)
def kG{n:Nat}{x:Str}(h:Pcs x [x]):bR n x:=h.br λk=>BU h
def O8{n:Nat}{i:VL}{t x b c:Str}(h:RW n i t)(p:Pcs x (i++[b,c]))(j:b≠il):bR n x:=p.br λk=>by
 obtain⟨l,hd⟩:=h.ps;exact uA p j hd (.inr ⟨_,rfl⟩)
def uQ{n:Nat}{x b c:Str}(p:Pcs x [b,c])(i:b≠il):bR n x:=p.br λk=>uA (A:=[]) p i (λ_=>di (ps:=[]) K_ O7) (.inr ⟨_,rfl⟩)
def gR{n:Nat}{x b c:Str}{A:VL}(p:Pcs x (A++[b,c]))(i:∃y∈A,eI (n:Int) y):bR n x:=p.br λk=>Aa p i
def HD{n:Nat}{i:VL}{t x c:Str}(h:RW n i t)(p:Pcs x (i++[il,c]))(j:ff c):bR n x:=p.br λk=>by
 obtain⟨l,hd⟩:=h.ps;exact A6 p j hd (.inr ⟨_,rfl⟩)
def u8{x:Str}{c:Nat}(h:c∈x.cps.toList)(j:c≠124):x≠il:=λe=>by
 rw[e]at h;have i:c∈[124]:=h;exact j (by simpa using i)
def wm{i:VL}{t:Str}:(i++[il,t]).map D.str=i.map D.str++[.str il,.str t]:=by simp
def r5{n:Nat}{j:VL}{t:Str}{w:Int}{s:f_}(h:RW n j t)(P:n<=15):∃x E,GB.p (eR n (j++[il,t]) w) s=.rt (.str x) E/\bR n x:=by
 obtain⟨x,u,l,bs,pb,bl,H⟩:=qN (n:=n) (s:=s) (by ext);have p:Pcs (Txt.join spS [x,il,t]) (bs++[il,t]):=by
  have:=im (A:=[]) (C:=[il,t]) (λy i=>by cases i) pb (λy i=>by
   simp only[ki,t_,or_false]at i;rcases i with rfl|rfl
   .exact C5
   .exact h.ht) (by simp;ext)
  simpa using this
 have e2:Dt (.lst (j.map D.str++[.str il,.str t])) (J (-2)) Y=J (.lst ([il,t].map .str)):=by rw[fX,vM];rfl
 have F:ao.p (.lst []) (.lst [.str x])=J (.lst ([x].map .str)):=g9 (A:=[]) (B:=[x]) (by simp);have M:ao.p (.lst ([x].map .str)) (.lst ([il,t].map .str))=J (.lst ([x,il,t].map .str)):=g9 (A:=[x]) (B:=[il,t]) (by simp);have L:=pb.len
 have G:=k9 (z:=spS) (ts:=[x,il,t]) (c:=20040) (m:=3) (λy i=>by
  simp only[ki,t_,or_false]at i;rcases i with rfl|rfl|rfl
  .exact L
  .rw[j4];ext
  .have:=h.lt;ext) (by simp) (by rw[fS];decide)
 refine⟨_,u,?_,gR p H⟩;unfold GB eR;rw[wm];simp![aD,vA,al,gX,gS,fK,aF,aH,fX,bf,aq,pa,CN,if_true,Pg,ln,lv,PU.au,bg,bc,aA,bi,nY,PR.bl,cz,pR];rw[show dQ (j.map D.str++[.str il,.str t]) (J (-2)) Y=[il,t].map .str from vM];simp![Pg,ln,lv,PU.au,aS,ck,aR,aF,al,aA,bf,aB,aq,l,n_,pa,show(0+1:Nat)<=100000 by decide,if_true,F,M];rw[show h8.p (Str.ofString " ") _=_ from G];rfl
def r4{n:Nat}{W:VL}{s:f_}(L:n<=15):∃x y,GA.p (eR n W 4) s=.rt (.str x) y/\bR n x:=by
 have z:=xO;obtain⟨d,u,E,H,l⟩:=bn (s:=s) (size:=8) (by decide) (by decide);obtain⟨x,j,ex⟩:=nK (ts:=nO) (d:=d) E (by show d<((8:Nat):Int);ext);have hl:=vp x j;have i:(n:Int)<=100:=by ext
 have F:bR n x:=by
  have mk:∀(x:Str)(ps:VL),x=Txt.join spS ps->ps≠[]->(ps.all λx=>plain x.cps.toList&&decide (x.length<=500))=I->ps.length<=40->Pcs x ps:=λx ps e C h hl=>by
   have p:=wT ps C h hl;rw[<-e]at p;exact p
  unfold nO at j;simp only[ki,t_,or_false]at j;rcases j with rfl|rfl|rfl|rfl|rfl|rfl|rfl|rfl
  .exact kG (aI (by decide +kernel))
  .exact uQ (mk _ [O "",O ""] (by decide +kernel) (by simp) (by decide +kernel) (by simp)) (λe=>absurd (congrArg Str.length e) (by decide))
  .exact kG (aI (by decide +kernel))
  .exact kG (aI (by decide +kernel))
  .exact kG (aI (by decide +kernel))
  .exact kG (aI (by decide +kernel))
  .exact gR (A:=[O "|"]) (mk _ [O "|",O "1",O "1"] (by decide +kernel) (by simp) (by decide +kernel) (by simp)) ⟨O "|",by simp,DB i⟩
  .exact gR (A:=[O "|"]) (mk _ [O "|",O "",O "1"] (by decide +kernel) (by simp) (by decide +kernel) (by simp)) ⟨O "|",by simp,DB i⟩
 have e1:o0.p .non (.int 1)=J (.bl T):=by show y1 T .non (.int 1)=_;simp[y1,py,Cy,SeqAt.shaped,PyData.canLay0,PyData.depth,PyData.eqv]
 have G:cm.p [.bl T]=J (.int 0):=rfl;have e2:i_ [D.str (O ""),.str (O "?")] 0=J (.str (O "")):=rfl;have B:ao.p (.str x) (.str (O ""))=J (.str x):=by rw[aO (by have:(O "").length=0:=rfl;ext),show x++O ""=x from i8 x]
 refine⟨x,u,?_,F⟩;unfold GA eR;dsimp![aD,aK,aA,bf,aF,aR,aH,n_,pa,show(0+1+1+1+1+1+1+1+1:Nat)<=100000 by decide,if_true,aB,am,l,bW];rw[show i_ [D.str (Str.ofString ""),.str (Str.ofString " "),.str (Str.ofString "|"),.str (Str.ofString "0=1"),.str (Str.ofString "x"),.str (Str.ofString "1:"),.str (Str.ofString "| 1 1"),.str (Str.ofString "|  1")] d=J (.str x)from ex];simp![Pg,ln,lv,PU.au,aS,aA,bf,al,aF,aR,aH,aq,n_,pa,show(0+1+1:Nat)<=100000 by decide,if_true,aX,e1,G,bW,e2,B,PU.bx]
def r3{n:Nat}{j:VL}{t:Str}{s:f_}(h:RW n j t)(Q:n<=15):∃x F,K7.p (eR n (j++[il,t]) 3) s=.rt (.str x) F/\bR n x:=by
 obtain⟨x,u,E,l⟩:=nU (s:=s);have hl:=h.hl;have P:x.length<=300:=by
  rcases l with⟨_,_,z⟩|e
  .exact z
  .rw[e];decide
 have e1:dQ (j.map D.str++[.str il,.str t]) Y (J (-1))=(j++[il]).map .str:=by rw[Lf];simp
 have G:ao.p (.lst ((j++[il]).map .str)) (.lst [.str x])=J (.lst ((j++[il]++[x]).map .str)):=g9 (A:=j++[il]) (B:=[x]) (by simp;ext)
 have L:=jn (ts:=j++[il]++[x]) (λy i=>by
  simp only[v_,yu]at i;rcases i with(i|rfl)|rfl
  .have:=h.lw y i;ext
  .rw[j4];ext
  .ext) (by simp;ext)
 refine⟨Txt.join spS (j++[il]++[x]),u,?_,?_⟩
 rotate_left
 .rcases l with⟨M,H,z⟩|e
  .have p:=jG (W:=j++[il,x]) (by simp) (λy i=>by
    simp only[v_,ki,t_,or_false]at i;rcases i with i|rfl|rfl
    .exact h.hw y i
    .exact C5
    .exact M) (by simp;ext)
   have e:Txt.join spS (j++[il]++[x])=Txt.join spS (j++[il,x]):=by simp
   rw[e];exact HD h p H
  .have p:=im (A:=j++[il]) (b:=x) (bs:=[O "-",O "1"]) (C:=[]) (λy i=>by
    simp only[v_,yu]at i;rcases i with i|rfl
    .exact h.hw y i
    .exact C5) (by
    rw[e,show O "- 1"=O "-"++(spS++O "1") by decide +kernel]
    exact eV (aI (by decide +kernel)) (aI (by decide +kernel))) (λy i=>by cases i) (by simp;ext)
   exact gR (A:=j++[il]) p ⟨il,by simp,DB (by ext)⟩
 .unfold K7 eR;rw[wm];simp![aS,ck,aF,aR,aH,al,aA,gX,gS,fK,cz,pN,fX,e1,bf,aB,aq,E,n_,pa,show(0+1:Nat)<=100000 by decide,if_true,G];rw[show h8.p (Str.ofString " ") _=_ from L];rfl
def r2{n:Nat}{E:VL}{t:Str}{s:f_}(h:RW n E t)(Q:1<=n)(U:n<=15):∃x H,Gz.p (eR n (E++[il,t]) 2) s=.rt (.str x) H/\bR n x:=by
 obtain⟨d,u,R,P,G⟩:=bn (s:=s) (size:=3) (by decide) (by decide);obtain⟨a,b,ht,F,l⟩:∃a b:Str,[a,b]∈twice/\i_ [D.str (O "1=1 0=1"),.str (O "0=1 0=1"),.str (O "0=1 0=2")] d=J (.str (a++(spS++b)))/\(Pcs a [a]/\Pcs b [b]/\(a++(spS++b)).length=7):=by
  obtain rfl|rfl|rfl:d=0\/d=1\/d=2:=by ext
  .exact⟨O "1=1",O "0=1",by simp[twice],by rw[show O "1=1"++(spS++O "0=1")=O "1=1 0=1" by decide +kernel];rfl,aI (by decide +kernel),aI (by decide +kernel),by decide +kernel⟩
  .exact⟨O "0=1",O "0=1",by simp[twice],by rw[show O "0=1"++(spS++O "0=1")=O "0=1 0=1" by decide +kernel];rfl,aI (by decide +kernel),aI (by decide +kernel),by decide +kernel⟩
  .exact⟨O "0=1",O "0=2",by simp[twice],by rw[show O "0=1"++(spS++O "0=2")=O "0=1 0=2" by decide +kernel];rfl,aI (by decide +kernel),aI (by decide +kernel),by decide +kernel⟩
 obtain⟨i,z⟩:∃i,i=a++(spS++b):=⟨_,rfl⟩;rw[<-z]at F;have S:i.length=7:=by rw[z];exact l.2.2
 have p:=im (A:=[]) (b:=i) (bs:=[a,b]) (C:=[il,t]) (λy j=>by cases j) (by rw[z];exact eV l.1 l.2.1) (λy j=>by
  simp only[ki,t_,or_false]at j;rcases j with rfl|rfl
  .exact C5
  .exact h.ht) (by simp)
 have L:ao.p (.lst [.str i]) (.lst ([il,t].map .str))=J (.lst ([i,il,t].map .str)):=g9 (A:=[i]) (B:=[il,t]) (by simp)
 have M:=jn (ts:=[i,il,t]) (λy j=>by
  simp only[ki,t_,or_false]at j;rcases j with rfl|rfl|rfl
  .ext
  .rw[j4];ext
  .have:=h.lt;ext) (by simp)
 refine⟨Txt.join spS [i,il,t],u,?_,p.br λk=>xp (A:=[a,b]) p (ve (by ext) (by ext) _ ht)⟩;unfold Gz eR;rw[wm];simp![aD,aK,aA,bf,al,aF,aR,aH,aq,n_,pa,show(0+1+1+1:Nat)<=100000 by decide,if_true,aB,G,bW,F,Pg,ln,lv,PU.au,bg,bc,bi,nY,PR.bl,aS,ck,show(0+1:Nat)<=100000 by decide,gX,fK,cz,pR,gS,fX];rw[show dQ (E.map D.str++[.str il,.str t]) (J (-2)) Y=[il,t].map .str from vM];simp only[Pf,Pb,L];rw[show h8.p (Str.ofString " ") _=_ from M];rfl
def r1{n:Nat}{j:VL}{t:Str}{s:f_}(h:RW n j t)(hn:n<=15):∃x R,Gy.p (eR n (j++[il,t]) 1) s=.rt (.str x) R/\bR n x:=by
 have z:=xO;have hl:=h.hl;have l:(n:Int)<=100:=by ext
 have E:=jG (W:=j++[il,t]) (by simp) (λy i=>by
  simp only[v_,ki,t_,or_false]at i;rcases i with i|rfl|rfl
  .exact h.hw y i
  .exact C5
  .exact h.ht) (by simp;ext)
 obtain⟨L,F⟩:∃L,L=Txt.join spS (j++[il,t]):=⟨_,rfl⟩;rw[<-F]at E;have ll:=E.len
 have H:=jn (ts:=j++[il,t]) (λy i=>by
  simp only[v_,ki,t_,or_false]at i;rcases i with i|rfl|rfl
  .have:=h.lw y i;ext
  .rw[j4];ext
  .have:=h.lt;ext) (by simp;ext)
 rw[<-F]at H;obtain⟨y,b,r1,r2,yl,A,B,C,U,py⟩:=Ut (by simp) E;have py:=py (by simp;ext);have rb:cy.p (.str (O " ")) (.int (if b=I then 1 else 0))=J (.str (if b=I then O " " else O "")):=by
  cases b with
  |true=>exact O5
  |false=>exact O6
 have rc:cm.p [.bl b]=J (.int (if b=I then 1 else 0)):=rfl
 have ra:ao.p (.str y) (.str (if b=I then O " " else O ""))=J (.str (y++(if b=I then O " " else O ""))):=aO (by
  have:(if b=I then O " " else O "").length<=1:=by cases b<;>decide
  ext)
 obtain⟨d,u,d0,d1,Q⟩:=bn (s:=s) (size:=4) (by decide) (by decide);have S:ao.p (.str (O " ")) (.str L)=J (.str (O " "++L)):=aO (by have:(O " ").length=1:=rfl;ext);have a2:ao.p (.str L) (.str (O " "))=J (.str (L++O " ")):=aO (by have:(O " ").length=1:=rfl;ext);have a3:ao.p (.str L) (.str (O "|"))=J (.str (L++O "|")):=aO (by have:(O "|").length=1:=rfl;ext);have G:=aI (x:=O "") (by decide +kernel);have M:eI (n:Int) (O ""):=fW l (by decide +kernel);have k0:bR n (O " "++L):=by have p:=G.app E (by simp;ext);have e:O ""++(spS++L)=O " "++L:=d8 _;rw[e]at p;exact gR (A:=O ""::j) (b:=il) (c:=t) (by simpa using p) ⟨O "",by simp,M⟩
 have X:bR n (L++O " "):=by
  have p:=E.app G (by simp;ext);have e:L++(spS++O "")=L++O " ":=by congr 1
  rw[e]at p;exact gR (A:=j++[il]) (b:=t) (c:=O "") (by simpa using p) ⟨il,by simp,DB l⟩
 have k2:bR n (y++(if b=I then O " " else O "")):=by
  match A,U,C,py with
  |[a],_,C,py =>
   cases j with
   |nil =>
    rw[PM,Ej]at C;injection C with e1 e2
    rw[<-e1,<-e2]at py;exact gR (A:=[il]) (b:=O "") (c:=t) (by simpa using py) ⟨il,by simp,DB l⟩
   |cons w j =>
    rw[HN,Ej]at C;injection C with e1 e2
    rw[<-e1,<-e2]at py;exact gR (A:=w::O ""::j) (b:=il) (c:=t) (by simpa using py) ⟨O "",by simp,M⟩
 have Z:bR n (L++O "|"):=by
  have pb:=gA (x:=O "|") (by decide +kernel);have k:=h.ht.no t (yu.mpr rfl);have pt:Pcs (t++O "|") [t++O "|"]:=Pcs.one (bF k.1 pb.1) (bF k.2.1 pb.2.1) (cP k.2.2.1 pb.2.2) (by rw[strLen_append];have:(O "|").length=1:=rfl;have:=h.lt;ext);have e:L++O "|"=Txt.join spS (j++[il,t++O "|"]):=by
   have:=tj spS t (O "|") (j++[il])
   rw[F];simpa using this
  rw[e]
  have P:=jG (W:=j++[il,t++O "|"]) (by simp) (λy i=>by
   simp only[v_,ki,t_,or_false]at i;rcases i with i|rfl|rfl
   .exact h.hw y i
   .exact C5
   .exact pt) (by simp;ext)
  exact HD h P GK
 obtain⟨x,hx,ex⟩:∃x,bR n x/\i_ [D.str (O " "++L),.str (L++O " "),.str (y++(if b=I then O " " else O "")),.str (L++O "|")] d=J (.str x):=by
  obtain rfl|rfl|rfl|rfl:d=0\/d=1\/d=2\/d=3:=by ext
  .exact⟨_,k0,rfl⟩
  .exact⟨_,X,rfl⟩
  .exact⟨_,k2,rfl⟩
  .exact⟨_,Z,rfl⟩
 refine⟨x,u,?_,hx⟩;unfold Gy eR;dsimp![aD,aK,ck,aF,aR,am];rw[show h8.p (Str.ofString " ") _=_ from H];simp![Pg,ln,lv,PU.au,aD,aK,aA,cz,r1,aF,aR,aX,al,r2,aq,rc,rb,ra];simp![Pg,ln,lv,PU.au,aS,aA,bf,al,aF,aR,aH,aq,S,a2,a3,n_,pa,show(0+1+1+1+1:Nat)<=100000 by decide,if_true,aB,Q,bW];rw[ex];rfl
def r0{n:Nat}{i:VL}{t:Str}{s:f_}(h:RW n i t)(hn:n<=15):∃x s',Eh.p (eR n (i++[il,t]) 0) s=.rt (.str x) s'/\bR n x:=by
 have z:=xO;have hl:=h.hl;have lt:=h.lt;have U:(n:Int)<=100:=by ext
 obtain⟨c,u,c0,c1,W⟩:=bn (s:=s) (size:=3) (by decide) (by decide);have j:i_ (i.map D.str++[.str il,.str t]) (-1)=J (.str t):=w9;have X:o0.p (.int c) (.int 0)=J (.bl (decide (c=0))):=rfl;by_cases Z:c=0
 .obtain⟨d,v,d0,d1,H⟩:=bn (s:=u) (size:=3) (by decide) (by decide);obtain⟨P,M,pP,lP⟩:∃P:Str,(P=if 0<n then O "0=1" else O "x")/\Pcs P [P]/\P.length<=3:=by
   refine⟨_,rfl,?_,?_⟩
   .split
    .exact aI (by decide +kernel)
    .exact aI (by decide +kernel)
   .split<;>decide
  have g1:Dq.p (.int (n:Int)) (.int 0)=J (.bl (decide ((n:Int)>0))):=rfl;have rc:cm.p [.bl (decide ((n:Int)>0))]=J (.int (if 0<n then 1 else 0)):=by
   by_cases l:0<n
   .rw[decide_eq_true (by ext),eT l];rfl
   .rw[decide_eq_false (by ext),hF l];rfl
  have e2:i_ [D.str (O "x"),.str (O "0=1")] (if 0<n then 1 else 0)=J (.str P):=by
   rw[M];by_cases l:0<n
   .rw[eT l,eT l];rfl
   .rw[hF l,hF l];rfl
  have l1:(O "| ").length=2:=rfl;have l2:(O " |").length=2:=rfl;have l3:(O "|").length=1:=rfl;have F:ao.p (.str P) (.str (O "| "))=J (.str (P++O "| ")):=aO (by ext);have S:ao.p (.str (P++O "| ")) (.str t)=J (.str (P++O "| "++t)):=aO (by rw[strLen_append];ext);have a3:ao.p (.str P) (.str (O " |"))=J (.str (P++O " |")):=aO (by ext);have a4:ao.p (.str (P++O " |")) (.str t)=J (.str (P++O " |"++t)):=aO (by rw[strLen_append];ext);have a5:ao.p (.str (O "|")) (.str t)=J (.str (O "|"++t)):=aO (by ext);have pb:=gA (x:=O "|") (by decide +kernel);have Q:=pP.no P (yu.mpr rfl);have L:=h.ht.no t (yu.mpr rfl);have nP:P≠il:=by
   rw[M];split
   .exact u8 (c:=61) (by decide +kernel) (by ext)
   .exact u8 (c:=120) (by decide +kernel) (by ext)
  have R:Pcs (P++O "|") [P++O "|"]:=Pcs.one (bF Q.1 pb.1) (bF Q.2.1 pb.2.1) (cP Q.2.2.1 pb.2.2) (by rw[strLen_append];ext);have C:Pcs (O "|"++t) [O "|"++t]:=Pcs.one (bF pb.1 L.1) (bF pb.2.1 L.2.1) (cP pb.2.2 L.2.2.1) (by rw[strLen_append];ext);have G:P++O "|"≠il:=λe=>by
   have:=congrArg Str.length e
   rw[strLen_append,j4]at this
   have:P.length≠0:=by rw[M];split<;>decide
   ext
  have k0:bR n (P++O "| "++t):=by
   have p:=eV R h.ht;have e:P++O "|"++(spS++t)=P++O "| "++t:=by apply cg;simp only[aL];rw[show(O "|").cps.toList=[124]from rfl,show(O "| ").cps.toList=[124,32]from rfl,show spS.cps.toList=[32]from rfl];simp
   rw[e]at p;exact uQ p G
  have k1:bR n (P++O " |"++t):=by
   have p:=eV pP C;have e:P++(spS++(O "|"++t))=P++O " |"++t:=by apply cg;simp only[aL];rw[show(O "|").cps.toList=[124]from rfl,show(O " |").cps.toList=[32,124]from rfl,show spS.cps.toList=[32]from rfl];simp
   rw[e]at p;exact uQ p nP
  have k2:bR n (O "|"++t):=kG C;obtain⟨x,hx,ex⟩:∃x,bR n x/\i_ [D.str (P++O "| "++t),.str (P++O " |"++t),.str (O "|"++t)] d=J (.str x):=by
   obtain rfl|rfl|rfl:d=0\/d=1\/d=2:=by ext
   .exact⟨_,k0,rfl⟩
   .exact⟨_,k1,rfl⟩
   .exact⟨_,k2,rfl⟩
  refine⟨x,v,?_,hx⟩;unfold Eh eR;rw[wm,aD,bg];simp![ft,bc,aA,aF,bi,aH,nY,PR.bl,if_true,aB,al,aq,W,X,decide_eq_true Z,Pg];simp![aD,aK,aA,bf,al,aF,aR,aH,aq,n_,pa,show(0+1+1:Nat)<=100000 by decide,show(0+1+1+1:Nat)<=100000 by decide,if_true,aX,g1,rc,bW,e2,Pg,ln,lv,PU.au,aS,F,cz,pN,j,S,a3,a4,a5,aB,H];rw[ex];rfl
 .obtain⟨d,v,d0,d1,H⟩:=bn (s:=u) (size:=5) (by decide) (by decide);obtain⟨m,em,lm,km⟩:∃m:Str,i_ [D.str (O ""),.str (O "/"),.str (O "||"),.str (O "| |"),.str (O "|1")] d=J (.str m)/\m.length<=3/\((Pcs m [m]/\m≠il)\/m=O "| |"):=by
   obtain rfl|rfl|rfl|rfl|rfl:d=0\/d=1\/d=2\/d=3\/d=4:=by ext
   .exact⟨_,rfl,by decide,.inl ⟨aI (by decide +kernel),λe=>absurd (congrArg Str.length e) (by decide)⟩⟩
   .exact⟨_,rfl,by decide,.inl ⟨aI (by decide +kernel),u8 (c:=47) (by decide +kernel) (by ext)⟩⟩
   .exact⟨_,rfl,by decide,.inl ⟨aI (by decide +kernel),λe=>absurd (congrArg Str.length e) (by decide)⟩⟩
   .exact⟨_,rfl,by decide,.inr rfl⟩
   .exact⟨_,rfl,by decide,.inl ⟨aI (by decide +kernel),λe=>absurd (congrArg Str.length e) (by decide)⟩⟩
  have hb:bR n (Txt.join spS (i++[m,t])):=by
   rcases km with⟨pm,nm⟩|e
   .exact O8 h (rm h pm (by simp)) nm
   .have p:=rm h (m:=m) (ms:=[il,il]) (by
     rw[e,show O "| |"=il++(spS++il) by decide +kernel];exact eV C5 C5) (by simp)
    exact gR (A:=i++[il]) (b:=il) (c:=t) (by simpa using p) ⟨il,by simp,DB U⟩
  have F:ao.p (.lst (i.map .str)) (.lst [.str m])=J (.lst ((i++[m]).map .str)):=g9 (A:=i) (B:=[m]) (by simp;ext);have S:ao.p (.lst ((i++[m]).map .str)) (.lst [.str t])=J (.lst ((i++[m,t]).map .str)):=by rw[show(D.lst [.str t])=.lst ([t].map .str)from rfl,g9 (A:=i++[m]) (B:=[t]) (by simp;ext)];simp
  have ej:=jn (ts:=i++[m,t]) (λy E=>by
   simp only[v_,ki,t_,or_false]at E;rcases E with E|rfl|rfl
   .have:=h.lw y E;ext
   .ext
   .ext) (by simp;ext)
  refine⟨_,v,?_,hb⟩;unfold Eh eR;rw[wm,aD,bg];simp![ft,bc,aA,aF,bi,aH,nY,PR.bl,if_true,aB,al,aq,W,X,decide_eq_false Z,Pg,ol,if_false,bv,PU.au];rw[aD,bg];simp![bc,aA,aF,bi,aH,aR,nY,PR.bl,if_true,Pg,aS,ck,al,gX,gS,fK,cz,pR,pN,fX,zk,Ld,bf,aB,aq,H,n_,pa,show(0+1+1+1+1+1:Nat)<=100000 by decide,show(0+1:Nat)<=100000 by decide,bW];rw[em];simp_all![Pf,Pb,n_,pa,show(0+1:Nat)<=100000 by decide,F,S];rw[show h8.p (Str.ofString " ") _=_ from ej];rfl
def Lg{n:Nat}{s:f_}(l:n<=15):∃x i,bL.p [.pen,.int (n:Int),.non] s=.ok (.str x) i/\bR n x:=by
 obtain⟨r,s1,y,hr,ok⟩:=zW (s:=s) l;obtain⟨w,s2,Q,P,C⟩:=bn (s:=s1) (size:=6) (by decide) (by decide);have H:=rw_of hr ok;obtain⟨j,u⟩:∃j,j=r.1.map b_:=⟨_,rfl⟩;obtain⟨t,E⟩:∃t,t=k_ r.2.1 r.2.2:=⟨_,rfl⟩;rw[<-u,<-E]at y H;have gt:Dq.p (.int (n:Int)) (.int 0)=J (.bl (decide ((n:Int)>0))):=rfl;have L:(GC:Xt []).p (eR n (j++[il,t]) w) s2=.ok (decide (w=0)) s2:=by unfold GC eR;simp![bc,aA,aF,aH,Dl,PR.bl]
 have G:(GD:Xt []).p (eR n (j++[il,t]) w) s2=.ok (decide (w=1)) s2:=by unfold GD eR;simp![bc,aA,aF,aH,Dl,PR.bl]
 have B:(GF:Xt []).p (eR n (j++[il,t]) w) s2=.ok (decide (w=2/\0<n)) s2:=by unfold GF eR;simp![ft,bc,aA,aF,aH,Dl,PR.bl,gt];by_cases h:w=2<;>simp[h]
 have T3:(GG:Xt []).p (eR n (j++[il,t]) w) s2=.ok (decide (w=3)) s2:=by unfold GG eR;simp![ft,bc,aA,aF,aH,bi,Dl,PR.bl,nY];by_cases h:w=3<;>simp[h]
 have M:(GH:Xt []).p (eR n (j++[il,t]) w) s2=.ok (decide (w=4)) s2:=by unfold GH eR;simp![bc,aA,aF,aH,Dl,PR.bl]
 have go:∀x i,(aw (kr GC Eh e_) (aw (kr GD Gy e_) (aw (kr GF Gz e_) (aw (kr GG K7 e_) (aw (kr GH GA e_) GB)))):Xd []).p (eR n (j++[il,t]) w) s2=.rt (.str x) i->bL.p [.pen,.int (n:Int),.non] s=.ok (.str x) i:=λx i e=>by
  rw[lM (by rfl),xm];rw[show i3 12 [D.pen,.int (n:Int),.non]=[J .pen,J (.int (n:Int)),J .non,Y,Y,Y,Y,Y,Y,Y,Y,Y]from rfl];rw[aD,aK,aB,al,aj,Pb,al,am,aj,Pb,al,am,am,aj,Pb,aq,Pb,Pb,Pb,Pb,y,Pg,PU.au];simp only[ln,lv];rw[aD,aK,aB,al,aj,Pb,al,aF,Pb,aq,Pb,Pb,Pb,aH,C,Pg,PU.au];simp only[ln,lv];exact congrArg PS.fin e
 have step:∀(a:Xt [])(b r:Xd [])(c:Bool),a.p (eR n (j++[il,t]) w) s2=.ok c s2->(aw (kr a b e_) r:Xd []).p (eR n (j++[il,t]) w) s2=if c=I then(b.p (eR n (j++[il,t]) w) s2).then r.p else r.p (eR n (j++[il,t]) w) s2:=λa b r c h=>by
  rw[aD,bg,h,Pg];cases c<;>simp
 have F:w=0\/w=1\/w=2\/w=3\/w=4\/w=5:=by ext
 have fin:∃x i,(aw (kr GC Eh e_) (aw (kr GD Gy e_) (aw (kr GF Gz e_) (aw (kr GG K7 e_) (aw (kr GH GA e_) GB)))):Xd []).p (eR n (j++[il,t]) w) s2=.rt (.str x) i/\bR n x:=by
  rw[step _ _ _ _ L,step _ _ _ _ G,step _ _ _ _ B,step _ _ _ _ T3,step _ _ _ _ M];rcases F with rfl|rfl|rfl|rfl|rfl|rfl
  .obtain⟨x,i,q,h⟩:=r0 (s:=s2) H l;exact⟨x,i,by rw[eT (by decide),q];rfl,h⟩
  .obtain⟨x,i,q,h⟩:=r1 (s:=s2) H l;exact⟨x,i,by rw[hF (by decide),eT (by decide),q];rfl,h⟩
  .by_cases z:0<n
   .obtain⟨x,i,q,h⟩:=r2 (s:=s2) H (by ext) l;exact⟨x,i,by rw[hF (by decide),hF (by decide),eT (by simp[z]),q];rfl,h⟩
   .obtain⟨x,i,q,h⟩:=r5 (w:=2) (s:=s2) H l;exact⟨x,i,by rw[hF (by decide),hF (by decide),hF (by simp[z]),hF (by decide),hF (by decide),q],h⟩
  .obtain⟨x,i,q,h⟩:=r3 (s:=s2) H l;exact⟨x,i,by rw[hF (by decide),hF (by decide),hF (by simp),eT (by decide),q];rfl,h⟩
  .obtain⟨x,i,q,h⟩:=r4 (W:=j++[il,t]) (s:=s2) l;exact⟨x,i,by rw[hF (by decide),hF (by decide),hF (by simp),hF (by decide),eT (by decide),q];rfl,h⟩
  .obtain⟨x,i,q,h⟩:=r5 (w:=5) (s:=s2) H l;exact⟨x,i,by rw[hF (by decide),hF (by decide),hF (by simp),hF (by decide),hF (by decide),q],h⟩
 obtain⟨x,i,q,h⟩:=fin;exact⟨x,i,go x i q,h⟩
abbrev CF:Xd []:=(kr (xB (ah (u_ T) (af 0) (xC .non))) (mH (av bH (ae (af 1) a_))) (mH (av bM (ae (af 0) (ae (af 1) a_)))))
def GL{env e1:aN}{s:f_}{k:Int}(h:CF.p env s=.exc (zd k) e1 s):(mr "NoText" "line" 2 3 CF:Xd []).p env s=.nx (((e1.set 3 (J (.exc (zd k)))).set 2 (J (.exc (zd k)))).set 3 Y) s:=by unfold mr;dsimp only;rw[h];rfl
def Lh{env e1:aN}{s:f_}(h:CF.p env s=.nx e1 s):(mr "NoText" "line" 2 3 CF:Xd []).p env s=.nx e1 s:=by unfold mr;dsimp only;rw[h]
def sS{a d:D}{s:f_}{k:Int}(h:CF.p [J a,J d,J .non,Y] s=.exc (zd k) [J a,J d,J .non,Y] s):aG.p [a,d] s=.ok (.int k) s:=by
 have t:=GL h;have l:(u_ T).p (.exc (zd k)) .non=J (.bl T):=rfl;have y:(jy ["NoText"] ["NoText"]).p (.exc (zd k))=J (.bl I):=by show(if(["NoText"]:VL).contains (Str.ofString "NoText")=I then J (D.bl ((["NoText"]:VL).contains (Str.ofString "NoText")))else Y)=_;rw[eT (by decide +kernel)];congr 2
 have B:(jy ["NoText"] ([]++([]++([]++([]++([]++([]++[]))))))).p (.exc (zd k))=J (.bl T):=by show(if(["NoText"]:VL).contains (Str.ofString "NoText")=I then _ else Y)=_;rw[eT (by decide +kernel)];rfl
 have j:(jy ["NoText"] ([]++([]++([]++([]++[]))))).p (.exc (zd k))=J (.bl T):=by show(if(["NoText"]:VL).contains (Str.ofString "NoText")=I then _ else Y)=_;rw[eT (by decide +kernel)];rfl
 have u:(ul "NoText" "line").p (.exc (zd k))=J (.int k):=by
  show(if(Str.ofString "NoText")=Str.ofString "NoText" then(match eD (zd k) "line" with|some i=>J (D.int i)|none=>Y)else Y)=_;rw[eT rfl]
  have:eD (zd k) "line"=J k:=by unfold eD;simp
  rw[this]
 have z:(dq ["bool"]).p (.int k)=J (.bl T):=rfl;rw[qI (by rfl)];unfold gH;rw[show i3 4 [a,d]=[J a,J d,Y,Y]from rfl];rw[aD,aK,aF,Pg,PU.au];simp only[ln,lv,bi];rw[aD,t,PU.au];simp![ln,lv,aD,bg,bc,aA,aF,bi,l,PR.bl,Pg,ol,if_false,bv,PU.au,gZ,dZ,cz,y,CV,B,j,u,z,aS,PU.bx]
def uz{a d:D}{s:f_}(h:CF.p [J a,J d,J .non,Y] s=.nx [J a,J d,J .non,Y] s):aG.p [a,d] s=.ok .non s:=by have t:=Lh h;have i:(u_ T).p D.non .non=J (.bl I):=rfl;rw[qI (by rfl)];unfold gH;rw[show i3 4 [a,d]=[J a,J d,Y,Y]from rfl];rw[aD,aK,aF,Pg,PU.au];simp only[ln,lv,bi];rw[aD,t,PU.au];simp![aD,bg,bc,aA,aF,bi,i,PR.bl,Pg,if_true,aS,PU.lr,PU.bx]
def rF{d:D}{s:f_}{k:Int}(h:bH.p [d] s=.exc (zd k) s):aG.p [.non,d] s=.ok (.int k) s:=sS (by
 unfold CF;rw[bg];simp_all![bc,aA,aj,aF,bi,Pb,nY,Pf,PR.bl,Pg];show((av bH (ae (af 1) a_):Xe []).p [J .non,J d,J .non,Y] s).go _ _=_;rw[aB,al,am,aj,Pb,aq,Pb,Pb,h]
 rfl)
def BA{d r:D}{s:f_}(h:bH.p [d] s=.ok r s):aG.p [.non,d] s=.ok .non s:=uz (by
 unfold CF;rw[bg];simp_all![bc,aA,aj,aF,bi,Pb,nY,Pf,PR.bl,Pg];show((av bH (ae (af 1) a_):Xe []).p [J .non,J d,J .non,Y] s).go _ _=_;rw[aB,al,am,aj,Pb,aq,Pb,Pb,h]
 rfl)
def oB{n:Int}{d:D}{s:f_}{k:Int}(h:bM.p [.int n,d] s=.exc (zd k) s):aG.p [.int n,d] s=.ok (.int k) s:=sS (by
 unfold CF;rw[bg];simp only[bc,aA,aj,aF,bi,Pb,O4,Pf,PR.bl,Pg,ol,if_false];show((av bM (ae (af 0) (ae (af 1) a_)):Xe []).p [J (.int n),J d,J .non,Y] s).go _ _=_;rw[aB,al,aj,Pb,al,am,aj,Pb,aq,Pb,Pb,Pb,h]
 rfl)
def Bk{n:Int}{d r:D}{s:f_}(h:bM.p [.int n,d] s=.ok r s):aG.p [.int n,d] s=.ok .non s:=uz (by
 unfold CF;rw[bg];simp only[bc,aA,aj,aF,bi,Pb,O4,Pf,PR.bl,Pg,ol,if_false];show((av bM (ae (af 0) (ae (af 1) a_)):Xe []).p [J (.int n),J d,J .non,Y] s).go _ _=_;rw[aB,al,aj,Pb,al,am,aj,Pb,aq,Pb,Pb,Pb,h]
 rfl)
def Li{ws ws':VN}{env:aN}{s s0:f_}{fm:VN}{i:Xi ws}{t:Xt ws'}{e:Xe ws'}{ds:VP}(p:D->Bool)(f:D->D)(C:i.p env s=.ok ds s0)(hl:ds.length<=100000)(j:∀x∈ds,t.p (J x::fm.map λi=>(env[i]?).getD Y) s0=.ok (p x) s0/\(p x=I->e.p (J x::fm.map λi=>(env[i]?).getD Y) s0=.ok (f x) s0))(l:ws'.contains 0=T:=by exact ys rfl)(hw:DI 1 fm ws=ws':=by exact ys rfl)(B:e.fz=I:=by exact ys rfl):
  (c6 1 fm i (n3 0 l) t e hw B).p env s=.ok (.lst ((ds.filter p).map f)) s0:=by
 have k:=ng (nv:=1) (fr:=fm.map λi=>(env[i]?).getD Y) (g:=(n3 0 l:Xg ws').p) (t:=t.p) (e:=e.p) (s:=s0) p f ds [Y] rfl λx u z hv=>match z,hv with
  |[_],_=>⟨[J x],rfl,rfl,j x u⟩
 rw[ij,C,Pb,eT hl];have y:cG (n3 0 l:Xg ws').p t.p e.p ds (v2 1 fm env) s0=.ok ((ds.filter p).map f) s0:=k;rw[y]
def kF{j:VN}{i:Nat}{e:Xe j}{z:j.contains i=I}{l:e.fz=I}{env:aN}{s s1:f_}{d x:D}(u:env[i]?=J (J d))(y:e.p env s=.ok x s1):(mO i e z l).p env s=.rt (.tup [d,x]) s1:=by unfold mO;dsimp only;rw[u];dsimp only;rw[y]
abbrev iD(b:Bool)(i:Nat):D:=if b=I then .int (i:Int)else .non
abbrev bj(b:Bool):Nat:=if b=I then 12 else 20
def CU(b:Bool)(l:Nat)(c:Nat):VL:=(List.range c).map λ(j:Nat)=>if b=I then tS ((l:Int)+(j:Int))++O ":" else O "| 1"
def Uu(b:Bool):D->D
 |.int k=>.str (if b=I then tS k++O ":" else O "| 1")
 |_=>.non
def GN(b:Bool)(l c:Nat):((d3 (l:Int) c).filter λ_=>I).map (Uu b)=(CU b l c).map .str:=by rw[HK.mpr λ_ _=>rfl];unfold d3 CU;rw[CY,CY];rfl
def C6{x y:D}{b:Bool}:i_ [x,y] (if b=I then 1 else 0)=J (if b=I then y else x):=by cases b<;>rfl
def hX{b:Bool}:cm.p [.bl b]=J (.int (if b=I then 1 else 0)):=rfl
def jP{A:VL}:bY.p [.lst (A.map .str)]=J (.int (A.length:Int)):=by show J (D.int ((A.map D.str).length:Int))=_;rw[CM]
def BR{A:VL}{y:Str}(M:∀x∈A,PyData.strOk x=I)(hl:A.length<=100)(F:PyData.strOk y=I):∃c:Bool,o0.p (.lst (A.map .str)) (.lst [.str y])=J (.bl c)/\(c=I↔A=[y]):=by
 have nx:gu 10 (.lst (A.map .str)):=ic (k:=9) λd hd=>by
  obtain⟨x,u,rfl⟩:=sk.mp hd;exact j0 (M x u)
 have E:gu 10 (.lst [.str y]):=ic (k:=9) λd hd=>by
  have:d=.str y:=by simpa using hd
  subst this;exact j0 F
 have H:∀B:VL,Dr (B.map .str)=J (B.map PyData.str):=by
  intro B
  induction B with
  |nil=>rfl
  |cons x B l=>simp[Dr,py,l]
 obtain⟨S,e1,R,C,Q⟩:=nx;obtain⟨L,e2,U,G,P⟩:=E;have i:py (.lst (A.map .str))=J (.list (A.map PyData.str)):=by simp[py,H]
 have j:py (.lst [.str y])=J (.list [.str y]):=rfl;rw[i]at e1;cases e1;rw[j]at e2;cases e2;refine⟨(PyData.list (A.map PyData.str)).eqv (.list [.str y]),?_,?_⟩
 .rw[uc];simp only[y1,i,j];rw[eT ⟨⟨by ext,by ext⟩,d7 C (by ext),d7 G (by ext)⟩];rfl
 .cases A with
  |nil=>simp[PyData.eqv,PyData.eqvAll]
  |cons x A =>
   cases A with
   |nil=>simp[PyData.eqv,PyData.eqvAll]
   |cons z A=>simp[PyData.eqv,PyData.eqvAll]
inductive Ei(b:Bool)(B:Nat->Nat->Str->Prop)(n:Nat)(ls:VL):VL->Nat->Prop
 |a:Ei b B n ls (ls++[O ""]) ls.length
 |b1(e k:Nat)(x:Str)(he:e<=2)(hk:k<bj b+1+e)(hx:B (if b=I then bj b+1+e else n) k x):Ei b B n ls ((ls++CU b ls.length (bj b+1+e-ls.length)).set k x) (min k (bj b))
 |b2(e:Nat)(he:e<=2):Ei b B n ls (ls++CU b ls.length (bj b+1+e-ls.length)) (bj b)
 |c(k:Nat)(x:Str)(ls':VL)(hk:k<ls.length)(hx:B n k x)(h:ls'=ls.set k x\/∃(m:Nat) (y:Str),k<m/\m<ls.length/\B n m y/\ls'=(ls.set k x).set m y)(ne:ls'≠[O ""]):Ei b B n ls ls' k
 |q(h:ls.length=1):Ei b B n ls [O "?"] 0
def uC{b:Bool}{n:Nat}{ls:VL}{B:Nat->Nat->Str->Prop}{s:f_}(hl:1<=ls.length)(hm:ls.length<=bj b)(hn:n<=15)(R:b=I->ls.length=n)(hok:∀x∈ls,PyData.strOk x=I)(hB:∀n i x,B n i x->PyData.strOk x=I)(u:∀(n i:Nat)(s:f_),(b=I->i<n)->n<=15->∃x S,bL.p [.pen,.int (n:Int),iD b i] s=.ok (.str x) S/\B n i x):
  ∃(C:VL)(k:Nat)(S:f_),cF.p [.pen,.int (n:Int),.lst (ls.map .str),.bl b] s=.ok (.tup [.lst (C.map .str),.int (k:Int)]) S/\Ei b B n ls C k:=by
 have hM:bj b<=20:=by unfold bj;split<;>decide
 obtain⟨w,s1,w0,w1,q1⟩:=bn (s:=s) (size:=5) (by decide) (by decide);rw[wu (by rfl)];unfold gU;rw[show i3 10 [D.pen,.int (n:Int),.lst (ls.map .str),.bl b]=[J .pen,J (.int (n:Int)),J (.lst (ls.map .str)),J (.bl b),Y,Y,Y,Y,Y,Y]from rfl];rw[aD,aK,aB,al,aj,Pb,al,aF,Pb,aq,Pb,Pb,Pb,aH,q1,Pg,PU.au];simp only[ln,lv];by_cases h0:w=0
 .refine⟨_,_,s1,?_,.a⟩;have a1:ao.p (.lst (ls.map .str)) (.lst [.str (O "")])=J (.lst ((ls++[O ""]).map .str)):=g9 (A:=ls) (B:=[O ""]) (by simp;ext);rw[aD,bg];simp![bc,aA,aF,aH,Dl,decide_eq_true h0,PR.bl,Pg,if_true,aS,j6,al,bf,aR,aq,n_,pa,show(0+1:Nat)<=100000 by decide,a1,aX,jP,show(0+1+1:Nat)<=100000 by decide,PU.lr,PU.bx]
 rw[aD,bg];simp![bc,aA,aF,aH,Dl,decide_eq_false h0,PR.bl,Pg,ol,if_false,bv,PU.au];rw[aD,bg];by_cases h1:w=1
 .simp![bc,aA,aF,aH,Dl,decide_eq_true h1,PR.bl,Pg,if_true];obtain⟨e,s2,e0,e1,q2⟩:=bn (s:=s1) (size:=3) (by decide) (by decide);obtain⟨e,rfl⟩:∃m:Nat,e=m:=⟨e.toNat,by ext⟩;have p8:(if b=I then D.int 12 else .int 20)=.int (bj b:Int):=by cases b<;>rfl
  obtain⟨c,X⟩:∃c,c=bj b+1+e-ls.length:=⟨_,rfl⟩;have cc:((bj b:Int)+1+(e:Int)-(ls.length:Int)).toNat=c:=by ext
  have c1:=Li (ws:=[6,9]) (ws':=[]) (env:=[J .pen,J (.int (n:Int)),J (.lst (ls.map .str)),J (.bl b),J (.int w),Y,Y,Y,J (.int (bj b:Int)),Y]) (s:=s1) (s0:=s2) (fm:=[3]) (i:=iw Qs (ae (k4 bY (ae (af 2) a_)) (ae (ah ao (ah ao (af 8) (xC (.int 1))) (av aM (ae (af 0) (ae (xC (.int 3)) a_)))) a_))) (t:=i4) (e:=ah ka (aU (ae (xC (.str "| 1")) (ae (ah ao (k4 c7 (ae (af 0) a_)) (xC (.str ":"))) a_))) (k4 cm (ae (af 1) a_))) (ds:=d3 (ls.length:Int) c) (λ_=>I) (Uu b) (by
   simp![fU,al,aX,aq,jP,aA,aF,aH,fh,aB,q2]
   rw[NO (by ext),cc];rfl) (by rw[pJ];ext) (λy H=>by
   obtain⟨j,rfl,hj⟩:∃j:Int,y=.int j/\0<=j/\j<100:=by
    unfold d3 at H;obtain⟨m,hm,rfl⟩:=sk.mp H
    have:=Q_.mp hm
    exact⟨_,rfl,by ext,by ext⟩
   refine⟨rfl,λ_=>?_⟩;have l:=cO hj.1 hj.2;have a1:ao.p (.str (tS j)) (.str (O ":"))=J (.str (tS j++O ":")):=aO (by have:(O ":").length=1:=rfl;have:=xO;ext);show(ah ka (aU (ae (xC (.str "| 1")) (ae (ah ao (k4 c7 (ae (af 0) a_)) (xC (.str ":"))) a_))) (k4 cm (ae (af 1) a_)):Xe []).p [J (.int j),J (.bl b)] s2=_;simp![aA,bf,al,aF,aR,aX,aq,dC (jm hj.1 hj.2),a1,n_,pa,show(0+1+1:Nat)<=100000 by decide,if_true,hX,bW,C6]
   cases b<;>rfl)
  rw[GN]at c1;have gd:ao.p (.lst (ls.map .str)) (.lst ((CU b ls.length c).map .str))=J (.lst ((ls++CU b ls.length c).map .str)):=g9 (by unfold CU;simp;ext);have lE:(CU b ls.length c).length=c:=by unfold CU;simp
  obtain⟨F,Z⟩:∃F,F=ls++CU b ls.length c:=⟨_,rfl⟩;have lF:F.length=bj b+1+e:=by rw[Z,Dc,lE];ext
  rw[<-Z]at gd;obtain⟨k,P,k0,k1,q3⟩:=bn (s:=s2) (size:=2*(F.length:Int)) (by ext) (by ext);obtain⟨k,rfl⟩:∃m:Nat,k=m:=⟨k.toNat,by ext⟩;rw[aD,aK];simp![aA,bf,al,aF,aH,aq,n_,pa,show(0+1+1:Nat)<=100000 by decide,if_true,aX,hX,bW,C6,p8,Pg,ln,lv,PU.au];rw[aD,gG,aA,am,am,aj,Pb,c1,Pb,gd];simp_all![Pf,Pg,iU,ln,lv,PU.au];have mu:jT.p (.int 2) (.int (F.length:Int))=J (.int (2*(F.length:Int))):=eT (IntMulOk.of_left (intBits_le_64 (by decide) (by decide)));rw[aD,aK];simp![aB,al,aA,aF,aH,aX,aq,jP,mu,q3,Pg,ln,lv,PU.au];rw[aD,bg];have lt:JL.p (.int (k:Int)) (.int (F.length:Int))=J (.bl (decide ((k:Int)<(F.length:Int)))):=rfl;simp![bc,aA,aX,al,aq,jP,lt,PR.bl,Pg];have mn:∀k:Nat,Fw.p [.int (k:Int),.int (bj b:Int)]=J (.int ((min k (bj b):Nat):Int)):=λk=>by
   rw[FC];congr 2;split<;>ext
  have U:(if b=I then F.length else n)<=15:=by
   rcases Bool.eq_false_or_eq_true b with E|E
   .rw[eT E]
    have:bj b=12:=by unfold bj;rw[eT E]
    ext
   .rw[hF (by simp[E])];exact hn
  by_cases Q:k<F.length
  .obtain⟨x,s4,q4,hx⟩:=u (if b=I then F.length else n) k P (λE=>by rw[eT E];exact Q) U;have nn:(if b=I then D.int (F.length:Int)else .int (n:Int))=.int ((if b=I then F.length else n:Nat):Int):=by cases b<;>rfl
   rw[decide_eq_true (show (k:Int)<(F.length:Int) by ext),eT rfl,vO,oU (v:=.str x) (s1:=s4) (j:=(k:Int)) (s2:=s4) (ds:=F.map .str) (n:=k) (by
    simp![aB,al,aA,bf,aX,aq,jP,n_,pa,show(0+1+1:Nat)<=100000 by decide,if_true,hX,bW,C6,aF,bi,nn]
    exact q4) (by rfl) rfl (by rw[CM];exact lp Q)]
   refine⟨_,_,s4,?_,.b1 e k x (by ext) (by ext) (by rw[<-lF];exact hx)⟩;rw[PU.au];simp only[ln,lv];rw[<-Re,Z,X];rw[kF (x:=.int ((min k (bj b):Nat):Int)) (s1:=s4) rfl (by simp![aX,al,aq,mn])];rfl
  .rw[decide_eq_false (show ¬(k:Int)<(F.length:Int) by ext),hF (by decide),bv,PU.au];refine⟨_,_,P,?_,.b2 e (by ext)⟩;rw[<-X,<-Z];rw[kF (x:=.int ((min k (bj b):Nat):Int)) (s1:=P) rfl (by simp![aX,al,aq,mn])];rw[show min k (bj b)=bj b by ext];rfl
 .simp![bc,aA,aF,aH,Dl,decide_eq_false h1,PR.bl,Pg,ol,if_false,bv,PU.au];obtain⟨k,s2,k0,k1,q2⟩:=bn (s:=s1) (size:=(ls.length:Int)) (by ext) (by ext);obtain⟨k,rfl⟩:∃m:Nat,k=m:=⟨k.toNat,by ext⟩;have Q:k<ls.length:=by ext
  have cl:oW.p [.lst (ls.map .str)]=J (.lst (ls.map .str)):=by show(if(ls.map D.str).length<=100000 then J (D.lst (ls.map .str))else Y)=_;rw[eT (by simp;ext)]
  rw[aD,aK];simp![aB,al,aX,aq,jP,q2,Pg,ln,lv,PU.au];rw[aD,gG];simp![aX,al,aq,cl,Pg,iU,if_true,ln,lv,PU.au];obtain⟨x,P,q3,hx⟩:=u n k s2 (λE=>by rw[<-R E];exact Q) hn
  rw[aD,vO,oU (v:=.str x) (s1:=P) (j:=(k:Int)) (s2:=P) (ds:=ls.map .str) (n:=k) (by
   simp![aB,al,aA,bf,aX,aq,n_,pa,show(0+1+1:Nat)<=100000 by decide,if_true,hX,bW,C6,aF,bi]
   exact q3) (by rfl) rfl (by rw[CM];exact lp Q),PU.au]
  simp only[ln,lv];rw[<-Re];obtain⟨dd,s4,m0,m1,q4⟩:=bn (s:=P) (size:=(ls.length:Int)-(k:Int)) (by ext) (by ext);obtain⟨m,aa⟩:∃m:Nat,(k:Int)+dd=m:=⟨((k:Int)+dd).toNat,by ext⟩;have M:m<ls.length:=by ext
  rw[aD,aK];simp![aB,al,aA,aX,aq,jP,Fz,q4,fh,aa,Pg,ln,lv,PU.au];have gt:Dq.p (.int (m:Int)) (.int (k:Int))=J (.bl (decide ((m:Int)>(k:Int)))):=rfl;have G:∀(L:VL)(s5:f_)(z7:D),L.length=ls.length->(∀y∈L,PyData.strOk y=I)->(L=ls.set k x\/∃(m:Nat)(y:Str),k<m/\m<ls.length/\B n m y/\L=(ls.set k x).set m y) ->
    ∃(C:VL) (j:Nat) (S:f_),((aw (kr (xB (ah o0 (af 6) (aU (ae (xC (.str "")) a_)))) (jx 6 (aU (ae (xC (.str "?")) a_))) e_) (mO 6 (af 5)):Xd [6,9]).p [J .pen,J (.int (n:Int)),J (.lst (ls.map .str)),J (.bl b),J (.int w),J (.int (k:Int)),J (.lst (L.map .str)),J z7,Y,Y] s5).fin=.ok (.tup [.lst (C.map .str),.int (j:Int)]) S/\Ei b B n ls C j:=λL s5 z7 lL ab hL=>by
   obtain⟨c,ec,X⟩:=BR (A:=L) (y:=O "") ab (by ext) (bZ "");rw[aD,bg];dsimp![bc,aA,am,bf,aF,aR,n_,pa,show(0+1:Nat)<=100000 by decide,if_true];rw[show o0.p (.lst (L.map .str)) (.lst [.str (Str.ofString "")])=_ from ec];simp only[Pf,PR.bl,Pb,Pg]
   cases c with
   |true =>
    have e:=X.mp rfl;have l1:ls.length=1:=by rw[<-lL,e];rfl
    have k0:k=0:=by ext
    refine⟨[O "?"],0,s5,?_,.q l1⟩;rw[eT rfl,gG];simp_all![bf,al,aF,aR,aq,Pb,n_,pa,show(0+1:Nat)<=100000 by decide,Pg,iU,ln,lv,PU.au];rw[kF (d:=.lst [.str (Str.ofString "?")]) (x:=.int (k:Int)) (s1:=s5) rfl rfl,k0];rfl
   |false =>
    refine⟨L,k,s5,?_,.c k x L Q hx hL λe=>by have:=X.mpr e;cases this⟩;rw[hF (by decide),bv,PU.au,kF (d:=.lst (L.map .str)) (x:=.int (k:Int)) (s1:=s5) rfl rfl];rfl
  have W:∀y∈ls.set k x,PyData.strOk y=I:=λy H=>by
   rcases Ls H with h|h
   .exact hok y h
   .rw[h];exact hB _ _ _ hx
  rw[aD,bg];simp![bc,aA,gt,PR.bl,Pg];by_cases hg:k<m
  .obtain⟨y,s5,q5,H⟩:=u n m s4 (λE=>by rw[<-R E];exact M) hn
   rw[decide_eq_true (show (m:Int)>(k:Int) by ext),eT rfl,vO,oU (v:=.str y) (s1:=s5) (j:=(m:Int)) (s2:=s5) (ds:=(ls.set k x).map .str) (n:=m) (by
    simp![aB,al,aA,bf,aX,aq,n_,pa,show(0+1+1:Nat)<=100000 by decide,if_true,hX,bW,C6,aF,bi]
    exact q5) (by rfl) rfl (by rw[CM,L4];exact lp M),PU.au]
   simp only[ln,lv];rw[<-Re]
   exact G _ s5 _ (by simp) (λz hz=>by
    rcases Ls hz with h|h
    .exact W z h
    .rw[h];exact hB _ _ _ H) (.inr ⟨m,y,hg,M,H,rfl⟩)
  .rw[decide_eq_false (show ¬(m:Int)>(k:Int) by ext),hF (by decide),bv,PU.au];exact G _ s4 _ (by simp) W (.inl rfl)
def Tn(b:Bool)(j:Nat):Str:=if b=I then tS (j:Int)++O ":" else O "| 1"
def BJ{b:Bool}{i:VL}{c j:Nat}(u:j<i.length+c)(l:¬j<i.length):(i++CU b i.length c)[j]?=J (Tn b j):=by rw[DC (by ext)];unfold CU;rw[CG,QW (by ext)];unfold Tn;simp only[Q7];rw[show((i.length:Int)+((j-i.length:Nat):Int))=(j:Int) by ext]
def wZ{b:Bool}{B:Nat->Nat->Str->Prop}{n k:Nat}{l u:VL}(h:Ei b B n l u k)(h1:1<=l.length)(hm:l.length<=bj b)(aa:b=I->l.length=n)(G:Nat->Str->Prop)(hG:∀j x,l[j]?=J x->G j x)(hE:∀j,l.length<=j->j<100->G j (Tn b j))(Q:Str->Prop)(e1:∀j x,G j x->Q x)(e2:∀n i x,B n i x->Q x)(e3:Q (O ""))(e4:Q (O "?"))(n0:¬G 0 (O "")):
  u.length<=24/\u≠[]/\u≠[O ""]/\(∀x∈u,Q x)/\(∀j,j<k->j<bj b/\∃x,u[j]?=J x/\G j x)/\∃x,u[k]?=J x/\(B (if b=I then u.length else n) k x\/(x=O ""/\k=l.length/\u.length=k+1)\/(k=bj b/\G k x)\/(x=O "?"/\k=0/\u.length=1)):=by
 have hM:12<=bj b/\bj b<=20:=by unfold bj;split<;>decide
 have gl:∀j,j<l.length->∃x,l[j]?=J x/\G j x:=λj C=>⟨l[j],C_ C,hG j _ (C_ C)⟩;have el:∀x∈l,Q x:=λx E=>by
  obtain⟨j,C⟩:=Pw.mp E;exact e1 j x (hG j x C)
 have F:∀e:Nat,e<=2->(l++CU b l.length (bj b+1+e-l.length)).length=bj b+1+e/\(∀j,j<bj b+1+e->∃x,(l++CU b l.length (bj b+1+e-l.length))[j]?=J x/\G j x):=λe P=>by
  refine⟨by unfold CU;simp;ext,λj C=>?_⟩;by_cases h:j<l.length
  .obtain⟨x,ex,gx⟩:=gl j h;exact⟨x,by rw[BH h];exact ex,gx⟩
  .exact⟨_,BJ (by ext) h,hE j (by ext) (by ext)⟩
 have U:∀e:Nat,e<=2->∀x∈l++CU b l.length (bj b+1+e-l.length),Q x:=λe P x E=>by
  obtain⟨j,C⟩:=Pw.mp E;have ab:j<bj b+1+e:=by have:=(w_.mp C).1;rw[(F e P).1]at this;exact this
  obtain⟨y,M,H⟩:=(F e P).2 j ab;rw[M]at C;cases C;exact e1 j _ H
 have two:∀L:VL,2<=L.length->L≠[]/\L≠[O ""]:=λL hL=>⟨λe=>by rw[e]at hL;simp at hL,λe=>by rw[e]at hL;simp at hL⟩
 cases h with
 |a =>
  have t:=two (l++[O ""]) (by simp;ext);refine⟨by simp;ext,t.1,t.2,λx E=>?_,λj C=>?_,O "",by simp,.inr (.inl ⟨rfl,rfl,by simp⟩)⟩
  .rcases v_.mp E with E|E
   .exact el x E
   .rw[yu.mp E];exact e3
  .obtain⟨x,ex,gx⟩:=gl j C;exact⟨by ext,x,by rw[BH C];exact ex,gx⟩
 |b1 e k0 x P W E =>
  obtain⟨R,fg⟩:=F e P;have t:=two ((l++CU b l.length (bj b+1+e-l.length)).set k0 x) (by rw[L4,R];ext);have lS:((l++CU b l.length (bj b+1+e-l.length)).set k0 x).length=bj b+1+e:=by rw[L4,R]
  refine⟨by ext,t.1,t.2,λy S=>?_,λj C=>?_,?_⟩
  .rcases Ls S with h|h
   .exact U e P y h
   .rw[h];exact e2 _ _ _ E
  .obtain⟨y,M,H⟩:=fg j (by ext);exact⟨by ext,y,by rw[pk (by ext)];exact M,H⟩
  .by_cases hc:k0<=bj b
   .rw[Nat.min_eq_left hc];refine⟨x,by rw[B6 (by rw[R];exact W)],.inl ?_⟩;rw[lS];exact E
   .rw[Nat.min_eq_right (by ext)];obtain⟨y,M,H⟩:=fg (bj b) (by ext);exact⟨y,by rw[pk (by ext)];exact M,.inr (.inr (.inl ⟨rfl,H⟩))⟩
 |b2 e P =>
  obtain⟨R,fg⟩:=F e P;have t:=two (l++CU b l.length (bj b+1+e-l.length)) (by rw[R];ext);refine⟨by ext,t.1,t.2,U e P,λj C=>?_,?_⟩
  .obtain⟨y,M,H⟩:=fg j (by ext);exact⟨C,y,M,H⟩
  .obtain⟨y,M,H⟩:=fg (bj b) (by ext);exact⟨y,M,.inr (.inr (.inl ⟨rfl,H⟩))⟩
 |c k x u W E h ne =>
  have base:∀(L:VL),L.length=l.length->(∀j,j<k->L[j]?=l[j]?)->L[k]?=J x->(∀y∈L,Q y)->L≠[O ""]->L.length<=24/\L≠[]/\L≠[O ""]/\(∀x∈L,Q x)/\(∀j,j<k->j<bj b/\∃x,L[j]?=J x/\G j x)/\∃x,L[k]?=J x/\(B (if b=I then L.length else n) k x\/(x=O ""/\k=l.length/\L.length=k+1)\/(k=bj b/\G k x)\/(x=O "?"/\k=0/\L.length=1)):=λL lL C ac ag Z=>by
   refine⟨by ext,λe=>by rw[e]at lL;simp at lL;ext,Z,ag,λj X=>?_,x,ac,.inl ?_⟩
   .obtain⟨y,M,H⟩:=gl j (by ext);exact⟨by ext,y,by rw[C j X];exact M,H⟩
   .have:(if b=I then L.length else n)=n:=by
     split
     .rename_i hb;rw[lL];exact aa hb
     .rfl
    rw[this];exact E
  rcases h with rfl|⟨m,y,ak,an,S,rfl⟩
  .refine base _ (by simp) (λj C=>pk (by ext)) (B6 W) (λy S=>?_) ne;rcases Ls S with h|h
   .exact el y h
   .rw[h];exact e2 _ _ _ E
  .refine base _ (by simp) (λj C=>by rw[pk (by ext),pk (by ext)]) (by rw[pk (by ext)];exact B6 W) (λz hz=>?_) ne;rcases Ls hz with h|h
   .rcases Ls h with h|h
    .exact el z h
    .rw[h];exact e2 _ _ _ E
   .rw[h];exact e2 _ _ _ S
 |q h =>
  refine⟨by simp,by simp,λe=>?_,λx E=>by rw[yu.mp E];exact e4,λj C=>absurd C (L6 _),O "?",rfl,.inr (.inr (.inr ⟨rfl,rfl,rfl⟩))⟩;injection e with e
  exact absurd (congrArg Str.length e) (by decide)
def Lj(x:Str):Prop:=No 10 x/\x.length<=21000/\PyData.strOk x=I
def oo{i:VL}(h:∀x∈i,Lj x)(hl:i.length<=24):h8.p ml [.lst (i.map .str)]=J (.str (Txt.join ml i))/\(Txt.join ml i).length<=1000000 :=
 ⟨k9 (c:=21000) (m:=24) (λx j=>(h x j).2.1) hl (by rw[vH];decide),wy (ig (c:=21000) (m:=24) (λx j=>(h x j).2.1) hl) (by rw[vH];decide)⟩
def qG{i:VL}(j:i≠[])(l:i≠[O ""]):1<=(Txt.join ml i).length:=by
 cases i with
 |nil=>exact absurd rfl j
 |cons x i =>
  cases i with
  |nil =>
   rw[bU];rcases Nat.eq_zero_or_pos x.length with h|h
   .exfalso;have u:=gN (x:=x)
    have:x=O "":=cg (by rw[Tt (show x.cps.toList.length=0 by ext)];rfl)
    exact l (by rw[this])
   .exact h
  |cons y i=>rw[eX,strLen_append,strLen_append,vH];ext
def Row.mono{n m:Int}{ps:List l0}(h:Row n ps)(j:n<=m):Row m ps:=⟨h.ris,by have:=h.len;ext,λp i=>by have:=h.mem p i;exact⟨this.1,by ext,this.2.2⟩⟩
def GS(n j:Nat)(x:Str):Prop:=∃ps,x=line (j:Int) ps/\Row n ps/\df ps/\j<100
def HE{n j:Nat}{x:Str}(h:GS n j x):Lj x:=by obtain⟨ps,rfl,_,ok,l⟩:=h;exact⟨Gi _ _,by have:=vf (i:=(j:Int)) (by ext) (by ext) ok;ext,Ga _ _⟩
def Bf(j:Nat):tS (j:Int)++O ":"=line (j:Int) []:=(bU _ _).symm
def vx{j:Nat}{ps:List l0}:1<=(line (j:Int) ps).length:=qw (by rw[strLen_append,dE];ext)
def O9{n k:Nat}{C l:VL}(h:Ei I cC n C l k)(hl:C.length=n)(h1:1<=n)(W:n<=12)(hG:∀j x,C[j]?=J x->GS n j x):(∀s,bH.p [.str (Txt.join ml l)] s=.exc (zd (k:Int)) s)/\h8.p ml [.lst (l.map .str)]=J (.str (Txt.join ml l)):=by
 obtain⟨Q,n0,n1,M,F,x,z,bad⟩:=wZ h (by ext) (by show C.length<=12;ext) (λ_=>hl) (λj x=>GS n j x) hG (λj R u=>⟨[],Bf j,oA (by ext),O7,u⟩) Lj (λj x g=>HE g) (λn i x b=>⟨b.2.1,b.2.2.1,b.2.2.2⟩) ⟨by decide +kernel,by decide,by decide +kernel⟩ ⟨by decide +kernel,by decide,by decide +kernel⟩ (λ⟨ps,e,_⟩=>by
  have:=vx (j:=0) (ps:=ps)
  rw[<-e]at this
  exact absurd this (by decide))
 obtain⟨S,X⟩:=oo M Q;refine⟨λs=>?_,S⟩;have kl:k<l.length:=(w_.mp z).1;have u:l.length<=100:=by ext
 have nn:n<=l.length:=by
  have lk:C.length<=l.length:=by
   cases h with
   |a=>simp
   |b1 e k0 x U P z=>rw[L4];simp
   |b2 e U=>simp
   |c k x l P z h ne=>rcases h with rfl | ⟨m,y,_,_,_,rfl⟩<;>simp
   |q h=>simp;ext
  ext
 refine tw (n:=l.length) rfl u X (λy Z=>(M y Z).1) (qG n0 n1) (λj R=>?_) ?_
 .obtain⟨E,y,ey,ps,e,hr,ok,_⟩:=F j R;exact⟨ps,by rw[ey,e],hr.mono (by ext),ok,E⟩
 .rcases bad with b|⟨rfl,P,L⟩|⟨P,ps,rfl,hr,ok,_⟩|⟨rfl,rfl,L⟩
  .obtain⟨w,H,r,B,G⟩:=b.1;exact⟨x,w,H,r,z,B,G⟩
  .obtain⟨w,H,r,B,G⟩:=(iW (n:=l.length) (i:=k) (x:=O "") (aI (by decide +kernel)) (jK (by decide))).1;exact⟨_,w,H,r,z,B,G⟩
  .have B:=qi (i:=k) (hr.mono (m:=(l.length:Int)) (by ext)) ok (by ext);exact⟨_,_,_,_,z,B,.inl (.inl (by rw[P];show(12:Int)<=((12:Nat):Int);ext))⟩
  .obtain⟨w,H,r,B,G⟩:=(iW (n:=l.length) (i:=0) (x:=O "?") (aI (by decide +kernel)) (kD (c:=63) (by decide +kernel) (by ext))).1;exact⟨_,w,H,r,z,B,G⟩
def GR(n j:Nat)(x:Str):Prop:=∃r:Rw,x=q_ r/\KO n r/\jO r
def HG{n j:Nat}{x:Str}(h:GR n j x):Lj x:=by obtain⟨r,rfl,_,ok⟩:=h;exact⟨BP _,by have:=tQ ok;ext,Bb _⟩
def zS:O "| 1"=q_ ([],1,1):=by decide +kernel
def zK{n:Nat}:KO (n:Int) ([],1,1)/\jO ([],1,1):=⟨⟨oA (by ext),Gx (.inl rfl)⟩,⟨O7,Gx (.inl rfl)⟩⟩
def sP(r:Rw):1<=(q_ r).length:=by
 unfold q_
 cases r.1 with
 |nil=>exact qw (by decide)
 |cons p ps=>exact qw (by unfold b_;rw[strLen_append,strLen_append];have:=qJ p.1;ext)
def O_{n k:Nat}{C l:VL}(h:Ei T (λn _ x=>bR n x) n C l k)(S:1<=C.length)(E:C.length<=20)(R:∀j x,C[j]?=J x->GR n j x):(∀s,bM.p [.int (n:Int),.str (Txt.join ml l)] s=.exc (zd (k:Int)) s)/\h8.p ml [.lst (l.map .str)]=J (.str (Txt.join ml l)):=by
 obtain⟨F,W,U,B,z,x,H,bad⟩:=wZ h S E (λe=>by cases e) (λj x=>GR n j x) R (λj _ _=>⟨([],1,1),zS,(zK (n:=n)).1,(zK (n:=n)).2⟩) Lj (λj x g=>HG g) (λn i x b=>⟨b.2.1,b.2.2.1,b.2.2.2⟩) ⟨by decide +kernel,by decide,by decide +kernel⟩ ⟨by decide +kernel,by decide,by decide +kernel⟩ (λ⟨r,e,_⟩=>by
  have:=sP r
  rw[<-e]at this
  exact absurd this (by decide))
 obtain⟨G,M⟩:=oo B F;refine⟨λs=>pK (by ext) (by ext) M (λy P=>(B y P).1) (qG W U) (λj L=>?_) ⟨x,H,?_⟩,G⟩
 .obtain⟨u,y,Q,r,e,hr,ok⟩:=z j L;exact⟨r,by rw[Q,e],hr,ok,u⟩
 .rcases bad with b|⟨rfl,_,_⟩|⟨X,r,rfl,hr,ok⟩|⟨rfl,_,_⟩
  .exact b.1 _
  .exact (kG (n:=n) (x:=O "") (aI (by decide +kernel))).1 _
  .exact .inl ⟨_,_,_,_,_,pG hr ok,.inl (.inl (by rw[X];show(20:Int)<=((20:Nat):Int);ext))⟩
  .exact (kG (n:=n) (x:=O "?") (aI (by decide +kernel))).1 _
def qZ{n:Nat}(Q:n<=12):∀(c lo:Nat) (z:VA) (s:f_),lo+c<=90->∃(L:VL) (B:f_),cG (n3 0:Xg []).p (i4:Xt []).p (tx h8 (xC (.str " ")) (ae (av bI (ae (af 1) (ae (af 2) (ae (af 0) a_)))) a_):Xe []).p (d3 (lo:Int) c) [z,J .pen,J (.int (n:Int))] s=.ok (L.map .str) B/\L.length=c/\∀(j:Nat) x,L[j]?=J x->∃ps,x=line ((lo+j:Nat):Int) ps/\Row n ps/\df ps
 |0,lo,z,s,_=>⟨[],s,rfl,rfl,λj x h=>by simp at h⟩
 |c+1,lo,z,s,h=>by
  obtain⟨ps,s1,u,hr,ok⟩:=yZ (n:=n) (i:=lo) (s:=s) (by ext) (by ext);obtain⟨L,s2,E,hl,hL⟩:=qZ Q c (lo+1) (J (.int (lo:Int))) s1 (by ext);have G:=uY (i:=lo) ok (by ext);have H:=jn (ts:=(tS (lo:Int)++i6)::ps.map b_) (λy M=>by have:=G y M;ext) (by have:=ok.1;simp;ext);refine⟨line (lo:Int) ps::L,s2,?_,by simp[hl],λj x l=>?_⟩
  .rw[u5,cG,show(n3 0:Xg []).p (.int (lo:Int)) [z,J .pen,J (.int (n:Int))]=J [J (.int (lo:Int)),J .pen,J (.int (n:Int))]from rfl];dsimp only;have e3:(tx h8 (xC (.str " ")) (ae (av bI (ae (af 1) (ae (af 2) (ae (af 0) a_)))) a_):Xe []).p [J (.int (lo:Int)),J .pen,J (.int (n:Int))] s=.ok (.str (line (lo:Int) ps)) s1:=by
    dsimp![ck,aF,aR,aB,am,u];rw[show h8.p (Str.ofString " ") _=_ from H];rfl
   rw[show(i4:Xt []).p [J (.int (lo:Int)),J .pen,J (.int (n:Int))] s=.ok I s from rfl,Pb,eT rfl,e3,Pb];rw[show((lo:Int)+1)=((lo+1:Nat):Int) by ext,E,Pb];rfl
  .cases j with
   |zero=>cases l;exact⟨ps,rfl,hr,ok⟩
   |succ j =>
    obtain⟨F,e,P,C⟩:=hL j x (by simpa using l);exact⟨F,by rw[e,show lo+1+j=lo+(j+1) by ext],P,C⟩
def td{n:Nat}(B:n<=12):∀(c:Nat) (lo:Int) (z:VA) (s:f_),∃(L:VL) (l:f_),cG (n3 0:Xg []).p (i4:Xt []).p (tx h8 (xC (.str " ")) (ae (av bI (ae (af 1) (ae (af 2) (ae (xC .non) a_)))) a_):Xe []).p (d3 lo c) [z,J .pen,J (.int (n:Int))] s=.ok (L.map .str) l/\L.length=c/\∀x∈L,GR n 0 x
 |0,lo,z,s=>⟨[],s,rfl,rfl,λx h=>by cases h⟩
 |c+1,lo,z,s=>by
  obtain⟨r,s1,j,hr,ok⟩:=zW (n:=n) (s:=s) (by ext);obtain⟨L,s2,u,hl,hL⟩:=td B c (lo+1) (J (.int lo)) s1;have y:=yv ok;refine⟨q_ r::L,s2,?_,by simp[hl],λx i=>?_⟩
  .rw[u5,cG,show(n3 0:Xg []).p (.int lo) [z,J .pen,J (.int (n:Int))]=J [J (.int lo),J .pen,J (.int (n:Int))]from rfl];dsimp only;have e3:(tx h8 (xC (.str " ")) (ae (av bI (ae (af 1) (ae (af 2) (ae (xC .non) a_)))) a_):Xe []).p [J (.int lo),J .pen,J (.int (n:Int))] s=.ok (.str (q_ r)) s1:=by
    dsimp![ck,aF,aR,bi,aB,am,j];rw[show h8.p (Str.ofString " ") _=_ from y];rfl
   rw[show(i4:Xt []).p [J (.int lo),J .pen,J (.int (n:Int))] s=.ok I s from rfl,Pb,eT rfl,e3,Pb,u,Pb];rfl
  .rcases ki.mp i with rfl|i
   .exact⟨r,rfl,hr,ok⟩
   .exact hL x i
abbrev QN:Xd []:=(aw (aQ 11 (ah o0 (ah jj (af 7) (xC (.int 2))) (xC (.int 0))))
 (aw (aQ 12 (ah ka (aU (ae (af 5) (ae (xC .non) a_))) (k4 cm (ae (af 11) a_))))
 (aw (aQ 13 (ah ka (aU (ae (af 6) (ae (af 4) a_))) (k4 cm (ae (af 11) a_))))
 (aw (pS (av cF (ae (af 2) (ae (ah ka (aU (ae (af 5) (ae (af 3) a_))) (k4 cm (ae (af 11) a_))) (ae (af 13) (ae (af 11) a_))))) (Di (yV (n3 14) (yV (n3 15) Dh)) 2))
 (aw (kr (xB (ah (u_ I) (av aG (ae (af 12) (ae (tx h8 (xC (.str "\n")) (ae (af 13) a_)) a_))) (xC .non))) (aW (xC (.bl T))) e_)
 (kr (xB (ah x2 (av aG (ae (af 12) (ae (tx h8 (xC (.str "\n")) (ae (af 14) a_)) a_))) (af 15))) (aW (xC (.bl T))) e_))))))
abbrev eB(x0:VA)(tn n:Int)(L:VL)(m:Int)(Q:VL)(zs:List (VA)):aN:=x0::J (.int tn)::J .pen::J (.int n)::J (.lst (L.map .str))::J (.int m)::J (.lst (Q.map .str))::zs
def LX{w k:Int}:x2.p (.int w) (.int k)=J (.bl (!decide (w=k))):=rfl
def Aw{B u G l C M R F E:VA}{H j:Int}{n m:Nat}{L Q ls i:VL}{b:Bool}{ud:D}{k n':Nat}{s s1:f_}(h0:0<=j)(eb:decide (j % 2=0)=b)(X:(if b=I then D.non else .int (m:Int))=ud)(y:(if b=I then D.lst (L.map .str)else .lst (Q.map .str))=.lst (ls.map .str))(P:(if b=I then D.int (n:Int)else .int (m:Int))=.int (n':Int))(q:cF.p [.pen,.int (n':Int),.lst (ls.map .str),.bl b] s=.ok (.tup [.lst (i.map .str),.int (k:Int)]) s1)(S:h8.p ml [.lst (ls.map .str)]=J (.str (Txt.join ml ls)))(U:aG.p [ud,.str (Txt.join ml ls)] s1=.ok .non s1)(Z:h8.p ml [.lst (i.map .str)]=J (.str (Txt.join ml i)))(g2:aG.p [ud,.str (Txt.join ml i)] s1=.ok (.int (k:Int)) s1):
  QN.p (eB B H n L m Q [J (.int j),u,G,l,C,M,R,F,E]) s=.nx (eB B H n L m Q [J (.int j),u,G,l,J (.bl b),J ud,J (.lst (ls.map .str)),J (.lst (i.map .str)),J (.int (k:Int))]) s1:=by
 have em:jj.p (.int j) (.int 2)=J (.int (j % 2)):=pY (by decide);have i0:(u_ I).p D.non .non=J (.bl T):=rfl;have W:o0.p (.int (j % 2)) (.int 0)=J (.bl b):=by rw[Dl,eb]
 have two:(0+1+1:Nat)<=100000:=by decide
 unfold QN eB;rw[aD,aK];simp![aA,aF,aH,em,W,Pg,ln,lv,PU.au];rw[aD,aK];simp![aA,bf,al,aF,bi,aq,n_,pa,two,if_true,aX,hX,bW,C6,X,Pg,ln,lv,PU.au];rw[aD,aK];simp![aA,bf,al,aq,n_,pa,two,if_true,aX,hX,bW,C6,y,Pg,ln,lv,PU.au];rw[aD,za];simp![aB,al,aA,bf,aq,n_,pa,two,if_true,aX,hX,bW,C6,P,q,Pg];refine(congrArg (λz:PS=>z.then _) (show _=PS.nx [B,J (.int H),J .pen,J (.int (n:Int)),J (.lst (L.map .str)),J (.int (m:Int)),J (.lst (Q.map .str)),J (.int j),u,G,l,J (.bl b),J ud,J (.lst (ls.map .str)),J (.lst (i.map .str)),J (.int (k:Int))] s1 from rfl)).trans ?_;rw[PU.au,aD,bg];dsimp![bc,aA,aB,am,ck,aF,aR,bi];rw[show h8.p (Str.ofString "\n") _=_ from S];simp only[Pf,Pb,U,i0,PR.bl,Pg,ol,if_false,bv,PU.au];rw[bg];dsimp![bc,aA,aB,am,ck,aF,aR];rw[show h8.p (Str.ofString "\n") _=_ from Z];simp only[Pf,Pb,g2,LX,decide_true,CV,PR.bl,Pg,ol,if_false,bv]
def GO{x0 z8 z9 z10 z11 z12 z13 z14 z15:VA}{tn:Int}{i n m:Nat}{L Q:VL}{s:f_}(h1:1<=n)(E:n<=12)(F:L.length=n)(hL:∀j x,L[j]?=J x->GS n j x)(hm:m<=12)(H:1<=Q.length)(u:Q.length<=20)(M:∀x∈Q,GR m 0 x):
  ∃R P W Z X s1,QN.p (eB x0 tn n L m Q [J (.int (i:Int)),z8,z9,z10,z11,z12,z13,z14,z15]) s=.nx (eB x0 tn n L m Q [J (.int (i:Int)),z8,z9,z10,R,P,W,Z,X]) s1:=by
 have y:∀x∈L,Lj x:=λx l=>by obtain⟨j,C⟩:=Pw.mp l;exact HE (hL j x C)
 have S:∀x∈Q,Lj x:=λx l=>HG (M x l);have jL:=oo y (by ext);have jQ:=oo S (by ext)
 have pL:1<=(Txt.join ml L).length:=qG (λe=>by rw[e]at F;simp at F;ext) (λe=>by
  obtain⟨ps,e2,_⟩:=hL 0 (O "") (by rw[e];rfl)
  have:=vx (j:=0) (ps:=ps)
  rw[<-e2]at this;exact absurd this (by decide))
 have pQ:1<=(Txt.join ml Q).length:=qG (λe=>by rw[e]at H;simp at H) (λe=>by
  obtain⟨r,e2,_⟩:=M (O "") (by rw[e];simp)
  have:=sP r
  rw[<-e2]at this;exact absurd this (by decide))
 by_cases hb:(i:Int) % 2=0
 .obtain⟨U,k,s1,q,sp⟩:=uC (b:=I) (n:=n) (ls:=L) (B:=cC) (s:=s) (by ext) (by show L.length<=12;ext) (by ext) (λ_=>F) (λx l=>(y x l).2.2) (λ_ _ _ b=>b.2.2.2) (λn i s h z=>Lc (h rfl) z);obtain⟨r1,r2⟩:=O9 sp F h1 E hL
  obtain⟨d,gd⟩:=yh (n:=n) (ls:=L) (s:=s1) F E jL.2 (λx l=>(y x l).1) pL (λj C=>by
   have G:j<L.length:=by ext
   obtain⟨ps,e,hr,ok,_⟩:=hL j _ (C_ G)
   exact⟨ps,by rw[C_ G,e],hr,ok⟩)
  exact⟨_,_,_,_,_,s1,Aw (b:=I) (ud:=.non) (ls:=L) (n':=n) (by ext) (decide_eq_true hb) rfl rfl rfl q jL.1 (BA gd) r2 (rF (r1 s1))⟩
 .obtain⟨U,k,s1,q,sp⟩:=uC (b:=T) (n:=m) (ls:=Q) (B:=λn _ x=>bR n x) (s:=s) H u (by ext) (λe=>by cases e) (λx l=>(S x l).2.2) (λ_ _ _ b=>b.2.2.2) (λn i s _ z=>Lg z);obtain⟨r1,r2⟩:=O_ sp H u (λj x l=>M x (Ek l))
  obtain⟨d,gd⟩:=AI (n:=(m:Int)) (ls:=Q) (s:=s1) u jQ.2 (λx l=>(S x l).1) pQ (λj C=>by
   obtain⟨r,e,hr,ok⟩:=M _ (Q3 C)
   exact⟨r,by rw[C_ C,e],hr,ok⟩)
  exact⟨_,_,_,_,_,s1,Aw (b:=T) (ud:=.int (m:Int)) (ls:=Q) (n':=m) (by ext) (decide_eq_false hb) rfl rfl rfl q jQ.1 (Bk gd) r2 (oB (r1 s1))⟩
def s_(d:Nat):Str:=Txt.mul (O "9") (61+(d:Int)*4300)
def GP{n:Int}(h:2<=n):(Txt.mul (O "9") n).cps.toList=List.replicate n.toNat 57:=by
 unfold Txt.mul;rw[hF (by ext),hF (by simp[show ¬n=1 by ext];decide)];have i:∀m (a:Array Nat),((List.replicate m (O "9").cps).foldl (·++·) a).toList=a.toList++List.replicate m 57:=by
  intro m
  induction m with
  |zero=>intro a;simp
  |succ m j =>
   intro a;rw[PB,Q6,j,Array.toList_append,show(O "9").cps.toList=[57]from rfl,El,PB];rfl
 rw[i];simp
def rR(d:Nat):(s_ d).cps.toList=List.replicate (61+d*4300) 57:=by unfold s_;rw[GP (by ext)];congr 1
def oY(d:Nat):(s_ d).length=61+d*4300:=by rw[<-gN,rR,HJ]
def lV{d c:Nat}(h:c∈(s_ d).cps.toList):c=57:=by rw[rR]at h;exact List.eq_of_mem_replicate h
def Pa{v:Int}(i:0<=v)(h:v.natAbs<10^60):(tS v).length<=60:=by obtain⟨n,rfl⟩:∃n:Nat,v=n:=⟨v.toNat,by ext⟩;rw[<-gN,cD];exact(nE (by decide)).mpr h
def vK{d:Nat}{v:Int}(i:0<=v)(h:v.natAbs<10^60):s_ d≠tS v:=λe=>by
 have:=Pa i h
 rw[<-e,oY]at this;ext
def nG{x:Str}{t b:Int}(h:BY t b)(e:x=k_ t b):(b=1/\x=tS t)\/x=tS t++sg 47++tS b:=by
 unfold k_ at e;by_cases z:b=1
 .rw[eT z]at e;exact .inl ⟨z,e⟩
 .rw[hF z]at e;exact .inr e
def wO(d:Nat):ff (s_ d):=λt b h e=>by
 rcases nG h e with⟨_,e⟩|e
 .by_cases ht:t<0
  .have:45∈(s_ d).cps.toList:=by rw[e,ik ht];simp
   have:=lV this;ext
  .exact vK (by ext) h.1 e
 .have:47∈(s_ d).cps.toList:=by rw[e,aL,aL];simp
  have:=lV this;ext
def vz(d:Nat):ff (O "1/"++s_ d):=λt b h e=>by
 have i:=iZ h;rcases nG h e with⟨_,e⟩|e
 .exact qb t (by rw[<-e,aL];exact C7 _ (by decide +kernel))
 .have e2:=congrArg (λz:Str=>z.cps.toList) e;simp only[aL,show(O "1/").cps.toList=[49]++[47]from rfl,show(sg 47).cps.toList=[47]from rfl,El,Ej]at e2;have k:=iB (c:=47) (a:=[49]) (by simp) (qb t) (uu:=(s_ d).cps.toList) (ww:=(tS b).cps.toList) e2;exact vK (by have:=h.2.1;ext) i.2 (cg k.2)
def Bp(d:Nat):ff (O "-"++s_ d):=λt b h e=>by
 rcases nG h e with⟨_,e⟩|e
 .have e2:=congrArg (λz:Str=>z.cps.toList) e;simp only[aL,show(O "-").cps.toList=[45]from rfl,Ej]at e2;by_cases ht:t<0
  .rw[ik ht]at e2;injection e2 with _ e3
   have:=(nE (n:=t.natAbs) (k:=60) (by decide)).mpr h.1
   rw[<-e3,rR,HJ]at this;ext
  .obtain⟨n,rfl⟩:∃n:Nat,t=n:=⟨t.toNat,by ext⟩;rw[cD]at e2;exact my (n:=n) (c:=45) (.inl (by ext)) (by rw[<-e2];simp)
 .have:47∈(O "-"++s_ d).cps.toList:=by rw[e,aL,aL];simp
  rw[aL]at this;rcases v_.mp this with h|h
  .have i:47∈[45]:=h;simp at i
  .have:=lV h;ext
structure DN(p:Str):Prop where
 n32:No 32 p
 n10:No 10 p
 asc:Bi p
 len:p.length<=20000
def xf(d:Nat)(hd:d<=1):DN (s_ d):=⟨λh=>by have:=lV h;ext,λh=>by have:=lV h;ext,λc h=>by have:=lV h;ext,by rw[oY];ext⟩
def lG{x:Str}(h:(plain x.cps.toList&&decide (x.length<=500))=I):DN x:=by have p:=(aI h).no x (yu.mpr rfl);exact⟨p.1,p.2.1,p.2.2.1,by ext⟩
def ou{x y:Str}(h:(plain x.cps.toList&&decide (x.length<=500))=I)(i:y.length<=10000)(b:DN y):DN (x++y):=by have p:=(aI h).no x (yu.mpr rfl);exact⟨bF p.1 b.n32,bF p.2.1 b.n10,cP p.2.2.1 b.asc,by rw[strLen_append];ext⟩
def B7{x y:Str}(h:(plain y.cps.toList&&decide (y.length<=500))=I)(i:x.length<=10000)(b:DN x):DN (x++y):=by have p:=(aI h).no y (yu.mpr rfl);exact⟨bF b.n32 p.1,bF b.n10 p.2.1,cP b.asc p.2.2.1,by rw[strLen_append];ext⟩
def sG{W:VL}(j:W≠[])(h:∀p∈W,DN p)(hl:W.length<=5):lT.p (Txt.join spS W) [.str spS]=J (.lst (W.map .str))/\No 10 (Txt.join spS W)/\(Txt.join spS W).length<=200000:=by have l:=ig (z:=spS) (ts:=W) (c:=20000) (m:=5) (λp i=>(h p i).len) hl;rw[fS]at l;exact⟨lh (c:=32) j (λp i=>(h p i).n32) (by change (Txt.join spS W).length<=_;ext) (by ext),oQ (iM (d:=32) (by ext)) _ λp i=>(h p i).n10,by ext⟩
def eE{x:Str}:Txt.join ml [x]=x:=bU _ _
def Pc{w:Str}(hw:DN w)(y:eI 1 w)(s:f_):aG.p [.non,.str (O "0:"++(spS++w))] s=.ok (.int 0) s:=by
 obtain⟨sp,n10,le⟩:=sG (W:=[O "0:",w]) (by simp) (λp l=>by
  simp only[ki,t_,or_false]at l;rcases l with rfl|rfl
  .exact lG (by decide +kernel)
  .exact hw) (by simp)
 have u:Txt.join spS [O "0:",w]=O "0:"++(spS++w):=by rw[eX,bU]
 rw[u]at sp n10 le;have r:=tw (n:=1) (k:=0) (ls:=[O "0:"++(spS++w)]) (s:=s) rfl (by ext) (by rw[eE];ext) (λx i=>by rw[yu.mp i];exact n10) (by rw[eE,strLen_append];have:(O "0:").length=2:=rfl;ext) (λj z=>absurd z (L6 _)) ⟨_,O "0:",[w],.non,rfl,⟨sp,bZ _,by simp,kN (λx i=>by rw[yu.mp i];exact⟨hw.asc,by have:=hw.len;ext⟩) (by simp) ⟨w,by simp,y⟩,.inl rfl⟩,.inr rfl⟩;rw[eE]at r;exact rF r
def Ph{w:Str}(hw:DN w)(B:eI 12 w)(s:f_):aG.p [.int 12,.str (w++(spS++(il++(spS++O "1"))))] s=.ok (.int 0) s:=by
 obtain⟨sp,n10,le⟩:=sG (W:=[w,il,O "1"]) (by simp) (λp l=>by
  simp only[ki,t_,or_false]at l;rcases l with rfl|rfl|rfl
  .exact hw
  .exact lG (by decide +kernel)
  .exact lG (by decide +kernel)) (by simp)
 have z:Txt.join spS [w,il,O "1"]=w++(spS++(il++(spS++O "1"))):=by rw[eX,eX,bU]
 rw[z]at sp n10 le;obtain⟨q,e,y⟩:=rC (c:=O "1") ⟨(lG (by decide +kernel)).asc,by decide⟩;have r:=pK (n:=12) (k:=0) (ls:=[w++(spS++(il++(spS++O "1")))]) (s:=s) (by ext) (by simp) (by rw[eE];ext) (λx i=>by rw[yu.mp i];exact n10) (by rw[eE,strLen_append,strLen_append,fS];ext) (λj u=>absurd u (L6 _)) ⟨_,rfl,.inl ⟨[w],il,O "1",.non,q,⟨sp,bZ _,kN (λx i=>by rw[yu.mp i];exact⟨hw.asc,by have:=hw.len;ext⟩) (by simp) ⟨w,by simp,B⟩,e,.inl rfl,y⟩,.inr (.inl rfl)⟩⟩;rw[eE]at r;exact oB r
def HH{m:Nat}{w:Str}(hw:DN w)(y:ff w)(s:f_):aG.p [.int (m:Int),.str (il++(spS++w))] s=.ok (.int 0) s:=by
 obtain⟨sp,n10,le⟩:=sG (W:=[il,w]) (by simp) (λp i=>by
  simp only[ki,t_,or_false]at i;rcases i with rfl|rfl
  .exact lG (by decide +kernel)
  .exact hw) (by simp)
 have l:Txt.join spS [il,w]=il++(spS++w):=by rw[eX,bU]
 rw[l]at sp n10 le;have r:=pK (n:=(m:Int)) (k:=0) (ls:=[il++(spS++w)]) (s:=s) (by ext) (by simp) (by rw[eE];ext) (λx u=>by rw[yu.mp u];exact n10) (by rw[eE,strLen_append,j4];ext) (λj z=>absurd z (L6 _)) ⟨_,rfl,.inl ⟨[],il,w,.tup [],.non,⟨sp,bZ _,λ_=>di (ps:=[]) K_ O7,mq hw.asc (by have:=hw.len;ext) y,.inr ⟨_,rfl⟩,.inl rfl⟩,.inr (.inr rfl)⟩⟩;rw[eE]at r;exact oB r
def GQ(d:Nat):VL:=[O "0="++s_ d,s_ d++O "=1",O "0=1/"++s_ d,O "0=-"++s_ d]
def GU{d:Nat}(hd:d<=1):∀w∈GQ d,DN w/\∀n:Int,n<=12->eI n w:=by
 have j:=xf d hd;have l:(s_ d).length<=10000:=by rw[oY];ext
 intro w hw;unfold GQ at hw;simp only[ki,t_,or_false]at hw;rcases hw with rfl|rfl|rfl|rfl
 .exact⟨ou (by decide +kernel) l j,λn _=>by rw[show O "0="=O "0"++wx by decide +kernel];exact oR (by decide +kernel) (wO d)⟩
 .exact⟨B7 (by decide +kernel) l j,λn z=>by
   rw[Tj,<-bT];refine nC (λh=>by have:=lV h;ext) λi u y e=>?_
   exact vK u (jm u (by ext)) e⟩
 .exact⟨ou (by decide +kernel) l j,λn _=>by rw[show O "0=1/"=O "0"++wx++O "1/" by decide +kernel,bT];exact oR (by decide +kernel) (vz d)⟩
 .exact⟨ou (by decide +kernel) l j,λn _=>by rw[show O "0=-"=O "0"++wx++O "-" by decide +kernel,bT];exact oR (by decide +kernel) (Bp d)⟩
def Pj{d:D}{s:f_}(e:(dq ["str"]).p d=J (.bl T)):aG.p [.non,d] s=.ok (.int 0) s:=rF (Cm e)
def rw_no{n:Int}{d:D}{s:f_}(e:(dq ["str"]).p d=J (.bl T)):aG.p [.int n,d] s=.ok (.int 0) s:=oB (Gn e)
def z_:VP:=[.non,.int 3,.bl I,.lst [.str (O "0:")],.tup [.str (O "0:")],.dic T [] [],.lst [],.tup [.int 1,.tup [.tup []]]]
def zh:∀d∈z_,(dq ["str"]).p d=J (.bl T):=by intro d hd;unfold z_ at hd;simp only[ki,t_,or_false]at hd;rcases hd with rfl|rfl|rfl|rfl|rfl|rfl|rfl|rfl<;>rfl
def Lk{x0:VA}{tn:Int}{s:f_}:∃M s',dS.p [x0,J (.int tn),J .pen,Y,Y,Y,Y,Y,Y,Y,Y,Y,Y,Y,Y,Y] s=.nx M s':=by
 have zl:=xO;obtain⟨a,s1,a0,a1,q1⟩:=bn (s:=s) (size:=12) (by decide) (by decide);obtain⟨n,hn⟩:∃n:Nat,1+a=n:=⟨(1+a).toNat,by ext⟩;obtain⟨L,s2,q2,lL,hL⟩:=qZ (n:=n) (by ext) n 0 Y s1 (by ext);obtain⟨m',s3,m0,m1,q3⟩:=bn (s:=s2) (size:=13) (by decide) (by decide);obtain⟨m,rfl⟩:∃m:Nat,m'=m:=⟨m'.toNat,by ext⟩;obtain⟨c',s4,c0,c1,q4⟩:=bn (s:=s3) (size:=20) (by decide) (by decide);obtain⟨c,hc⟩:∃c:Nat,1+c'=c:=⟨(1+c').toNat,by ext⟩;obtain⟨Q,s5,q5,lQ,hQ⟩:=td (n:=m) (by ext) c 0 Y s4;have an:∀(j:Nat) x,L[j]?=J x->GS n j x:=λj x h=>by
  obtain⟨ps,e,hr,ok⟩:=hL j x h
  have:=(w_.mp h).1
  exact⟨ps,by rw[e,Nat.zero_add],hr,ok,by ext⟩
 unfold dS;rw[aD,aK];simp![aA,aF,aH,aB,al,aq,q1,fh,hn,Pg,ln,lv,PU.au];rw[aD,aK,ij,fU,al,am,am,am,aj,Pb,aq,Pb,Pb,ug (by ext),Lx,Pf,Pb,eT (by rw[pJ];ext)];rw[show v2 1 [2,3] [x0,J (D.int tn),J .pen,J (.int (n:Int)),Y,Y,Y,Y,Y,Y,Y,Y,Y,Y,Y,Y]=[Y,J .pen,J (.int (n:Int))]from rfl,show((0:Int))=((0:Nat):Int)from rfl,q2];simp only[Pg,ln,lv,PU.au];rw[aD,aK];dsimp![aF,aH,aB,am,q3,Pg,ln,lv,PU.au];rw[aD,aK,ij,fU];simp![aA,aF,aH,aB,al,aq,q4,fh,hc];rw[ug (by ext),Lx,Pf,Pb,eT (by rw[pJ];ext)];rw[show v2 1 [2,5] [x0,J (D.int tn),J .pen,J (.int (n:Int)),J (.lst (L.map .str)),J (.int (m:Int)),Y,Y,Y,Y,Y,Y,Y,Y,Y,Y]=[Y,J .pen,J (.int (m:Int))]from rfl,q5];simp only[Pg,ln,lv,PU.au];obtain⟨e6,s6,q6,G,H,P,F,y,E,l,C,B,ak⟩:=jE (g:=(n3 7:Xg []).p) (b:=QN.p)
  (λ_ env _=>∃G H P F y E l C B,env=eB x0 tn n L m Q [G,H,P,F,y,E,l,C,B]) (d3 0 6) 0 (eB x0 tn n L m Q [Y,Y,Y,Y,Y,Y,Y,Y,Y]) s5 ⟨_,_,_,_,_,_,_,_,_,rfl⟩ (λj env u d W hd=>by
   obtain⟨G,H,P,F,y,E,l,C,B,rfl⟩:=W;obtain⟨i,rfl⟩:∃i:Nat,d=.int (i:Int):=by
    unfold d3 at hd;rw[CG]at hd
    cases e:(List.range 6)[j]? with
    |none=>rw[e]at hd;cases hd
    |some i=>rw[e]at hd;cases hd;exact⟨i,by simp⟩
   obtain⟨Z,S,aa,ab,ac,u1,q⟩:=GO (x0:=x0) (tn:=tn) (i:=i) (n:=n) (m:=m) (L:=L) (Q:=Q) (s:=u) (z8:=H) (z9:=P) (z10:=F) (z11:=y) (z12:=E) (z13:=l) (z14:=C) (z15:=B) (by ext) (by ext) lL an (by ext) (by ext) (by ext) hQ
   exact⟨eB x0 tn n L m Q [J (.int (i:Int)),H,P,F,y,E,l,C,B],_,u1,rfl,q,_,_,_,_,_,_,_,_,_,rfl⟩)
 subst ak;rw[aD,iV,fU,al,aF,Pb,aq,Pb,Pb,aH,ug (by decide),Pf,Pg];refine Exists.imp (λM=>Exists.imp λs' h=>((congrArg (λz:PS=>z.then _) q6).trans h)) ?_;rw[PU.au,aD,iV,fT];have tl:(cR (ae (xC .non) (ae (xC (.int 3)) (ae (xC (.bl I)) (ae (aU (ae (xC (.str "0:")) a_)) (ae (cR (ae (xC (.str "0:")) a_)) (ae DZ (ae (aU a_) (ae (cR (ae (xC (.int 1)) (ae (cR (ae (cR a_) a_)) a_))) a_)))))))):Xe []).p (eB x0 tn n L m Q [G,H,P,F,y,E,l,C,B]) s6=.ok (.tup z_) s6:=rfl;rw[tl,Pb,show(D.tup z_).items=J z_ from rfl,Pf,Pg];obtain⟨e7,s7,q7,y7,y8,y9,ap,Z,S,aa,ab,ac,a3⟩:=jE (g:=(n3 8:Xg []).p) (b:=(kr (yF (xB (ah x2 (av aG (ae (xC .non) (ae (af 8) a_))) (xC (.int 0)))) (xB (ah x2 (av aG (ae (af 5) (ae (af 8) a_))) (xC (.int 0))))) (aW (xC (.bl T))) e_:Xd []).p)
  (λ_ env _=>∃G H P F y E l C B,env=eB x0 tn n L m Q [G,H,P,F,y,E,l,C,B]) z_ 0 (eB x0 tn n L m Q [G,H,P,F,y,E,l,C,B]) s6 ⟨_,_,_,_,_,_,_,_,_,rfl⟩ (λj env u d W hd=>by
   obtain⟨G,H,P,F,y,E,l,C,B,rfl⟩:=W;have e:=zh d (Ek hd);refine⟨eB x0 tn n L m Q [G,J d,P,F,y,E,l,C,B],eB x0 tn n L m Q [G,J d,P,F,y,E,l,C,B],u,rfl,?_,G,J d,P,F,y,E,l,C,B,rfl⟩;rw[bg]
   simp![gZ,bc,aA,aB,al,aF,bi,aH,aq,Pj e,rw_no e,LX,decide_true,CV,PR.bl,ol,if_false,Pg,bv])
 subst a3;refine Exists.imp (λM=>Exists.imp λs' h=>((congrArg (λz:PS=>z.then _) q7).trans h)) ?_;obtain⟨f',s8,f0,f1,q8⟩:=bn (s:=s7) (size:=2) (by decide) (by decide);obtain⟨f,rfl⟩:∃m:Nat,f'=m:=⟨f'.toNat,by ext⟩;have hf:f<=1:=by ext
 have wf:=xf f hf;have lf:(s_ f).length<=10000:=by rw[oY];ext
 have mu:jT.p (.int (f:Int)) (.int 4300)=J (.int ((f:Int)*4300)):=eT (IntMulOk.of_right (intBits_le_64 (by decide) (by decide)));have mf:cy.p (.str (O "9")) (.int (61+(f:Int)*4300))=J (.str (s_ f)):=oq (O3 (by rw[Bool.or_eq_false_iff];exact⟨decide_eq_false (by ext),decide_eq_false (by ext)⟩) rfl (by ext) (by ext));rw[PU.au,aD,aK];simp![aA,aF,aR,aH,aB,al,aq,q8,mu,fh];rw[show cy.p (.str (Str.ofString "9")) (.int (61+(f:Int)*4300))=_ from mf];simp only[Pf,Pg,ln,lv,PU.au];have X:∀x:String,(O x).length<=10->ao.p (.str (O x)) (.str (s_ f))=J (.str (O x++s_ f)):=λx h=>aO (by ext);have lb:ao.p (.str (s_ f)) (.str (O "=1"))=J (.str (s_ f++O "=1")):=aO (by have:(O "=1").length=2:=rfl;ext);have A1:=X "0=" (by decide);have A2:=X "0=1/" (by decide);have A3:=X "0=-" (by decide);have A4:=X "| " (by decide);have A5:=X "| 1/" (by decide);rw[aD,iV,fT];simp![j6,al,aA,aF,aR,aq,A1,A2,A3,lb,n_,pa,show(0+1+1+1+1:Nat)<=100000 by decide,if_true];rw[show(D.tup [.str (O "0="++s_ f),.str (s_ f++O "=1"),.str (O "0=1/"++s_ f),.str (O "0=-"++s_ f)]).items=J ((GQ f).map .str)from rfl,Pf,Pg];obtain⟨e9,s9,q9,x7,x8,ay,a4,as,a5,ag,a2,ax⟩:=jE (g:=(n3 10:Xg []).p) (b:=(kr (yF (xB (ah x2 (av aG (ae (xC .non) (ae (ah ao (xC (.str "0: ")) (af 10)) a_))) (xC (.int 0)))) (xB (ah x2 (av aG (ae (xC (.int 12)) (ae (ah ao (af 10) (xC (.str " | 1"))) a_))) (xC (.int 0))))) (aW (xC (.bl T))) e_:Xd []).p)
  (λ_ env _=>∃G H F y E l C B,env=eB x0 tn n L m Q [G,H,J (.str (s_ f)),F,y,E,l,C,B]) ((GQ f).map .str) 0 (eB x0 tn n L m Q [y7,y8,J (.str (s_ f)),ap,Z,S,aa,ab,ac]) s8 ⟨_,_,_,_,_,_,_,_,rfl⟩ (λj env u d W hd=>by
   obtain⟨G,H,F,y,E,l,C,B,rfl⟩:=W;obtain⟨w,hw,rfl⟩:=sk.mp (Ek hd);obtain⟨wo,wb⟩:=GU hf w hw;have wl:=wo.len;have b1:ao.p (.str (O "0: ")) (.str w)=J (.str (O "0: "++w)):=aO (by have:(O "0: ").length=3:=rfl;ext);have b2:ao.p (.str w) (.str (O " | 1"))=J (.str (w++O " | 1")):=aO (by have:(O " | 1").length=4:=rfl;ext);have U:=Pc wo (wb 1 (by decide)) u;have R:=Ph wo (wb 12 (by decide)) u;have t1:O "0:"++(spS++w)=O "0: "++w:=by rw[<-bT];congr 1
   have t2:w++(spS++(il++(spS++O "1")))=w++O " | 1":=by congr 1
   rw[t1]at U;rw[t2]at R;refine⟨eB x0 tn n L m Q [G,H,J (.str (s_ f)),J (.str w),y,E,l,C,B],eB x0 tn n L m Q [G,H,J (.str (s_ f)),J (.str w),y,E,l,C,B],u,rfl,?_,G,H,J (.str w),y,E,l,C,B,rfl⟩;rw[bg];dsimp![gZ,bc,aA,aB,aF,bi,aH,aR,am];rw[show ao.p (.str (Str.ofString "0: ")) (.str w)=_ from b1];simp only[Pf,Pb,U,LX,decide_true,CV,PR.bl,ol,if_false];rw[show ao.p (.str w) (.str (Str.ofString " | 1"))=_ from b2]
   simp only[Pf,Pb,R,LX,decide_true,CV,PR.bl,ol,if_false,Pg,bv])
 subst ax;refine Exists.imp (λM=>Exists.imp λs' h=>((congrArg (λz:PS=>z.then _) q9).trans h)) ?_;have U:=HH (m:=m) wf (wO f) s9;have w1:DN (O "1/"++s_ f):=ou (by decide +kernel) lf wf;have R:=HH (m:=m) w1 (vz f) s9;have t1:il++(spS++s_ f)=O "| "++s_ f:=by rw[<-bT];congr 1
 have t2:il++(spS++(O "1/"++s_ f))=O "| 1/"++s_ f:=by rw[<-bT,<-bT];congr 1
 rw[t1]at U;rw[t2]at R;refine⟨eB x0 tn n L m Q [x7,x8,J (.str (s_ f)),ay,a4,as,a5,ag,a2],s9,?_⟩;rw[PU.au,bg];dsimp![gZ,bc,aA,aB,aF,bi,aH,aR,am];rw[show ao.p (.str (Str.ofString "| ")) (.str (s_ f))=_ from A4];simp only[Pf,Pb,U,LX,decide_true,CV,PR.bl,ol,if_false];rw[show ao.p (.str (Str.ofString "| 1/")) (.str (s_ f))=_ from A5];simp only[Pf,Pb,R,LX,decide_true,CV,PR.bl,ol,if_false,Pg,bv]
 first | rfl | simp
def yx{lo:Int}{c i:Nat}{x:PV}(h:(cq lo c)[i]?=J x):x=.int (lo+i)/\i<c:=by
 unfold cq at h;rw[CG,Db]at h;obtain⟨k,j,rfl⟩:=h
 have:=w_.mp j
 obtain⟨a,b⟩:=this;simp at a b;subst b;exact⟨rfl,a⟩
def yt{c i:Nat}{x:PV}(h:(cq 0 c)[i]?=J x):x=.int (i:Int)/\i<c:=by have:=yx h;simpa using this
def xj{ns:VM}{k:Nat}(i:k<ns.length):i_ (ns.map PV.int) (k:Int)=J (.int ns[k]):=L2.lq (by simp[i])
def uN{h:MH}:uq (.int 10) (.int 18) h=.ok (.int (10^18)) h:=vb (by decide)
def BK{h:MH}:uq (.int 10) (.int 15) h=.ok (.int (10^15)) h:=vb (by decide)
def Bz{h:MH}{ns:VM}{k:Nat}(hk:k<64):∃m c:Int,iG [.frl (ns.map .int),.int k] h=.ok (.loc h.length) (h++[.lst [.int m,.int c,.int 0]]):=by
 unfold iG;have E:∀{i:Int}{h:MH},jl (.int 7919) (.int i) h=.ok (.int (7919*i)) h:=jF (by decide);have k2:∀{i:Int}{h:MH},jl (.int 48271) (.int i) h=.ok (.int (48271*i)) h:=jF (by decide);have U:∀{i:Int}{h:MH},jl (.int 40009) (.int i) h=.ok (.int (40009*i)) h:=jF (by decide);have Q:∀{a b c:PV}{h:MH},vr [a,b,c] h=.ok (.loc h.length) (h++[.lst [a,b,c]]):=yj (by simp)
 have fin:∀cell:Int,∃m c:Int,(aZ (yS (mB (aC Dy (xZ CO (ai (ar 2) c_)) (aC uq (mC (.int 10)) (mC (.int 18))))) (bK (cQ (ai (mC (.int 1)) (ai (xZ CO (ai (ar 2) c_)) (ai (mC (.int 0)) c_))))) i5)
   (bK (cQ (ai (mC (.int 0)) (ai (aC hU (aC lx (ar 2) (mC (.int 2147483587))) (aC jl (mC (.int 40009)) (ar 1))) (ai (mC (.int 0)) c_)))))) [J (.frl (ns.map .int)),J (.int k),J (.int cell)] h=.rt (.loc h.length) (h++[.lst [.int m,.int c,.int 0]]):=λcell=>by
  by_cases z:(10:Int)^18<=(if cell<0 then -cell else cell)
  .exact⟨1,(if cell<0 then -cell else cell),by simp[uN,Q,z,-Int.reducePow]⟩
  .exact⟨0,cell.fmod 2147483587+40009*k,by simp[uN,Q,z,U,ip,-Int.reducePow]⟩
 have y:∀cell:Int,∃m c:Int,((aZ (yS (mB (aC Dy (xZ CO (ai (ar 2) c_)) (aC uq (mC (.int 10)) (mC (.int 18))))) (bK (cQ (ai (mC (.int 1)) (ai (xZ CO (ai (ar 2) c_)) (ai (mC (.int 0)) c_))))) i5)
   (bK (cQ (ai (mC (.int 0)) (ai (aC hU (aC lx (ar 2) (mC (.int 2147483587))) (aC jl (mC (.int 40009)) (ar 1))) (ai (mC (.int 0)) c_)))))) [J (.frl (ns.map .int)),J (.int k),J (.int cell)] h).fin=.ok (.loc h.length) (h++[.lst [.int m,.int c,.int 0]]):=λcell=>by
  obtain⟨m,c,q⟩:=fin cell;exact⟨m,c,by rw[q];rfl⟩
 have l:∀cell:Int,(aZ (bq 2 (aC hU (aC jl (mC (.int 7919)) (ar 1)) (mC (.int 11))))
 (yS (mB (aC DT (ar 1) (xZ C2 (ai (xZ xg (ai (ar 0) c_)) (ai (mC (.int 63)) c_))))) (bq 2 (aC ce (ar 0) (ar 1))) (yS (mB (aC DU (xZ xg (ai (ar 0) c_)) (mC (.int 0)))) (bq 2 (aC hU (aC lx (aC ce (ar 0) (aC lx (ar 1) (xZ C2 (ai (xZ xg (ai (ar 0) c_)) (ai (mC (.int 63)) c_))))) (aC uq (mC (.int 10)) (mC (.int 15)))) (aC jl (mC (.int 48271)) (ar 1)))) i5))) [J (.frl (ns.map .int)),J (.int k),Y] h=.nx [J (.frl (ns.map .int)),J (.int k),J (.int cell)] h ->
   ∃m c:Int,fQ 3 2 ya [.frl (ns.map .int),.int k] h=.ok (.loc h.length) (h++[.lst [.int m,.int c,.int 0]]):=λcell q=>by
  obtain⟨m,c,S⟩:=y cell;refine⟨m,c,(o6 (by rfl)).trans ?_⟩;rw[<-S];unfold ya;simp only[oG]at q ⊢;have e0:cV 3 [PV.frl (ns.map .int),PV.int k]=[J (.frl (ns.map .int)),J (.int k),Y]:=rfl;rw[e0];generalize (bq 2 (aC hU (aC jl (mC (.int 7919)) (ar 1)) (mC (.int 11)))) [J (.frl (ns.map .int)),J (.int k),Y] h=X at q ⊢
  cases X with
  |nx Z1 H =>
   simp only[MM.au,oG]at q ⊢;rw[q];rfl
  |_=>cases q
 have u:∃j:Nat,(if(63:Int)<(ns.length:Int)then(63:Int)else(ns.length:Int))=(j:Int)/\j<=ns.length/\(0<ns.length->0<j):=by
  by_cases z:(63:Int)<(ns.length:Int)
  .exact⟨63,by rw[eT z];rfl,by ext,by ext⟩
  .exact⟨ns.length,by rw[hF z],by ext,by ext⟩
 obtain⟨j,L,G,B⟩:=u;by_cases H:k<j
 .refine l (ns[k]'(by ext)) ?_;simp[E,L,H,xj (show k<ns.length by ext)]
 .by_cases C:0<ns.length
  .have F:(j:Int)≠0:=by have:=B C;ext
   have P:k % j<ns.length:=vl (Nat.mod_lt _ (B C)) G;have W:(k:Int).fmod (j:Int)=((k % j:Nat):Int):=by rw[Pt _ (by ext)];rfl
   refine l ((ns[k % j]'P).fmod (10^15)+48271*k) ?_;have R:((10:Int)^15)≠0:=by decide
   have M:=xj P;rw[Int.natCast_emod]at M;simp[E,L,H,C,ip F,W,M,BK,ip R,k2,-Int.reducePow]
  .have Z:ns=[]:=List.length_eq_zero_iff.mp (by ext);refine l (7919*k+11) ?_;have z:¬((k:Int)<(j:Int)):=by ext
   simp[E,L,z,C]
def KS(Z:n7)(o:SOut):Prop:=match o with
 |.nx i _=>i.length=Z.length/\i[0]?=Z[0]?
 |.bk i _=>i.length=Z.length/\i[0]?=Z[0]?
 |.ct i _=>i.length=Z.length/\i[0]?=Z[0]?
 |_=>True
def KS.of{Z Z1:n7}{o:SOut}(h:Z1.length=Z.length/\Z1[0]?=Z[0]?)(k:KS Z1 o):KS Z o:=by
 cases o with
 |nx a b=>exact⟨k.1.trans h.1,k.2.trans h.2⟩
 |bk a b=>exact⟨k.1.trans h.1,k.2.trans h.2⟩
 |ct a b=>exact⟨k.1.trans h.1,k.2.trans h.2⟩
 |_=>trivial
def K0(m:oh):Prop:=∀Z h,KS Z (m Z h)
def Ll:K0 i5:=λZ h=>⟨rfl,rfl⟩
def GV{α:Type}{m:Mx α}{k:α->oh}(j:∀v,K0 (k v)):K0 (CD m k):=λZ h=>by
 unfold CD
 cases m Z h with
 |ok v i=>exact j v Z i
 |_=>trivial
def Pk{m:Mx PV}:K0 (bK m):=λZ h=>by
 unfold bK
 cases m Z h with
 |ok v i=>trivial
 |_=>trivial
def oJ{i:Nat}{v:PV}{Z:n7}(h:i≠0):(Z.set i (J v)).length=Z.length/\(Z.set i (J v))[0]?=Z[0]?:=⟨by simp,pk h⟩
def Pm{i:Nat}{m:Mx PV}(h:i≠0):K0 (bq i m):=GV λv Z j=>oJ h
def Po{a b:oh}(l:K0 a)(u:K0 b):K0 (aZ a b):=λZ h=>by
 have:=l Z h
 unfold aZ
 cases e:a Z h with
 |nx i j=>rw[e]at this;exact KS.of this (u i j)
 |bk i j=>rw[e]at this;exact this
 |ct i j=>rw[e]at this;exact this
 |_=>trivial
def To{c:Mx Bool}{a b:oh}(j:K0 a)(i:K0 b):K0 (yS c a b):=GV λx=>by
 cases x
 .exact i
 .exact j
def Tp{y:MIt}{i:Nat}{b:oh}(u:i≠0)(B:K0 b):∀xs:UZ,K0 (AT y (v1 i) b xs):=by
 intro xs
 induction xs with
 |nil =>
  intro Z h;unfold AT;split
  .exact⟨rfl,rfl⟩
  .trivial
 |cons x r z =>
  intro Z h;unfold AT;split
  .show KS Z (match b (Z.set i (J x)) h with
    |.nx l j=>AT y (v1 i) b r l j
    |.ct l j=>AT y (v1 i) b r l j
    |.bk l j=>.nx l j
    |.rt v j=>.rt v j
    |.exc e l j=>.exc e l j
    |.rse e l j=>.rse e l j
    |.bad=>.bad)
   have k:=(B (Z.set i (J x)) h)
   cases e:b (Z.set i (J x)) h with
   |nx l j=>rw[e]at k;exact KS.of (oJ u) (KS.of k (z l j))
   |ct l j=>rw[e]at k;exact KS.of (oJ u) (KS.of k (z l j))
   |bk l j=>rw[e]at k;exact KS.of (oJ u) k
   |_=>trivial
  .trivial
def Pp{y:Mx MIt}{i:Nat}{b:oh}(l:i≠0)(u:K0 b):K0 (fR y (v1 i) b):=GV λj=>Tp l u j.xs
section
variable{ws:VN}
def dW{a b:Xd ws}(i:K0 a.m)(j:K0 b.m):K0 (aw a b).m:=Po i j
def i9{i:Nat}{e:Xe ws}{l:ws.contains i=T}{j:e.fz=I}(h:i≠0):K0 (aQ i e l j).m:=Pm h
def rD{t:Xt ws}{e:Xe ws}:K0 (kr t (aW e) e_).m:=To Pk Ll
def vd{j:Xi ws}{i:Nat}{u:ws.contains i=T}{b:Xd ws}{l:j.fz=I}(h:i≠0)(y:K0 b.m):K0 (mG j (n3 i u) b l).m:=Pp h y
end
def Tq{i j n:Nat}(l:i≠0)(u:j≠0)(v:PV):K0 (EV (DH (v1 i) (DH (v1 j) ET)) n v):=λZ h=>by
 unfold EV;split
 .rename_i xs
  split
  .match xs with
   |[]=>trivial
   |[_]=>trivial
   |a::b::r =>
    show KS Z (ET r ((Z.set i (J a)).set j (J b)) h);unfold ET;split
    .exact KS.of (oJ l) (Z1:=Z.set i (J a)) (oJ u)
    .trivial
  .trivial
 .trivial
def Pq{m:Mx PV}{g:Mg}(hg:∀v,K0 (g v)):K0 (j9 m g):=GV λv Z h=>by
 have:=hg v Z h
 cases e:g v Z h with
 |nx i j=>rw[e]at this;exact this
 |_=>trivial
def Lm:K0 dS.m:=by unfold dS;exact dW (i9 (by decide)) (dW (i9 (by decide)) (dW (i9 (by decide)) (dW (i9 (by decide)) (dW (vd (by decide) (dW (i9 (by decide)) (dW (i9 (by decide)) (dW (i9 (by decide)) (dW (Pq (Tq (by decide) (by decide))) (dW rD rD)))))) (dW (vd (by decide) rD) (dW (i9 (by decide)) (dW (vd (by decide) rD) rD)))))))
def GW{Z:n7}{x:Option PV}(h:Z.length=16)(Q:Z[0]?=J x):∃L a2 a3 M P a6 U a8 a9 C G F i j u,Z=[x,L,a2,a3,M,P,a6,U,a8,a9,C,G,F,i,j,u]:=by
 match Z,h with
 |[b0,b1,b2,W,b4,b5,S,R,X,b9,B,l,z,E,H,y],_ =>
  cases Q;exact⟨b1,b2,W,b4,b5,S,R,X,b9,B,l,z,E,H,y,rfl⟩
def Ln:dS.m=(aZ (bq 3 (aC hU (mC (.int 1)) (aY bJ (ai (ar 2) (ai (mC (.int 12)) c_)))))
 (aZ (bq 4 (gh 1 [2,3] (dm (ai (ar 3) c_)) (v1 0) A9 (CW cj (mC (.str " ")) (ai (aY bI.m (ai (ar 1) (ai (ar 2) (ai (ar 0) c_)))) c_))))
 (aZ (bq 5 (aY bJ (ai (ar 2) (ai (mC (.int 13)) c_))))
 (aZ (bq 6 (gh 1 [2,5] (dm (ai (aC hU (mC (.int 1)) (aY bJ (ai (ar 2) (ai (mC (.int 20)) c_)))) c_)) (v1 0) A9 (CW cj (mC (.str " ")) (ai (aY bI.m (ai (ar 1) (ai (ar 2) (ai (mC .non) c_)))) c_))))
 (aZ (fR (dm (ai (mC (.int 6)) c_)) (v1 7) (aZ (bq 11 (aC Cu (aC lx (ar 7) (mC (.int 2))) (mC (.int 0))))
 (aZ (bq 12 (aC ce (cQ (ai (ar 5) (ai (mC .non) c_))) (xZ xc (ai (ar 11) c_))))
 (aZ (bq 13 (aC ce (cQ (ai (ar 6) (ai (ar 4) c_))) (xZ xc (ai (ar 11) c_))))
 (aZ (j9 (aY cF.m (ai (ar 2) (ai (aC ce (cQ (ai (ar 5) (ai (ar 3) c_))) (xZ xc (ai (ar 11) c_))) (ai (ar 13) (ai (ar 11) c_))))) (EV (DH (v1 14) (DH (v1 15) ET)) 2))
 (aZ (yS (mB (aC (sM I) (aY aG.m (ai (ar 12) (ai (CW cj (mC (.str "\n")) (ai (ar 13) c_)) c_))) (mC .non))) (bK (mC (.bl T))) i5)
 (yS (mB (aC n9 (aY aG.m (ai (ar 12) (ai (CW cj (mC (.str "\n")) (ai (ar 14) c_)) c_))) (ar 15))) (bK (mC (.bl T))) i5)))))))
 (aZ (fR (kf (cZ (ai (mC .non) (ai (mC (.int 3)) (ai (mC (.bl I)) (ai (cQ (ai (mC (.str "0:")) c_)) (ai (cZ (ai (mC (.str "0:")) c_)) (ai Dz (ai (cQ c_) (ai (cZ (ai (mC (.int 1)) (ai (cZ (ai (cZ c_) c_)) c_))) c_)))))))))) (v1 8) (yS (DG (mB (aC n9 (aY aG.m (ai (mC .non) (ai (ar 8) c_))) (mC (.int 0)))) (mB (aC n9 (aY aG.m (ai (ar 5) (ai (ar 8) c_))) (mC (.int 0))))) (bK (mC (.bl T))) i5))
 (aZ (bq 9 (aC xl (mC (.str "9")) (aC hU (mC (.int 61)) (aC jl (aY bJ (ai (ar 2) (ai (mC (.int 2)) c_))) (mC (.int 4300))))))
 (aZ (fR (kf (cZ (ai (aC hU (mC (.str "0=")) (ar 9)) (ai (aC hU (ar 9) (mC (.str "=1"))) (ai (aC hU (mC (.str "0=1/")) (ar 9)) (ai (aC hU (mC (.str "0=-")) (ar 9)) c_)))))) (v1 10) (yS (DG (mB (aC n9 (aY aG.m (ai (mC .non) (ai (aC hU (mC (.str "0: ")) (ar 10)) c_))) (mC (.int 0)))) (mB (aC n9 (aY aG.m (ai (mC (.int 12)) (ai (aC hU (ar 10) (mC (.str " | 1"))) c_))) (mC (.int 0))))) (bK (mC (.bl T))) i5))
 (yS (DG (mB (aC n9 (aY aG.m (ai (ar 5) (ai (aC hU (mC (.str "| ")) (ar 9)) c_))) (mC (.int 0)))) (mB (aC n9 (aY aG.m (ai (ar 5) (ai (aC hU (mC (.str "| 1/")) (ar 9)) c_))) (mC (.int 0))))) (bK (mC (.bl T))) i5))))))))):=by
 have e:dS.m=(aZ (bq 3 (aC hU (mC (.int 1)) (aY aM.m (ai (ar 2) (ai (mC (.int 12)) c_)))))
 (aZ (bq 4 (gh 1 [2,3] (dm (ai (ar 3) c_)) (v1 0) A9 (CW cj (mC (.str " ")) (ai (aY bI.m (ai (ar 1) (ai (ar 2) (ai (ar 0) c_)))) c_))))
 (aZ (bq 5 (aY aM.m (ai (ar 2) (ai (mC (.int 13)) c_))))
 (aZ (bq 6 (gh 1 [2,5] (dm (ai (aC hU (mC (.int 1)) (aY aM.m (ai (ar 2) (ai (mC (.int 20)) c_)))) c_)) (v1 0) A9 (CW cj (mC (.str " ")) (ai (aY bI.m (ai (ar 1) (ai (ar 2) (ai (mC .non) c_)))) c_))))
 (aZ (fR (dm (ai (mC (.int 6)) c_)) (v1 7) (aZ (bq 11 (aC Cu (aC lx (ar 7) (mC (.int 2))) (mC (.int 0))))
 (aZ (bq 12 (aC ce (cQ (ai (ar 5) (ai (mC .non) c_))) (xZ xc (ai (ar 11) c_))))
 (aZ (bq 13 (aC ce (cQ (ai (ar 6) (ai (ar 4) c_))) (xZ xc (ai (ar 11) c_))))
 (aZ (j9 (aY cF.m (ai (ar 2) (ai (aC ce (cQ (ai (ar 5) (ai (ar 3) c_))) (xZ xc (ai (ar 11) c_))) (ai (ar 13) (ai (ar 11) c_))))) (EV (DH (v1 14) (DH (v1 15) ET)) 2))
 (aZ (yS (mB (aC (sM I) (aY aG.m (ai (ar 12) (ai (CW cj (mC (.str "\n")) (ai (ar 13) c_)) c_))) (mC .non))) (bK (mC (.bl T))) i5)
 (yS (mB (aC n9 (aY aG.m (ai (ar 12) (ai (CW cj (mC (.str "\n")) (ai (ar 14) c_)) c_))) (ar 15))) (bK (mC (.bl T))) i5)))))))
 (aZ (fR (kf (cZ (ai (mC .non) (ai (mC (.int 3)) (ai (mC (.bl I)) (ai (cQ (ai (mC (.str "0:")) c_)) (ai (cZ (ai (mC (.str "0:")) c_)) (ai Dz (ai (cQ c_) (ai (cZ (ai (mC (.int 1)) (ai (cZ (ai (cZ c_) c_)) c_))) c_)))))))))) (v1 8) (yS (DG (mB (aC n9 (aY aG.m (ai (mC .non) (ai (ar 8) c_))) (mC (.int 0)))) (mB (aC n9 (aY aG.m (ai (ar 5) (ai (ar 8) c_))) (mC (.int 0))))) (bK (mC (.bl T))) i5))
 (aZ (bq 9 (aC xl (mC (.str "9")) (aC hU (mC (.int 61)) (aC jl (aY aM.m (ai (ar 2) (ai (mC (.int 2)) c_))) (mC (.int 4300))))))
 (aZ (fR (kf (cZ (ai (aC hU (mC (.str "0=")) (ar 9)) (ai (aC hU (ar 9) (mC (.str "=1"))) (ai (aC hU (mC (.str "0=1/")) (ar 9)) (ai (aC hU (mC (.str "0=-")) (ar 9)) c_)))))) (v1 10) (yS (DG (mB (aC n9 (aY aG.m (ai (mC .non) (ai (aC hU (mC (.str "0: ")) (ar 10)) c_))) (mC (.int 0)))) (mB (aC n9 (aY aG.m (ai (mC (.int 12)) (ai (aC hU (ar 10) (mC (.str " | 1"))) c_))) (mC (.int 0))))) (bK (mC (.bl T))) i5))
 (yS (DG (mB (aC n9 (aY aG.m (ai (ar 5) (ai (aC hU (mC (.str "| ")) (ar 9)) c_))) (mC (.int 0)))) (mB (aC n9 (aY aG.m (ai (ar 5) (ai (aC hU (mC (.str "| 1/")) (ar 9)) c_))) (mC (.int 0))))) (bK (mC (.bl T))) i5))))))))):=by unfold dS;rfl
 rw[e,xQ]
def AQ:Hx=aZ (fR (dm (ai (mC (.int 2)) c_)) (v1 1) (aZ (bq 2 (aY iG (ai (ar 0) (ai (ar 1) c_)))) dS.m)) (bK (mC (.bl I))):=by rw[Ln];rfl
def Lo{h:MH}{a b tn:Int}{z0 a3 a4 a5 a6 a7 a8 a9 a10 a11 a12 a13 a14 a15:Option PV}:∃l u,dS.m [z0,J (.int tn),J (.loc h.length),a3,a4,a5,a6,a7,a8,a9,a10,a11,a12,a13,a14,a15] (h++[.lst [.int a,.int b,.int 0]])=.nx l u/\l.length=16/\l[0]?=J z0/\∃q s,cN u q s:=by
 have pn:cN (h++[.lst [.int a,.int b,.int 0]]) h.length (a,b,0):=Nl;obtain⟨C,F,q⟩:=Lk (x0:=Y) (tn:=tn) (s:=(a,b,0));have em:∀(i:Nat)(d:D),([Y,J (D.int tn),J D.pen,Y,Y,Y,Y,Y,Y,Y,Y,Y,Y,Y,Y,Y]:aN)[i]?=J (J d)->i=1/\d=.int tn\/i=2/\d=.pen:=λi d e=>by
  match i,e with
  |0,e=>cases e
  |1,e=>cases e;exact .inl ⟨rfl,rfl⟩
  |2,e=>cases e;exact .inr ⟨rfl,rfl⟩
  |3,e=>cases e
  |4,e=>cases e
  |5,e=>cases e
  |6,e=>cases e
  |7,e=>cases e
  |8,e=>cases e
  |9,e=>cases e
  |10,e=>cases e
  |11,e=>cases e
  |12,e=>cases e
  |13,e=>cases e
  |14,e=>cases e
  |15,e=>cases e
  |n+16,e=>simp at e
 have c:PU.Cx h.length (h++[.lst [.int a,.int b,.int 0]]) (h++[MO.lst [.int a,.int b,.int 0]]).length [h.length] [h.length] [] [z0,J (.int tn),J (.loc h.length),a3,a4,a5,a6,a7,a8,a9,a10,a11,a12,a13,a14,a15] [Y,J (.int tn),J .pen,Y,Y,Y,Y,Y,Y,Y,Y,Y,Y,Y,Y,Y] (a,b,0):=by
  refine⟨λo z=>?_,λ_ h=>h,λo z=>?_,by simp,mh _,pn,⟨rfl,λi d e _=>?_,λi d e y=>by cases y⟩⟩
  .have:o=h.length:=by simpa using z
   subst this;simp
  .have:o=h.length:=by simpa using z
   subst this;simp
  .rcases em i d e with⟨rfl,rfl⟩|⟨rfl,rfl⟩
   .exact⟨_,rfl,rfl⟩
   .exact⟨_,rfl,rfl⟩
 have k:=dS.ok c λi j y _ _ d _ _ e=>by cases y
 rw[q]at k;obtain⟨l,u,e,G,_,E,_⟩:=k;have B:=Lm [z0,J (.int tn),J (.loc h.length),a3,a4,a5,a6,a7,a8,a9,a10,a11,a12,a13,a14,a15] (h++[.lst [.int a,.int b,.int 0]]);rw[e]at B;exact⟨l,u,e,B.1,B.2,_,_,E.pen⟩
def Eb(ns:VM)(hn:ns.length<=63):∃H,Dw [.frl (ns.map .int)] []=.ok (.bl I) H:=by
 unfold Dw;rw[o6 (by rfl),AQ];have U:dm (ai (mC (.int 2)) c_) [J (.frl (ns.map .int)),Y,Y,Y,Y,Y,Y,Y,Y,Y,Y,Y,Y,Y,Y,Y] []=.ok ⟨cq 0 2,[]⟩ []:=R8 (n:=2) rfl (by ext);obtain⟨Z',H,e,aa,R,S⟩:=xo (it:=⟨cq 0 2,[]⟩) (g:=v1 1) (b:=aZ (bq 2 (aY iG (ai (ar 0) (ai (ar 1) c_)))) dS.m)
  (λj Z h=>Z.length=16/\Z[0]?=J (J (.frl (ns.map .int)))/\(0<j->∃q s,cN h q s)) (cq 0 2) 0 [J (.frl (ns.map .int)),Y,Y,Y,Y,Y,Y,Y,Y,Y,Y,Y,Y,Y,Y,Y] [] ⟨rfl,rfl,λz=>by ext⟩ (λ_ _ _ _=>E2.mpr trivial) (λm Z h x ⟨hl,h0,_⟩ hx=>by
   obtain⟨a1,a2,Q,E,F,L,G,P,M,y,C,B,i,l,u,rfl⟩:=GW hl h0;obtain⟨rfl,hm⟩:=yt hx;obtain⟨a,b,qp⟩:=Bz (h:=h) (ns:=ns) (k:=m) (by ext);obtain⟨Z2,W,e2,X,k2,k3⟩:=Lo (h:=h) (a:=a) (b:=b) (tn:=(m:Int)) (z0:=J (.frl (ns.map .int))) (a3:=Q) (a4:=E) (a5:=F) (a6:=L) (a7:=G) (a8:=P) (a9:=M) (a10:=y) (a11:=C) (a12:=B) (a13:=i) (a14:=l) (a15:=u);refine⟨_,_,Z2,W,rfl,?_,X,k2,λ_=>k3⟩;rw[oG];have e1:bq 2 (aY iG (ai (ar 0) (ai (ar 1) c_))) [J (.frl (ns.map .int)),J (.int (m:Int)),a2,Q,E,F,L,G,P,M,y,C,B,i,l,u] h=.nx [J (.frl (ns.map .int)),J (.int (m:Int)),J (.loc h.length),Q,E,F,L,G,P,M,y,C,B,i,l,u] (h++[.lst [.int a,.int b,.int 0]]):=by simp -implicitDefEqProofs [qp]
   refine(congrArg (λz:SOut=>z.then _) e1).trans ?_;rw[MM.au]
   exact e2)
 refine⟨H,?_⟩;have e0:cV 16 [PV.frl (ns.map .int)]=[J (.frl (ns.map .int)),Y,Y,Y,Y,Y,Y,Y,Y,Y,Y,Y,Y,Y,Y,Y]:=rfl;rw[e0,oG,E0,U,az,e,MM.au];rfl
end Law
namespace Law
open PySem.Spec PyProof.Rows L2 MM
set_option maxHeartbeats 4000000
def top(i:Nat):Stmt:=PySem.Challenge.pw_fewfills_k47_texts_refused.main.body.getD i (.Pass ⟨0,0,0,0⟩)
abbrev pU:Stmt:=US (top 11) 0
abbrev Uv:VL:=["self","line"]
abbrev QO:Str:="the line "
abbrev QP:Str:=" may not stand there"
def GX{X:Cx}{C F E:Addr}(i:X.env.scope=aE pU)(hN:X.N=Uv)(G:X.ex=[])(B:Ka X.K X.mg "FillError" F)(y:CT X.K X.mg "NoText" C F E "line"):PSs X (aT pU) (tP C QO QP "line"):=by
 have u:X.N[0]?=J ("self":Str):=by rw[hN];rfl
 have l:X.N[1]?=J ("line":Str):=by rw[hN];rfl
 have j:Eo X.env.scope "self":=by rw[i];exact .inl rfl
 have z:Eo X.env.scope "line":=by rw[i];exact .inl rfl
 have hg:Gl X "FillError":=by unfold Gl Env.kindOf;rw[i];rfl
 exact uS (w8 (Bj hg B y (c8 (lD u j) (c8 (Kb (by decide +kernel) (lD l z)) iX)) rfl rfl rfl rfl) rfl) (rW (Av y G (lD u j) (lD l z) rfl))
def Pr{P:Program}{w:World}{K:hW}{mg:VZ}{base:Heap}{C F i:Addr}{fd:FuncData}{k:Nat}(l:Fun K "__init__" "NoText.__init__" pU i fd)(u:Ka K mg "FillError" F)(z:CT K mg "NoText" C F i "line"):FnOk P w K mg base LC (k+1) i fd Uv (QD C QO QP "line") :=
 Bc l ⟨rfl,rfl,rfl,by decide +kernel,rfl,by decide +kernel,by decide +kernel⟩ λX e3 e4 y hN j=>GX y hN j (e3▸e4▸u) (e3▸e4▸z)
def Bv{K:hW}{F:Addr}{n:String}(q:PySem.W.excIn K F je n=I):PySem.W.tailIn K je (.ref F::je)=I:=by
 unfold PySem.W.excIn at q
 split at q
 .rename_i z u y l
  split at q
  .simp only[DD,beq_iff_eq,PJ]at q;obtain⟨⟨_,i⟩,j⟩:=q;unfold PySem.W.tailIn;rw[Bool.or_eq_true_iff];refine .inr ?_;dsimp only;rw[l];dsimp only;rw[i,j];rfl
  .cases q
 .cases q
structure Np(P:Program)(w:World)(K:hW)(mg:CC)(base:Heap):Prop where
 rp:ON P w K mg base "NoText" QO QP "line"
 tk:Tb K mg "FillError" "NoText" "line"
 fg:Tc K mg "NoText" "line"
 i_NoText:OO K mg "NoText" ["NoText"] ["NoText"]
 i_ValueError:OO K mg "ValueError" ["NoText"] ["NoText"]
 j_NoNumber:CA K mg "NoNumber" ["NoText"] []
 j_NoOrder:CA K mg "NoOrder" ["NoText"] []
 j_NoParting:CA K mg "NoParting" ["NoText"] []
 j_NoPivot:CA K mg "NoPivot" ["NoText"] []
 j_NoPlace:CA K mg "NoPlace" ["NoText"] []
 j_NoRow:CA K mg "NoRow" ["NoText"] []
 j_NoSheet:CA K mg "NoSheet" ["NoText"] []
 j_NoWeb:CA K mg "NoWeb" ["NoText"] []
 j_NoWord:CA K mg "NoWord" ["NoText"] []
 j_TooMany:CA K mg "TooMany" ["NoText"] []
def Tr(K:hW):Prop:=∀(P:Program)(w:World)(mg:CC)(base:Heap),K.In base->base.Ns mainGlobals mg->Np P w K mg base
def Lp{K:hW}{i u fI N B L z M Q as H ax ag F:Addr}{nm qn:Str}{bs:VR}{sn:VL}{sub:VR}{ab:Bool}{dn:Option Bool}{dd:VC}{k0 k1 k2 k3 k5:VT}{oc:Value}{od dv an:VC}{sl dt:Array (VT)}{kV dc pm cd ct:Value}{es:Array DictEntry}{ep:Nat}(cB:PySem.W.nsIn K mainGlobals "NoText"=J (J (.ref i)))(a2:PySem.W.nsIn K mainGlobals "FillError"=J (J (.ref u)))(l:K.lookup i=J (excClassObj nm qn i N bs (.ref u::je) I sn sub ab dn dd k0 k1 k2 k3 k5 "ValueError.__new__"))(lN:K.lookup N=J ⟨oc,dv,.dict es ep,dt⟩)(ds:(es.all λe=>match e.key with|.str _ _=>I|_=>T)=I)(ni:PySem.W.nsIn K N "__init__"=J (J (.ref fI)))(eF:PySem.W.excIn K u je "ValueError.__new__"=I)(sa:PySem.W.findIn K (.ref i) "__setattr__"=J (J (.builtin "object.__setattr__")))(tk:PySem.W.takerIn K i "line"=J Y)(hg:PySem.W.specialIn K (.ref u) "__getattribute__"=J (J (.builtin "type.__getattribute__")))(hr:PySem.W.readsIn K u (.type "type")=I)(fc:PySem.W.findCls K (.ref u) (.type "type") "__init__"=J (.val (.builtin "ValueError.__init__")))(lf:K.lookup fI=J ⟨.type "function",od,.func (PySem.W.fnOf "__init__" "NoText.__init__" (iH pU) (aT pU) (aE pU) .none kV dc pm an cd ct),sl⟩)(cI:PySem.W.codeIn K cd "NoText.__init__"=I)(kp:PySem.W.keepIn K (.ref fI)=I)(hd:PySem.W.hasDictIn K i=I)(fi:PySem.W.findIn K (.ref i) "line"=J Y)(a5:PySem.W.nsIn K mainGlobals "NoNumber"=J (J (.ref B)))(bw:PySem.W.nsIn K mainGlobals "NoOrder"=J (J (.ref L)))(ay:PySem.W.nsIn K mainGlobals "NoParting"=J (J (.ref z)))(b7:PySem.W.nsIn K mainGlobals "NoPivot"=J (J (.ref M)))(a7:PySem.W.nsIn K mainGlobals "NoPlace"=J (J (.ref Q)))(c1:PySem.W.nsIn K mainGlobals "NoRow"=J (J (.ref as)))(b4:PySem.W.nsIn K mainGlobals "NoSheet"=J (J (.ref H)))(db:PySem.W.nsIn K mainGlobals "NoWeb"=J (J (.ref ax)))(c0:PySem.W.nsIn K mainGlobals "NoWord"=J (J (.ref ag)))(b9:PySem.W.nsIn K mainGlobals "TooMany"=J (J (.ref F)))(b0:PySem.W.findIn K (.ref i) "__getattribute__"=J (J (.builtin "BaseException.__getattribute__")))(cn:PySem.W.findIn K (.ref i) "__class__"=J (J (.builtin "object.__class__")))(ca:PySem.W.findIn K (.ref i) "__getattr__"=J Y)(cc:PySem.W.mroIn K i (.type "object")=J I)(b8:PySem.W.mroIn K i (.type "BaseException")=J I)(a3:PySem.W.kitOne K (.type "NoneType") (.ref B)=J T)(G:PySem.W.kitOne K (.ref i) (.ref B)=J T)(a6:PySem.W.kitOne K (.type "NoneType") (.ref L)=J T)(W:PySem.W.kitOne K (.ref i) (.ref L)=J T)(a0:PySem.W.kitOne K (.type "NoneType") (.ref z)=J T)(E:PySem.W.kitOne K (.ref i) (.ref z)=J T)(bm:PySem.W.kitOne K (.type "NoneType") (.ref M)=J T)(Z:PySem.W.kitOne K (.ref i) (.ref M)=J T)(b3:PySem.W.kitOne K (.type "NoneType") (.ref Q)=J T)(R:PySem.W.kitOne K (.ref i) (.ref Q)=J T)(c2:PySem.W.kitOne K (.type "NoneType") (.ref as)=J T)(ap:PySem.W.kitOne K (.ref i) (.ref as)=J T)(a8:PySem.W.kitOne K (.type "NoneType") (.ref H)=J T)(U:PySem.W.kitOne K (.ref i) (.ref H)=J T)(cx:PySem.W.kitOne K (.type "NoneType") (.ref i)=J T)(aa:PySem.W.kitOne K (.ref i) (.ref i)=J I)(c4:PySem.W.kitOne K (.type "NoneType") (.ref ax)=J T)(ak:PySem.W.kitOne K (.ref i) (.ref ax)=J T)(cs:PySem.W.kitOne K (.type "NoneType") (.ref ag)=J T)(ac:PySem.W.kitOne K (.ref i) (.ref ag)=J T)(bp:PySem.W.kitOne K (.type "NoneType") (.ref F)=J T)(S:PySem.W.kitOne K (.ref i) (.ref F)=J T)(C:PySem.W.kitOne K (.ref i) (.type "ValueError")=J I)(dr:Zn K "ValueError"):Tr K:=λP w mg base kin ns=>by
 have no:PySem.W.nsOkIn K N=I:=by unfold PySem.W.nsOkIn;rw[lN];exact ds
 have tl:PySem.W.tailIn K je (.ref u::je)=I:=Bv eF;have j:=PySem.W.mg_of kin ns cB;have X:=PySem.W.mg_of kin ns a2;have a4:=PySem.W.mg_of kin ns a5;have bt:=PySem.W.mg_of kin ns bw;have a1:=PySem.W.mg_of kin ns ay;have b6:=PySem.W.mg_of kin ns b7;have a9:=PySem.W.mg_of kin ns a7;have c3:=PySem.W.mg_of kin ns c1;have ch:=PySem.W.mg_of kin ns b4;have da:=PySem.W.mg_of kin ns db;have cp:=PySem.W.mg_of kin ns c0;have b5:=PySem.W.mg_of kin ns b9;have y:yT K i:=⟨b0,cn,ca,cc,b8⟩;have EI:CT K mg "NoText" i u fI "line":=⟨j,⟨nm,qn,N,bs,sn,sub,ab,dn,dd,k0,k1,k2,k3,k5,l,no,ni⟩,tl,sa,tk⟩;have Fu:=Ac (x:="__init__") (qual:="NoText.__init__") (st:=pU) lf cI kp;exact⟨⟨i,u,fI,"self","line",_,_,EI,Pr (k:=0) Fu ⟨X,hg,hr,fc⟩ EI,Fu.binds λ_ _ _ _ _ _ us hl=>match us,hl with|[_,_],_=>rfl,lf,rfl⟩,⟨i,u,fI,⟨X,eF⟩,EI⟩,⟨i,j,⟨y,hd,fi⟩⟩,.e ⟨_,j,dA (fj cx) (cr ⟨_,j,y,aa⟩ dy)⟩,.b _ dr tY (dA (Nj K) (cr ⟨_,j,y,C⟩ dy)),⟨⟨_,a4,dA (fj a3) (cr ⟨_,j,y,G⟩ dy)⟩⟩,⟨⟨_,bt,dA (fj a6) (cr ⟨_,j,y,W⟩ dy)⟩⟩,⟨⟨_,a1,dA (fj a0) (cr ⟨_,j,y,E⟩ dy)⟩⟩,⟨⟨_,b6,dA (fj bm) (cr ⟨_,j,y,Z⟩ dy)⟩⟩,⟨⟨_,a9,dA (fj b3) (cr ⟨_,j,y,R⟩ dy)⟩⟩,⟨⟨_,c3,dA (fj c2) (cr ⟨_,j,y,ap⟩ dy)⟩⟩,⟨⟨_,ch,dA (fj a8) (cr ⟨_,j,y,U⟩ dy)⟩⟩,⟨⟨_,da,dA (fj c4) (cr ⟨_,j,y,ak⟩ dy)⟩⟩,⟨⟨_,cp,dA (fj cs) (cr ⟨_,j,y,ac⟩ dy)⟩⟩,⟨⟨_,b5,dA (fj bp) (cr ⟨_,j,y,S⟩ dy)⟩⟩⟩
local macro_rules | `(tactic| contradiction)=>do let q <-[`w_var,`NS,`Sz,`NT,`NU,`N5,`JW,`SA,`JX,`SV,`Om,`Og,`NV,`NW,`NX,`JU,`FI,`NY,`JV,`NZ,`N0,`N3,`N4,`SD,`SF,`SG,`J3,`Oq,`Ot,`SW,`Ob,`Oa,`J0,`w_tchain,`J1,`SY,`J2,`w_and,`Oo,`w_or,`Op,`S2,`S0,`S1,`S3,`S4,`Ov,`Ow,`Ou,`S5,`nQ,`Td,`cX,`KA,`Ox,`J5,`S6,`Oz,`S7,`w_set,`J7,`Oy,`w_sub,`SX,`Bx,`J6,`w_pass,`S9,`S_,`OF,`OG,`OH,`Km,`OI,`Ky,`Kn,`Kl,`FU,`FV,`v7,`uj,`OK,`Br,`Kt,`w_fld,`OP,`Kr,`OQ,`Hv,`N6,`N7,`SQ,`N8,`N9,`SH,`SI,`SK,`SM,`SS,`SU,`Kz,`SO,`N_,`Oc,`Oh,`Od,`Oe,`Of,`JY,`FJ,`Oi,`FN,`Oj,`JZ,`FK,`Ol].foldrM (λn t=>`(tactic| first | apply $(Lean.mkIdent n) | $t:tactic)) (<-`(tactic| fail));`(tactic| (first | assumption | exact rfl | ((with_reducible apply J4);assumption;(intro env h;cases env;cases h;rfl)) | ((with_reducible apply J8);assumption;(intro env h;cases env;cases h;rfl)) | ((with_reducible apply OA);assumption;(intro env h;cases env;cases h;rfl)) | with_reducible $q:tactic | exact rfl | decide +kernel | refine λY c=>⟨?_,?_,?_⟩ | (intro _;rfl) | exact λ_ _=>rfl | exact DP _ | omega | exact⟨⟨rfl,rfl⟩,rfl,rfl,rfl⟩ | with_unfolding_all rfl | intro Y c d) <;> contradiction)
abbrev jp:Stmt:=top 15
abbrev ku:Stmt:=top 16
abbrev dM:Stmt:=top 17
abbrev iK:Stmt:=top 18
abbrev jz:Stmt:=top 21
abbrev kj:Stmt:=top 23
abbrev iR:Stmt:=top 24
abbrev mS:Stmt:=top 25
abbrev g6:Stmt:=top 30
abbrev gf:Stmt:=top 31
abbrev gq:Stmt:=top 32
abbrev gO:Stmt:=top 33
abbrev fY:Stmt:=top 34
abbrev iP:Stmt:=top 35
abbrev gW:Stmt:=top 36
abbrev jA:Stmt:=top 37
abbrev hJ:Stmt:=top 38
abbrev iO:Stmt:=top 39
abbrev oK:Stmt:=top 41
abbrev rS:VL:=["_law_script","_law_k","_law_cell"]
abbrev wW:VL:=["min","len","abs"]
abbrev si:VL:=["_law_script","_law_k"]
def GY(u:Sc X oK)(g:Gd X rS wW k)(y:h_ X)(j:Nn X "abs")(i:Nn X "len")(l:Nn X "min"):C0 X (aT oK) ya :=
 (o_.h (Ef (LP g 2 (Du (bu fu (bu ja be (kV g 1)) be)))
 (Ef (LO (rf (QA G_ (kV g 1) (JQ g 0 (vL g) l uL (cE (JQ g 1 qH i qX (cE (kV g 0) fk)) (cE be fk)))) (o_.h (Hn (LP g 2 (Du (FF (kV g 0) (kV g 1)))))) (o_.h (Hn (LO (rf (QA Ha (JQ g 1 qH i qX (cE (kV g 0) fk)) be) (o_.h (Hn (LP g 2 (Du (bu fu (bu fe (FF (kV g 0) (bu fe (kV g 1) (JQ g 0 (vL g) l uL (cE (JQ g 1 qH i qX (cE (kV g 0) fk)) (cE be fk))))) (bu uD be be)) (bu ja be (kV g 1))))))) o3))))))
 (Ef (LO (rf (QA Hb (JQ g 2 uP j vn (cE (kV g 2) fk)) (bu uD be be)) (o_.h (Hn (LQ (Sx (j5 (Du be) (j5 (Du (JQ g 2 uP j vn (cE (kV g 2) fk))) (j5 (Du be) vV))))))) o3))
 (Hn (LQ (Sx (j5 (Du be) (j5 (Du (bu fu (bu fe (kV g 2) be) (bu ja be (kV g 1)))) (j5 (Du be) vV))))))))))
abbrev mF:Stmt:=top 42
abbrev uH:VL:=["_law_pen_here","_law_size","_law_number_here","_law_drawn"]
abbrev u9:VL:=[]
abbrev Ck:VL:=["_law_pen_here","_law_size"]
def Cq(i:Sc X mF)(g:Gd X uH u9 k)(j:h_ X):C0 X (aT mF) yb :=
 (o_.h (Ef (LO (qL (bu fu (FF (kV g 0) be) be) (uM (kV g 0) be)))
 (Ef (LO (rf (QA (G9 g.room) (FF (kV g 0) be) be) (o_.h (Ef (LP g 3 (Du (bu fe (FF (kV g 0) be) (kV g 1))))
 (Ef (LO (qL (bu (yd g.room) (FF (kV g 0) be) (kV g 1)) (uM (kV g 0) be)))
 (Hn (LQ (Du (kV g 3))))))) o3))
 (Ef (LP g 2 (Du (bu fe (bu ja (bu fu (bu fu (FF (kV g 0) be) (bu ja be (FF (kV g 0) be))) be) be) be)))
 (Ef (LP g 2 (Du (bu fe (bu ja (kV g 2) (bu fu (bu fu (bu fe (kV g 2) be) (FF (kV g 0) be)) be)) be)))
 (Hn (LQ (Du (bu fe (bu (yd g.room) (bu fe (bu ja (kV g 2) (bu fu (bu fe (kV g 2) be) be)) be) be) (kV g 1))))))))))
abbrev js:Stmt:=top 43
abbrev jv:Stmt:=top 44
abbrev kh:Stmt:=top 45
abbrev m6:Stmt:=top 46
abbrev kn:Stmt:=top 47
abbrev mm:Stmt:=top 48
abbrev fJ:Stmt:=top 49
abbrev hR:Stmt:=top 50
abbrev f9:Stmt:=top 51
abbrev kq:Stmt:=top 52
abbrev ju:Stmt:=top 53
abbrev oS:Stmt:=top 54
abbrev yf:VL:=["_law_script","_law_turn","_law_pen_here","_law_n","_law_lines","_law_many","_law_other","_law_which","_law_thing","_law_far","_law_text_here","_law_sheet","_law_unknowns","_law_good","_law_some","_law_at"]
abbrev Ec:VL:=["_law_script"]
def Lq:lJ "law" oS Ec:=λ_ _ _ _ _ _=>Sv λ_=>rfl
abbrev mD:VL:=["thing"]
def xM{K:hW}(c:Wc X P w K mg base mD mD 0 (aE jp))(d:h_ X)(l:Zn K "isinstance")(j:Zn K "bool")(i:Zn K "int"):o_ X (aT jp) fL.m:=by unfold fL;apply nQ<;>contradiction
abbrev nJ:VL:=["thing"]
def zU{K:hW}(c:Wc X P w K mg base nJ nJ 0 (aE ku))(d:h_ X)(j:Zn K "len")(l:Zn K "isinstance")(i:Zn K "tuple"):o_ X (aT ku) gE.m:=by unfold gE;apply nQ<;>contradiction
abbrev fP:VL:=["a","b","rest"]
def o9{K:hW}(c:Wc X P w K mg base fP fP 0 (aE dM))(d:h_ X):o_ X (aT dM) cU.m:=by unfold cU;apply cX<;>contradiction
abbrev kZ:VL:=["thing"]
def wz{K:hW}(c:Wc X P w K mg base kZ kZ 1 (aE iK))(d:h_ X)(j:Zn K "abs")(u:FnAt P w K mg base "greatest_shared" Ps2 cS.m 1)(l:FnAt P w K mg base "is_whole" Ps0 c5.m 1)(i:FnAt P w K mg base "is_pair" Ps1 cw.m 1):o_ X (aT iK) dH.m:=by unfold dH;apply cX<;>contradiction
abbrev md:VL:=["n","thing"]
def yG{K:hW}(c:Wc X P w K mg base md md 1 (aE jz))(d:h_ X)(i:FnAt P w K mg base "is_whole" Ps0 c5.m 1):o_ X (aT jz) eK.m:=by unfold eK;apply nQ<;>contradiction
abbrev nH:VL:=["n","thing"]
def zi{K:hW}(c:Wc X P w K mg base nH nH 2 (aE kj))(d:h_ X)(i:Fp K mg "NOUGHT" 0 1)(l:FnAt P w K mg base "is_number" Ps3 cK.m 2)(u:FnAt P w K mg base "is_place" Ps4 cY.m 2)(j:FnAt P w K mg base "is_pair" Ps1 cw.m 1):o_ X (aT kj) gC.m:=by unfold gC;apply nQ<;>contradiction
abbrev k6:VL:=["n","things"]
def wB{K:hW}(c:Wc X P w K mg base k6 k6 3 (aE iR))(d:h_ X)(l:Zn K "len")(i:Zn K "set")(j:Zn K "all")(u:FnAt P w K mg base "is_part" Ps5 cv.m 3):o_ X (aT iR) dI.m:=by unfold dI;apply cX<;>contradiction
abbrev qf:VL:=["n","thing"]
def BV{K:hW}(c:Wc X P w K mg base qf qf 4 (aE mS))(d:h_ X)(l:Zn K "list")(j:Zn K "sorted")(u:Zn K "isinstance")(i:Zn K "tuple")(y:FnAt P w K mg base "are_parts" Ps6 dJ.m 4):o_ X (aT mS) fo.m:=by unfold fo;apply nQ<;>contradiction
abbrev jZ:VL:=["whole","text"]
def vR{K:hW}(c:Wc X P w K mg base jZ jZ 0 (aE g6))(d:h_ X)(i:Zn K "str"):o_ X (aT g6) fv.m:=by unfold fv;apply cX<;>contradiction
abbrev jg:VL:=["number","text"]
def tU{K:hW}(c:Wc X P w K mg base jg jg 1 (aE gf))(d:h_ X)(i:Zn K "abs")(j:FnAt P w K mg base "show_whole" Ps8 dY.m 1):o_ X (aT gf) eP.m:=by unfold eP;apply cX<;>contradiction
abbrev jb:VL:=["text"]
def tW{K:hW}(c:Wc X P w K mg base jb jb 0 (aE gq))(d:h_ X)(l:Zn K "all")(u:Zn K "len")(j:∃t,PySem.W.nsIn K mainGlobals "FIGURES"=J (J (.str "0123456789" t)))(i:∃t,PySem.W.nsIn K mainGlobals "MOST_FIGURES"=J (J (.int 60 t))):o_ X (aT gq) du.m:=by unfold du;apply nQ<;>contradiction
abbrev kg:VL:=["n","text","place"]
def uK{K:hW}(c:Wc X P w K mg base kg kg 2 (aE gO))(d:h_ X)(j:Zn K "str")(l:Zn K "int")(u:FnAt P w K mg base "is_place" Ps4 cY.m 2)(i:FnAt P w K mg base "are_figures" Ps10 cb.m 1):o_ X (aT gO) d4.m:=by unfold d4;apply cX<;>contradiction
abbrev jo:VL:=["text","cut","sign","top","bottom","number"]
def tX{K:hW}(c:Wc X P w K mg base jo jo 2 (aE fY))(d:h_ X)(j:Zn K "int")(l:Zn K "len")(y:FnAt P w K mg base "show_number" Ps9 eM.m 2)(u:FnAt P w K mg base "is_number" Ps3 cK.m 2)(i:FnAt P w K mg base "are_figures" Ps10 cb.m 1):o_ X (aT fY) dz.m:=by unfold dz;apply cX<;>contradiction
abbrev kX:VL:=["n","word","cut"]
def wn{K:hW}(c:Wc X P w K mg base kX kX 3 (aE iP))(d:h_ X)(i:FnAt P w K mg base "read_number" Ps12 bz.m 3)(j:FnAt P w K mg base "read_place" Ps11 d6.m 3):o_ X (aT iP) eY.m:=by unfold eY;apply cX<;>contradiction
abbrev jV:VL:=["n","words","row"]
def um{K:hW}(c:Wc X P w K mg base jV jV 5 (aE gW))(d:h_ X)(j:Zn K "tuple")(l:FnAt P w K mg base "is_row" Ps7 eA.m 5)(i:FnAt P w K mg base "read_part" Ps13 bG.m 4):o_ X (aT gW) c9.m:=by unfold c9;apply cX<;>contradiction
abbrev mW:VL:=["text"]
def yP{K:hW}(c:Wc X P w K mg base mW mW 2 (aE jA))(d:h_ X)(j:Zn K "isinstance")(i:Zn K "str")(rp:ON P w K mg base "NoText" "the line " " may not stand there" "line"):o_ X (aT jA) fE.m:=by unfold fE;apply cX<;>contradiction
abbrev jH:VL:=["text","lines","n","rows","i","line","words","row"]
def vP{K:hW}(c:Wc X P w K mg base jH jH 6 (aE hJ))(d:h_ X)(j:Zn K "tuple")(z:Zn K "enumerate")(y:Zn K "len")(i:∃t,PySem.W.nsIn K mainGlobals "MOST_PLACES"=J (J (.int 12 t)))(rp:ON P w K mg base "NoText" "the line " " may not stand there" "line")(u:FnAt P w K mg base "read_parts" Ps14 bQ.m 6)(l:FnAt P w K mg base "lines_of" Ps15 dD.m 3):o_ X (aT hJ) dj.m:=by unfold dj;apply cX<;>contradiction
abbrev kS:VL:=["n","text","rows","k","line","words","parts","right"]
def wk{K:hW}(c:Wc X P w K mg base kS kS 6 (aE iO))(d:h_ X)(y:Zn K "enumerate")(i:∃t,PySem.W.nsIn K mainGlobals "MOST_ROWS"=J (J (.int 20 t)))(rp:ON P w K mg base "NoText" "the line " " may not stand there" "line")(j:FnAt P w K mg base "lines_of" Ps15 dD.m 3)(l:FnAt P w K mg base "read_number" Ps12 bz.m 3)(u:FnAt P w K mg base "read_parts" Ps14 bQ.m 6):o_ X (aT iO) dG.m:=by unfold dG;apply cX<;>contradiction
abbrev m4:VL:=["_law_top","_law_bottom","_law_one","_law_other"]
def ye{K:hW}(c:Wc X P w K mg base m4 m4 0 (aE js))(d:h_ X)(i:Zn K "abs"):o_ X (aT js) g8.m:=by unfold g8;apply cX<;>contradiction
abbrev mj:VL:=["_law_pen_here","_law_way","_law_top","_law_bottom"]
def xP{K:hW}(c:Wc X P w K mg base mj mj 1 (aE jv))(d:h_ X)(i:FnAt P w K mg base "_law_lowest" Ps20 eG.m 1)(j:FnAt P w K mg base "_law_draw" Ps19 bJ 1):o_ X (aT jv) fG.m:=by unfold fG;apply cX<;>contradiction
abbrev oi:VL:=["_law_pen_here","_law_n","_law_some"]
def zI{K:hW}(c:Wc X P w K mg base oi oi 2 (aE kh))(d:h_ X)(u:Zn K "range")(i:Zn K "tuple")(j:FnAt P w K mg base "_law_draw" Ps19 bJ 1)(l:FnAt P w K mg base "_law_number" Ps21 bS.m 2):o_ X (aT kh) iS.m:=by unfold iS;apply cX<;>contradiction
abbrev pX:VL:=["_law_number_here"]
def AN{K:hW}(c:Wc X P w K mg base pX pX 0 (aE m6))(d:h_ X)(i:Zn K "str"):o_ X (aT m6) jW.m:=by unfold jW;apply cX<;>contradiction
abbrev om:VL:=["_law_parts_here"]
def zA{K:hW}(c:Wc X P w K mg base om om 1 (aE kn))(d:h_ X)(j:Zn K "str")(i:FnAt P w K mg base "_law_text" Ps23 gv.m 1):o_ X (aT kn) iT.m:=by unfold iT;apply nQ<;>contradiction
abbrev pZ:VL:=["_law_pen_here","_law_n","_law_i","_law_parts_here"]
def Ce{K:hW}(c:Wc X P w K mg base pZ pZ 3 (aE mm))(d:h_ X)(y:Zn K "str")(u:FnAt P w K mg base "_law_number" Ps21 bS.m 2)(i:FnAt P w K mg base "_law_text" Ps23 gv.m 1)(j:FnAt P w K mg base "_law_parts" Ps22 gK.m 3)(l:FnAt P w K mg base "_law_words" Ps24 gJ.m 2):o_ X (aT mm) io.m:=by unfold io;apply cX<;>contradiction
abbrev iF:VL:=["_law_pen_here","_law_some","_law_by","_law_top","_law_bottom"]
def sj{K:hW}(c:Wc X P w K mg base iF iF 2 (aE fJ))(d:h_ X)(u:Zn K "len")(l:Zn K "str")(i:FnAt P w K mg base "_law_draw" Ps19 bJ 1)(j:FnAt P w K mg base "_law_number" Ps21 bS.m 2):o_ X (aT fJ) dP.m:=by unfold dP;apply cX<;>contradiction
abbrev jM:VL:=["_law_pen_here","_law_n","_law_way","_law_some"]
def uX{K:hW}(c:Wc X P w K mg base jM jM 3 (aE hR))(d:h_ X)(l:Zn K "str")(j:FnAt P w K mg base "_law_draw" Ps19 bJ 1)(i:FnAt P w K mg base "_law_bad_number" Ps26 ci.m 3):o_ X (aT hR) fC.m:=by unfold fC;apply cX<;>contradiction
abbrev jh:VL:=["_law_pen_here","_law_n","_law_i","_law_words_here","_law_way","_law_heads","_law_line_here","_law_double","_law_twice","_law_head","_law_end","_law_part"]
def tZ{K:hW}(c:Wc X P w K mg base jh jh 4 (aE f9))(d:h_ X)(z:Zn K "int")(y:Zn K "str")(u:FnAt P w K mg base "_law_bad_part" Ps27 dR.m 4)(l:FnAt P w K mg base "_law_draw" Ps19 bJ 1)(i:FnAt P w K mg base "_law_bad_number" Ps26 ci.m 3)(j:FnAt P w K mg base "_law_line" Ps25 bI.m 4):o_ X (aT f9) eN.m:=by unfold eN;apply cX<;>contradiction
abbrev nA:VL:=["_law_n","_law_thing","_law_caught","e"]
def Aq{K:hW}(c:Wc X P w K mg base nA nA 7 (aE kq))(d:h_ X)(y:Zn K "isinstance")(l:Zn K "bool")(u:Zn K "ValueError")(tk:Tb K mg "FillError" "NoText" "line")(fg:Tc K mg "NoText" "line")(i_NoText:OO K mg "NoText" ["NoText"] ["NoText"])(i_ValueError:OO K mg "ValueError" ["NoText"] ["NoText"])(j_NoNumber:CA K mg "NoNumber" ["NoText"] [])(j_NoOrder:CA K mg "NoOrder" ["NoText"] [])(j_NoParting:CA K mg "NoParting" ["NoText"] [])(j_NoPivot:CA K mg "NoPivot" ["NoText"] [])(j_NoPlace:CA K mg "NoPlace" ["NoText"] [])(j_NoRow:CA K mg "NoRow" ["NoText"] [])(j_NoSheet:CA K mg "NoSheet" ["NoText"] [])(j_NoWeb:CA K mg "NoWeb" ["NoText"] [])(j_NoWord:CA K mg "NoWord" ["NoText"] [])(j_TooMany:CA K mg "TooMany" ["NoText"] [])(i:FnAt P w K mg base "read_sheet" Ps16 bH.m 7)(j:FnAt P w K mg base "read_rows" Ps17 bM.m 7):o_ X (aT kq) gH.m:=by unfold gH;apply cX<;>contradiction
abbrev mx:VL:=["_law_pen_here","_law_n","_law_lines","_law_sheet","_law_way","_law_at","_law_some","_law_last","_law_most","_law_more"]
def x3{K:hW}(c:Wc X P w K mg base mx mx 5 (aE ju))(d:h_ X)(y:Zn K "int")(B:Zn K "len")(C:Zn K "list")(z:Zn K "min")(u:Zn K "range")(l:Zn K "str")(j:FnAt P w K mg base "_law_bent_line" Ps28 bL.m 5)(i:FnAt P w K mg base "_law_draw" Ps19 bJ 1):o_ X (aT ju) gU.m:=by unfold gU;apply cX<;>contradiction
def Ps{K:hW}(c:Wc X P w K mg base yf yf 8 (aE oS))(d:h_ X)(G:Zn K "int")(j:Zn K "range")(i:FnAt P w K mg base "_law_pen" si (fQ rS.length si.length ya) 1)(E:FnAt P w K mg base "_law_draw" Ps19 bJ 1)(C:FnAt P w K mg base "_law_line" Ps25 bI.m 4)(z:FnAt P w K mg base "_law_heard" Ps29 aG.m 8)(B:FnAt P w K mg base "_law_spoilt" Ps30 cF.m 6):o_ X (aT oS) (aZ (fR (dm (ai (mC (.int 2)) c_)) (v1 1) (aZ (bq 2 (aY iG (ai (ar 0) (ai (ar 1) c_)))) dS.m)) (bK (mC (.bl I)))):=by obtain⟨u,l⟩:=c.gj (x:="range") (by decide +kernel);obtain⟨F,y⟩:=c.gj (x:="_law_pen") (by decide +kernel);refine⟨pH (AF c.g (UO c.g u (c.n j) (cE be fk) l) (UL c.g 1) (pH (UM c.g 2 (UN c.g F (i.c c.e) (cE (kV c.g 0) (cE (kV c.g 1) fk)) y)) (o_.h ?_))) (wF (ut G5))⟩;unfold dS;apply cX<;>contradiction
def Lr{K:hW}(b:Ba P w K mg base)(D0:g_ K "is_whole" jp)(D1:g_ K "is_pair" ku)(D2:g_ K "greatest_shared" dM)(D3:g_ K "is_number" iK)(D4:g_ K "is_place" jz)(D5:g_ K "is_part" kj)(D6:g_ K "are_parts" iR)(D7:g_ K "is_row" mS)(D8:g_ K "show_whole" g6)(D9:g_ K "show_number" gf)(bw:g_ K "are_figures" gq)(b3:g_ K "read_place" gO)(bp:g_ K "read_number" fY)(cc:g_ K "read_part" iP)(b9:g_ K "read_parts" gW)(cs:g_ K "lines_of" jA)(b8:g_ K "read_sheet" hJ)(dt:g_ K "read_rows" iO)(ca:g_ K "_law_pen" oK)(bm:g_ K "_law_draw" mF)(b4:g_ K "_law_lowest" js)(c0:g_ K "_law_number" jv)(b7:g_ K "_law_parts" kh)(cx:g_ K "_law_text" m6)(b6:g_ K "_law_words" kn)(dc:g_ K "_law_line" mm)(cB:g_ K "_law_bad_number" fJ)(ay:g_ K "_law_bad_part" hR)(dd:g_ K "_law_bent_line" f9)(b5:g_ K "_law_heard" kq)(c1:g_ K "_law_spoilt" ju)(da:g_ K "law" oS)(z0:Zn K "ValueError")(z1:Zn K "abs")(z2:Zn K "all")(z3:Zn K "bool")(z4:Zn K "enumerate")(Z:Zn K "int")(z6:Zn K "isinstance")(R:Zn K "len")(z8:Zn K "list")(z9:Zn K "min")(S:Zn K "range")(cp:Zn K "set")(c2:Zn K "sorted")(y:Zn K "str")(M:Zn K "tuple")(u:∃t,PySem.W.nsIn K mainGlobals "FIGURES"=J (J (.str "0123456789" t)))(i:∃t,PySem.W.nsIn K mainGlobals "MOST_FIGURES"=J (J (.int 60 t)))(j:∃t,PySem.W.nsIn K mainGlobals "MOST_PLACES"=J (J (.int 12 t)))(l:∃t,PySem.W.nsIn K mainGlobals "MOST_ROWS"=J (J (.int 20 t)))(C:rB K "NOUGHT" 0 1)(z:Tr K):FnAt P w K mg base "law" Ec Dw 9:=by
 have z:=z P w mg base b.kin b.ns;have W:∃t,mg "FIGURES"=J (.str "0123456789" t):=let⟨t,e⟩:=u;⟨t,PySem.W.mg_of b.kin b.ns e⟩;have H:∃t,mg "MOST_FIGURES"=J (.int 60 t):=let⟨t,e⟩:=i;⟨t,PySem.W.mg_of b.kin b.ns e⟩;have L:∃t,mg "MOST_PLACES"=J (.int 12 t):=let⟨t,e⟩:=j;⟨t,PySem.W.mg_of b.kin b.ns e⟩;have Q:∃t,mg "MOST_ROWS"=J (.int 20 t):=let⟨t,e⟩:=l;⟨t,PySem.W.mg_of b.kin b.ns e⟩;have E:=C.mg b.kin b.ns;have a0:=x_ (F:=c5) mD b D0 λX c d=>xM c d z6 z3 Z;have a1:=x_ (F:=cw) nJ b D1 λX c d=>zU c d R z6 M;have a2:=x_ (F:=cS) fP b D2 λX c d=>o9 c d;have a3:=x_ (F:=cK) kZ b D3 λX c d=>wz c d z1 a2 a0 a1;have a4:=x_ (F:=cY) md b D4 λX c d=>yG c d  a0;have a5:=x_ (F:=cv) nH b D5 λX c d=>zi c d E a3 a4 a1;have a6:=x_ (F:=dJ) k6 b D6 λX c d=>wB c d R cp z2 a5;have a7:=x_ (F:=eA) qf b D7 λX c d=>BV c d z8 c2 z6 M a6;have a8:=x_ (F:=dY) jZ b D8 λX c d=>vR c d y;have a9:=x_ (F:=eM) jg b D9 λX c d=>tU c d z1 a8;have ap:=x_ (F:=cb) jb b bw λX c d=>tW c d z2 R u i;have ds:=x_ (F:=d6) kg b b3 λX c d=>uK c d y Z a4 ap;have aa:=x_ (F:=bz) jo b bp λX c d=>tX c d Z R a9 a3 ap;have c4:=x_ (F:=bG) kX b cc λX c d=>wn c d  aa ds;have ac:=x_ (F:=bQ) jV b b9 λX c d=>um c d M a7 c4;have ag:=x_ (F:=dD) mW b cs λX c d=>yP c d z6 y z.rp;have cd:=x_ (F:=bH) jH b b8 λX c d=>vP c d M z4 R j z.rp ac ag;have bt:=x_ (F:=bM) kS b dt λX c d=>wk c d z4 l z.rp ag aa ac;have cn:=Sw (k:=0) (N:=rS) (G:=wW) (ps:=si) b ca λX e h g d=>GY h g d (e.n z1) (e.n R) (e.n z9);have B:=Sw (k:=0) (N:=uH) (G:=u9) (ps:=Ck) b bm λX e h g d=>Cq h g d;have db:=x_ (F:=eG) m4 b b4 λX c d=>ye c d z1;have U:=x_ (F:=bS) mj b c0 λX c d=>xP c d  db B;have ax:=x_ (F:=gK) oi b b7 λX c d=>zI c d S M B U;have ak:=x_ (F:=gv) pX b cx λX c d=>AN c d y;have dr:=x_ (F:=gJ) om b b6 λX c d=>zA c d y ak;have ab:=x_ (F:=bI) pZ b dc λX c d=>Ce c d y U ak ax dr;have an:=x_ (F:=ci) iF b cB λX c d=>sj c d R y B U;have as:=x_ (F:=dR) jM b ay λX c d=>uX c d y B an;have c3:=x_ (F:=bL) jh b dd λX c d=>tZ c d Z y as B an ab;have ch:=x_ (F:=aG) nA b b5 λX c d=>Aq c d z6 z3 z0 z.tk z.fg z.i_NoText z.i_ValueError z.j_NoNumber z.j_NoOrder z.j_NoParting z.j_NoPivot z.j_NoPlace z.j_NoRow z.j_NoSheet z.j_NoWeb z.j_NoWord z.j_TooMany cd bt;have dn:=x_ (F:=cF) mx b c1 λX c d=>x3 c d Z R z8 z9 S y c3 B;have b0:=Sw (k:=8) (N:=yf) (G:=Hr (aE oS)) (ps:=Ec) b da λX e h g d=>(Ps ⟨g,e,h⟩ d Z S cn B ab ch dn).h;exact b0
end Law
namespace PySem.W.Fast
def tw7895161634020286494:=0
def tw14172308921840432920:=0
def tw2535462486627177308:=0
def tw16711525843120201661:=0
def tw14424149071932066506:=0
def tw296417357692088532:=0
def tw14887302866350425957:=0
def tw6579496260197635661:=0
def tw8808948210266774007:=0
def tw6761975944422214626:=0
def tw16797452727406844016:=0
def tw9527713097919968092:=0
def tw12986565596650717812:=0
def tw11051614569751705282:=0
def tw13453239701264637567:=0
def tw9517724854328279350:=0
def tw16195612014315875546:=0
def tw12289667178228558392:=0
def tw15882867727195752441:=0
def tw14430395998753421006:=0
def tw3073921968205591782:=0
def tw15397904263096897828:=0
def tw13089649777060134074:=0
def tw6503929006592217428:=0
def tw11396164202621600958:=0
def tw5875514536258469405:=0
def tw13843335408684697211:=0
def tw5148165121787937974:=0
def tw7356600494137987686:=0
def tw10681761220704829600:=0
def tw1500608887436227546:=0
def tw13462663134793605867:=0
def tw17447579688520194016:=0
def tw12540274158987957788:=0
def tw16406411689408804795:=0
def tw1996430952196629535:=0
def tw8398555627081373389:=0
def tw2114601846888300316:=0
def tw11860727230651150733:=0
def tw10184554391491861533:=0
def tw7252065365023579582:=0
def tw5229875355234985007:=0
def tw2430171805163403272:=0
def tw17717050222272563630:=0
def tw84747233748089409:=0
def tw3676747635414593238:=0
def tw1177635556382258943:=0
def tw14306505029916539231:=0
def tw16187155697957567962:=0
def tw16183703964109212324:=0
def tw3075585008569620703:=0
def tw4850077994391656024:=0
def tw6035546379291045946:=0
def tw14720799814892951987:=0
def tw16510066431216248629:=0
def tw7727321532380811609:=0
def tw13669898188552691125:=0
def tw2499282982404377894:=0
def tw8405764723625040024:=0
def tw2685623722246352620:=0
def tw12658406743883333083:=0
def tw14237254389968384645:=0
def tw1412824052922998100:=0
def tw10865540548053448731:=0
def tw3865226014315343094:=0
def tw4674442504578509287:=0
def tw7838784336117557687:=0
def tw7696742234309267708:=0
def tw1308064641486858395:=0
def tw3937819577534146347:=0
def tw18136408777176828195:=0
def tw7328109539512197313:=0
def tw12636036184337200892:=0
def tw6528604999070908274:=0
def tw3722393718648278679:=0
def tw4456815280539532906:=0
def tw13795718306524715955:=0
def tw7302750704930982556:=0
def tw11303417412738240786:=0
def tw633983812031953701:=0
def tw2796778611923429377:=0
def tw1569124055530725017:=0
def tw7424341170272244177:=0
def tw3353181093420941816:=0
def tw9961834267907665175:=0
def tw12473075298479428457:=0
def tw10265316161874092743:=0
def tw13903149924155199899:=0
def tw6932586139835791008:=0
def tw17370145248055342804:=0
def tw2337279291138829691:=0
def tw3370621439175259611:=0
def tw11533506373268498228:=0
def tw1580255645513062673:=0
def tw13313627129155715828:=0
def tw1904429691465751246:=0
def tw663322134954971099:=0
def tw13267280296529245916:=0
def tw9491021287553561631:=0
def tw7194528744405042017:=0
def tw10323306653483941252:=0
def tw3242303660420066125:=0
def tw17069928068534646014:=0
def tw14814414368585278904:=0
def tw2140607723098061229:=0
def tw15307437068265622578:=0
def tw5127255068317310338:=0
def tw939765896642239351:=0
def tw3773117825630959629:=0
def tw6011866086813797821:=0
def tw2536014301014891148:=0
def tw7007032775458379883:=0
def tw15429065887159492167:=0
def tw15895754585363767358:=0
def tw10540245588976090794:=0
def tw18160499151612501879:=0
def tw16373384485625665549:=0
def tw2241186667759848013:=0
def tw12242181067901563976:=0
def tw14287758509432420520:=0
def tw10240505318407510735:=0
def tw10046640519108722808:=0
def tw2579005291242210237:=0
def tw15353738552239231809:=0
def tw4357345941086069189:=0
def tw11743297111404169393:=0
def tw13306919985917085565:=0
def tw14931618729635839012:=0
def tw2471738347808629026:=0
def tw15471337809343577045:=0
def tw13796099923077309055:=0
def tw5103647113866116164:=0
def tw12203360397665968350:=0
def tw4402065962352271228:=0
def tw15401361970203812400:=0
def tw17026833433976694668:=0
def tw11617439650797661717:=0
def tw11879989980268440936:=0
def tw11660387449426423367:=0
def tw4912651071096341334:=0
def tw75340144655291787:=0
def tw4495513114676499948:=0
def tw7241003691433724443:=0
def tw7946103178131003725:=0
def tw1144111950156395683:=0
def tw7784489126860104665:=0
def tw9869183764187228779:=0
def tw1467911449099609003:=0
def tw16508994375378868061:=0
def tw13564228470281850901:=0
def tw18443069924312377539:=0
def tw14449341961424287094:=0
def tw17255156735344383367:=0
def tw2978235204058600169:=0
def tw12362451588025399067:=0
def tw16962413222038275401:=0
def tw4730478003065108356:=0
def tw13944419766013955154:=0
def tw17319721908129536347:=0
def tw6830010830513943841:=0
def tw18265992562084196392:=0
def tw13046814008898858165:=0
def tw7489556870778749784:=0
def tw17965875343267835813:=0
def tw10757306063738122241:=0
def tw7772384830576324358:=0
def tw18150997274487541776:=0
def tw10483037307593191382:=0
def tw3505407833601053965:=0
def tw13020961430118756608:=0
def tw2247358704178896669:=0
def tw15928223631211774719:=0
def tw9879293543960297098:=0
def tw5912979566911995503:=0
def tw4507203081415362496:=0
def tw11119892315174597843:=0
def tw8145331612291851839:=0
def tw1482400672142509452:=0
def tw5947187244103862970:=0
def tw2268901620262200511:=0
def tw14384795595892859782:=0
def tw3010677628795034134:=0
def tw10465134030638710875:=0
def tw9359130366842743058:=0
def tw3650848163021304928:=0
def tw17233791107965827723:=0
def tw6003013028916830870:=0
def tw10863635014110912210:=0
def tw585064198332882561:=0
def tw17765868090685763905:=0
def tw7922892769411565838:=0
def tw13814590492417934485:=0
def tw9052230585025405715:=0
def tw4152650128344287980:=0
def tw14204552700923154510:=0
def tw15110306052709668257:=0
def tw15040531601575105395:=0
def tw17870460609505984412:=0
def tw17012576596807858121:=0
def tw6511801362732531260:=0
def tw4761213270780416932:=0
def tw15714361842393748815:=0
def tw17194681906457653928:=0
def tw11611658182189134539:=0
def tw7650185088984649919:=0
def tw4529968399147161131:=0
def tw5641945011430750441:=0
def tw12786191742826121762:=0
def tw9177328236545593784:=0
def tw630065462157962752:=0
def tw2300254543374225450:=0
def tw17966770785806062156:=0
def tw13863566948590174255:=0
def tw17753546045027034875:=0
def tw8292179133902896862:=0
def tw16268980360755156434:=0
def tw12712409579029866305:=0
def tw15319068338761830872:=0
def tw17284749459815535816:=0
def tw17229658603201131834:=0
def tw2802935519296905944:=0
def tw11150664558618201461:=0
def tw3390263241127544883:=0
def tw7360428938603109176:=0
def tw18023221466591694434:=0
def tw16650637862131239853:=0
def tw15623566055978403965:=0
def tw1409141201947676392:=0
def tw14653002435727951149:=0
def tw7120305974987042427:=0
def tw1822295734418339907:=0
def tw15609457569125570280:=0
def tw6704408282858662815:=0
def tw3230082933242877527:=0
def tw15521887809561204270:=0
def tw8264103455845625819:=0
def tw1160382434758297589:=0
end PySem.W.Fast
open PySem PySem.W PyProof.Rows
local macro_rules | `(tactic| and_intros) => `(tactic| (dsimp only [L2.nw]; first | k_is | (refine' MM.DX ?a ?l ?c ?k; (case a => k_is); (case l => k_is); (case c => k_is); (case k => k_is))))
set_option maxRecDepth 100000 in
set_option maxHeartbeats 0 in
theorem PySem.Challenge.cw_fewfills_k47_texts_refused_holds : PySem.Challenge.rw_fewfills_k47_texts_refused.Holds := by
  w_on; o_law; k_head; (case hw=>w_witness2)
  k_fill
  refine MM.Jr (l:=PySem.Challenge.rw_fewfills_k47_texts_refused) (k:=9) (x:="_law_script") (F:=Law.Dw) rfl rfl ⟨rfl,by decide,by decide,rfl⟩ (by decide +kernel) rfl (fun w h Y=>PySem.W.kIn_of Y) ?F Law.Eb
  case F=>
    intro w mg fa h KX G hmg
    have Dlaw:MM.g_ (L2.nw KX) "law" Law.oS:=by and_intros
    have D0:MM.g_ (L2.nw KX) "is_whole" Law.jp:=by and_intros
    have D1:MM.g_ (L2.nw KX) "is_pair" Law.ku:=by and_intros
    have D2:MM.g_ (L2.nw KX) "greatest_shared" Law.dM:=by and_intros
    have D3:MM.g_ (L2.nw KX) "is_number" Law.iK:=by and_intros
    have D4:MM.g_ (L2.nw KX) "is_place" Law.jz:=by and_intros
    have D5:MM.g_ (L2.nw KX) "is_part" Law.kj:=by and_intros
    have D6:MM.g_ (L2.nw KX) "are_parts" Law.iR:=by and_intros
    have D7:MM.g_ (L2.nw KX) "is_row" Law.mS:=by and_intros
    have D8:MM.g_ (L2.nw KX) "show_whole" Law.g6:=by and_intros
    have D9:MM.g_ (L2.nw KX) "show_number" Law.gf:=by and_intros
    have D10:MM.g_ (L2.nw KX) "are_figures" Law.gq:=by and_intros
    have D11:MM.g_ (L2.nw KX) "read_place" Law.gO:=by and_intros
    have D12:MM.g_ (L2.nw KX) "read_number" Law.fY:=by and_intros
    have D13:MM.g_ (L2.nw KX) "read_part" Law.iP:=by and_intros
    have D14:MM.g_ (L2.nw KX) "read_parts" Law.gW:=by and_intros
    have D15:MM.g_ (L2.nw KX) "lines_of" Law.jA:=by and_intros
    have D16:MM.g_ (L2.nw KX) "read_sheet" Law.hJ:=by and_intros
    have D17:MM.g_ (L2.nw KX) "read_rows" Law.iO:=by and_intros
    have D18:MM.g_ (L2.nw KX) "_law_pen" Law.oK:=by and_intros
    have D19:MM.g_ (L2.nw KX) "_law_draw" Law.mF:=by and_intros
    have D20:MM.g_ (L2.nw KX) "_law_lowest" Law.js:=by and_intros
    have D21:MM.g_ (L2.nw KX) "_law_number" Law.jv:=by and_intros
    have D22:MM.g_ (L2.nw KX) "_law_parts" Law.kh:=by and_intros
    have D23:MM.g_ (L2.nw KX) "_law_text" Law.m6:=by and_intros
    have D24:MM.g_ (L2.nw KX) "_law_words" Law.kn:=by and_intros
    have D25:MM.g_ (L2.nw KX) "_law_line" Law.mm:=by and_intros
    have D26:MM.g_ (L2.nw KX) "_law_bad_number" Law.fJ:=by and_intros
    have D27:MM.g_ (L2.nw KX) "_law_bad_part" Law.hR:=by and_intros
    have D28:MM.g_ (L2.nw KX) "_law_bent_line" Law.f9:=by and_intros
    have D29:MM.g_ (L2.nw KX) "_law_heard" Law.kq:=by and_intros
    have D30:MM.g_ (L2.nw KX) "_law_spoilt" Law.ju:=by and_intros
    have ZValueError:PySem.W.nsIn (L2.nw KX) mainGlobals "ValueError" = some none:=by and_intros
    have Z31:PySem.W.nsIn (L2.nw KX) mainGlobals "abs" = some none:=by and_intros
    have Z32:PySem.W.nsIn (L2.nw KX) mainGlobals "all" = some none:=by and_intros
    have Z33:PySem.W.nsIn (L2.nw KX) mainGlobals "bool" = some none:=by and_intros
    have Z34:PySem.W.nsIn (L2.nw KX) mainGlobals "enumerate" = some none:=by and_intros
    have Z35:PySem.W.nsIn (L2.nw KX) mainGlobals "int" = some none:=by and_intros
    have Z36:PySem.W.nsIn (L2.nw KX) mainGlobals "isinstance" = some none:=by and_intros
    have Z37:PySem.W.nsIn (L2.nw KX) mainGlobals "len" = some none:=by and_intros
    have Z38:PySem.W.nsIn (L2.nw KX) mainGlobals "list" = some none:=by and_intros
    have Z39:PySem.W.nsIn (L2.nw KX) mainGlobals "min" = some none:=by and_intros
    have Z40:PySem.W.nsIn (L2.nw KX) mainGlobals "range" = some none:=by and_intros
    have Z41:PySem.W.nsIn (L2.nw KX) mainGlobals "set" = some none:=by and_intros
    have Z42:PySem.W.nsIn (L2.nw KX) mainGlobals "sorted" = some none:=by and_intros
    have Z43:PySem.W.nsIn (L2.nw KX) mainGlobals "str" = some none:=by and_intros
    have Z44:PySem.W.nsIn (L2.nw KX) mainGlobals "tuple" = some none:=by and_intros
    have YFIGURES:∃ t,PySem.W.nsIn (L2.nw KX) mainGlobals "FIGURES" = some (some (.str "0123456789" t)):=by
      dsimp only [L2.nw]
      refine' MM.Kk ?h
      (case h=>k_is)
    have YMOST_FIGURES:∃ t,PySem.W.nsIn (L2.nw KX) mainGlobals "MOST_FIGURES" = some (some (.int 60 t)):=by
      dsimp only [L2.nw]
      refine' MM.Dg ?h
      (case h=>k_is)
    have YMOST_PLACES:∃ t,PySem.W.nsIn (L2.nw KX) mainGlobals "MOST_PLACES" = some (some (.int 12 t)):=by
      dsimp only [L2.nw]
      refine' MM.Dg ?h
      (case h=>k_is)
    have YMOST_ROWS:∃ t,PySem.W.nsIn (L2.nw KX) mainGlobals "MOST_ROWS" = some (some (.int 20 t)):=by
      dsimp only [L2.nw]
      refine' MM.Dg ?h
      (case h=>k_is)
    have YNOUGHT:MM.rB (L2.nw KX) "NOUGHT" 0 1:=by
      dsimp only [L2.nw]
      refine' MM.Fq ?h ?l
      (case h=>k_is)
      (case l=>k_is)
    have NP:Law.Tr (L2.nw KX):=by
      dsimp only [L2.nw]
      refine' Law.Lp ?p0 ?p1 ?p2 ?p3 ?p4 ?p5 ?p6 ?p7 ?p8 ?p9 ?p10 ?p11 ?p12 ?p13 ?p14 ?p15 ?p16 ?p17 ?p18 ?p19 ?p20 ?p21 ?p22 ?p23 ?p24 ?p25 ?p26 ?p27 ?p28 ?p29 ?p30 ?p31 ?p32 ?p33 ?p34 ?p35 ?p36 ?p37 ?p38 ?p39 ?p40 ?p41 ?p42 ?p43 ?p44 ?p45 ?p46 ?p47 ?p48 ?p49 ?p50 ?p51 ?p52 ?p53 ?p54 ?p55
      (case p0=>k_is)
      (case p1=>k_is)
      (case p2=>k_is)
      (case p3=>k_is)
      (case p4=>first | with_unfolding_all rfl | simp)
      (case p5=>k_is)
      (case p6=>k_exc)
      (case p7=>k_is)
      (case p8=>k_is)
      (case p9=>k_is)
      (case p10=>k_is)
      (case p11=>k_is)
      (case p12=>k_is)
      (case p13=>k_is)
      (case p14=>k_is)
      (case p15=>k_is)
      (case p16=>k_is)
      (case p17=>k_is)
      (case p18=>k_is)
      (case p19=>k_is)
      (case p20=>k_is)
      (case p21=>k_is)
      (case p22=>k_is)
      (case p23=>k_is)
      (case p24=>k_is)
      (case p25=>k_is)
      (case p26=>k_is)
      (case p27=>k_is)
      (case p28=>k_is)
      (case p29=>k_is)
      (case p30=>k_is)
      (case p31=>k_is)
      (case p32=>kit_is)
      (case p33=>kit_is)
      (case p34=>kit_is)
      (case p35=>kit_is)
      (case p36=>kit_is)
      (case p37=>kit_is)
      (case p38=>kit_is)
      (case p39=>kit_is)
      (case p40=>kit_is)
      (case p41=>kit_is)
      (case p42=>kit_is)
      (case p43=>kit_is)
      (case p44=>kit_is)
      (case p45=>kit_is)
      (case p46=>kit_is)
      (case p47=>kit_is)
      (case p48=>kit_is)
      (case p49=>kit_is)
      (case p50=>kit_is)
      (case p51=>kit_is)
      (case p52=>kit_is)
      (case p53=>kit_is)
      (case p54=>kit_is)
      (case p55=>exact ZValueError)
    exact MM.Jq Dlaw Law.Lq hmg KX G fun base kb nb=>Law.Lr ⟨kb,nb⟩ D0 D1 D2 D3 D4 D5 D6 D7 D8 D9 D10 D11 D12 D13 D14 D15 D16 D17 D18 D19 D20 D21 D22 D23 D24 D25 D26 D27 D28 D29 D30 Dlaw ZValueError Z31 Z32 Z33 Z34 Z35 Z36 Z37 Z38 Z39 Z40 Z41 Z42 Z43 Z44 YFIGURES YMOST_FIGURES YMOST_PLACES YMOST_ROWS YNOUGHT NP
