import PyProof.Rows.All
import Wide.All
import OpenK.AllK
import Wide.FinOn
import Lean
import PyProof.EqAt
import PyProof.EqKinds
import PyProof.TupleCall
import PyProof.ReprRoads
import PyProof.FitsInt
import PyProof.FitsBits
import PyProof.Rows.IntMath
import PyProof.ConsumeWalk
import PyProof.WalkInts
import PyProof.ListRange
import PySem.SetTable
import PyProof.SetKind
import PyProof.TupleKey
import PyProof.DictKinds
import PyProof.IsRules
import PyProof.Rows.SetFrom
import PyProof.CollectIter
import PyProof.ForAny
import PyProof.Rows.SortRuns
import PyProof.Rows.SortKey
import KE.KSortTup
import PyProof.ZipIter
import PyProof.Draws
import PyProof.EnumMake
import PyProof.TupleIter
import PyProof.P3Eq
import PyProof.StrCalls2
import PyProof.StrCalls3
import PyProof.FString
import PyProof.SetRoads
import PyProof.Rows.SeqMore
import PyProof.CallFns
import PyProof.StrOps
import PyProof.Rows.Chain
import PyProof.Rows.TupDisplay
import PyProof.MeetsSeq
import KE.KDictList
import PyProof.DictRoadsH
import PyProof.SumWalkG
import PySem.Challenge.RW_fewfills_k26_whole_fill_is_among_them
set_option Elab.async false
set_option bootstrap.genMatcherCode false
set_option compiler.extract_closed false
set_option genSizeOf false
set_option linter.all false
set_option maxRecDepth 100000
noncomputable section
local macro_rules|`(command|def $i:declId $s:optDeclSig $v:declVal)=>`(command|noncomputable def $i:declId $s:optDeclSig $v:declVal)
local macro_rules|`(command|abbrev $i:declId $s:optDeclSig $v:declVal)=>`(command|noncomputable abbrev $i:declId $s:optDeclSig $v:declVal)
open PySem
abbrev _root_.TQ:=List Str
abbrev _root_.TR:=List Int
abbrev _root_.TU:=List (List Int)
abbrev _root_.TV:=List Nat
abbrev _root_.TX:=List Addr
abbrev _root_.TZ:=List Value
abbrev _root_.T0:=List (Addr×Obj)
abbrev _root_.T1:=Option Value
abbrev _root_.T4:=Option Int
abbrev _root_.T5:=List Expr
abbrev _root_.T7:=Value->Shared->Prop
abbrev _root_.T8:=Str->Option Value
abbrev _root_.UL:=Option Nat
abbrev d_:=@wpAny_bind
abbrev hU:=@PySem.W.Frag
abbrev l7:=@List.mem_cons_of_mem
abbrev n7:=@Heap.get?_push_of_some
abbrev ia:=@Nat.le_refl
abbrev qp:=@List.getElem?_eq_some_iff
abbrev ii:=@wpAny_pure
abbrev b_:=@if_pos
abbrev q0:=@List.mem_append_right
abbrev mm:=@List.length_map
abbrev nt:=@List.mem_append
abbrev pa:=@List.mem_cons_self
abbrev e_:=@if_neg
abbrev pk:=@Bool.false_eq_true
abbrev t0:=@Option.map_eq_some_iff
abbrev we:=@List.getElem?_append_left
abbrev n8:=@List.map_cons
abbrev pq:=@List.size_toArray
abbrev l_:=@List.mem_cons
abbrev tu:=@List.getElem?_set_ne
abbrev s_:=@Heap.get?_push_size
abbrev rc:=@Nat.lt_of_lt_of_le
abbrev v7:=@Array.getElem?_toList
abbrev ml:=@List.mem_map
abbrev m_:=@Nat.le_trans
abbrev nw:=@Heap.lt_size
abbrev tx:=@List.getElem?_map
abbrev vT:=@List.set_cons_succ
abbrev v1:=@List.set_cons_zero
abbrev xn:=@List.mem_append_left
abbrev B2:=@List.getElem?_cons_succ
abbrev B3:=@List.getElem?_cons_zero
abbrev zm:=@List.mem_iff_getElem?
abbrev wO:=@List.length_append
abbrev Bq:=@List.getElem?_append_right
abbrev xp:=@Int.toNat_natCast
abbrev As:=@Array.length_toList
abbrev BE:=@List.getElem?_eq_getElem
abbrev sf:=@Nat.zero_add
abbrev Br:=@List.getElem?_set_self
abbrev BF:=@Option.bind_eq_some_iff
abbrev BG:=@Option.getD_some
abbrev Be:=@List.mem_of_getElem?
abbrev y7:=@List.mem_filter
abbrev t3:=@Nat.ne_of_lt
abbrev t_:=@Nat.zero_le
abbrev wh:=@Nat.le_of_lt
abbrev Bg:=@List.nodup_append
abbrev A4:=@Option.bind_some
abbrev B4:=@List.length_filter_le
abbrev Bh:=@List.map_nil
abbrev CQ:=@List.pairwise_iff_getElem
abbrev Bs:=@List.length_drop
abbrev CD:=@List.take_of_length_le
abbrev BH:=@List.length_cons
abbrev BI:=@List.filter_cons
abbrev CF:=@List.take_append_drop
abbrev CT:=@List.length_eq_zero_iff
abbrev B5:=@List.pairwise_cons
abbrev Fe:=@List.drop_eq_getElem_cons
abbrev B6:=@List.append_assoc
abbrev AL:=@List.map_map
abbrev B7:=@List.mem_flatMap
abbrev Bt:=@Nat.lt_irrefl
abbrev CG:=@List.mem_filterMap
abbrev CU:=@List.getElem_of_mem
abbrev B8:=@List.length_nil
abbrev FU:=@List.getElem?_replicate
abbrev CV:=@Bool.false_ne_true
abbrev FV:=@List.drop_eq_nil_of_le
abbrev B9:=@List.take_succ
abbrev CH:=@List.length_take
abbrev Ff:=@Nat.add_sub_cancel'
abbrev FW:=@List.getElem?_eq_none
abbrev FX:=@List.getElem?_toArray
abbrev CW:=@Array.toList_push
abbrev Fg:=@List.mem_singleton
abbrev CJ:=@List.map_append
abbrev CY:=@List.lookup_cons
abbrev CZ:=@List.take_length
abbrev Kv:=@List.perm_ext_iff_of_nodup
abbrev Kw:=@Array.getElem?_eq_some_iff
abbrev FY:=@Array.toList_append
abbrev Kx:=@Array.getElem?_eq_getElem
abbrev JY:=@Heap.get?_update_self
abbrev C0:=@Array.size_push
abbrev FZ:=@Nat.sub_add_cancel
abbrev Fh:=@Array.toList_inj
abbrev CK:=@Bool.not_true
abbrev C1:=@List.mem_range
abbrev F0:=@Bool.not_eq_true'
abbrev F1:=@Nat.le_of_lt_succ
abbrev JZ:=@List.filterMap_cons
abbrev Fi:=@Nat.min_eq_left
abbrev Ky:=@Array.getElem?_extract
abbrev F2:=@Nat.succ_le_succ
abbrev Kz:=@List.length_replicate
abbrev Fj:=@Heap.size_push
abbrev KA:=@Nat.le_sub_one_of_lt
abbrev F3:=@List.append_nil
abbrev F4:=@List.nodup_cons
abbrev NZ:=@List.getElem?_take_of_lt
abbrev J0:=@Nat.lt_succ_of_lt
abbrev J1:=@List.pairwise_map
abbrev J2:=@Nat.le_of_succ_le
abbrev J3:=@List.reverse_cons
abbrev J4:=@List.getElem_drop
abbrev N0:=@List.length_filterMap_le
abbrev C2:=@Nat.ne_of_gt
abbrev KC:=@Heap.get?_update_ne
abbrev KD:=@List.map_congr_left
abbrev J5:=@Nat.lt_succ_self
abbrev J6:=@List.not_mem_nil
abbrev J7:=@List.perm_middle
abbrev J8:=@Nat.le_add_right
abbrev N1:=@Heap.get?_update_other
abbrev N2:=@List.pairwise_lt_range
abbrev KG:=@Nat.pos_of_ne_zero
abbrev KH:=@Array.size_append
abbrev KI:=@List.ext_getElem?
abbrev CM:=@Nat.sub_le
abbrev Po:=@Array.getElem?_eq_none_iff
abbrev Pp:=@Array.perm_iff_toList_perm
abbrev Pq:=@Int.fmod_eq_emod_of_nonneg
abbrev N3:=@Array.toList_extract
abbrev N4:=@List.mem_of_mem_drop
abbrev N5:=@List.mem_of_mem_take
abbrev N6:=@List.mem_iff_getElem
abbrev Pr:=@List.extract_eq_take_drop
abbrev KJ:=@Bool.and_eq_true
abbrev KL:=@Nat.sub_sub_self
abbrev KN:=@Nat.min_eq_right
abbrev Fk:=@Nat.le_succ
abbrev N7:=@List.replicate_succ
abbrev N8:=@Nat.sub_le_sub_left
abbrev N9:=@Nat.add_lt_add_left
abbrev KO:=@Option.map_some
abbrev J9:=@List.any_cons
abbrev Ps:=@List.pairwise_filterMap
abbrev N_:=@List.getElem?_drop
abbrev Oa:=@Nat.lt_of_le_of_lt
abbrev Pt:=@List.range_succ_eq_map
abbrev Pu:=@Array.getElem?_eq_none
abbrev Ob:=@List.drop_sublist
abbrev Fm:=@Nat.sub_lt
abbrev F5:=@Nat.one_pos
abbrev Oc:=@List.nodup_range
abbrev Od:=@List.any_eq_true
abbrev Pw:=@List.pairwise_append
abbrev R6:=@List.perm_append_singleton
abbrev Px:=@Bool.not_eq_false'
abbrev Oe:=@List.nodup_nil
abbrev Of:=@Bool.not_false
abbrev Py:=@List.take_sublist
abbrev Pz:=@List.foldl_append
abbrev PC:=@Nat.lt_trichotomy
abbrev PD:=@List.flatMap_cons
abbrev R7:=@Nat.add_sub_cancel_left
abbrev R8:=@List.pairwise_mergeSort
abbrev R9:=@List.filter_cons_of_pos
abbrev R_:=@List.filter_cons_of_neg
abbrev PF:=@List.drop_length
abbrev PH:=@List.all_eq_true
abbrev PJ:=@Nat.lt_of_not_le
abbrev PK:=@List.getElem_mem
abbrev Sa:=@List.getElem_cons_drop
abbrev Sb:=@Nat.sub_eq_zero_iff_le
abbrev Sd:=@Nat.eq_zero_of_not_pos
abbrev Se:=@List.filter_eq_nil_iff
abbrev PL:=@List.of_mem_zip
abbrev PM:=@List.foldl_cons
abbrev Og:=@Nat.lt_trans
abbrev Sf:=@Nat.le_sub_of_add_le'
abbrev Sg:=@List.perm_append_comm
abbrev Sh:=@Nat.le_of_sub_eq_zero
abbrev PN:=@List.range_succ
abbrev Oh:=@List.map_id'
abbrev PP:=@Bool.and_false
abbrev PQ:=@Nat.sub_add_eq
abbrev PX:=@List.drop_zero
abbrev PY:=@Int.ediv_one
abbrev PZ:=@Nat.le_of_eq
abbrev P0:=@Nat.sub_zero
noncomputable section
local macro_rules | `(tactic| ext) => `(tactic| omega)
local instance (priority:=1) cdec (p:Prop):Decidable p:=Classical.propDecidable p
local macro_rules | `(⋯) => `(by lia)
open Option renaming some->J,none->Y
open Bool renaming true->I,false->T
namespace L2
open PySem.Spec PyProof.Rows
abbrev Bu:=Sum Int Str
def Fo:Bu->Value->Bool
 |.inl k,v=>Value.isInt k v
 |.inr x,v=>Value.isStrOf x v
def P1(w:World):Bu->Int
 |.inl k=>hashInt k
 |.inr x=>hashStr w x
def bW:∀{k:Bu}{v:Value},Fo k v=I->(∃i t,k=Sum.inl i/\v=Value.int i t)\/(∃x t,k=Sum.inr x/\v=Value.str x t)
 |.inl i,v,h=>by
  obtain⟨t,e⟩:=Value.isInt_shape h;exact .inl ⟨i,t,rfl,e⟩
 |.inr x,v,h=>by
  obtain⟨t,e⟩:=Value.isStrOf_shape h;exact .inr ⟨x,t,rfl,e⟩
def F6(a b:Int):decide ((Sum.inl a:Bu)=Sum.inl b)=(a==b):=by
 by_cases e:a=b
 .subst e;simp
 .have h:¬(Sum.inl a:Bu)=Sum.inl b:=λq=>e (Sum.inl.inj q);rw[decide_eq_false h];exact(beq_eq_false_iff_ne.mpr e).symm
def F7(a b:Str):decide ((Sum.inr a:Bu)=Sum.inr b)=decide (a=b):=by simp
def F8(a:Int)(b:Str):decide ((Sum.inl a:Bu)=Sum.inr b)=T:=decide_eq_false (λq=>nomatch q)
def F9(a:Str)(b:Int):decide ((Sum.inr a:Bu)=Sum.inl b)=T:=decide_eq_false (λq=>nomatch q)
def pK(prog:Program)(w:World):PySem.KeyKind prog w Bu where
 is:=Fo
 hash:=P1 w
 inj:=λv a b l f=>by
  rcases bW l with⟨i,t,rfl,rfl⟩|⟨x,t,rfl,rfl⟩
  .rcases bW f with⟨j,u,rfl,e⟩|⟨y,u,rfl,e⟩
   .injection e with e1 _;rw[e1]
   .exact nomatch e
  .rcases bW f with⟨j,u,rfl,e⟩|⟨y,u,rfl,e⟩
   .exact nomatch e
   .injection e with e1 _;rw[e1]
 byValue:=λk v h=>by
  rcases bW h with⟨i,t,rfl,rfl⟩|⟨x,t,rfl,rfl⟩<;>rfl
 pyHash:=λhv h=>by
  rcases bW hv with⟨i,t,rfl,rfl⟩|⟨x,t,rfl,rfl⟩
  .exact wpAny_pyHash_int h
  .exact wpAny_pyHash_str h
 eqBool:=λr hv h=>by
  rcases bW r with⟨i,t,rfl,rfl⟩|⟨x,t,rfl,rfl⟩
  .rcases bW hv with⟨j,u,rfl,rfl⟩|⟨y,u,rfl,rfl⟩
   .rw[F6]at h;exact wpAny_eqBool_int h
   .rw[F8]at h;exact SeqAt.EqAt.int_str i t y u _ _ _ _ h
  .rcases bW hv with⟨j,u,rfl,rfl⟩|⟨y,u,rfl,rfl⟩
   .rw[F9]at h;exact SeqAt.EqAt.str_int x t j u _ _ _ _ h
   .rw[F7]at h;exact wpAny_eqBool_str h
 «strs»:=λk x t v h=>by
  rcases bW h with⟨i,u,rfl,e⟩|⟨y,u,rfl,e⟩
  .exact nomatch e
  .injection e with e1 _
   subst e1;cases v<;>rfl
inductive V where
 |non | bl (b:Bool) | int (i:Int) | str (x:Str) | byt (b:Array UInt8) | flt (b:UInt64) | ref (a:Addr) | ty (n:String)
 deriving DecidableEq
def aS:V->Value->Prop
 |.non,u=>u=Value.none
 |.bl b,u=>u=Value.bool b
 |.int i,u=>∃t,u=Value.int i t
 |.str x,u=>∃t,u=Value.str x t
 |.byt b,u=>∃t,u=Value.bytes b t
 |.flt b,u=>∃t,u=Value.float b t
 |.ref a,u=>u=Value.ref a
 |.ty n,u=>u=Value.type n
abbrev aD:List V->TZ->Prop:=Paired aS
def aD.length(r:aD xs us):xs.length=us.length:=Paired.length r
def aD.get{xs:List V}{a:TZ}{i:Nat}{x:V}(r:aD xs a)(e:xs[i]?=J x):∃u,a[i]?=J u/\aS x u:=by
 induction r generalizing i with
 |nil=>cases e
 |cons r t f =>
  cases i with
  |zero=>cases e;exact⟨_,rfl,r⟩
  |succ i=>have z:=@f i e;exact z
def aD.set(r:aS x u)(i:Nat)(q:aD xs us):aD (xs.set i x) (us.set i u):=by
 induction q generalizing i with
 |nil=>exact .nil
 |cons a t f =>
  cases i with
  |zero=>exact .cons r t
  |succ i=>exact .cons a (f i)
def aD.append(r:aD xs us)(s:aD ys ws):aD (xs++ys) (us++ws):=by
 induction r with
 |nil=>exact s
 |cons r t a=>exact .cons r a
def aD.take(n:Nat)(r:aD xs us):aD (xs.take n) (us.take n):=by
 induction r generalizing n with
 |nil=>cases n<;>exact .nil
 |cons a t f =>
  cases n with
  |zero=>exact .nil
  |succ n=>exact .cons a (f n)
def aD.drop(n:Nat)(r:aD xs us):aD (xs.drop n) (us.drop n):=by
 induction r generalizing n with
 |nil=>cases n<;>exact .nil
 |cons a t f =>
  cases n with
  |zero=>exact .cons a t
  |succ n=>exact f n
def KP:Option V->T1->Prop
 |some v,J u=>aS v u
 |none,Y=>True
 |_,_=>False
def KV{κ:Type}:List (κ×V)->List (κ×Value)->Prop:=Paired λ(p:κ×V)(q:κ×Value)=>p.1=q.1/\aS p.2 q.2
def kV:Bu->V
 |.inl i=>.int i
 |.inr x=>.str x
inductive HO where
 |lst(xs:List V)
 |tup(xs:List V)
 |dK(kvs:List (Bu×V)) | dT (kvs:List (List Bu×V))
 |set(S:Int->Bool)(n:Nat)
 |ins(C dx:Addr)(fs:List (Str×V))
 |own(x:Addr)
 |xd(fs:List (Str×V))
 |met(f x:Addr)
 |rng(lo hi:Int)
 |frz(o:Obj)(u:HO)
 |tbl(ps:Array Value)
 |ext(φ:Heap->Prop)
abbrev Hp:=Addr->Option HO
def lf(H:Hp)(a:Addr)(o:HO):Hp:=λb=>if b=a then J o else H b
def bU:lf H a o a=J o:=by unfold lf;rw[b_ rfl]
def aY(h:b≠a):lf H a o b=H b:=by unfold lf;rw[e_ h]
def bO{H:Hp}{a b:Addr}{o:HO}(h:H a=J o)(f:H b=Y):a≠b:=by intro e;subst e;rw[h]at f;cases f
def iQ(h:Heap)(a:Addr)(f:Array Value):Prop:=∃o,h.get? a=J o/\o.cls=.type "tuple"/\(∃n,o.data=.seq f n)/\o.dict=Y
def iQ.tup(t:iQ h a its):IsTup h a its:=let⟨o,e,c,d,_⟩:=t;⟨o,e,c,d⟩
def iQ.lt(t:iQ h a its):a<h.objs.size:=t.tup.lt
def iQ.new(h:Heap)(a:Array Value):iQ (h.push { cls:=.type "tuple",data:=.seq a}) h.objs.size a:=⟨_,s_ h rfl,rfl,⟨_,rfl⟩,rfl⟩
section
variable(P:Program)(w:World)
def ObjOk(H:Hp)(h:Heap)(a:Addr):HO->Prop
 |.lst xs=>xs.length<=sizeLine/\∃(i:TZ) (n:Nat),aD xs i/\h.get? a=J { cls:=.type "list",data:=.seq i.toArray n}
 |.tup xs=>xs.length<=sizeLine/\∃i:TZ,aD xs i/\iQ h a i.toArray
 |.dK j=>j.length<=sizeLine/\(a==sysModules)=T/\∃E,KV j E/\h.DictOf (pK P w) a E
 |.dT j=>j.length<=sizeLine/\(a==sysModules)=T/\∃xs:List (List Bu×Addr×Value),
   Paired (λ(p:List Bu×V)(q:List Bu×Addr×Value)=>p.1=q.1/\H q.2.1=J (.tup (p.1.map kV))/\aS p.2 q.2.2) j xs /\
   ∃o B F,h.get? a=J o/\o.ExactDict/\o.data=.dict B F/\B.toList=xs.map (entryOfKey (tupleKind (pK P w)))/\(xs.map (·.1)).Nodup
 |.set S n=>h.SetOf (intKind P w) a S n
 |.ins C r fs=>H r=J (.own a)/\fs.length<=1000/\r≠a/\h.get? a=J (PySem.W.instObj C r) /\
   ∃l,h.Ns1 r l/\(∀f,KP (fs.lookup f) (l f))/\PySem.Within l (fs.map (·.1))
 |.own _=>∃o,h.get? a=J o
 |.xd fs=>∃l,h.Ns1 a l/\∀f,KP (fs.lookup f) (l f)
 |.rng lo L=>∃t u v,h.get? a=J { cls:=.type "range",data:=.fields #[.int lo t,.int L u,.int 1 v]}
 |.frz o u=>h.get? a=J o/\ObjOk H h a u
 |.tbl G=>h.get? a=J { cls:=.none,data:=.fields G}
 |.met f x=>h.get? a=J (PySem.W.methodObj (.ref f) (.ref x))
 |.ext φ=>φ h/\(∃o,h.get? a=J o)/\∀y z:Heap,φ y->(∀o,y.get? a=J o->z.get? a=J o)->φ z
def HOk(H:Hp)(h:Heap):Prop:=∀a o,H a=J o->ObjOk P w H h a o
end
section
variable{P:Program}{w:World}{H H':Hp}{h h':Heap}{a:Addr}{o:HO}
def ObjOk.lt(x:ObjOk P w H h a o):a<h.objs.size:=by
 cases o with
 |lst xs=>obtain⟨_,_,_,_,e⟩:=x;exact nw e
 |tup xs=>obtain⟨_,_,_,p⟩:=x;exact p.lt
 |dK i=>obtain⟨_,_,_,_,o,_,_,e,_⟩:=x;exact nw e
 |dT i=>obtain⟨_,_,_,_,o,_,_,e,_⟩:=x;exact nw e
 |set S n=>obtain⟨o,_,_,_,e,_⟩:=x;exact nw e
 |ins C j fs=>obtain⟨_,_,_,e,_⟩:=x;exact nw e
 |own y=>obtain⟨_,e⟩:=x;exact nw e
 |xd fs=>obtain⟨_,⟨_,_,_,e,_⟩,_⟩:=x;exact nw e
 |rng lo r=>obtain⟨_,_,_,e⟩:=x;exact nw e
 |frz z u=>obtain⟨e,_⟩:=x;exact nw e
 |tbl l=>exact nw (x)
 |met f y=>exact nw (x)
 |ext φ=>obtain⟨_,⟨_,e⟩,_⟩:=x;exact nw e
def Paired.mapP{α β:Type}{F G:α->β->Prop}{i:List α}{j:List β}(r:Paired F i j)(f:∀a b,F a b->G a b):Paired G i j:=by
 induction r with
 |nil=>exact .nil
 |cons r t l=>exact .cons (f _ _ r) l
def ObjOk.stay(x:ObjOk P w H h a o)(k:∀b u,(b=a\/H b=J (.own a))->h.get? b=J u->h'.get? b=J u)(L:∀b,H b=J (.own a)->H' b=J (.own a))(O:∀b xs,H b=J (.tup xs)->H' b=J (.tup xs)):ObjOk P w H' h' a o:=by
 induction o with
 |lst xs=>obtain⟨z,B,n,r,e⟩:=x;exact⟨z,B,n,r,k _ _ (.inl rfl) e⟩
 |tup xs=>obtain⟨z,B,r,i,e,c⟩:=x;exact⟨z,B,r,i,k _ _ (.inl rfl) e,c⟩
 |dK G=>obtain⟨z,y,Q,r,i,l,j,e,c⟩:=x;exact⟨z,y,Q,r,i,l,j,k _ _ (.inl rfl) e,c⟩
 |dT G =>
  obtain⟨z,y,xs,r,i,l,j,e,c⟩:=x;exact⟨z,y,xs,Paired.mapP r λp q z=>⟨z.1,O _ _ z.2.1,z.2.2⟩,i,l,j,k _ _ (.inl rfl) e,c⟩
 |set S n=>obtain⟨i,l,j,t,e,c⟩:=x;exact⟨i,l,j,t,k _ _ (.inl rfl) e,c⟩
 |ins C R fs =>
  obtain⟨d,z,ne,e,F,⟨E,l,j,e2,c⟩,r⟩:=x;exact⟨L _ d,z,ne,k _ _ (.inl rfl) e,F,⟨E,l,j,k _ _ (.inr d) e2,c⟩,r⟩
 |own y=>obtain⟨i,e⟩:=x;exact⟨i,k _ _ (.inl rfl) e⟩
 |xd fs=>obtain⟨F,⟨E,l,j,e,c⟩,r⟩:=x;exact⟨F,⟨E,l,j,k _ _ (.inl rfl) e,c⟩,r⟩
 |rng lo W=>obtain⟨t,u,v,e⟩:=x;exact⟨t,u,v,k _ _ (.inl rfl) e⟩
 |frz i u M=>obtain⟨e,q⟩:=x;exact⟨k _ _ (.inl rfl) e,M q⟩
 |tbl U =>
  have e:=x;exact k a _ (.inl rfl) e
 |met f y =>
  have e:=x;exact k a _ (.inl rfl) e
 |ext φ=>obtain⟨p,⟨o,e⟩,st⟩:=x;exact⟨st _ _ p λo q=>k _ _ (.inl rfl) q,⟨o,k _ _ (.inl rfl) e⟩,st⟩
def HOk.lt(x:HOk P w H h)(e:H a=J o):a<h.objs.size:=(x a o e).lt
def HOk.fresh(x:HOk P w H h)(e:h.objs.size<=a):H a=Y:=by
 cases q:H a with
 |none=>rfl
 |some u=>exact absurd (rc (x.lt q) e) (Bt _)
def HOk.kept(x:HOk P w H h)(k:∀b u,h.get? b=J u->h'.get? b=J u):HOk P w H h':=λa o e =>
 (x a o e).stay (λb u _ q=>k b u q) (λ_ q=>q) λ_ _ q=>q
def HOk.laid(x:HOk P w H h)(k:∀b u,h.get? b=J u->h'.get? b=J u)(j:h.objs.size<=a)(new:ObjOk P w (lf H a o) h' a o):HOk P w (lf H a o) h':=λb u e=>by
 have i:=x.fresh j;by_cases f:b=a
 .subst f;rw[bU]at e;cases e;exact new
 .rw[aY f]at e;exact(x b u e).stay (λc v _ q=>k c v q) (λc q=>by rw[aY (bO q i)];exact q) λc xs q=>by rw[aY (bO q i)];exact q
end
def Rd(H:Hp)(a:Addr)(u:HO):Prop:=H a=J u\/∃o,H a=J (.frz o u)
def Rd.ok(r:Rd H a u)(x:HOk P w H h):ObjOk P w H h a u:=by
 rcases r with r|⟨o,r⟩
 .exact x a u r
 .obtain⟨_,q⟩:=x a _ r;exact q
def Oi:Option HO->Prop
 |some (.lst _)=>True
 |some (.dK _)=>True
 |some (.dT _)=>True
 |some (.set _ _)=>True
 |some (.ins _ _ _)=>True
 |some (.ext _)=>True
 |_=>False
section
variable{P:Program}{w:World}{H:Hp}{h h':Heap}{x e:Addr}{o':HO}
def HOk.write(ok:HOk P w H h)(j:Oi (H x))(E:e=x\/H e=J (.own x))(k:∀b u,b≠e->h.get? b=J u->h'.get? b=J u)(l:∃u,h'.get? e=J u)(new:ObjOk P w (lf H x o') h' x o'):HOk P w (lf H x o') h':=λb u q=>by
 have f:∀c y,H c=J (.own y)->c≠x:=λc y r z=>by subst z;rw[r]at j;exact j
 have i:∀c xs,H c=J (.tup xs)->c≠x:=λc xs r z=>by subst z;rw[r]at j;exact j
 by_cases B:b=x
 .subst B;rw[bU]at q;cases q;exact new
 .rw[aY B]at q;by_cases a:b=e
  .have C:H b=J (.own x):=by
    rcases E with z|z
    .exact absurd (a.trans z) B
    .rw[a];exact z
   rw[q]at C;cases C;obtain⟨v,hv⟩:=l;exact⟨v,by rw[a];exact hv⟩
  .refine (ok b u q).stay (λc v F r=>k c v ?_ r) (λc r=>by rw[aY (f c b r)];exact r) λc xs r=>by rw[aY (i c xs r)];exact r
   grind
end
structure Un(fs ex:TX)(H H':Hp)(h h':Heap):Prop where
 keep:∀b o,h.get? b=J o->H b=Y->b∉fs->b∉ex->h'.get? b=J o
 slot:∀b o,h.get? b=J o->H b=Y->b∈fs->b∉ex->∃sl,h'.get? b=J { o with slots:=sl}
 free:∀b o,h.get? b=J o->H b=Y->b∉ex->H' b=Y
 there:∀b o,h.get? b=J o->b∉ex->∃o',h'.get? b=J o'
 tups:∀b xs,H b=J (.tup xs)->H' b=J (.tup xs)
 frzs:∀b o u,H b=J (.frz o u)->H' b=J (.frz o u)
 tbls:∀b ps,H b=J (.tbl ps)->∃more,H' b=J (.tbl (ps++more))
section
variable{fs fs' ex ex':TX}{H H1 H2:Hp}{h h1 h2 h':Heap}{a x e:Addr}{o:HO}
def Un.any(u:Un fs ex H H1 h h1)(q:h.get? b=J ob)(n:H b=Y)(f:b∉ex):∃sl,h1.get? b=J { ob with slots:=sl}:=by
 by_cases i:b∈fs
 .exact u.slot b ob q n i f
 .exact⟨ob.slots,u.keep b ob q n i f⟩
def Un.kept(k:∀b u,h.get? b=J u->h'.get? b=J u):Un fs ex H H h h' :=
 ⟨λb f q _ _ _=>k b f q,λb f q _ _ _=>⟨f.slots,k b f q⟩,λ_ _ _ n _=>n,λb f q _=>⟨f,k b f q⟩,λ_ _ q=>q,λ_ _ _ q=>q,λ_ i q=>⟨#[],by rw[q];simp⟩⟩
def Un.refl:Un fs ex H H h h:=Un.kept λ_ _ q=>q
def Un.laid(k:∀b u,h.get? b=J u->h'.get? b=J u)(i:h.objs.size<=a)(f:H a=Y):Un fs ex H (lf H a o) h h' where
 keep:=λb u q _ _ _=>k b u q
 slot:=λb u q _ _ _=>⟨u.slots,k b u q⟩
 free:=λb u q n _=>by rw[aY (t3 (rc (nw q) i))];exact n
 there:=λb u q _=>⟨u,k b u q⟩
 tups:=λb xs q=>by rw[aY (bO q f)];exact q
 frzs:=λb u xs q=>by rw[aY (bO q f)];exact q
 tbls:=λb j q=>⟨#[],by rw[aY (bO q f),q];simp⟩
def Un.write(i:Oi (H x))(E:e=x\/H e=J (.own x))(k:∀b u,b≠e->h.get? b=J u->h'.get? b=J u)(j:∃u,h'.get? e=J u):Un fs ex H (lf H x o) h h':=by
 have y:∀b,H b=Y->b≠x:=λb n z=>by subst z;rw[n]at i;exact i
 have r:∀b,H b=Y->b≠e:=λb n z=>by
  simp_all
 have l:∀b u,H b=J u->¬Oi (J u)->b≠x:=λb u q B z=>by subst z;rw[q]at i;exact B i
 refine⟨λb u q n _ _=>k b u (r b n) q,λb u q n _ _=>⟨u.slots,k b u (r b n) q⟩,λb u q n _=>by rw[aY (y b n)];exact n,λb u q _=>?_,
  λb xs q=>by rw[aY (l b _ q λz=>z)];exact q,λb u xs q=>by rw[aY (l b _ q λz=>z)];exact q,λb C q=>⟨#[],by rw[aY (l b _ q λz=>z),q];simp⟩⟩
 by_cases f:b=e
 .subst f;exact j
 .exact⟨u,k b u f q⟩
end
def Oj(h:Heap)(H:Hp):TX:=(List.range h.objs.size).filter λa=>(H a).isSome
def jP(h:Heap)(H:Hp):Heap:=PySem.W.hideAll h (Oj h H)
def xx(h:Heap)(H:Hp):(jP h H).objs.size=h.objs.size:=PySem.W.hideAll_size _ _
def Aj(e:h.get? b=J o)(n:H b=Y):(jP h H).get? b=J o :=
 PySem.W.hideAll_get _ e λa=>by
  have q:=(y7.mp a).2;rw[n]at q;simp at q
def C3(e:(jP h H).get? b=J o):h.get? b=J o/\H b=Y:=by
 have a:=PySem.W.of_hideAll (Oj h H) e;refine⟨a,?_⟩
 cases q:H b with
 |none=>rfl
 |some x =>
  have f:b∈Oj h H:=y7.mpr ⟨C1.mpr (nw a),by simp[q]⟩;have z:(jP h H).get? b=Y:=PySem.W.hideAll_none (Oj h H) f;rw[z]at e;cases e
structure Mod(K:hU)(mg:T8)(base:Heap):Prop where
 kin:K.In base
 glob:base.Ns mainGlobals mg
 blt:∃mb,base.Ns builtinsNs mb/\∀x:Str,x≠"__name__"->mb x=bootBuiltins x
 nolimit:base.NoLimit
structure Cx where
 prog:Program
 w:World
 K:hU
 mg:Str->T1
 base:Heap
 A:Around
 N:TQ
 s₀:Shared
 H₀:Hp
 env:Env
 outer:List Env
 stack:List Env
 ex:TX
 fn:Str->Bool
 calm:Bool
 pn:T0
 xe:Value->Shared->Prop
def xq(l:List Env):TX:=l.filterMap (·.frame)
abbrev Cx.fs(X:Cx):TX:=xq X.outer
def Ol(a:Scope)(x:Str):Prop:=a.names.lookup x=J .local\/a.names.lookup x=J .cell\/a.names.lookup x=J .free
def Loc(a:Scope)(x:Str):Prop:=a.names.lookup x=J .local\/a.names.lookup x=J .cell
def Look(env:Env)(h:Heap)(m:T8)(x:Str)(u:Value):Prop :=
 (env.kindOf x=J .local/\m x=J u)\/((env.kindOf x=J .cell\/env.kindOf x=J .free)/\∃c,env.cells.lookup x=J c/\h.IsCell c (J u))
structure Cx.Ok(X:Cx):Prop where
 mod:Mod X.K X.mg X.base
 kind:X.env.scope.kind=.function
 glob:X.env.globals=mainGlobals
 blt:X.env.builtins=builtinsNs
 above:X.s₀.heap.objs.size<=X.env.locals
 inj:∀x y c,X.env.cells.lookup x=J c->X.env.cells.lookup y=J c->x=y
 has:∀x,(X.env.kindOf x=J .cell\/X.env.kindOf x=J .free)->∃c,X.env.cells.lookup x=J c
 cab:∀x c,X.fn x=I->X.env.cells.lookup x=J c->X.s₀.heap.objs.size<=c
 hd:X.calm=I->X.A.handled=Y
 frames:X.A.frames=J X.stack
 stk:X.stack=X.outer\/(X.stack=X.env::X.outer/\X.env.frame=J X.env.locals)
 exf:∀b∈X.ex,b≠X.env.locals/\∀x c,X.env.cells.lookup x=J c->c≠b
 bs:∀b o,X.base.get? b=J o->X.s₀.heap.get? b=J o/\X.H₀ b=Y
 bsz:X.base.objs.size<=X.s₀.heap.objs.size
 noex:∀b o,X.base.get? b=J o->b∉X.ex
 exfs:∀b∈X.ex,b∉X.fs
 funs:X.s₀.heap.FunFrames X.base X.outer
 frf:∀b∈X.fs,X.H₀ b=Y
structure Inv(X:Cx)(Lo:T0)(Z:List (Option V))(H:Hp)(s:Shared):Prop where
 ok:X.Ok
 os:s.os=X.s₀.os
 bare:AllBare s.gens
 base:Un X.fs X.ex X.H₀ H X.s₀.heap s.heap
 loc:∃m,s.heap.Ns X.env.locals m/\∀(i:Nat)(x:Str)(v:V),X.N[i]?=J x->Z[i]?=J (J v)->Ol X.env.scope x->∃u,aS v u/\Look X.env s.heap m x u
 cell:∀x c,X.env.cells.lookup x=J c->∃v,s.heap.IsCell c v
 free:H X.env.locals=Y
 freeC:∀x c,X.env.cells.lookup x=J c->H c=Y
 pin:∀p∈X.pn++Lo,s.heap.get? p.1=J p.2/\H p.1=Y/\p.1≠X.env.locals/\p.1∉X.fs/\∀v,p.2.data≠.cell v
 hok:HOk X.prog X.w H s.heap
 len:Z.length=X.N.length
section
variable{X:Cx}{Lo:List (Addr × Obj)}{Z:List (Option V)}{H H':Hp}{s:Shared}{h':Heap}
def Cx.Ok.nofr(ok:X.Ok)(e:X.base.get? b=J o):b∉X.fs:=λa=>by
 have:=(ok.funs.mem a).1
 rw[e]at this;cases this
def Inv.bs(a:Inv X Lo Z H s):∀b o,X.base.get? b=J o->s.heap.get? b=J o/\H b=Y:=λb o e =>
 ⟨a.base.keep b o (a.ok.bs b o e).1 (a.ok.bs b o e).2 (a.ok.nofr e) (a.ok.noex b o e),a.base.free b o (a.ok.bs b o e).1 (a.ok.bs b o e).2 (a.ok.noex b o e)⟩
def Inv.bk(a:Inv X Lo Z H s):∀b o,X.base.get? b=J o->s.heap.get? b=J o:=λb o e=>(a.bs b o e).1
def Inv.mod(a:Inv X Lo Z H s):Mod X.K X.mg X.base:=a.ok.mod
def Inv.kIn(a:Inv X Lo Z H s):X.K.In s.heap:=a.ok.mod.kin.keeps a.bk
def Inv.lt(a:Inv X Lo Z H s):X.env.locals<s.heap.objs.size:=let⟨_,f,_⟩:=a.loc;f.lt
def Inv.sz(a:Inv X Lo Z H s):X.s₀.heap.objs.size<=s.heap.objs.size:=m_ a.ok.above (wh a.lt)
def Inv.nofs(f:Inv X Lo Z H s){a:Addr}(h:s.heap.objs.size<=a):a∉X.fs:=λj=>by
 obtain⟨_,o,i,_⟩:=f.ok.funs.mem j;exact absurd (rc (nw i) (m_ f.sz h)) (Bt _)
def Inv.cne(a:Inv X Lo Z H s):∀x c,X.env.cells.lookup x=J c->c≠X.env.locals:=λx c e z=>by
 obtain⟨v,o,j,hd⟩:=a.cell x c e;obtain⟨m,⟨u,r,l,f,i,_⟩,_⟩:=a.loc;rw[z,f]at j;cases j;rw[i]at hd;cases hd
def Inv.funs(a:Inv X Lo Z H s):s.heap.FunFrames X.base X.outer:=by
 have all:∀(l:List Env),(∀b∈xq l,b∈X.fs)->X.s₀.heap.FunFrames X.base l->s.heap.FunFrames X.base l:=by
  intro l
  induction l with
  |nil=>intro _ _;trivial
  |cons env r u =>
   intro i y;obtain⟨B,⟨L,o,hf,E,j,hd⟩,C⟩:=y;have hL:=i L (by unfold xq;rw[JZ,hf];exact pa);obtain⟨sl,e⟩:=a.base.slot L o j (a.ok.frf L hL) hL λz=>a.ok.exfs L z hL;exact⟨B,⟨L,_,hf,E,e,hd⟩,u (λb f=>i b (by unfold xq;rw[JZ,hf];exact l7 _ f)) C⟩
 exact all X.outer (λ_ f=>f) a.ok.funs
def Inv.stack(a:Inv X Lo Z H s):s.heap.FunFrames X.base X.stack:=by
 rcases a.ok.stk with e|⟨e,hf⟩
 .rw[e];exact a.funs
 .rw[e];obtain⟨m,f,_⟩:=a.loc;refine .cons (by rw[a.ok.kind];decide) hf f ?_ a.funs;exact Heap.get?_none_of_le (m_ a.ok.bsz a.ok.above)
def Inv.stkSub(f:Inv X Lo Z H s):∀b∈xq X.stack,b∈X.env.locals::X.fs:=λb a=>by
 rcases f.ok.stk with e|⟨e,hf⟩
 .rw[e]at a;exact l7 _ a
 .rw[e]at a;unfold xq at a;rw[JZ,hf]at a;exact a
def Inv.stkFree(a:Inv X Lo Z H s):∀b∈xq X.stack,H b=Y:=λb f=>by
 rcases l_.mp (a.stkSub b f)with e|f
 .rw[e];exact a.free
 .obtain⟨_,o,i,_⟩:=a.ok.funs.mem f;exact a.base.free b o i (a.ok.frf b f) λz=>a.ok.exfs b z f
def Inv.step{g':Array GenState}{t':Nat}{d':Drawn}{ch:TX}(a:Inv X Lo Z H s)(j:∀b∈ch,(b∈X.ex\/X.s₀.heap.objs.size<=b)/\b≠X.env.locals/\(∀x c,X.env.cells.lookup x=J c->c≠b)/\∀p∈X.pn++Lo,p.1≠b)(keep:∀b o,b≠X.env.locals->b∉X.fs->b∉ch->s.heap.get? b=J o->H b=Y->h'.get? b=J o)(slot:∀b o,b≠X.env.locals->b∈X.fs->b∉ch->s.heap.get? b=J o->H b=Y->∃sl,h'.get? b=J { o with slots:=sl})(free:∀b o,b∉ch->s.heap.get? b=J o->H b=Y->H' b=Y)(there:∀b o,b∉ch->s.heap.get? b=J o->∃G,h'.get? b=J G)(tups:∀b xs,H b=J (.tup xs)->H' b=J (.tup xs))(frzs:∀b o u,H b=J (.frz o u)->H' b=J (.frz o u))(tbls:∀b M,H b=J (.tbl M)->∃more,H' b=J (.tbl (M++more)))(ns:∀m,s.heap.Ns X.env.locals m->h'.Ns X.env.locals m)(hok:HOk X.prog X.w H' h')(hg:AllBare g'):
  Inv X Lo Z H' { s with heap:=h',gens:=g',drawn:=d',toks:=t'}:=by
 have L:∀b o,X.s₀.heap.get? b=J o->b≠X.env.locals:=λb o e=>t3 (rc (nw e) a.ok.above);have C:∀b o,X.s₀.heap.get? b=J o->b∉X.ex->b∉ch:=λb o e f E=>by
  rcases(j b E).1 with z|z
  .exact f z
  .exact absurd (rc (nw e) z) (Bt _)
 have B:∀x c,X.env.cells.lookup x=J c->∀v,s.heap.IsCell c v->h'.IsCell c v:=λx c e v ⟨o,F,hd⟩=>by
  have y:c∉ch:=λz=>(j c z).2.2.1 x c e rfl;by_cases Q:c∈X.fs
  .obtain⟨sl,q⟩:=slot c o (a.cne x c e) Q y F (a.freeC x c e);exact⟨_,q,hd⟩
  .exact⟨o,keep c o (a.cne x c e) Q y F (a.freeC x c e),hd⟩
 refine⟨a.ok,a.os,hg,⟨λb o e n E f=>?_,λb o e n E f=>?_,λb o e n f=>?_,λb o e f=>?_,λb xs e=>tups b xs (a.base.tups b xs e),λb o xs e=>frzs b o xs (a.base.frzs b o xs e),λb M e=>?_⟩,?_,λx c e=>?_,?_,λx c e=>?_,λp P=>?_,hok,a.len⟩
 .exact keep b o (L b o e) E (C b o e f) (a.base.keep b o e n E f) (a.base.free b o e n f)
 .obtain⟨sl,e1⟩:=a.base.slot b o e n E f;obtain⟨O,e2⟩:=slot b _ (L b o e) E (C b o e f) e1 (a.base.free b o e n f);exact⟨O,e2⟩
 .obtain⟨G,e1⟩:=a.base.there b o e f;exact free b G (C b o e f) e1 (a.base.free b o e n f)
 .obtain⟨G,e1⟩:=a.base.there b o e f;exact there b G (C b o e f) e1
 .obtain⟨W,e1⟩:=a.base.tbls b M e;obtain⟨S,e2⟩:=tbls b _ e1;exact⟨W++S,by rw[e2,Array.append_assoc]⟩
 .obtain⟨m,hn,U⟩:=a.loc;refine⟨m,ns m hn,λi x v e1 e2 e3=>?_⟩;obtain⟨u,r,l⟩:=U i x v e1 e2 e3;refine⟨u,r,?_⟩;rcases l with l|⟨k,c,e,z⟩
  .exact .inl l
  .exact .inr ⟨k,c,e,B x c e _ z⟩
 .obtain⟨v,z⟩:=a.cell x c e;exact⟨v,B x c e v z⟩
 .obtain⟨m,⟨o,_,_,F,_⟩,_⟩:=a.loc;exact free _ o (λz=>(j _ z).2.1 rfl) F a.free
 .obtain⟨v,o,F,hd⟩:=a.cell x c e;exact free c o (λz=>(j c z).2.2.1 x c e rfl) F (a.freeC x c e)
 .obtain⟨e,n,ne,R,d⟩:=a.pin p P;have y:p.1∉ch:=λz=>(j p.1 z).2.2.2 p P rfl;exact⟨keep p.1 p.2 ne R y e n,free p.1 p.2 y e n,ne,R,d⟩
def Inv.un{t':Nat}(a:Inv X Lo Z H s)(u:Un X.fs [] H H' s.heap h')(hok:HOk X.prog X.w H' h'):Inv X Lo Z H' { s with heap:=h',toks:=t'}:=by
 obtain⟨m,⟨o,L,E,y,r⟩,_⟩:=id a.loc;obtain⟨sl,hL⟩:=u.any y a.free (by simp)
 exact a.step (g':=s.gens) (d':=s.drawn) (ch:=[]) (λ_ z=>nomatch z) (λb o _ j _ e n=>u.keep b o e n j (by simp)) (λb o _ j _ e n=>u.slot b o e n j (by simp)) (λb o _ e n=>u.free b o e n (by simp)) (λb o _ e=>u.there b o e (by simp)) u.tups u.frzs u.tbls (λF B=>by
  obtain⟨G,l,i,f,C⟩:=B;rw[y]at f;cases f
  exact⟨_,l,i,hL,C⟩) hok a.bare
def Inv.call{g':Array GenState}{t':Nat}{d':Drawn}{C:TX}(a:Inv X Lo Z H s)(u:Un (xq X.stack) C H H' s.heap h')(hok:HOk X.prog X.w H' h')(L:AllBare g')(i:∀b∈C,(b∈X.ex\/X.s₀.heap.objs.size<=b)/\b≠X.env.locals/\(∀x c,X.env.cells.lookup x=J c->c≠b)/\∀p∈X.pn++Lo,p.1≠b):
  Inv X Lo Z H' { s with heap:=h',gens:=g',drawn:=d',toks:=t'}:=by
 obtain⟨m,⟨o,Q,M,B,r⟩,_⟩:=id a.loc;obtain⟨sl,hL⟩:=u.any B a.free λz=>(i _ z).2.1 rfl
 exact a.step i (λb o hL F f e n=>u.keep b o e n (λz=>(l_.mp (a.stkSub b z)).elim hL F) f) (λb o _ _ f e n=>u.any e n f) (λb o f e n=>u.free b o e n f) (λb o f e=>u.there b o e f) u.tups u.frzs u.tbls (λO E=>by
  obtain⟨P,y,l,j,G⟩:=E;rw[B]at j;cases j
  exact⟨_,y,l,hL,G⟩) hok L
def Inv.turned{t':Nat}{a:Addr}(i:Inv X Lo Z H s)(k:∀b o,b≠a->s.heap.get? b=J o->h'.get? b=J o)(F:H a=Y)(hL:a≠X.env.locals)(C:a∈X.ex\/X.s₀.heap.objs.size<=a)(E:∀x c,X.env.cells.lookup x=J c->c≠a)(M:∀p∈X.pn++Lo,p.1≠a):Inv X Lo Z H { s with heap:=h',toks:=t'}:=by
 have j:∀b u,H b=J u->b≠a:=λb u e z=>by rw[z,F]at e;cases e
 refine i.step (g':=s.gens) (d':=s.drawn) (ch:=[a]) (λb G=>?_) (λb o _ _ f e _=>k b o (λz=>f (by simp[z])) e) (λb o _ _ f e _=>⟨o.slots,k b o (λz=>f (by simp[z])) e⟩) (λ_ _ _ _ n=>n)
  (λb o f e=>⟨o,k b o (λz=>f (by simp[z])) e⟩) (λ_ _ e=>e) (λ_ _ _ e=>e) (λb O e=>⟨#[],by rw[e];simp⟩) (λm B=>?_) (λb u e=>?_) i.bare
 .have e:b=a:=by simpa using G
  subst e;exact⟨C,hL,E,M⟩
 .obtain⟨o,L,l,y,r⟩:=B;exact⟨o,L,l,k _ o (Ne.symm hL) y,r⟩
 .refine (i.hok b u e).stay (λc v f q=>k c v ?_ q) (λ_ q=>q) λ_ _ q=>q;rcases f with z|z
  .rw[z];exact j b u e
  .exact j c _ z
def Inv.tok(a:Inv X Lo Z H s)(t:Nat):Inv X Lo Z H { s with toks:=t}:=a.un (h':=s.heap) (t':=t) Un.refl a.hok
def Inv.kept(a:Inv X Lo Z H s)(k:∀b u,s.heap.get? b=J u->h'.get? b=J u):Inv X Lo Z H { s with heap:=h',toks:=t'}:=a.un (Un.kept k) (a.hok.kept k)
def Inv.laid{a:Addr}{o:HO}{t':Nat}(f:Inv X Lo Z H s)(k:∀b u,s.heap.get? b=J u->h'.get? b=J u)(i:s.heap.objs.size<=a)(new:ObjOk X.prog X.w (lf H a o) h' a o):
  Inv X Lo Z (lf H a o) { s with heap:=h',toks:=t'}:=f.un (Un.laid k i (f.hok.fresh i)) (f.hok.laid k i new)
def Inv.write(a:Inv X Lo Z H s)(i:Oi (H x))(j:e=x\/H e=J (.own x))(k:∀b u,b≠e->s.heap.get? b=J u->h'.get? b=J u)(f:∃u,h'.get? e=J u)(new:ObjOk X.prog X.w (lf H x o) h' x o):Inv X Lo Z (lf H x o) { s with heap:=h',toks:=t'}:=a.un (Un.write i j k f) (a.hok.write i j k f new)
def Inv.pins_of(a:Inv X Lo Z H s)(h:∀p∈f,s.heap.get? p.1=J p.2/\H p.1=Y/\p.1≠X.env.locals/\p.1∉X.fs/\∀v,p.2.data≠.cell v):Inv X f Z H s :=
 ⟨a.ok,a.os,a.bare,a.base,a.loc,a.cell,a.free,a.freeC,λp i=>(nt.mp i).elim (λz=>a.pin p (xn _ z)) (h p),a.hok,a.len⟩
def su{N:TQ}(hN:N.Nodup){i j:Nat}{x:Str}(a:N[i]?=J x)(b:N[j]?=J x):i=j:=by obtain⟨f,e1⟩:=qp.mp a;obtain⟨l,e2⟩:=qp.mp b;exact(List.getElem_inj hN).mp (e1.trans e2.symm)
def xL{M:Model}{A:Around}{E:T7}{i:Nat}{x:Str}{v:V}{u:Value}{Q:Unit->Shared->Prop}(f:Inv X Lo Z H s)(hN:X.N.Nodup)(W:X.N[i]?=J x)(F:Loc X.env.scope x)(r:aS v u)(h:∀s',Inv X Lo (Z.set i (J v)) H s'->(∃a,Heap.SameBut a s.heap s'.heap/\(a=X.env.locals\/X.env.cells.lookup x=J a))->Q () s')(hf:X.fn x=I\/X.env.scope.names.lookup x=J .local:=by first | exact .inl rfl | exact .inr rfl | assumption):wpAny M A (storeName X.env x u) Q E s:=by
 obtain⟨m,hn,hl⟩:=id f.loc;have ah:(X.env.scope.kind == .class||(X.env.scope.kind == .module&&X.env.locals != X.env.globals))=T:=by rw[f.ok.kind];rfl
 have L:i<Z.length:=by rw[f.len];exact(qp.mp W).1
 have cne:=f.cne;have B:∀{a:Addr}{h':Heap},(∃o,s.heap.get? a=J o/\H a=Y)->Heap.SameBut a s.heap h'->HOk X.prog X.w H h':=λ{a h'} ha l b ob e=>by
  obtain⟨_,_,G⟩:=ha;refine(f.hok b ob e).stay (λc w' C q=>(l.2 c ?_).trans q) (λ_ q=>q) λ_ _ q=>q;rintro rfl;rcases C with rfl|C
  .rw[G]at e;cases e
  .rw[G]at C;cases C
 rcases F with O|O
 .refine wpAny_storeName_local O hn (λh' am l=>?_) ah;obtain⟨oL,_,_,al,_⟩:=id hn;refine h _ ⟨f.ok,f.os,f.bare,⟨λb o e n R F=>?_,λb o e n R F=>?_,f.base.free,λb o e F=>?_,f.base.tups,f.base.frzs,f.base.tbls⟩,⟨_,am,λj y v' e1 e2 e3=>?_⟩,λy c e=>?_,f.free,f.freeC,λp hp=>?_,B ⟨oL,al,f.free⟩ l,by simpa using f.len⟩ ⟨_,l,.inl rfl⟩
  .exact (l.2 b (t3 (rc (nw e) f.ok.above))).trans (f.base.keep b o e n R F)
  .obtain⟨sl,e1⟩:=f.base.slot b o e n R F;exact⟨sl,(l.2 b (t3 (rc (nw e) f.ok.above))).trans e1⟩
  .obtain⟨o',e1⟩:=f.base.there b o e F;exact⟨o',(l.2 b (t3 (rc (nw e) f.ok.above))).trans e1⟩
  .by_cases P:j=i
   .subst P;rw[W]at e1;cases e1;rw[Br L]at e2;cases e2;exact⟨u,r,.inl ⟨O,by simp⟩⟩
   .rw[tu (Ne.symm P)]at e2;obtain⟨u',r',q⟩:=hl j y v' e1 e2 e3;refine⟨u',r',?_⟩;rcases q with⟨k,e⟩|⟨k,c,e,z⟩
    .refine .inl ⟨k,?_⟩
     have:y≠x:=λe=>P (su hN e1 (e▸W))
     simp[this,e]
    .exact .inr ⟨k,c,e,z.sameBut l (cne y c e)⟩
  .obtain⟨w',z⟩:=f.cell y c e;exact⟨w',z.sameBut l (cne y c e)⟩
  .obtain⟨e,n,ne,nf,d⟩:=f.pin p hp;exact⟨(l.2 p.1 ne).trans e,n,ne,nf,d⟩
 .have Hx:X.fn x=I:=by
   rcases hf with z|z
   .exact z
   .rw[z]at O;cases O
  obtain⟨c,C⟩:=f.ok.has x (.inl O);obtain⟨w',z⟩:=f.cell x c C;refine wpAny_storeName_cell f.ok.kind O C z (λh' aj l=>?_);obtain⟨oc,S,ab⟩:=id z;refine h { s with heap:=h'} ⟨f.ok,f.os,f.bare,⟨λb o e n R F=>?_,λb o e n R F=>?_,f.base.free,λb o e F=>?_,f.base.tups,f.base.frzs,f.base.tbls⟩,⟨m,hn.sameBut l (Ne.symm (cne x c C)),λj y v' e1 e2 e3=>?_⟩,λy c' e=>?_,f.free,f.freeC,λp hp=>?_,B ⟨oc,S,f.freeC x c C⟩ l,by simpa using f.len⟩ ⟨c,l,.inr C⟩
  .exact (l.2 b (t3 (rc (nw e) (f.ok.cab x c Hx C)))).trans (f.base.keep b o e n R F)
  .obtain⟨sl,e1⟩:=f.base.slot b o e n R F;exact⟨sl,(l.2 b (t3 (rc (nw e) (f.ok.cab x c Hx C)))).trans e1⟩
  .obtain⟨o',e1⟩:=f.base.there b o e F;exact⟨o',(l.2 b (t3 (rc (nw e) (f.ok.cab x c Hx C)))).trans e1⟩
  .by_cases P:j=i
   .subst P;rw[W]at e1;cases e1;rw[Br L]at e2;cases e2;exact⟨u,r,.inr ⟨.inl O,c,C,aj⟩⟩
   .rw[tu (Ne.symm P)]at e2;obtain⟨u',r',q⟩:=hl j y v' e1 e2 e3;refine⟨u',r',?_⟩;rcases q with q|⟨k,c',e,z'⟩
    .exact .inl q
    .refine .inr ⟨k,c',e,z'.sameBut l ?_⟩;rintro rfl;exact P (su hN e1 (f.ok.inj _ _ _ e C▸W))
  .by_cases U:c'=c
   .subst U;exact⟨_,aj⟩
   .obtain⟨w2,z2⟩:=f.cell y c' e;exact⟨w2,z2.sameBut l U⟩
  .obtain⟨e,n,ne,nf,d⟩:=f.pin p hp;refine⟨(l.2 p.1 ?_).trans e,n,ne,nf,d⟩;intro q;rw[q,S]at e;have q':oc=p.2:=Option.some.inj e;exact d w' (by rw[<-q'];exact ab)
def sU(f:Inv X Lo Z H s)(hN:X.N.Nodup)(l:X.N[i]?=J x)(j:Loc X.env.scope x)(r:aS v u)(h:∀a,Inv X Lo (Z.set i (J v)) H a->Q () a)(hf:X.fn x=I\/X.env.scope.names.lookup x=J .local:=by first | exact .inl rfl | exact .inr rfl | assumption):wpAny M A (storeName X.env x u) Q E s :=
 xL f hN l j r (λa y _=>h a y) hf
def Inv.call'(f:Inv X Lo Z H s)(i:s'.os=s.os)(u:Un (xq X.stack) ch H H' s.heap s'.heap)(hok:HOk X.prog X.w H' s'.heap)(r:AllBare s'.gens)(a:∀b∈ch,(b∈X.ex\/X.s₀.heap.objs.size<=b)/\b≠X.env.locals/\(∀x c,X.env.cells.lookup x=J c->c≠b)/\∀p∈X.pn++Lo,p.1≠b):Inv X Lo Z H' s':=by
 obtain⟨h',l,j,y,z⟩:=s';have e:=i;subst e;exact f.call (g':=l) (t':=y) (d':=j) u hok r a
end
abbrev XK:=Value->Option Addr->Hp->Prop
abbrev St:=List (Option V)
abbrev VK:=V->Hp->Prop
abbrev TE:=St->Hp->VK->Prop
abbrev TT:=St->Hp->(Bool->Hp->Prop)->Prop
abbrev TA:=St->Hp->(List V->Hp->Prop)->Prop
structure Ends where
 nx:St->Hp->Prop
 rt:VK
 bk:St->Hp->Prop:=λ_ _=>False
 ct:St->Hp->Prop:=λ_ _=>False
abbrev TS:=Ends->St->Hp->Prop
inductive EP(X:Cx)(Lo:T0)(Z:St)(Q:VK)(u:Value)(s':Shared):Prop
 |mk(v:V)(H':Hp)(i:Inv X Lo Z H' s')(r:aS v u)(q:Q v H'):EP X Lo Z Q u s'
inductive TP(X:Cx)(Lo:T0)(Z:St)(Q:Bool->Hp->Prop)(b:Bool)(s':Shared):Prop
 |mk(H':Hp)(i:Inv X Lo Z H' s')(q:Q b H'):TP X Lo Z Q b s'
inductive AP(X:Cx)(Lo:T0)(Z:St)(Q:List V->Hp->Prop)(us:TZ)(s':Shared):Prop
 |mk(vs:List V)(H':Hp)(i:Inv X Lo Z H' s')(r:aD vs us)(q:Q vs H'):AP X Lo Z Q us s'
inductive SN(X:Cx)(Lo:T0)(Q:St->Hp->Prop)(s':Shared):Prop
 |mk(Z':St)(H':Hp)(i:Inv X Lo Z' H' s')(q:Q Z' H'):SN X Lo Q s'
inductive SR(X:Cx)(Lo:T0)(Q:VK)(u:Value)(s':Shared):Prop
 |mk(v:V)(Z':St)(H':Hp)(i:Inv X Lo Z' H' s')(r:aS v u)(q:Q v H'):SR X Lo Q u s'
def SP(X:Cx)(a:T0)(D:Ends)(f:Flow)(i:Shared):Prop :=
 match f with
 |.next=>SN X a D.nx i
 |.brk=>SN X a D.bk i
 |.cont=>SN X a D.ct i
 |.ret u=>SR X a D.rt u i
def PE(X:Cx)(e:Expr)(t:TE):Prop :=
 ∀(a:T0)(s:Shared)(Z:St)(H:Hp)(Q:VK),Inv X a Z H s->t Z H Q->wpAny (model X.prog X.w) X.A (eval e X.env) (EP X a Z Q) X.xe s
def PT(X:Cx)(e:Expr)(t:TT):Prop :=
 ∀(a:T0)(s:Shared)(Z:St)(H:Hp)(Q:Bool->Hp->Prop),Inv X a Z H s->t Z H Q->wpAny (model X.prog X.w) X.A (isTrue e X.env (eval e X.env)) (TP X a Z Q) X.xe s
def PW(X:Cx)(e:Expr)(t:TT):Prop :=
 ∀(a:Sem Value)(f:T0)(s:Shared)(Z:St)(H:Hp)(Q:Bool->Hp->Prop),Inv X f Z H s->t Z H Q->wpAny (model X.prog X.w) X.A (isTrue e X.env a) (TP X f Z Q) X.xe s
def PW.pt(h:PW X e t):PT X e t:=h _
def PA(X:Cx)(i:T5)(t:TA):Prop :=
 ∀(a:Pos)(f:T0)(s:Shared)(Z:St)(H:Hp)(Q:List V->Hp->Prop),Inv X f Z H s->t Z H Q->wpAny (model X.prog X.w) X.A (spliced (backTo a (starEach i X.env))) (AP X f Z Q) X.xe s
def PS(X:Cx)(st:Stmt)(t:TS):Prop :=
 ∀(a:T0)(s:Shared)(Z:St)(H:Hp)(D:Ends),Inv X a Z H s->t D Z H->wpAny (model X.prog X.w) X.A (exec st X.env) (SP X a D) X.xe s
def PSs(X:Cx)(st:List Stmt)(t:TS):Prop :=
 ∀(a:T0)(s:Shared)(Z:St)(H:Hp)(D:Ends),Inv X a Z H s->t D Z H->wpAny (model X.prog X.w) X.A (execs st X.env) (SP X a D) X.xe s
def k_(h:wpAny M A t Q E s)(f:∀a s,Q a s->Q' a s):wpAny M A t Q' E s:=wpAny_mono h f λ_ _ x=>x
section
variable{X:Cx}
def P2(i:Nat):TE:=λZ H Q=>∃v,Z[i]?=J (J v)/\Q v H
def tC(v:V):TE:=λ_ H Q=>Q v H
def F_{i:Nat}{x:Str}{y:Pos}(hN:X.N[i]?=J x)(hv:Ol X.env.scope x)(hd:(x==("__debug__":Str))=T:=by decide)(z:(x==("__classdict__":Str))=T:=by decide):PE X (.Name x y) (P2 i):=by
 intro G s Z H Q a h;obtain⟨v,e,h⟩:=h;obtain⟨m,F,E⟩:=a.loc;obtain⟨u,r,l⟩:=E i x v hN e hv;have fin:EP X G Z Q u s:=⟨v,H,a,r,h⟩;rcases l with⟨j,C⟩|⟨j,c,B,f⟩
 .exact wpAny_Name (wpAny_loadName_local a.ok.kind j F C fin) hd
 .rcases j with j|j
  .exact wpAny_Name (wpAny_loadName_cell a.ok.kind j B f fin) hd
  .exact wpAny_Name (wpAny_loadName_free a.ok.kind j B f fin z) hd
def Ga{i j pos}:PE X (.Constant (.int i) j pos) (tC (.int i)):=λ_ _ _ H _ a h=>wpAny_Constant_int ⟨.int i,H,a.tok _,⟨_,rfl⟩,h⟩
def KQ{b j pos}:PE X (.Constant (.bool b) j pos) (tC (.bl b)):=λ_ _ _ H _ a h=>Constant_bool ⟨.bl b,H,a,rfl,h⟩
def Gb{j pos}:PE X (.Constant .none j pos) (tC .non):=λ_ _ _ H _ a h=>Constant_none ⟨.non,H,a,rfl,h⟩
def Gc{x j pos}:PE X (.Constant (.str x) j pos) (tC (.str x)):=λ_ _ _ H _ a h=>Calls.Constant_str ⟨.str x,H,a.tok _,⟨_,rfl⟩,h⟩
def Gl(X:Cx)(x:Str):Prop:=X.env.kindOf x=J .globalImplicit
def uK{E:T7}{i:T0}{s:Shared}{Z:St}{H:Hp}{x:Str}{u:Value}{f:Pos}{Q:T7}(a:Inv X i Z H s)(j:Gl X x)(l:X.mg x=J u)(h:Q u s)(hd:(x==("__debug__":Str))=T:=by decide):wpAny (model X.prog X.w) X.A (eval (.Name x f) X.env) Q E s :=
 Calls.Name_function_global a.ok.kind j (Calls.loadGlobal_global (by rw[a.ok.glob];exact a.mod.glob.keeps a.bk) l h) hd
def iN{E:T7}{y:T0}{s:Shared}{Z:St}{H:Hp}{x:Str}{u:Value}{f:Pos}{Q:T7}(a:Inv X y Z H s)(r:Gl X x)(i:X.mg x=Y)(hv:bootBuiltins x=J u)(h:Q u s)(z:x≠"__name__":=by decide)(hd:(x==("__debug__":Str))=T:=by decide):wpAny (model X.prog X.w) X.A (eval (.Name x f) X.env) Q E s:=by
 obtain⟨B,j,l⟩:=a.mod.blt;exact Calls.Name_function_global a.ok.kind r (Calls.loadGlobal_builtin (by rw[a.ok.glob];exact a.mod.glob.keeps a.bk) i (by rw[a.ok.blt];exact j.keeps a.bk) ((l x z).trans hv) h) hd
def C4{x:Str}{v:V}{u:Value}{f:Pos}(j:Gl X x)(l:X.mg x=Y)(hv:bootBuiltins x=J u)(r:aS v u)(i:x≠"__name__":=by decide)(hd:(x==("__debug__":Str))=T:=by decide):PE X (.Name x f) (tC v) :=
 λ_ _ _ H _ a h=>iN a j l hv ⟨v,H,a,r,h⟩ i hd
variable{a b:Expr}{ta tb:TE}{pos:Pos}
def tB(t:TE):TT:=λZ H Q=>t Z H λx f=>∃c,x=.bl c/\Q c f
def Ge(h:PE X e t)(j:∀f,isTrue e X.env f=(do let v <-f;standAt e.pos;holding [v] (truthy v)):=by intro _;rfl):PT X e (tB t):=by intro u s Z H Q i y;refine isTrue_plain (k_ (h u s Z H _ i y) λv C ⟨x,B,z,r,l⟩=>?_) (j _);obtain⟨d,rfl,q⟩:=l;cases r;exact wpAny_truthy_bool ⟨B,z,q⟩
variable{tA tB':TT}{rest:T5}
def P4(t u:TT):TT:=λZ H Q=>t Z H λc f=>if c=I then u Z f Q else Q T f
def To(t u:TT):TT:=λZ H Q=>t Z H λc f=>if c=I then Q I f else u Z f Q
def P5(t:TT):TT:=λZ H Q=>t Z H λc f=>Q (!c) f
def C5(j:PT X a tA):PW X (.BoolOp .And [a] pos) tA:=by
 intro r i s Z H Q f h;refine isTrue_and (k_ (j i s Z H Q f h) λc l e=>?_)
 cases c with
 |true=>exact isTrue_and_nil e
 |false=>exact e
def Gf(j:PT X a tA):PW X (.BoolOp .Or [a] pos) tA:=by
 intro r i s Z H Q f h;refine isTrue_or (k_ (j i s Z H Q f h) λc l e=>?_)
 cases c with
 |false=>exact isTrue_or_nil e
 |true=>exact e
def Gg(y:PT X a tA)(B:PW X (.BoolOp .And (b::rest) pos) tB'):PW X (.BoolOp .And (a::b::rest) pos) (P4 tA tB'):=by
 intro z i s Z H Q f h;refine isTrue_and (k_ (y i s Z H _ f h) λc u ⟨r,j,l⟩=>?_)
 cases c with
 |true=>exact B z i u Z r Q j l
 |false=>exact⟨r,j,l⟩
def KR(y:PT X a tA)(B:PW X (.BoolOp .Or (b::rest) pos) tB'):PW X (.BoolOp .Or (a::b::rest) pos) (To tA tB'):=by
 intro z i s Z H Q f h;refine isTrue_or (k_ (y i s Z H _ f h) λc u ⟨r,j,l⟩=>?_)
 cases c with
 |true=>exact⟨r,j,l⟩
 |false=>exact B z i u Z r Q j l
def Gh(l:PT X a tA):PT X (.UnaryOp .Not a pos) (P5 tA):=by intro j s Z H Q f h;exact isTrue_not (k_ (l j s Z H (λc i=>Q (!c) i) f h) λ_ _ ⟨i,r,q⟩=>⟨i,r,q⟩)
def KU(ta tb:TE):TE:=λZ H Q=>ta Z H λx f=>∃c,x=.bl c/\if c=I then tb Z f Q else Q (.bl T) f
def KW(ta:TE):TE:=λZ H Q=>ta Z H λx f=>∃c,x=.bl c/\Q (.bl (!c)) f
def Gi{op}(h:PE X a t):PE X (.BoolOp op [a] pos) t:=λi s Z H Q f j=>BoolOp_one (h i s Z H Q f j)
def Gj(u:PE X a ta)(z:PE X (.BoolOp .And (b::rest) pos) tb):PE X (.BoolOp .And (a::b::rest) pos) (KU ta tb):=by
 intro j s Z H Q i h;refine BoolOp_and (k_ (u j s Z H _ i h) λv y ⟨x,r,l,B,f⟩=>?_);obtain⟨c,rfl,f⟩:=f;cases B;refine wpAny_truthy_bool ?_
 cases c with
 |true=>exact z j y Z r Q l f
 |false=>exact⟨.bl T,r,l,rfl,f⟩
def Gk(l:PE X a ta):PE X (.UnaryOp .Not a pos) (KW ta):=by intro j s Z H Q f h;refine UnaryOp_ (k_ (l j s Z H _ f h) λv z ⟨x,y,r,u,i⟩=>?_);obtain⟨c,rfl,i⟩:=i;cases u;exact not_of (wpAny_truthy_bool ⟨.bl (!c),y,r,rfl,i⟩)
end
def SqL(K:hU)(H:Hp)(a:Addr)(xs:List V):Prop :=
 Rd H a (.lst xs) \/
  ∃(o:Obj) (f:Array Value) (n:Nat),K.lookup a=J o/\o.cls=.type "list"/\o.dict=Y/\o.data=.seq f n/\f.size<=sizeLine/\aD xs f.toList
def SqT(K:hU)(H:Hp)(a:Addr)(xs:List V):Prop :=
 Rd H a (.tup xs) \/
  ∃(o:Obj) (f:Array Value) (n:Nat),K.lookup a=J o/\o.cls=.type "tuple"/\(o.data=.seq f n/\o.dict=Y)/\f.size<=sizeLine/\aD xs f.toList
def P6:Value->Option V
 |.none=>J .non
 |.bool b=>J (.bl b)
 |.int i _=>J (.int i)
 |.str x _=>J (.str x)
 |.bytes b _=>J (.byt b)
 |.float b _=>J (.flt b)
 |.ref a=>J (.ref a)
 |.type n=>J (.ty n)
 |_=>Y
def aS.abs(r:aS x u):P6 u=J x:=by
 cases x with
 |non=>cases r;rfl
 |bl _=>cases r;rfl
 |int _=>obtain⟨t,rfl⟩:=r;rfl
 |str _=>obtain⟨t,rfl⟩:=r;rfl
 |byt _=>obtain⟨t,rfl⟩:=r;rfl
 |flt _=>obtain⟨t,rfl⟩:=r;rfl
 |ref _=>cases r;rfl
 |ty _=>cases r;rfl
def aS.inj(r:aS x u)(q:aS y u):x=y:=Option.some.inj (r.abs.symm.trans q.abs)
def aD.inj(r:aD xs us)(q:aD ys us):xs=ys:=by
 induction r generalizing ys with
 |nil=>cases q;rfl
 |cons r t f=>cases q with|cons a i=>rw[r.inj a,f i]
section
variable{X:Cx}{Lo:List (Addr × Obj)}{Z:St}{H:Hp}{s:Shared}{a:Addr}{xs ys:List V}
def SqL.of{K:hU}(h:H a=J (.lst xs)):SqL K H a xs:=.inl (.inl h)
def SqT.of{K:hU}(h:H a=J (.tup xs)):SqT K H a xs:=.inl (.inl h)
def Inv.list(i:Inv X Lo Z H s)(h:SqL X.K H a xs):∃f:TZ,aD xs f/\PlainL s.heap a f.toArray/\xs.length<=sizeLine:=by
 rcases h with h|⟨o,f,n,j,u,hd,l,y,r⟩
 .obtain⟨z,f,n,r,e⟩:=h.ok i.hok;exact⟨f,r,⟨_,n,e,rfl,rfl,rfl⟩,z⟩
 .refine⟨f.toList,r,⟨o,n,i.kIn a o j,u,hd,by simpa using l⟩,?_⟩;have e:=r.length
  grind
def Inv.tupleN(i:Inv X Lo Z H s)(h:SqT X.K H a xs):∃f:TZ,aD xs f/\iQ s.heap a f.toArray/\xs.length<=sizeLine:=by
 rcases h with h|⟨o,f,n,l,u,j,y,r⟩
 .obtain⟨z,f,r,p⟩:=h.ok i.hok;exact⟨f,r,p,z⟩
 .refine⟨f.toList,r,⟨o,i.kIn a o l,u,⟨n,by simpa using j.1⟩,j.2⟩,?_⟩;have e:=r.length
  grind
def Inv.tuple(i:Inv X Lo Z H s)(h:SqT X.K H a xs):∃f:TZ,aD xs f/\IsTup s.heap a f.toArray/\xs.length<=sizeLine :=
 let⟨f,r,p,z⟩:=i.tupleN h
 ⟨f,r,p.tup,z⟩
def Inv.list_inj(i:Inv X Lo Z H s)(h:SqL X.K H a xs)(y:SqL X.K H a ys):xs=ys:=by
 obtain⟨j,r,⟨o,n,e,_,_,d⟩,_⟩:=i.list h;obtain⟨f,z,⟨C,B,l,_,_,u⟩,_⟩:=i.list y;rw[e]at l;cases l;rw[d]at u;injection u with d1 _
 have:j=f:=by simpa using congrArg Array.toList d1
 subst this;exact r.inj z
def Inv.tuple_inj(i:Inv X Lo Z H s)(h:SqT X.K H a xs)(y:SqT X.K H a ys):xs=ys:=by
 obtain⟨j,r,⟨o,e,_,n,d⟩,_⟩:=i.tuple h;obtain⟨f,z,⟨C,l,_,B,u⟩,_⟩:=i.tuple y;rw[e]at l;cases l;rw[d]at u;injection u with d1 _
 have:j=f:=by simpa using congrArg Array.toList d1
 subst this;exact r.inj z
end
section
variable{X:Cx}{Lo:List (Addr × Obj)}{Z:St}{H:Hp}{s:Shared}{E:T7}
end
section
variable{X:Cx}{st:Stmt}{rest:List Stmt}{t u:TS}{e:Expr}{te:TE}{pos:Pos}
def KY:TS:=λD Z H=>D.nx Z H
def P7(t u:TS):TS:=λD Z H=>t { D with nx:=u D} Z H
def C6:PSs X [] KY:=λ_ _ Z H _ a h=>wpAny_execs_nil ⟨Z,H,a,h⟩
def zK(r:PS X st t)(z:PSs X rest u):PSs X (st::rest) (P7 t u):=by
 intro i s Z H D a h;refine wpAny_execs_cons (k_ (r i s Z H { D with nx:=u D} a h) λf y q=>?_)
 cases f with
 |next =>
  obtain⟨j,l,B,q⟩:=q;exact z i y j l D B q
 |ret v=>exact q
 |brk=>exact q
 |cont=>exact q
def C7(i:PS X st t):PSs X [st] t:=by
 intro j s Z H D a h;refine wpAny_execs_cons (k_ (i j s Z H D a h) λf l q=>?_)
 cases f with
 |next=>exact wpAny_execs_nil q
 |ret v=>exact q
 |brk=>exact q
 |cont=>exact q
def Inv.quiet{f:T0}{Z:St}{H:Hp}{s:Shared}(a:Inv X f Z H s):interactive X.env=T:=by simp[interactive,a.ok.kind]
def KZ(te:TE):TS:=λD Z H=>te Z H λ_ a=>D.nx Z a
def C8(j:PE X e te)(i:swapsWith e Y pos.line X.env=pure T:=by rfl):PS X (.Expr e pos) (KZ te):=by intro f s Z H D a h;exact wpAny_Expr_any (k_ (j f s Z H _ a h) λv z ⟨x,y,r,B,l⟩=>⟨Z,y,r,l⟩) a.quiet i
def P8(te:TE):TS:=λD Z H=>te Z H D.rt
def Gm(i:PE X e te):PS X (.Return (J e) pos) (P8 te):=by intro f s Z H D a h;exact wpAny_Return_some (k_ (i f s Z H _ a h) λv z ⟨x,y,l,r,j⟩=>⟨x,Z,y,l,r,j⟩)
def P9(c:TT)(t u:TS):TS:=λD Z H=>c Z H λb a=>if b=I then t D Z a else u D Z a
def K1(C:PT X c tc)(z:PSs X a t)(B:PSs X b u):PS X (.If c a b pos) (P9 tc t u):=by
 intro f s Z H D i h;refine wpAny_If (k_ (C f s Z H _ i h) λd j ⟨y,l,r⟩=>?_)
 cases d with
 |true=>exact z f j Z y D l r
 |false=>exact B f j Z y D l r
end
abbrev TG:=V->St->Hp->(St->Hp->Prop)->Prop
abbrev J_:=List V->St->Hp->(St->Hp->Prop)->Prop
def PG(X:Cx)(a:Expr)(t:TG):Prop :=
 ∀(f:T0)(s:Shared)(Z:St)(H:Hp)(v:V)(u:Value)(Q:St->Hp->Prop),Inv X f Z H s->aS v u->t v Z H Q ->
  wpAny (model X.prog X.w) X.A (assign a X.env u) (λ_ i=>SN X f Q i) X.xe s
def PGs(X:Cx)(l:T5)(t:J_):Prop :=
 ∀(a:T0)(s:Shared)(Z:St)(H:Hp)(i:List V)(f:TZ)(Q:St->Hp->Prop),Inv X a Z H s->aD i f->t i Z H Q ->
  wpAny (model X.prog X.w) X.A (assignInOrder ((assignEach l X.env).map (·.2)) f) (λ_ j=>SN X a Q j) X.xe s
abbrev de:=V->V->V->Hp->(Hp->Prop)->Prop
inductive SE(X:Cx)(Lo:T0)(Z:St)(Q:Hp->Prop)(s':Shared):Prop
 |mk(H':Hp)(i:Inv X Lo Z H' s')(q:Q H'):SE X Lo Z Q s'
def Gn(X:Cx)(t:de):Prop :=
 ∀(a:T0)(s:Shared)(Z:St)(H:Hp)(o i v:V)(j f u:Value)(Q:Hp->Prop),Inv X a Z H s->aS o j->aS i f->aS v u->t o i v H Q ->
  wpAny (model X.prog X.w) X.A (setItem j f u) (λ_ l=>SE X a Z Q l) X.xe s
section
variable{X:Cx}{pos:Pos}
def Fp(i:Nat):TG:=λv Z H Q=>Q (Z.set i (J v)) H
def ve(hN:X.N.Nodup)(j:X.N[i]?=J x)(f:Loc X.env.scope x)(hf:X.fn x=I\/X.env.scope.names.lookup x=J .local:=by first | exact .inl rfl | exact .inr rfl | assumption):PG X (.Name x pos) (Fp i):=by intro y s Z H v u Q a r h;exact wpAny_assign_Name (sU a hN j f r (λz l=>⟨_,H,l,h⟩) hf)
def P_:J_:=λa Z H Q=>a=[]/\Q Z H
def K2(t:TG)(u:J_):J_:=λf Z H Q=>∃v r,f=v::r/\t v Z H λa i=>u r a i Q
def C9:PGs X [] P_:=by intro f s Z H j i Q a r h;obtain⟨e,h⟩:=h;subst e;cases r;exact assignInOrder_nil ⟨Z,H,a,h⟩
def zp(i:PG X e t)(l:PGs X es u)(z:(assignEach (e::es) X.env).map (·.2)=assign e X.env::(assignEach es X.env).map (·.2):=by rfl):PGs X (e::es) (K2 t u):=by
 intro f s Z H M G Q a r h;obtain⟨v,L,e1,h⟩:=h;subst e1
 cases r with
 |cons r C =>
  rw[z];refine assignInOrder_cons (k_ (i f s Z H _ _ _ a r h) λ_ j ⟨B,F,E,y⟩=>?_);exact l f j B F _ _ Q E C y
def Qa(K:hU)(n:Nat)(t:J_):TG:=λv Z H Q=>∃a xs,v=.ref a/\SqT K H a xs/\xs.length=n/\t xs Z H Q
def Go{i:T5}{k:Nat}{t:J_}{n:Nat}(B:X.calm=I)(h:PGs X i t)(C:(assignEach i X.env).length=n:=by rfl)(j:(assignEach i X.env).findIdx? (·.1)=Y:=by rfl):PG X (.Tuple i k pos) (Qa X.K n t):=by
 intro M s Z H v u Q f r l;obtain⟨a,xs,e1,G,z,l⟩:=l;subst e1;cases r;obtain⟨L,y,F,R⟩:=f.tuple G;refine assign_Tuple_tuple (f.ok.hd B) F (by simp[C,<-z,y.length]) j λP E=>?_;have O:=f.kept (t':=s.toks) λb o e=>E b o (t3 (nw e)) e;exact h M _ Z H xs _ Q O (by simpa using y) l
def Qb(to a:TE)(t:de):TG:=λv Z H Q=>to Z H λo l=>a Z l λi f=>t o i v f λj=>Q Z j
def yU(z:PE X o to)(B:PE X i ti)(M:Gn X t)(ha:∀v,assign (.Subscript o i pos) X.env v=(do
   let a <-holding [v] (eval o X.env)
   let f <-holding [v,a] (eval i X.env)
   standAt pos
   holding [v,a,f] (setItem a f v)
   release [v,a,f] []):=by intro _;rfl):PG X (.Subscript o i pos) (Qb to ti t):=by
 intro l s Z H v u Q j r h;refine d_ (wpAny_holding (k_ (z l s Z H _ j h) λa C ⟨x,H1,W,P,F⟩=>?_));refine d_ (wpAny_holding (k_ (B l C Z H1 _ W F) λf S ⟨y,G,U,L,O⟩=>?_));refine d_ (wpAny_standAt (d_ (wpAny_holding (k_ (M l S Z G x y v a f u _ U P L r O) λ_ s3 ⟨R,E,q3⟩=>?_))));exact wpAny_release ⟨Z,R,E,q3⟩
def K3(a:TE)(g:TG):TS:=λD Z H=>a Z H λx f=>g x Z f D.nx
def Gq(l:PE X e te)(y:PG X tg g)(u:swapsWithSole [tg] e pos.line X.env=pure T:=by rfl)(B:swappedStores [tg] e X.env=pure Y:=by rfl)(i:(assignEach [tg] X.env).map (·.2)=[assign tg X.env]:=by rfl):PS X (.Assign [tg] e pos) (K3 te g):=by
 intro f s Z H D a h;refine wpAny_Assign_stores (k_ (l f s Z H _ a h) λv j ⟨x,E,C,z,r⟩=>?_) u B;rw[i];exact k_ (y f j Z E x v _ C z r) λ_ F q=>q
def Gr(hN:X.N.Nodup)(f:X.N[i]?=J x)(r:Loc X.env.scope x)(j:PE X e te)(u:swapsWith e (J (.Name x pos')) pos.line X.env=pure T:=by rfl)(hf:X.fn x=I\/X.env.scope.names.lookup x=J .local:=by first | exact .inl rfl | exact .inr rfl | assumption):
  PS X (.Assign [.Name x pos'] e pos) (K3 te (Fp i)):=by
 intro B s Z H D a h;refine wpAny_Assign_Name (k_ (j B s Z H _ a h) λv G ⟨y,F,E,z,l⟩=>?_) u;exact sU E hN f r z (λL C=>⟨_,F,C,l⟩) hf
def Gs(c:TT)(tb:TS):TS:=λD Z H=>∃W:Nat->St->Hp->Prop,(∃m,W m Z H)/\∀m Z H,W m Z H ->
 c Z H λb j=>if b=I then ∃N:St->Hp->Prop,(∀a i,N a i->∃f,f<m/\W f a i)/\tb { D with nx:=N,ct:=N,bk:=D.nx} Z j else D.nx Z j
def Av(G:PassesOwn (model X.prog X.w) X.A X.env X.xe)(S:PT X c tc)(hb:PSs X body tb):PS X (.While c body [] pos) (Gs tc tb):=by
 intro E s Z H D B h;obtain⟨W,⟨m0,w0⟩,turn⟩:=h;refine wpAny_While (codeAny_whileLoop (λn R=>∃L M,Inv X E L M R/\W n L M) ?_ m0 ⟨Z,H,B,w0⟩);rintro n U ⟨l,Q,I1,w1⟩;refine wpAny_passesOwn G (k_ (S E U l Q _ I1 (turn n l Q w1)) λb s2 ⟨O,P,j⟩=>?_)
 cases b with
 |true =>
  obtain⟨N,hN,j⟩:=j;refine wpAny_passesOwn G (k_ (hb E s2 l O _ P j) λf s3 r=>?_)
  cases f with
  |next =>
   obtain⟨a,i,z,C⟩:=r;obtain⟨u,y,F⟩:=hN a i C;exact⟨u,y,a,i,z,F⟩
  |cont =>
   obtain⟨a,i,z,C⟩:=r;obtain⟨u,y,F⟩:=hN a i C;exact⟨u,y,a,i,z,F⟩
  |brk=>exact r
  |ret v=>exact r
 |false =>
  exact wpAny_execs_nil ⟨l,O,P,j⟩
end
structure It where
 go:Nat->Hp->Prop
 yld:Nat->Hp->V->Hp->Prop
 stop:Nat->Hp->Prop
def jb(X:Cx)(a:T0)(H:Hp)(b:Addr):Prop :=
 H b=Y/\b≠X.env.locals/\b∉X.fs/\(b∈X.ex\/X.s₀.heap.objs.size<=b)/\(∀x c,X.env.cells.lookup x=J c->c≠b)/\∀p∈X.pn++a,p.1≠b
def Inv.fpOk{X:Cx}{i:T0}{Z:St}{H H':Hp}{s:Shared}{b:Addr}(a:Inv X i Z H s)(f:s.heap.objs.size<=b)(l:H' b=Y):jb X i H' b:=by
 refine⟨l,C2 (rc a.lt f),a.nofs f,.inr (m_ a.sz f),λx c e z=>?_,λp j z=>?_⟩
 .obtain⟨v,q⟩:=a.cell x c e;exact absurd (rc q.lt (by rw[z];exact f)) (Bt _)
 .exact absurd (rc (nw (a.pin p j).1) (by rw[z];exact f)) (Bt _)
inductive Si(X:Cx)(Lo:T0)(Z:St)(u:Value)(Y:V->Hp->Prop)(n:Heap->Prop)(fp:TX)(s2:Shared):Prop
 |mk(x:V)(H':Hp)(i:Inv X Lo Z H' s2)(r:aS x u)(y:Y x H')(t:n s2.heap)(f:∀b∈fp,H' b=none):Si X Lo Z u Y n fp s2
structure Ci(P:Program)(w:World)(K:hU)(tg:Expr)(J:It)(fp:TX)(it:Addr)(tn:Nat->Heap->Prop):Prop where
 mem:it∈fp
 obj:∀i h,tn i h->∀b∈fp,∃o,h.get? b=some o/\∀v,o.data≠.cell v
 keep:∀i h h',tn i h->(∀b∈fp,∀o,h.get? b=some o->h'.get? b=some o)->tn i h'
 item:∀(X:Cx),X.prog=P->X.w=w->X.K=K->X.calm=I->∀(i:Nat)(Lo:T0)(s:Shared)(Z:St)(H:Hp)(E:T7),Inv X Lo Z H s->(∀b∈fp,jb X Lo H b)->tn i s.heap->J.go i H ->
  wpAny (model P w) X.A (pyNext (.ref it)) (λr s1=>∃u,r=some u /\
   wpAny (model P w) X.A (letOwnedTupleGo tg (.ref it) u) (λ_ s2=>Si X Lo Z u (J.yld i H) (tn (i+1)) fp s2) E s1) E s
 done:∀(X:Cx),X.prog=P->X.w=w->X.K=K->X.calm=I->∀(i:Nat)(Lo:T0)(s:Shared)(Z:St)(H:Hp)(E:T7),Inv X Lo Z H s->(∀b∈fp,jb X Lo H b)->tn i s.heap->J.stop i H ->
  wpAny (model P w) X.A (pyNext (.ref it)) (λr s1=>r=Y/\Inv X Lo Z H s1) E s
 self:∀(A:Around)(i:Nat)(s:Shared)(Q:T7)(E:T7),tn i s.heap->Q (.ref it) s->wpAny (model P w) A (pyIter (.ref it)) Q E s
abbrev TI:=St->Hp->(It->Hp->Prop)->Prop
inductive Qc(X:Cx)(Lo:T0)(Z:St)(tg:Expr)(R:It->Hp->Prop)(itv:Value)(s2:Shared):Prop
 |mk(it:Addr)(fp:TX)(tn:Nat->Heap->Prop)(J:It)(H':Hp)(e:itv=.ref it)(i:Inv X Lo Z H' s2)(t:Ci X.prog X.w X.K tg J fp it tn)(n:tn 0 s2.heap)(f:∀b∈fp,jb X Lo H' b)(r:R J H'):Qc X Lo Z tg R itv s2
def PI(X:Cx)(l a:Expr)(j:TI):Prop :=
 ∀(f:T0)(s:Shared)(Z:St)(H:Hp)(R:It->Hp->Prop),Inv X f Z H s->j Z H R ->
  wpAny (model X.prog X.w) X.A (eval a X.env) (λv i=>wpAny (model X.prog X.w) X.A (pyIter v) (Qc X f Z l R) X.xe i) X.xe s
def wI(f:s.heap.get? it=J o)(i:o.cls=.type n)(hd:o.data=.fields vs)(j:["enumerate","zip","dict_itemiterator","dict_reverseitemiterator","odict_iterator","itertools.zip_longest","itertools.pairwise"].contains n=T)(a:Q () s):wpAny M A (letOwnedTupleGo tg (.ref it) u) Q E s:=by
 cases tg<;>first
  |exact ii a
  | (cases u<;>first
    |exact ii a
    | (refine d_ (wpAny_load f ?_)
       rw[i,hd];show wpAny M A (if(["enumerate","zip","dict_itemiterator","dict_reverseitemiterator","odict_iterator","itertools.zip_longest","itertools.pairwise"].contains n&&vs[0]? == J (rawInt _))=I then _ else _) Q E s;rw[e_ (by intro h;rw[j]at h;cases h)]
       exact ii a))
def Qd(K:hU)(a:Addr):It :=
 ⟨λi H=>∃xs x,SqL K H a xs/\xs[i]?=J x,λi H x f=>f=H/\∀xs,SqL K H a xs->xs[i]?=J x,λi H=>∃xs,SqL K H a xs/\xs.length<=i⟩
def Sj(K:hU)(a:Addr):It :=
 ⟨λi H=>∃xs x,SqT K H a xs/\xs[i]?=J x,λi H x f=>f=H/\∀xs,SqT K H a xs->xs[i]?=J x,λi H=>∃xs,SqT K H a xs/\xs.length<=i⟩
def Om(lo:Int)(n:Nat):It:=⟨λi _=>i<n,λi H x a=>a=H/\x=.int (lo+i),λi _=>n<=i⟩
def yr{P:Program}{w:World}{K:hU}{tg:Expr}(a l:Addr):Ci P w K tg (Qd K a) [l] l (λi h=>h.IsListIter l a i) where
 mem:=by simp
 obj:=λi h st b j=>by
  have e:b=l:=by simpa using j
  subst e;obtain⟨o,e,c,d⟩:=st;exact⟨o,e,λv z=>by rw[d]at z;cases z⟩
 keep:=λi h h' st k=>st.at λo e=>k l (by simp) o e
 item:=by intro X G U F hc i Lo s Z H E f hf st R;subst G U F;obtain⟨xs,x,y,M⟩:=R;obtain⟨S,O,p,hz⟩:=f.list y;obtain⟨u,hu,ru⟩:=O.get M;obtain⟨C,W,f2,B,Q,L⟩:=hf l (by simp);refine wpAny_pyNext_list_item st p.isList (by simpa using hu) λh' r sb=>?_;have I1:=f.turned (t':=s.toks) (λb o j e=>(sb.2 b j).trans e) C W B Q L;obtain⟨o,e,c,d⟩:=id r;exact⟨u,rfl,wI e c d (by decide) ⟨x,H,I1,ru,⟨rfl,λys hy=>by rw[f.list_inj hy y];exact M⟩,r,λb j=>(hf b j).1⟩⟩
 done:=by intro X G U F hc i Lo s Z H E f hf st R;subst G U F;obtain⟨xs,y,M⟩:=R;obtain⟨S,O,p,hz⟩:=f.list y;obtain⟨C,W,f2,B,Q,L⟩:=hf l (by simp);have hl:=O.length;exact wpAny_pyNext_list_end (f.ok.hd hc) st p.isList (by simp;lia) λh' eb=>⟨rfl,f.turned (t':=s.toks) (λb o j e=>eb b o j e) C W B Q L⟩
 self:=λ_ _ _ _ _ st h=>wpAny_pyIter_listiter st h
def wY{P:Program}{w:World}{K:hU}{tg:Expr}(a l:Addr):Ci P w K tg (Sj K a) [l] l (λi h=>h.IsTupleIter l a i) where
 mem:=by simp
 obj:=λi h st b j=>by
  have e:b=l:=by simpa using j
  subst e;obtain⟨o,e,c,d⟩:=st;exact⟨o,e,λv z=>by rw[d]at z;cases z⟩
 keep:=λi h h' st k=>st.at λo e=>k l (by simp) o e
 item:=by intro X G U F hc i Lo s Z H E f hf st R;subst G U F;obtain⟨xs,x,y,M⟩:=R;obtain⟨S,O,p,hz⟩:=f.tuple y;obtain⟨u,hu,ru⟩:=O.get M;obtain⟨C,W,f2,B,Q,L⟩:=hf l (by simp);refine wpAny_pyNext_tuple_item st (p) (by simpa using hu) λh' r sb=>?_;have I1:=f.turned (t':=s.toks) (λb o j e=>(sb.2 b j).trans e) C W B Q L;obtain⟨o,e,c,d⟩:=id r;exact⟨u,rfl,wI e c d (by decide) ⟨x,H,I1,ru,⟨rfl,λys hy=>by rw[f.tuple_inj hy y];exact M⟩,r,λb j=>(hf b j).1⟩⟩
 done:=by intro X G U F hc i Lo s Z H E f hf st R;subst G U F;obtain⟨xs,y,M⟩:=R;obtain⟨S,O,p,hz⟩:=f.tuple y;obtain⟨C,W,f2,B,Q,L⟩:=hf l (by simp);have hl:=O.length;exact wpAny_pyNext_tuple_end (f.ok.hd hc) st (p) (by simp;lia) λh' eb=>⟨rfl,f.turned (t':=s.toks) (λb o j e=>eb b o j e) C W B Q L⟩
 self:=λ_ _ _ _ _ st h=>wpAny_pyIter_tupleiter st h
def w4{P:Program}{w:World}{K:hU}{tg:Expr}(f:Addr)(lo:Int)(n:Nat):Ci P w K tg (Om lo n) [f] f (λi h=>IsRangeIter h f (lo+(i:Nat)*1) ((n:Int)-(i:Nat)) 1) where
 mem:=by simp
 obj:=λi h st b j=>by
  have e:b=f:=by simpa using j
  subst e
  exact⟨_,st,λv z=>by
   have z':=z
   cases z'⟩
 keep:=λi h r st k=>k f (by simp) _ st
 item:=by intro X O R M y i Q s Z H E a hf st G;subst O R M;obtain⟨B,L,f2,u,F,C⟩:=hf f (by simp);have W:=Walks.range (prog:=X.prog) (w:=X.w) (a.ok.hd y) f lo 1 n;refine W.item i s _ _ G st λv r tk hv l kk=>?_;obtain⟨t,rfl⟩:=hv;have S:Inv X Q Z H { s with heap:=r,toks:=tk}:=a.turned (λb o j e=>kk b o (by simpa using j) e) B L u F C;refine⟨_,rfl,wI l rfl rfl (by decide) ⟨.int (lo+i),H,S,⟨t,?_⟩,⟨rfl,rfl⟩,l,λb j=>(hf b j).1⟩⟩;rw[Int.mul_one]
 done:=by intro X O R M y i Q s Z H E a hf st G;obtain⟨B,L,f2,u,F,C⟩:=hf f (by simp);exact wpAny_pyNext_range_end (a.ok.hd y) st (by have:n<=i:=G;lia) λr U=>⟨rfl,a.turned (t':=s.toks) (λb o j e=>U b o j e) B L u F C⟩
 self:=λ_ _ _ _ _ st h=>wpAny_pyIter_rangeiter st h
section
variable{X:Cx}{tg:Expr}
def K4(K:hU)(i:TE):TI:=λZ H R=>i Z H λx f=>∃a,x=.ref a/\(∃xs,SqL K f a xs)/\R (Qd K a) f
def Qe(K:hU)(i:TE):TI:=λZ H R=>i Z H λx f=>∃a,x=.ref a/\(∃xs,SqT K f a xs)/\R (Sj K a) f
def C_{l:Expr}{r:TE}(u:PE X l r):PI X tg l (K4 X.K r):=by
 intro F s Z H R j h;refine k_ (u F s Z H _ j h) λv f ⟨x,G,i,B,y⟩=>?_;obtain⟨a,e,⟨xs,C⟩,q⟩:=y;subst e;cases B;obtain⟨E,L,p,M⟩:=i.list C;refine wpAny_pyIter_list p.isList ?_;refine⟨f.heap.objs.size,[f.heap.objs.size],_,_,G,rfl,i.kept (t':=f.toks) λb o e=>n7 _ e,yr a _,⟨_,s_ _ rfl,rfl,rfl⟩,λb z=>?_,q⟩;have e:b=f.heap.objs.size:=by simpa using z
 subst e;exact i.fpOk (ia _) (i.hok.fresh (ia _))
def Gu{l:Expr}{r:TE}(u:PE X l r):PI X tg l (Qe X.K r):=by
 intro F s Z H R j h;refine k_ (u F s Z H _ j h) λv f ⟨x,G,i,B,y⟩=>?_;obtain⟨a,e,⟨xs,C⟩,q⟩:=y;subst e;cases B;obtain⟨E,L,p,M⟩:=i.tuple C;refine wpAny_pyIter_tuple (p) ?_;refine⟨f.heap.objs.size,[f.heap.objs.size],_,_,G,rfl,i.kept (t':=f.toks) λb o e=>n7 _ e,wY a _,⟨_,s_ _ rfl,rfl,rfl⟩,λb z=>?_,q⟩;have e:b=f.heap.objs.size:=by simpa using z
 subst e;exact i.fpOk (ia _) (i.hok.fresh (ia _))
def AK{j:T0}{Z:St}{H:Hp}{s:Shared}{R:It->Hp->Prop}{E:T7}{lo a:Int}{t u v:Tok}{i:Nat}(f:Inv X j Z H s)(y:-(2^62)<=lo)(z:lo<2^62)(C:-(2^62)<=a)(r:a<2^62)(q:R (Om lo (a-lo).toNat) H):wpAny (model X.prog X.w) X.A (pyIter (.ref s.heap.objs.size)) (Qc X j Z tg R) E { s with heap:=s.heap.push { cls:=.type "range",data:=.fields #[.int lo t,.int a u,.int 1 v]},toks:=i}:=by
 refine wpAny_pyIter_range (IsRange.new ..) (small_one y z C r) ?_;have l:Inv X j Z H { s with heap:=s.heap.push { cls:=.type "range",data:=.fields #[.int lo t,.int a u,.int 1 v]},toks:=i}:=f.kept λb o e=>n7 _ e
 refine⟨(s.heap.push { cls:=.type "range",data:=.fields #[.int lo t,.int a u,.int 1 v]}).objs.size,[(s.heap.push { cls:=.type "range",data:=.fields #[.int lo t,.int a u,.int 1 v]}).objs.size],_,_,H,rfl,
  l.kept (t':=i) λb o e=>n7 _ e,w4 _ lo (a-lo).toNat,?_,λb B=>?_,q⟩
 .have e1:lo+((0:Nat):Int)*1=lo:=by simp
  have e2:(((a-lo).toNat:Nat):Int)-((0:Nat):Int)=Builtin.Range.rangeSize lo a 1:=by rw[rangeSize_one];split<;>lia
  rw[e1,e2];exact s_ _ rfl
 .have e:b=(s.heap.push { cls:=.type "range",data:=.fields #[.int lo t,.int a u,.int 1 v]}).objs.size:=by simpa using B
  subst e;exact l.fpOk (ia _) (l.hok.fresh (ia _))
def K7(a:TA):TI:=λZ H R=>a Z H λf i=>∃j:Int,f=[.int j] /\ -(2^62)<=j/\j<2^62/\R (Om 0 j.toNat) i
def zg{a:Expr}{u:TA}{p f:Pos}(E:Gl X "range")(z:X.mg "range"=Y)(y:PA X [a] u)(B:starEach [a] X.env=[(T,eval a X.env)]:=by rfl):PI X tg (.Call (.Name "range" p) [a] [] f) (K7 u):=by
 intro G s Z H R i h;refine Call_ (iN i E z boot_range (PyProof.Rows.callWith_type1 (k_ (y f G s Z H _ i h) λO P ⟨Q,S,M,F,l⟩=>?_) B rfl));obtain⟨j,e,l,C,q⟩:=l;subst e
 cases F with
 |cons r L =>
  cases L;obtain⟨t,rfl⟩:=r;exact call_range_1 (AK M ⋯ ⋯ l C (by simpa using q))
def Qf(r:TI)(g:TG)(tb:TS):TS:=λD Z H=>r Z H λa z=>∃W:Nat->Nat->St->Hp->Prop,(∃m,W 0 m Z z)/\∀i m Z H,W i m Z H ->
 (a.stop i H/\D.nx Z H)\/(a.go i H/\∃N:St->Hp->Prop,(∀j f,N j f->∃l,l<m/\W (i+1) l j f)/\∀x f,a.yld i H x f->g x Z f λu y=>tb { D with nx:=N,ct:=N,bk:=D.nx} u y)
def k8(a:TX)(h:Heap):T0:=a.filterMap λb=>(h.get? b).map λo=>(b,o)
def hG(a:b∈fp)(e:h.get? b=J o):(b,o)∈k8 fp h:=CG.mpr ⟨b,a,by rw[e];rfl⟩
def yE(f:p∈k8 fp h):p.1∈fp/\h.get? p.1=J p.2:=by
 obtain⟨b,i,e⟩:=CG.mp f
 cases q:h.get? b with
 |none=>rw[q]at e;cases e
 |some o =>
  rw[q]at e;have a:=Option.some.inj e;subst a;exact⟨i,q⟩
def Inv.pinned{i:T0}{Z:St}{H:Hp}{s:Shared}{f:TX}(a:Inv X i Z H s)(hf:∀b∈f,jb X i H b)(l:∀b∈f,∃o,s.heap.get? b=J o/\∀v,o.data≠.cell v):Inv X (i++k8 f s.heap) Z H s :=
 a.pins_of λp r=>(nt.mp r).elim (λz=>a.pin p (q0 _ z)) λz=>by
  obtain⟨j,e⟩:=yE z;obtain⟨y,C,B,_⟩:=hf p.1 j;obtain⟨o,u,d⟩:=l p.1 j
  simp_all
def Inv.unpinned{Lo f:T0}{Z:St}{H:Hp}{s:Shared}(a:Inv X (Lo++f) Z H s):Inv X Lo Z H s:=a.pins_of λp i=>a.pin p (q0 _ (xn _ i))
def Gw(S:PassesOwn (model X.prog X.w) X.A X.env X.xe)(hc:X.calm=I)(hi:PI X tg iter wi)(hg:PG X tg g)(B:PSs X body tb)(hs:∀x,foldedSetIterable iter X.env x=pure x:=by intro _;rfl):PS X (.For tg iter body [] pos) (Qf wi g tb):=by
 intro G s Z H D ah h;refine wpAny_For (k_ (hi G s Z H _ ah h) λv s1 h1=>k_ h1 λam s2 h2=>?_) hs;obtain⟨it,O,tn,an,H2,e,I2,l,aj,f2,W,⟨m0,w0⟩,turn⟩:=h2;subst e;have j:∀{C:Hp},(∀b∈O,C b=Y)->∀b∈O,jb X G C b:=λhn b B=>⟨hn b B,(f2 b B).2⟩;refine codeAny_forLoop_any (λn s'=>∃i M C,Inv X G M C s'/\tn i s'.heap/\(∀b∈O,C b=Y)/\W i n M C) ?_ m0 ⟨0,Z,H2,I2,aj,λb B=>(f2 b B).1,w0⟩;rintro n s3 ⟨i,Q,U,I3,L,R,w3⟩;rcases turn i n Q U w3 with⟨stop,qn⟩|⟨go,N,hN,step⟩
 .refine wpAny_passesOwn S (k_ (l.done X rfl rfl rfl hc i G s3 Q U X.xe I3 (j R) L stop) λr s4 ⟨hr,I4⟩=>?_);subst hr;exact wpAny_execs_nil ⟨Q,U,I4,qn⟩
 .refine wpAny_passesOwn S (k_ (l.item X rfl rfl rfl hc i G s3 Q U X.xe I3 (j R) L go) λr s4 ⟨u,hr,h4⟩=>?_);subst hr;refine wpAny_passesOwn S (k_ h4 λ_ s5 ⟨x,H5,I5,r5,y5,F,al⟩=>?_);have ab:=I5.pinned (j al) (l.obj _ _ F);refine wpAny_passesOwn S (k_ (hg _ s5 Q H5 x u _ ab r5 (step x H5 y5)) λ_ s6 ⟨Z6,H6,I6,q6⟩=>?_);refine wpAny_passesOwn S (k_ (B _ s6 Z6 H6 _ I6 q6) λf s7 E=>?_);have again:∀{a:St}{z:Hp},Inv X (G++k8 O s5.heap) a z s7->N a z->∃m,m<n/\∃i M C,Inv X G M C s7/\tn i s7.heap/\(∀b∈O,C b=Y)/\W i m M C:=λ{a z} y P=>by
   obtain⟨m',hm,w7⟩:=hN a z P;refine⟨m',hm,i+1,a,z,y.unpinned,l.keep _ _ _ F λb B o e=>(y.pin (b,o) (q0 _ (q0 _ (hG B e)))).1,λb B=>?_,w7⟩;obtain⟨o,e,d⟩:=l.obj _ _ F b B;exact(y.pin (b,o) (q0 _ (q0 _ (hG B e)))).2.1
  cases f with
  |next=>obtain⟨a,z,y,P⟩:=E;exact again y P
  |cont=>obtain⟨a,z,y,P⟩:=E;exact again y P
  |brk=>obtain⟨a,z,y,E⟩:=E;exact⟨a,z,y.unpinned,E⟩
  |ret v=>obtain⟨x7,a,z,y,r7,E⟩:=E;exact⟨x7,a,z,y.unpinned,r7,E⟩
end
abbrev R2:=V->V->Hp->VK->Prop
def OpR(X:Cx)(f:Value->Value->Sem Value)(r:R2):Prop :=
 ∀(a:T0)(s:Shared)(Z:St)(H:Hp)(x y:V)(v u:Value)(Q:VK),Inv X a Z H s->aS x v->aS y u->r x y H Q ->
  wpAny (model X.prog X.w) X.A (f v u) (EP X a Z Q) X.xe s
def Oo(X:Cx)(f:Value->Sem Value)(r:V->Hp->VK->Prop):Prop :=
 ∀(a:T0)(s:Shared)(Z:St)(H:Hp)(x:V)(v:Value)(Q:VK),Inv X a Z H s->aS x v->r x H Q ->
  wpAny (model X.prog X.w) X.A (f v) (EP X a Z Q) X.xe s
def ci(X:Cx)(f:Value)(r:List V->Hp->VK->Prop):Prop :=
 ∀(a:T0)(s:Shared)(Z:St)(H:Hp)(xs:List V)(i:TZ)(Q:VK),Inv X a Z H s->aD xs i->r xs H Q ->
  wpAny (model X.prog X.w) X.A (call f i) (EP X a Z Q) X.xe s
def Qg(X:Cx)(r:V->Hp->(Bool->Hp->Prop)->Prop):Prop :=
 ∀(a:T0)(s:Shared)(Z:St)(H:Hp)(x:V)(v:Value)(Q:Bool->Hp->Prop),Inv X a Z H s->aS x v->r x H Q ->
  wpAny (model X.prog X.w) X.A (truthy v) (TP X a Z Q) X.xe s
def K8(r:R2)(a tb:TE):TE:=λZ H Q=>a Z H λx i=>tb Z i λy f=>r x y f Q
def Tp(r:V->Hp->VK->Prop)(a:TE):TE:=λZ H Q=>a Z H λx f=>r x f Q
def rI(C:Int->Int->Prop)(g:Int->Int->V):R2:=λx y H Q=>∃i j,x=.int i/\y=.int j/\C i j/\Q (g i j) H
def Db(g:Int->Int->V):R2:=λx y H Q=>∃i j,x=.int i/\y=.int j/\Q (g i j) H
def rU(g:Int->V):V->Hp->VK->Prop:=λx H Q=>∃i,x=.int i/\Q (g i) H
section
variable{X:Cx}{a b c:Expr}{ta tb tc:TE}{pos:Pos}
def Gx(E:PE X a ta)(L:PE X b tb){r:T0}{s:Shared}{Z:St}{H:Hp}{R:V->V->Hp->Prop}(B:Inv X r Z H s)(h:ta Z H λx C=>tb Z C λy i=>R x y i){Q:T7}{f:Value->Value->Sem Value}(hf:∀v u z x y i,Inv X r Z i z->aS x v->aS y u->R x y i->wpAny (model X.prog X.w) X.A (f v u) Q X.xe z):
  wpAny (model X.prog X.w) X.A (eval a X.env) (λv j=>wpAny (model X.prog X.w) X.A (eval b X.env) (λu l=>wpAny (model X.prog X.w) X.A (f v u) Q X.xe l) X.xe j) X.xe s:=by
 refine k_ (E r s Z H _ B h) λv F ⟨x,C,U,P,G⟩=>?_;refine k_ (L r F Z C _ U G) λu z ⟨y,i,S,M,O⟩=>?_;exact hf v u z x y i S P M O
def K9{i:Operator}{r:R2}(j:OpR X (binaryOp i) r)(l:PE X a ta)(B:PE X b tb):PE X (.BinOp a i b pos) (K8 r ta tb):=by intro E s Z H Q f h;exact wpAny_BinOp (Gx l B f h λv u G x y C L F z q=>j E G Z C x y v u Q L F z q)
def K_(l:Oo X (unaryOp op) r)(u:PE X a ta):PE X (.UnaryOp op a pos) (Tp r ta):=by intro i s Z H Q f h;exact UnaryOp_ (k_ (u i s Z H _ f h) λv j ⟨x,C,z,B,y⟩=>l i j Z C x v Q z B y)
def Tq{f:Value->Value->Sem Value}{C:Int->Int->Prop}{g:Int->Int->Int}(rule:∀(i j:Int)(t u:Tok)(s:Shared)(Q:T7)(E:T7),C i j->Q (.int (g i j) s.toks) { s with toks:=s.toks+1}->wpAny (model X.prog X.w) X.A (f (.int i t) (.int j u)) Q E s):
  OpR X f (rI C λi j=>.int (g i j)):=by
 intro G s Z H x y v u Q l F r h;obtain⟨i,j,rfl,rfl,z,q⟩:=h;obtain⟨t,rfl⟩:=F;obtain⟨B,rfl⟩:=r;exact rule i j t B s _ _ z ⟨.int (g i j),H,l.tok _,⟨_,rfl⟩,q⟩
def La{f:Value->Value->Sem Value}{g:Int->Int->Int}(rule:∀(i j:Int)(t u:Tok)(s:Shared)(Q:T7)(E:T7),Q (.int (g i j) s.toks) { s with toks:=s.toks+1}->wpAny (model X.prog X.w) X.A (f (.int i t) (.int j u)) Q E s):
  OpR X f (Db λi j=>.int (g i j)):=by
 intro C s Z H x y v u Q l B r h;obtain⟨i,j,rfl,rfl,q⟩:=h;obtain⟨t,rfl⟩:=B;obtain⟨z,rfl⟩:=r;exact rule i j t z s _ _ ⟨.int (g i j),H,l.tok _,⟨_,rfl⟩,q⟩
def Dc{f:Value->Value->Sem Value}{g:Int->Int->Bool}(rule:∀(i j:Int)(t u:Tok)(s:Shared)(Q:T7)(E:T7),Q (.bool (g i j)) s->wpAny (model X.prog X.w) X.A (f (.int i t) (.int j u)) Q E s):
  OpR X f (Db λi j=>.bl (g i j)):=by
 intro C s Z H x y v u Q l B r h;obtain⟨i,j,rfl,rfl,q⟩:=h;obtain⟨t,rfl⟩:=B;obtain⟨z,rfl⟩:=r;exact rule i j t z s _ _ ⟨.bl (g i j),H,l,rfl,q⟩
def iF(i j:Int):Prop:=0<=j/\j<=1000000/\i.natAbs<2^64
def Gy:OpR X (binaryOp .Add) (Db λi j=>.int (i+j)):=La λ_ _ _ _ _ _ _ q=>add_int q
def Gz:OpR X (binaryOp .Sub) (Db λi j=>.int (i-j)):=La λ_ _ _ _ _ _ _ q=>sub_int q
def GA:OpR X (binaryOp .Pow) (rI iF λi j=>.int (i^j.toNat)):=Tq λ_ _ _ _ _ _ _ f q=>pow_int_small f.1 f.2.1 f.2.2 q
def Tr{f:Value->Sem Value}{g:Int->Int}(rule:∀(i:Int)(t:Tok)(s:Shared)(Q:T7)(E:T7),Q (.int (g i) s.toks) { s with toks:=s.toks+1}->wpAny (model X.prog X.w) X.A (f (.int i t)) Q E s):
  Oo X f (rU λi=>.int (g i)):=by
 intro r s Z H x v Q j l h;obtain⟨i,rfl,q⟩:=h;obtain⟨t,rfl⟩:=l;exact rule i t s _ _ ⟨.int (g i),H,j.tok _,⟨_,rfl⟩,q⟩
def GB:Oo X (unaryOp .USub) (rU λi=>.int (-i)):=Tr λ_ _ _ _ _ q=>neg_int q
def GC{i:T0}{Z:St}{H:Hp}{s:Shared}{Q:VK}{k j:Bool}(f:Inv X i Z H s)(q:Q (.bl k) H)(e:k=j):EP X i Z Q (.bool j) s:=by subst e;exact⟨.bl k,H,f,rfl,q⟩
def Lb:OpR X (compareOp .Lt) (Db λi j=>.bl (decide (i<j))):=Dc λ_ _ _ _ _ _ _ q=>lt_int q
def Lc:OpR X (compareOp .LtE) (Db λi j=>.bl (decide (i<=j))):=Dc λ_ _ _ _ _ _ _ q=>le_int q
def Ld:OpR X (compareOp .Gt) (Db λi j=>.bl (decide (j<i))):=Dc λ_ _ _ _ _ _ _ q=>gt_int q
def Lf:OpR X (compareOp .GtE) (Db λi j=>.bl (decide (j<=i))):=Dc λ_ _ _ _ _ _ _ q=>ge_int q
def Dd:OpR X (compareOp .IsNot) (λx y H Q=>y=.non/\Q (.bl (!decide (x=.non))) H):=by
 intro l s Z H x y v u Q f i j h;obtain⟨rfl,q⟩:=h;cases j;refine isnot_none_gen (GC f q ?_);cases x<;>first
  |(obtain⟨t,rfl⟩:=i;rfl)
def Cj(b:Expr)(h:op≠.In:=by decide)(f:op≠.NotIn:=by decide):behindInMarks op b=T:=by
 have e1:(op==CmpOp.In)=T:=by cases op<;>first | rfl | exact absurd rfl h
 have e2:(op==CmpOp.NotIn)=T:=by cases op<;>first | rfl | exact absurd rfl f
 cases b<;>simp[behindInMarks,e1,e2]
def De{i:CmpOp}{r:R2}(j:OpR X (compareOp i) r)(l:PE X a ta)(C:PE X b tb)(B:behindInMarks i b=T):PE X (.Compare a [i] [b] pos) (K8 r ta tb):=by intro F s Z H Q f h;exact wpAny_Compare1 (Gx l C f h λv u L x y E M G z q=>j F L Z E x y v u Q M G z q) B
def Lg(t:TE):TT:=λZ H Q=>t Z H λx f=>∃k,x=.bl k/\Q k f
def Df(j:OpR X (compareOp op) r)(l:PE X a ta)(L:PE X b tb)(C:behindInMarks op b=T):PT X (.Compare a [op] [b] pos) (Lg (K8 r ta tb)):=by
 intro i s Z H Q f h
 refine wpAny_isTrue_Compare1 (k_ (l i s Z H _ f h) λv E ⟨x,H1,I1,R,G⟩=>k_ (L i E Z H1 _ I1 G) λu U ⟨y,M,W,O,P⟩ =>
  k_ (j i U Z M x y v u _ W R O P) λc s3 ⟨z,S,F,B,k,e,q3⟩=>?_) C
 subst e;cases B;exact wpAny_truthy_bool ⟨S,F,q3⟩
def ye(r j:R2)(ta tb tc:TE):TE:=λZ H Q=>ta Z H λx B=>tb Z B λy l=>r x y l λz f=>∃k,z=.bl k /\
 (if k=I then tc Z f λu i=>j y u i Q else Q (.bl T) f)
def AQ(F:OpR X (compareOp op) r)(i:OpR X (compareOp op') r')(G:PE X a ta)(hb:PE X b tb)(S:PE X c tc)(R:lastMarks [op,op'] [b,c]=T:=by with_unfolding_all rfl):PE X (.Compare a [op,op'] [b,c] pos) (ye r r' ta tb tc):=by
 intro f s Z H Q j h
 refine Compare_chain (k_ (G f s Z H _ j h) λv U ⟨x,H1,I1,r1,q1⟩=>chain_link (k_ (hb f U Z H1 _ I1 q1) λu s2 ⟨y,H2,I2,B,q2⟩ =>
  k_ (F f s2 Z H2 x y v u _ I2 r1 B q2) λd s3 ⟨z,C,l,L,k,e,E⟩=>?_)) R
 subst e;cases L;refine wpAny_truthy_bool ?_
 cases k with
 |false=>exact ite_ff ⟨.bl T,C,l,rfl,E⟩
 |true=>exact ite_tt (chain_last (k_ (S f s3 Z C _ l E) λP W ⟨z',H4,I4,M,O⟩=>i f W Z H4 y z' u P Q I4 B M O))
def Lh(K:hU)(x:V)(H:Hp)(k:Bool):Prop :=
 match x with
 |.non=>k=T
 |.bl b=>k=b
 |.int i=>k=(i != 0)
 |.str y=>y.length<=sizeLine/\k=((y.length:Int) != 0)
 |.byt y=>y.size<=sizeLine/\k=((y.size:Int) != 0)
 |.ref p=>(∃xs,SqL K H p xs/\k=!xs.isEmpty)\/(∃xs,SqT K H p xs/\k=!xs.isEmpty)\/∃f,H p=J (.dK f)/\k=!f.isEmpty
 |_=>False
def vR{κ:Type}{f:List (κ×V)}{i:List (κ×Value)}(r:KV f i):(!i.isEmpty)=!f.isEmpty:=by cases r<;>rfl
def nL(r:aD xs its):(!its.toArray.isEmpty)=!xs.isEmpty:=by cases r<;>simp
def ni:(sizeLine:Nat)<2^63:=by rw[sizeLine_eq];decide
def ss:Qg X (λx H Q=>∃k,Lh X.K x H k/\Q k H):=by
 intro P s Z H x v Q f z h;obtain⟨k,e,q⟩:=h;have O:sizeLine=16777216:=sizeLine_eq
 cases x with
 |non =>
  cases z;have j:k=T:=e;subst j;exact truthy_none ⟨H,f,q⟩
 |bl b =>
  cases z;have j:k=b:=e;subst j;exact wpAny_truthy_bool ⟨H,f,q⟩
 |int i =>
  obtain⟨t,rfl⟩:=z;have j:k=(i != 0):=e;subst j;exact PySem.P.truthy_int ⟨H,f,q⟩
 |str y =>
  obtain⟨t,rfl⟩:=z;obtain⟨L,j⟩:y.length<=sizeLine/\k=((y.length:Int) != 0):=e;subst j;exact PySem.P.truthy_str ⋯ ⟨H,f.tok _,q⟩
 |byt y =>
  obtain⟨t,rfl⟩:=z;obtain⟨L,j⟩:y.size<=sizeLine/\k=((y.size:Int) != 0):=e;subst j;exact PySem.W.truthy_bytes ⋯ ⟨H,f.tok _,q⟩
 |ref p =>
  cases z;have j:(∃xs,SqL X.K H p xs/\k=!xs.isEmpty)\/(∃xs,SqT X.K H p xs/\k=!xs.isEmpty)\/∃l,H p=J (.dK l)/\k=!l.isEmpty:=e;rcases j with⟨xs,B,j⟩|⟨xs,B,j⟩|⟨l,B,j⟩
  .subst j;obtain⟨F,r,E,G⟩:=f.list B;have u:=r.length;exact wpAny_truthy_list E.isList (by simp only[pq];lia) ⟨H,f.tok _,by rw[nL r];exact q⟩
  .subst j;obtain⟨F,r,E,G⟩:=f.tuple B;have u:=r.length;exact truthy_tuple E (by simp only[pq];lia) ⟨H,f.tok _,by rw[nL r];exact q⟩
  .subst j;obtain⟨G,M,C,r,m⟩:l.length<=sizeLine/\(p==sysModules)=T/\∃C,KV l C/\s.heap.DictOf (pK X.prog X.w) p C:=f.hok p _ B;have u:l.length=C.length:=Paired.length r;exact wpAny_truthy_dict M m ⋯ ⟨H,f.tok _,by rw[vR r];exact q⟩
 |_=>exact(show False from e).elim
def zO(r:PE X a ta)(y:∀f,isTrue a X.env f=(do let v <-f;standAt a.pos;holding [v] (truthy v))):
  PT X a (λZ H Q=>ta Z H λx j=>∃k,Lh X.K x j k/\Q k j):=by
 intro l s Z H Q i h;exact isTrue_plain (k_ (r l s Z H _ i h) λv u ⟨x,E,C,B,z⟩=>ss l u Z E x v Q C B z) (y _)
def w8:OpR X (binaryOp .Add) (λx y H Q=>∃i j,x=.str i/\y=.str j/\i.length+j.length<=sizeLine/\Q (.str (i++j)) H):=by intro E s Z H x y v u Q f z l h;obtain⟨i,j,rfl,rfl,B,q⟩:=h;obtain⟨t,rfl⟩:=z;obtain⟨r,rfl⟩:=l;exact add_str (λr C=>⟨.str (i++j),H,f.tok _,⟨_,rfl⟩,q⟩) B
def fj(r:aD [x] us):∃u,us=[u]/\aS x u:=by
 cases r with
 |cons i f=>cases f;exact⟨_,rfl,i⟩
def vals2(r:aD [x,y] us):∃u f,us=[u,f]/\aS x u/\aS y f:=by
 cases r with
 |cons z i =>
  cases i with
  |cons j l=>cases l;exact⟨_,_,rfl,z,j⟩
def zH:ci X (.builtin "abs") (λxs H Q=>∃i,xs=[.int i]/\Q (.int (if i<0 then -i else i)) H):=by intro l s Z H xs y Q f r h;obtain⟨i,rfl,q⟩:=h;obtain⟨u,rfl,t,rfl⟩:=fj r;exact call_abs_int λu j=>⟨.int (if i<0 then -i else i),H,f.tok _,⟨_,rfl⟩,q⟩
def qG(y:X.calm=I):ci X (.builtin "max") (λxs H Q=>∃i j,xs=[.int i,.int j]/\Q (.int (if j>i then j else i)) H):=by
 intro G s Z H xs z Q f r h;obtain⟨i,j,rfl,q⟩:=h;obtain⟨u,C,rfl,⟨t,rfl⟩,⟨E,rfl⟩⟩:=vals2 r;refine max_two_ints (f.ok.hd y) λB F k=>⟨_,H,f.kept k,?_,q⟩;by_cases l:j>i
 .rw[b_ l,b_ l];exact⟨_,rfl⟩
 .rw[e_ l,e_ l];exact⟨_,rfl⟩
def qi(y:X.calm=I):ci X (.builtin "min") (λxs H Q=>∃i j,xs=[.int i,.int j]/\Q (.int (if j<i then j else i)) H):=by
 intro G s Z H xs z Q f r h;obtain⟨i,j,rfl,q⟩:=h;obtain⟨u,C,rfl,⟨t,rfl⟩,⟨E,rfl⟩⟩:=vals2 r;refine min_two_ints (f.ok.hd y) λB F k=>⟨_,H,f.kept k,?_,q⟩;by_cases l:j<i
 .rw[b_ l,b_ l];exact⟨_,rfl⟩
 .rw[e_ l,e_ l];exact⟨_,rfl⟩
def Qh(K:hU)(x:V)(H:Hp)(n:Nat):Prop :=
 match x with
 |.str y=>y.length<=sizeLine/\n=y.length
 |.byt y=>y.size<=sizeLine/\n=y.size
 |.ref p=>(∃xs,SqL K H p xs/\n=xs.length)\/∃xs,SqT K H p xs/\n=xs.length
 |_=>False
def jJ:ci X (.builtin "len") (λxs H Q=>∃x n,xs=[x]/\Qh X.K x H n/\Q (.int n) H):=by
 intro O s Z H xs L Q f r h;obtain⟨x,n,rfl,e,q⟩:=h;obtain⟨u,rfl,E⟩:=fj r;have M:=sizeLine_eq
 cases x with
 |str y =>
  obtain⟨t,rfl⟩:=E;obtain⟨F,j⟩:=e;subst j;exact len_str ⋯ ⟨.int _,H,f.tok _,⟨_,rfl⟩,q⟩
 |byt y =>
  obtain⟨t,rfl⟩:=E;obtain⟨F,j⟩:=e;subst j;exact PySem.W.len_bytes ⋯ ⟨.int _,H,f.tok _,⟨_,rfl⟩,q⟩
 |ref p =>
  cases E;have j:=e;rcases j with⟨xs,z,j⟩|⟨xs,z,j⟩
  .subst j;obtain⟨C,B,l,G⟩:=f.list z;have i:=B.length;exact Calls.call_len_list l.isList (by simp only[pq];lia) ⟨.int xs.length,H,f.tok _,⟨_,by simp only[pq];rw[i]⟩,q⟩
  .subst j;obtain⟨C,B,l,G⟩:=f.tuple z;have i:=B.length;exact len_tuple l (by simp only[pq];lia) ⟨.int xs.length,H,f.tok _,⟨_,by simp only[pq];rw[i]⟩,q⟩
 |_=>exact(e).elim
end
section
variable{prog:Program}{w:World}{A:Around}{E:T7}{s:Shared}{K:hU}{x dx C f:Addr}{mA:T8}{name:Str}{v:Value}
end
section
variable{P:Program}{w:World}{H H':Hp}{h h':Heap}{a C dx:Addr}{fs fs':List (Str × V)}
end
section
variable{X:Cx}{Lo:List (Addr × Obj)}{Z:St}{H:Hp}{s:Shared}{a C dx:Addr}{fs:List (Str × V)}{f:Str}{v:V}{A:Around}{E:T7}
end
section
variable{X:Cx}{o e value:Expr}{f:Str}{pos pos' tpos:Pos}{ta tv:TE}
end
section
variable{X:Cx}{Lo:List (Addr × Obj)}{Z:St}{H:Hp}{s:Shared}{A:Around}{E:T7}{Q:T7}{c:Value}{b:Bool}
end
structure Room(k:Nat)(A:Around):Prop where
 hd:A.handled=Y
 dp:A.depth+3*k+5<recursionLimit
 un:A.units+16*k+200<cLine
 gd:A.guards=J []
def Room.mono(r:Room k A)(h:j<=k):Room j A:=⟨r.hd,by have:=r.dp;lia,by have:=r.un;lia,r.gd⟩
def Room.deeper(r:Room (k+1) A)(env:Env):Room k (A.deeper env) :=
 ⟨r.hd,by have:=r.dp;show A.depth+1+3*k+5<_;lia,by have:=r.un;show A.units+3+16*k+200<_;lia,r.gd⟩
def Room.depth(r:Room k A):A.depth<recursionLimit:=by have:=r.dp;lia
def Room.units(r:Room k A):A.units+64<cLine:=by have:=r.un;lia
def Qi:TA:=λ_ H Q=>Q [] H
def Li(f:TE)(a:TA):TA:=λZ H Q=>f Z H λx j=>a Z j λxs i=>Q (x::xs) i
section
variable{X:Cx}{e:Expr}{es:T5}{te:TE}{t:TA}{pos:Pos}
def jh:PA X [] Qi:=λ_ _ _ _ H Q a h=>Calls.spliced_nil ⟨[],H,a,.nil,h⟩
def fJ(i:PE X e te)(z:PA X es t)(B:starEach (e::es) X.env=(T,eval e X.env)::starEach es X.env:=by rfl):PA X (e::es) (Li te t):=by intro pos f s Z H Q a h;rw[B];show wpAny _ _ (spliced ((T,eval e X.env)::backTo pos (starEach es X.env))) _ _ s;refine Calls.spliced_cons (k_ (i f s Z H _ a h) λu j ⟨x,L,G,E,l⟩=>?_);exact k_ (z pos f j Z L _ G l) λM O ⟨xs,r,F,y,C⟩=>⟨x::xs,r,F,.cons E y,C⟩
def Qj(t:TA):TE:=λZ H Q=>t Z H λxs a=>xs.length<=sizeLine/\∀p,a p=Y->Q (.ref p) (lf a p (.tup xs))
def Qk(t:TA):TE:=λZ H Q=>t Z H λxs a=>xs.length<=sizeLine/\∀p,a p=Y->Q (.ref p) (lf a p (.lst xs))
def GD{x1}(h:PA X es t):PE X (.Tuple es x1 pos) (Qj t):=by intro B s Z H Q f y;refine wpAny_Tuple_spliced (k_ (h pos B s Z H _ f y) λj a ⟨xs,l,i,r,z,q⟩=>⟨by rw[<-r.length];exact z,?_⟩);have hf:=i.hok.fresh (ia _);refine⟨.ref a.heap.objs.size,lf l a.heap.objs.size (.tup xs),i.laid (t':=a.toks) (λb u e=>n7 _ e) (ia _) ?_,rfl,q _ hf⟩;exact⟨z,j,r,⟨_,s_ _ rfl,rfl,⟨_,rfl⟩,rfl⟩⟩
def GF(h:PA X es t):PE X (.List es pos) (Qk t):=by intro B s Z H Q f y;refine wpAny_List_spliced (k_ (h pos B s Z H _ f y) λj a ⟨xs,l,i,r,z,q⟩=>⟨by rw[<-r.length];exact z,?_⟩);have hf:=i.hok.fresh (ia _);refine⟨.ref a.heap.objs.size,lf l a.heap.objs.size (.lst xs),i.laid (t':=a.toks) (λb u e=>n7 _ e) (ia _) ?_,rfl,q _ hf⟩;exact⟨z,j,0,r,s_ _ rfl⟩
end
abbrev Sp:=List V->Hp->VK->XK->Prop
abbrev B_:=List Env->Hp->Shared->XK->Value->Shared->Prop
structure Dg(P:Program)(w:World)(K:hU)(mg:T8)(base:Heap)(A:Around)(outer:List Env)(s:Shared)(H:Hp):Prop where
 frames:A.frames=J outer
 mod:Mod K mg base
 bs:∀b o,base.get? b=J o->s.heap.get? b=J o/\H b=Y
 bsz:base.objs.size<=s.heap.objs.size
 funs:s.heap.FunFrames base outer
 frf:∀b∈xq outer,H b=Y
 hok:HOk P w H s.heap
 bare:AllBare s.gens
inductive CE(outer:List Env)(P:Program)(w:World)(H:Hp)(s:Shared)(Q:VK)(u:Value)(s':Shared):Prop
 |mk(v:V)(H':Hp)(o:s'.os=s.os)(b:AllBare s'.gens)(n:Un (xq outer) [] H H' s.heap s'.heap)(k:HOk P w H' s'.heap)(r:aS v u)(q:Q v H'):CE outer P w H s Q u s'
def CR(f:B_)(outer:List Env)(P:Program)(w:World)(H:Hp)(s:Shared)(Q:VK)(E:XK)(r:Result)(a:Shared):Prop :=
 match r with
 |.ok (.ret u)=>CE outer P w H s Q u a
 |.ok _=>False
 |.error e=>f outer H s E e a
structure FnOk(P:Program)(w:World)(K:hU)(mg:T8)(base:Heap)(CX:B_)(k:Nat)(f:Addr)(fd:FuncData)(ps:TQ)(sp:Sp):Prop where
 len:∀vs H Q E,sp vs H Q E->vs.length=ps.length
 run:∀(A:Around)(outer:List Env)(s:Shared)(H:Hp)(args:Args)(us:TZ)(vs:List V)(Q:VK)(E:XK),Room k A->Dg P w K mg base A outer s H->BindsTo s fd args (ps.zip us)->aD vs us->sp vs H Q E ->
  codeAny (model P w) A (.call (.ref f) args) (CR CX outer P w H s Q E) s
def FnOk.mono{P:Program}{w:World}{K:hU}{mg:T8}{base:Heap}{r:B_}{j k:Nat}{f:Addr}{fd:FuncData}{i:TQ}{l:Sp}(F:FnOk P w K mg base r j f fd i l)(h:j<=k):
  FnOk P w K mg base r k f fd i l:=⟨F.len,λA outer s H a u z Q E y=>F.run A outer s H a u z Q E (y.mono h)⟩
def FnOk.imp{P:Program}{w:World}{K:hU}{mg:T8}{base:Heap}{u:B_}{k:Nat}{f:Addr}{fd:FuncData}{l:TQ}{r j:Sp}(F:FnOk P w K mg base u k f fd l r)(h:∀a H Q E,j a H Q E->r a H Q E):FnOk P w K mg base u k f fd l j :=
 ⟨λa H Q E q=>F.len a H Q E (h _ _ _ _ q),λA outer s H i y a Q E C z B hv G=>F.run A outer s H i y a Q E C z B hv (h _ _ _ _ G)⟩
section
variable{X:Cx}{Lo:List (Addr × Obj)}{Z:St}{H:Hp}{s s':Shared}
def Inv.env0(a:Inv X Lo Z H s):Dg X.prog X.w X.K X.mg X.base X.A X.stack s H :=
 ⟨a.ok.frames,a.ok.mod,a.bs,m_ a.ok.bsz a.sz,a.stack,a.stkFree,a.hok,a.bare⟩
def Inv.after(a:Inv X Lo Z H s)(h:CE X.stack X.prog X.w H s Q u s'):EP X Lo Z Q u s':=by obtain⟨v,i,os,bare,un,hok,r,q⟩:=h;obtain⟨f,g,d,t,j⟩:=s';obtain rfl:=os;exact⟨v,i,a.call (h':=f) (g':=g) (d':=d) (t':=t) un hok bare (λb z=>absurd z (by simp)),r,q⟩
end
def og(K:hU)(fd:FuncData)(f:TQ)(i:TZ):Prop :=
 ∀(s:Shared)(a:TZ),K.In s.heap->(a++i).length=f.length->BindsTo s fd ⟨a,[]⟩ (f.zip (a++i))
def og.all{K:hU}{fd:FuncData}{f:TQ}(h:∀a:TZ,a.length=f.length->bindArgs fd ⟨a,[]⟩=pure (f.zip a)):og K fd f []:=λs a _ i=>by
 rw[F3]at i ⊢;exact .of_eq (h a i)
section
variable{X:Cx}{CX:B_}{k:Nat}{f C:Addr}{fd:FuncData}{ps:TQ}{sp:Sp}{dvs:List V}{ds:TZ}{E:XK}{x m:Str}{p pos apos:Pos}{e o:Expr}{es:T5}{ta:TE}{t:TA}
end
section
variable{X:Cx}{CX:B_}{k:Nat}{f C:Addr}{fd:FuncData}{ps ks:TQ}{sp:Sp}{E:XK}{x m:Str}{p pos apos kpos:Pos}{e o:Expr}{es:T5}{kws:List Keyword}{te ta:TE}{t tk:TA}{nm:Option Str}{g:TZ->TZ->TZ}{gV:List V->List V->List V}
end
structure rb(N P:TQ)(sc:Scope):Prop where
 kind:sc.kind=.function
 co:sc.isCoroutine=T
 gen:sc.isGenerator=T
 nd:N.Nodup
 pre:N.take P.length=P
 par:∀x∈P,sc.names.lookup x=J .local\/sc.names.lookup x=J .cell
 nofree:∀y∈sc.names,y.2≠.free
def pQ{kindOf:Str->Option NameKind}{x:Str}:∀{binds:List (Str×Value)}{m:T8},(∀v,(x,v)∉binds)->bindL kindOf binds m x=m x
 |[],_,_=>rfl
 |(n,v)::r,m,h=>by
  unfold bindL;rw[pQ λw a=>h w (l7 _ a)];split
  .have:x≠n:=by rintro rfl;exact h v pa
   simp[this]
  .rfl
def qJ{kindOf:Str->Option NameKind}{x:Str}:∀{binds:List (Str×Value)}{m:T8},(∀v,(x,v)∉binds)->bindC kindOf binds m x=m x
 |[],_,_=>rfl
 |(n,v)::r,m,h=>by
  unfold bindC;rw[qJ λw a=>h w (l7 _ a)];split
  .rfl
  .have:x≠n:=by rintro rfl;exact h v pa
   simp[this]
def qE{kindOf:Str->Option NameKind}{x:Str}{v:Value}:∀{P:TQ}{a:TZ}{i:Nat}{m:T8},P.Nodup->P[i]?=J x->a[i]?=J v->kindOf x=J .local ->
  bindL kindOf (P.zip a) m x=J v
 |p::P,w::a,0,m,nd,f,j,l=>by
  simp at f j;subst f;subst j;show bindL kindOf ((p,w)::P.zip a) m p=_;unfold bindL;rw[pQ λv hv=>(F4.mp nd).1 (PL hv).1,b_ l];simp
 |p::P,w::a,i+1,m,nd,f,j,l=>by
  unfold bindL;exact qE (F4.mp nd).2 (by simpa using f) (by simpa using j) l
def pR{kindOf:Str->Option NameKind}{x:Str}{v:Value}:∀{P:TQ}{a:TZ}{i:Nat}{m:T8},P.Nodup->P[i]?=J x->a[i]?=J v->kindOf x≠J .local ->
  bindC kindOf (P.zip a) m x=J v
 |p::P,w::a,0,m,nd,f,j,l=>by
  simp at f j;subst f;subst j;show bindC kindOf ((p,w)::P.zip a) m p=_;unfold bindC;rw[qJ λv hv=>(F4.mp nd).1 (PL hv).1,e_ l];simp
 |p::P,w::a,i+1,m,nd,f,j,l=>by
  unfold bindC;exact pR (F4.mp nd).2 (by simpa using f) (by simpa using j) l
def start(N:TQ)(a:List V):St:=a.map J++List.replicate (N.length-a.length) Y
def tw(r:B_)(P:Program)(w:World)(K:hU)(mg:T8)(base:Heap)(N:TQ)(i:Str)(a:Scope)(f:Addr)(l:Value)(A:Around)(outer:List Env)(s:Shared)(H:Hp)(E:XK):Cx where
 prog:=P
 w:=w
 K:=K
 mg:=mg
 base:=base
 A:=A.deeper (envOfC i a s.heap.objs.size f l)
 N:=N
 s₀:=s
 H₀:=H
 env:=envOfC i a s.heap.objs.size f l
 outer:=outer
 stack:=envOfC i a s.heap.objs.size f l::outer
 ex:=[]
 calm:=I
 fn:=λ_=>I
 pn:=[]
 xe:=λe y=>wpAny (model P w) (A.deeper (envOfC i a s.heap.objs.size f l)) (leaving (envOfC i a s.heap.objs.size f l) e) (λ_ j=>r outer H s E e j) (λu j=>r outer H s E u j) y
def sD{a:Scope}{n:Nat}{x:Str}(h:a.names.lookup x=J .cell):∃c,(cellsFrom n a.names []).lookup x=J c:=by have q:=PySem.W.cellsFrom_some a.names n [] (.inl h);exact Option.isSome_iff_exists.mp q
def y9{CX:B_}{P:Program}{w:World}{K:hU}{mg:T8}{base:Heap}{N G:TQ}{l:Str}{j:Scope}{f:Addr}{R:Value}{A:Around}{outer:List Env}{s Z:Shared}{H:Hp}{E:XK}{X:TZ}{L:List V}(S:rb N G j)(hd:A.handled=Y)(C:Dg P w K mg base A outer s H)(hl:L.length=G.length)(r:aD L X)(x:InCallC s s.heap.objs.size (bindL (envOfC l j s.heap.objs.size f R).kindOf (G.zip X) λ_=>Y) (cellsFrom (s.heap.objs.size+1) j.names []) (bindC (envOfC l j s.heap.objs.size f R).kindOf (G.zip X) λ_=>Y) Z):
  Inv (tw CX P w K mg base N l j f R A outer s H E) [] (start N L) H Z:=by
 have ab:G.length<=N.length:=by have:=congrArg List.length S.pre;rw[CH]at this;lia
 obtain⟨W,tk,rfl,hk⟩:=x.done;have F:∀b:Addr,b∉(tw CX P w K mg base N l j f R A outer s H E).ex:=λb z=>absurd (show b∈([]:TX)from z) (by simp)
 refine⟨⟨C.mod,S.kind,rfl,rfl,ia _,λy z c W B=>?_,λy Q=>?_,λy c _ h=>?_,λ_=>hd,Around.frames_deeper C.frames,.inr ⟨rfl,rfl⟩,λb z=>absurd z (F b),C.bs,C.bsz,λb _ _=>F b,λb z=>absurd z (F b),C.funs,C.frf⟩,
  rfl,C.bare,Un.kept hk,⟨_,x.toInCall.ns,λi y v W B h3=>?_⟩,λy c h=>⟨_,x.cell y c h⟩,C.hok.fresh (ia _),λy c h=>?_,λp O=>absurd (show p∈([]:T0)from O) (by simp),C.hok.kept hk,?_⟩
 .exact name_of_addr x.apart (PySem.mem_of_lookup W) (PySem.mem_of_lookup B)
 .rcases Q with Q|Q
  .exact sD Q
  .exact absurd rfl (S.nofree _ (PySem.mem_of_lookup Q))
 .exact wh (x.above y c (PySem.mem_of_lookup h))
 .have U:i<L.length:=by
   unfold start at B;by_cases U:i<L.length
   .exact U
   .rw[Bq (by simpa using U)]at B;rw[FU]at B
    split at B<;>cases B
  have ha:L[i]?=J v:=by
   unfold start at B;rw[we (by simpa using U),tx]at B
   cases e:L[i]? with
   |none=>rw[e]at B;cases B
   |some a=>rw[e]at B;cases B;rfl
  obtain⟨u,hu,rv⟩:=r.get ha;have O:G[i]?=J y:=by rw[<-S.pre,NZ ⋯];exact W
  have M:G.Nodup:=by rw[<-S.pre];exact S.nd.sublist (Py _ _)
  refine⟨u,rv,?_⟩;rcases S.par y (Be O)with k|k
  .exact .inl ⟨k,qE M O hu k⟩
  .obtain⟨c,e⟩:=sD k;refine .inr ⟨.inl k,c,e,?_⟩;have q:=x.cell y c e;rw[pR M O hu (by show j.names.lookup y≠_;rw[k];decide)]at q;exact q
 .exact C.hok.fresh (wh (x.above y c (PySem.mem_of_lookup h)))
 .unfold start;show _=N.length;rw[wO,mm,Kz];lia
def Lj{CX:B_}{P:Program}{w:World}{K:hU}{mg:T8}{base:Heap}{k:Nat}{f:Addr}{G i:Str}{z:Arguments}{B:List Stmt}{a:Scope}{dV kV U pm l ct oc:Value}{an od:Option Addr}{ah:Array (T1)}{N Z:TQ}{sp:Sp}(lk:K.lookup f=J ⟨oc,od,.func (PySem.W.fnOf G i z B a dV kV U pm an l ct),ah⟩)(ab:PySem.W.codeIn K l i=I)(S:rb N Z a)(len:∀C H Q E,sp C H Q E->C.length=Z.length)(M:∀(A:Around)(outer:List Env)(s:Shared)(H:Hp)(C:List V)(Q:VK)(E:XK),Room k (A.deeper (envOfC i a s.heap.objs.size f l))->sp C H Q E ->
   ∃t,PSs (tw CX P w K mg base N i a f l A outer s H E) B t/\t { nx:=λ_ F=>Q .non F,rt:=Q} (start N C) H):
  FnOk P w K mg base CX (k+1) f (PySem.W.fnOf G i z B a dV kV U pm an l ct) Z sp:=by
 refine⟨len,λA outer s H am us C Q E hr R hb r W=>?_⟩;have hl:=len _ _ _ _ W;have KX:=R.mod.kin.keeps λb o e=>(R.bs b o e).1;have aj:=R.mod.nolimit.keeps λb o e=>(R.bs b o e).1;have L:∀y∈Z.zip us,a.names.lookup y.1=J .local\/(a.names.lookup y.1=J .cell/\((cellsFrom (s.heap.objs.size+1) a.names []).lookup y.1).isSome=I):=λ⟨n,v⟩ hy=>by
  rcases S.par n (PL hy).1 with q|q
  .exact .inl q
  .exact .inr ⟨q,PySem.W.cellsFrom_some _ _ _ (.inl q)⟩
 refine codeAny_call_function hr.depth (KX _ _ lk) rfl S.co S.gen rfl (PySem.W.codeRec_of KX ab) (hb _ _ _ _ ?_);refine wpAny_newFunctionEnv_cells S.kind L λenv he s1 x=>?_;subst he;refine⟨aj.keeps x.toInCall.keep,codeAny_func ?_⟩;obtain⟨t,ht,hq⟩:=M A outer s H C Q E (hr.deeper _) W;have al:Inv (tw CX P w K mg base N i a f l A outer s H E) [] (start N C) H s1:=y9 S hr.hd R hl r x;refine wpAny_mono (ht [] s1 (start N C) H _ al hq) (λfl s' O=>?_) λe s' O=>O;have fin:∀{X:St}{F:Hp}{v:V}{u:Value},Inv (tw CX P w K mg base N i a f l A outer s H E) [] X F s'->aS v u->Q v F->CE outer P w H s Q u s' :=
  λ{X F v u} j rv q=>⟨v,F,j.os,j.bare,j.base,j.hok,rv,q⟩
 cases fl with
 |ret u =>
  obtain⟨v,X,F,j,rv,q⟩:=O;exact fin j rv q
 |next =>
  obtain⟨X,F,j,q⟩:=O;exact fin (v:=V.non) j rfl q
 |brk =>
  obtain⟨_,_,_,q⟩:=O;exact False.elim q
 |cont =>
  obtain⟨_,_,_,q⟩:=O;exact False.elim q
section
variable{X:Cx}{x:Str}{p pos:Pos}{e:Expr}{es:T5}{t:TA}{id T:String}{r:List V->Hp->VK->Prop}
def Ql(r:List V->Hp->VK->Prop)(t:TA):TE:=λZ H Q=>t Z H λa f=>r a f Q
def jA(z:ci X (.builtin id) r)(G:Gl X x)(y:X.mg x=Y)(hv:bootBuiltins x=J (.builtin id))(u:PA X (e::es) t)(C:x≠"__name__":=by decide)(f:(x==("__debug__":Str))=false:=by decide)(E:starEach (e::es) X.env=(false,eval e X.env)::starEach es X.env:=by rfl)(i:(backTo pos (starEach es X.env)).any (·.1)=false:=by rfl):PE X (.Call (.Name x p) (e::es) [] pos) (Ql r t):=by
 intro j s Z H Q a h;refine wpAny_Call_Name_kw (iN a G y hv ?_ C f);exact PyProof.Rows.callWith_builtin1 (k_ (u pos j s Z H _ a h) λl B ⟨M,P,O,L,F⟩=>z j B Z P M l Q O L F) E i
def gE(z:ci X (.type T) r)(G:Gl X x)(y:X.mg x=Y)(hv:bootBuiltins x=J (.type T))(u:PA X (e::es) t)(C:x≠"__name__":=by decide)(f:(x==("__debug__":Str))=false:=by decide)(E:starEach (e::es) X.env=(false,eval e X.env)::starEach es X.env:=by rfl)(i:(backTo pos (starEach es X.env)).any (·.1)=false:=by rfl):PE X (.Call (.Name x p) (e::es) [] pos) (Ql r t):=by
 intro j s Z H Q a h;refine wpAny_Call_Name_kw (iN a G y hv ?_ C f);exact PyProof.Rows.callWith_type1 (k_ (u pos j s Z H _ a h) λl B ⟨M,P,O,L,F⟩=>z j B Z P M l Q O L F) E i
end
end L2
namespace HT
open PyProof.Rows
section
open PySem.SeqAt
open PySem.AutoSeq1 (wpAny_loadPart')
open PySem.MeetsSeq PySem.MeetsSeq2 PySem.MeetsSeq3
end
section
variable{prog:Program}{w:World}{A:Around}{E:T7}{s:Shared}
def Dh(M:IsTup s.heap t vs.toArray)(L:IsTup s.heap b ws.toArray)(hv:vs≠[])(G:ws=[]->Q (.ref t) s)(H:ws≠[]->Q (.ref s.heap.objs.size) { s with heap:=s.heap.push { cls:=.type "tuple",data:=.seq (vs++ws).toArray}})(y:vs.length+ws.length<=sizeLine):wpAny (model prog w) A (binaryOp .Add (.ref t) (.ref b)) Q E s:=by
 obtain⟨⟨cls,C,data,sl⟩,j,F,n,hd⟩:=id M;obtain⟨⟨B,f,data2,i⟩,a,u,z,r⟩:=id L;subst F hd u r;have e:vs.toArray++ws.toArray=(vs++ws).toArray:=by simp
 by_cases l:ws=[]
 .exact concat_meets ⟨_,j,rfl⟩ ⟨_,a,rfl⟩ noFill_tuple_add seq_tuple_add PySem.F.slot_tuple_add PySem.F.entry_tuple_add (PySem.F.args_tuple_add_2 _ _)
   (tuple_addW1 t b vs.toArray ws.toArray n z C f sl i (by simpa using hv) (by simp[l])) ⟨j,a,G l⟩
 .refine concat_meets ⟨_,j,rfl⟩ ⟨_,a,rfl⟩ noFill_tuple_add seq_tuple_add PySem.F.slot_tuple_add PySem.F.entry_tuple_add (PySem.F.args_tuple_add_2 _ _)
   (tuple_addW2 t b vs.toArray ws.toArray n z C f sl i (by simpa using hv) (by simpa using l) (by exact y)) ⟨j,a,?_⟩
  rw[e];exact H l
def lg(n d:Nat):T4->Nat
 |none=>d
 |some v=>if v<0 then(v+(n:Int)).toNat else min v.toNat n
def mJ(n d:Nat):lg n d Y=d:=rfl
def oT(n d k:Nat):lg n d (J (k:Int))=min k n:=rfl
def vJ(v:Int)(n d:Nat):(if v<0 then max (v+(n:Int)) 0 else min v (n:Int))=((lg n d (J v):Nat):Int):=by
 show(if v<0 then max (v+(n:Int)) 0 else min v (n:Int))=(((if v<0 then(v+(n:Int)).toNat else min v.toNat n):Nat):Int)
 grind
def xh(lo a:T4)(n:Nat):Builtin.Slice.sliceAdjust lo a 1 (n:Int)=(((lg n 0 lo:Nat):Int),((lg n n a:Nat):Int)):=by
 refine Prod.ext ?_ ?_
 .cases lo with
  |none=>rfl
  |some v=>exact vJ v n 0
 .cases a with
  |none=>rfl
  |some v=>exact vJ v n n
def wT(i j:Nat):Builtin.Slice.slicePlaces (i:Int) (j:Int) 1=j-i:=by
 unfold Builtin.Slice.slicePlaces;have a:(1:Int)>0:=by lia
 simp only[a,if_true,PY]
 split<;>lia
def nY(p:IsPart v o)(h:Q o s):wpAny (model prog w) A (Builtin.Slice.slicePartIndex v) Q E s:=by
 cases p with
 |none=>exact slicePart_none h
 |int i t=>exact slicePart_int h
def mR{sl:Addr}{l j:Value}{lo f:T4}{n:Nat}{Q:Int×Int×Nat->Shared->Prop}(z:s.heap.IsSliceOf sl l j .none)(u:IsPart l lo)(r:IsPart j f)(h:Q (((lg n 0 lo:Nat):Int),1,lg n n f-lg n 0 lo) s):wpAny (model prog w) A (Builtin.Slice.sliceApplied (.ref sl) (pure (n:Int))) Q E s:=by
 obtain⟨os,i,y,a⟩:=id z;refine d_ (d_ (wpAny_field i a rfl (d_ (wpAny_field i a rfl (d_ (wpAny_field i a rfl (ii ?_)))))));refine d_ (slicePart_none ?_);refine d_ (nY u (d_ (nY r (d_ (ii ?_)))));show wpAny _ _ (match Builtin.Slice.sliceAdjust lo f 1 (n:Int)with | (lo,f)=>pure (lo,(1:Int),Builtin.Slice.slicePlaces lo f 1)) _ _ s;rw[xh lo f n];show wpAny _ _ (pure (((lg n 0 lo:Nat):Int),(1:Int),Builtin.Slice.slicePlaces ((lg n 0 lo:Nat):Int) ((lg n n f:Nat):Int) 1)) _ _ s;rw[wT];exact ii h
def AX(xs:Array Value)(i k:Nat):((List.range k).filterMap λ(m:Nat)=>xs[((i:Int)+(m:Int)*1).toNat]?).toArray=((xs.toList.drop i).take k).toArray:=by
 have e:(λ(m:Nat)=>xs[((i:Int)+(m:Int)*1).toNat]?)=λm=>xs[i+m]?:=by grind
 rw[e]
 have:=pick_run xs i k
 rw[List.filterMap_map]at this;have e2:((λx=>xs[x]?)∘λx=>i+x)=λm=>xs[i+m]?:=rfl;rw[e2]at this;rw[this]
def lS{t sl:Addr}{items:Array Value}{B y:Value}{lo a:T4}{Q:T7}(i:IsTup s.heap t items)(z:s.heap.IsSliceOf sl B y .none)(F:IsPart B lo)(G:IsPart y a)(L:¬(lg items.size 0 lo=0/\lg items.size items.size a=items.size))(h:Q (.ref s.heap.objs.size) { s with heap:=s.heap.push { cls:=.type "tuple",data:=.seq ((items.toList.drop (lg items.size 0 lo)).take (lg items.size items.size a-lg items.size 0 lo)).toArray}})(H:items.size<=sizeLine):wpAny (model prog w) A (getItem (.ref t) (.ref sl)) Q E s:=by
 have f:sizeOk (.seq ((items.toList.drop (lg items.size 0 lo)).take (lg items.size items.size a-lg items.size 0 lo)).toArray):=by show((items.toList.drop (lg items.size 0 lo)).take (lg items.size items.size a-lg items.size 0 lo)).toArray.size<=sizeLine;rw[pq,CH,Bs,As];lia
 obtain⟨os,u,r,C⟩:=id z;have l:s.TypeIs (.ref sl) "slice":=⟨os,u,r⟩;unfold getItem
 try with_reducible refine wpAny_holding ?_
 refine d_ (wpAny_sequenceKey i.typeIs (by decide) ?_)
 refine d_ (wpAny_callSpecial?_slot i.typeIs PyProof.Rows.slot_tuple_getitem
  (wpAny_call_entry PyProof.Rows.slot_tuple_getitem i.typeIs entry_tuple_getitem ?_ (args_tuple_getitem _ _)))
 show wpAny _ _ (Builtin.Tuple.tupleItemsOf (.ref t) >>= _) _ _ s;refine d_ (tupleItemsOf_ i ?_);refine d_ (wpAny_typeOf l ?_);refine d_ (mR z F G ?_);have j:¬((((lg items.size 0 lo:Nat):Int)==0&&(1:Int)==1&&(lg items.size items.size a-lg items.size 0 lo)==items.size)=I):=by intro q;rw[KJ,KJ]at q;have M:=eq_of_beq q.1.1;have O:=eq_of_beq q.2;exact L ⟨⋯,⋯⟩
 show wpAny _ _ (if(((lg items.size 0 lo:Nat):Int)==0&&(1:Int)==1&&(lg items.size items.size a-lg items.size 0 lo)==items.size)=I then _ else _) _ _ s;rw[e_ j,AX]
 first
  |exact d_ (m:=Builtin.Tuple.tupleExact _) (wpAny_newObj_type (d_ (ii (ii ⟨_,rfl,ii h⟩))) f)
end
end HT
namespace L2
open PySem.Spec PyProof.Rows
abbrev TO:=St->Hp->(T4->Hp->Prop)->Prop
def PO(X:Cx)(e:Option Expr)(t:TO):Prop :=
 ∀(a:T0)(s:Shared)(Z:St)(H:Hp)(Q:T4->Hp->Prop),Inv X a Z H s->t Z H Q ->
  wpAny (model X.prog X.w) X.A (evalPart e X.env) (λu i=>∃o f,Inv X a Z f i/\IsPart u o/\Q o f) X.xe s
def Di:TO:=λ_ H Q=>Q Y H
def Ll(t:TE):TO:=λZ H Q=>t Z H λx a=>∃i,x=.int i/\Q (J i) a
def vO:∀{a:TZ},aD (ns.map V.int) a->IntsAre a ns:=by
 induction ns with
 |nil=>intro a r;cases r;exact .nil
 |cons n ns j =>
  intro a r
  cases r with
  |cons f i =>
   obtain⟨t,e⟩:=f;subst e;exact .cons n t (j i)
section
variable{X:Cx}{e:Expr}{te:TE}{lo hi:Option Expr}{tl th:TO}{pos p2:Pos}
def Dj:PO X Y Di:=by intro f s Z H Q a h;rw[evalPart_none];exact ii ⟨Y,H,a,.none,h⟩
def Dk(h:PE X e te):PO X (J e) (Ll te):=by intro l s Z H Q a r;refine k_ (h l s Z H _ a r) λu B ⟨x,z,y,j,f⟩=>?_;obtain⟨i,rfl,q⟩:=f;obtain⟨t,rfl⟩:=j;exact⟨J i,z,y,.int i t,q⟩
def Op(X:Cx)(r:V->T4->T4->Hp->VK->Prop):Prop :=
 ∀(f:T0)(s:Shared)(Z:St)(H:Hp)(x:V)(v j i:Value)(lo hi:T4)(sl:Addr)(Q:VK),Inv X f Z H s->aS x v->s.heap.IsSliceOf sl j i .none->IsPart j lo->IsPart i hi->r x lo hi H Q ->
  ∃a id,typeLookup (.type a) "__getitem__"=pure (J (.builtin id))/\s.TypeIs v a/\wpAny (model X.prog X.w) X.A (getItem v (.ref sl)) (EP X f Z Q) X.xe s
def Tt(r:V->T4->T4->Hp->VK->Prop)(te:TE)(tl th:TO):TE:=λZ H Q=>te Z H λx i=>tl Z i λl a=>th Z a λu f=>r x l u f Q
def Aa(U:Op X r)(G:PE X e te)(C:PO X lo tl)(S:PO X hi th):PE X (.Subscript e (.Slice lo hi Y p2) pos) (Tt r te tl th):=by intro f s Z H Q j h;refine Subscript_ (k_ (G f s Z H _ j h) λv E ⟨x,H1,I1,r1,M⟩=>?_);refine wpAny_Slice (k_ (C f E Z H1 _ I1 M) λy s2 ⟨l,O,I2,F,W⟩=>k_ (S f s2 Z O _ I2 W) λi a ⟨u,z,L,R,q3⟩=>?_);refine ii ?_;have I4:Inv X f Z z { a with heap:=a.heap.push { cls:=.type "slice",data:=.fields #[y,i,.none]}}:=L.kept (t':=a.toks) λb ob q=>n7 _ q;obtain⟨B,id,P,ht,hg⟩:=U f { a with heap:=a.heap.push { cls:=.type "slice",data:=.fields #[y,i,.none]}} Z z x v y i l u a.heap.objs.size Q I4 r1 (Heap.IsSliceOf.new ..) F R q3;exact tail_any ht P hg (by with_unfolding_all rfl)
def mY(xs:List V)(lo hi:T4):List V:=(xs.drop (HT.lg xs.length 0 lo)).take (HT.lg xs.length xs.length hi-HT.lg xs.length 0 lo)
def mf(xs:List V)(lo hi:T4):(mY xs lo hi).length<=xs.length:=by unfold mY;rw[CH,Bs];lia
def Qm(K:hU):V->T4->T4->Hp->VK->Prop:=λx lo hi H Q=>∃a xs,x=.ref a/\SqT K H a xs /\
 ¬(HT.lg xs.length 0 lo=0/\HT.lg xs.length xs.length hi=xs.length)/\∀p,H p=Y->Q (.ref p) (lf H p (.tup (mY xs lo hi)))
def GG:Op X (Qm X.K):=by
 intro O s Z H x v G L lo hi sl Q i C B y F h;obtain⟨a,xs,rfl,z,E,q⟩:=h;cases C;obtain⟨j,r,l,u⟩:=i.tuple z;have f:j.toArray.size=xs.length:=by exact r.length.symm
 refine⟨"tuple",_,PyProof.Rows.slot_tuple_getitem.lookup,l.typeIs,?_⟩;refine HT.lS l B y F (by rw[f];exact E) ?_ (by rw[f];exact u);rw[f];refine⟨.ref s.heap.objs.size,_,i.laid (t':=s.toks) (λb M q=>n7 _ q) (ia _) ?_,rfl,q _ (i.hok.fresh (ia _))⟩;exact⟨m_ (mf xs lo hi) u,_,(r.drop (HT.lg xs.length 0 lo)).take (HT.lg xs.length xs.length hi-HT.lg xs.length 0 lo),iQ.new _ _⟩
def Lm(K:hU):R2:=λx y H Q=>∃a b xs ys,x=.ref a/\y=.ref b/\SqT K H a xs/\SqT K H b ys/\xs≠[]/\xs.length+ys.length<=sizeLine /\
 (ys=[]->Q (.ref a) H)/\(ys≠[]->∀p,H p=Y->Q (.ref p) (lf H p (.tup (xs++ys))))
def aD.nil_iff(r:aD xs us):us=[]↔xs=[]:=by
 cases r with
 |nil=>simp
 |cons _ _=>simp
def Dl:OpR X (binaryOp .Add) (Lm X.K):=by intro S s Z H x y v u Q f P C h;obtain⟨a,b,xs,ys,rfl,rfl,B,E,L,r,F,M⟩:=h;cases P;cases C;obtain⟨O,j,G,_⟩:=f.tuple B;obtain⟨l,i,p2,_⟩:=f.tuple E;refine HT.Dh G p2 (λz=>L (j.nil_iff.mp z)) (λz=>⟨.ref a,H,f,rfl,F (i.nil_iff.mp z)⟩) (λz=>?_) (by rw[<-j.length,<-i.length];exact r);refine⟨.ref s.heap.objs.size,_,f.laid (t':=s.toks) (λb R q=>n7 _ q) (ia _) ?_,rfl,M (λw=>z (i.nil_iff.mpr w)) _ (f.hok.fresh (ia _))⟩;exact⟨by rw[wO];exact r,_,j.append i,iQ.new _ _⟩
end
def wS(n:Nat)(i:Int):UL:=if 0<=i then(if i<n then J i.toNat else Y)else if -(n:Int)<=i then J (i+n).toNat else Y
def n_{α:Type}(xs:List α)(i:Int):Option α:=(wS xs.length i).bind λj=>xs[j]?
def u4(h:wS n i=J j):seqIndex? i n=J j/\j<n /\ -(n:Int)<=i/\i<n:=by
 unfold wS at h;by_cases f:0<=i
 .rw[b_ f]at h;by_cases a:i<n
  .rw[b_ a]at h;have e:=Option.some.inj h;exact⟨by rw[seqIndex_of f a,e],⋯,⋯,a⟩
  .rw[e_ a]at h;cases h
 .rw[e_ f]at h;by_cases a:-(n:Int)<=i
  .rw[b_ a]at h;have e:=Option.some.inj h;exact⟨by rw[seqIndex_neg ⋯ a,e],⋯,a,⋯⟩
  .rw[e_ a]at h;cases h
def oJ(h:n_ xs i=J v):∃j,seqIndex? i xs.length=J j/\xs[j]?=J v/\j<xs.length /\ -(xs.length:Int)<=i/\i<xs.length:=by
 unfold n_ at h
 cases e:wS xs.length i with
 |none=>rw[e]at h;cases h
 |some j =>
  rw[e]at h;obtain⟨a,f,l,r⟩:=u4 e;exact⟨j,a,h,f,l,r⟩
def ie{α:Type}{xs:List α}{j:Nat}{v:α}(h:xs[j]?=J v):n_ xs (j:Int)=J v:=by
 have a:=(qp.mp h).1;have e:wS xs.length (j:Int)=J j:=by
  unfold wS
  simp_all
 unfold n_;rw[e];exact h
def lH(b:Expr):Prop:=∀o i,subscripted b T o i=operate [o,i] (getItem o i)
def IxR(X:Cx)(r:R2):Prop :=
 ∀(f a:Expr)(i:T0)(s:Shared)(Z:St)(H:Hp)(x y:V)(v u:Value)(Q:VK),Inv X i Z H s->aS x v->aS y u->r x y H Q ->
  subscripted a T v u=operate [v,u] (getItem v u)->wpAny (model X.prog X.w) X.A (subscriptTail f a v u) (EP X i Z Q) X.xe s
def GH(X:Cx)(id:String)(r:V->List V->Hp->VK->Prop):Prop :=
 ∀(a:T0)(s:Shared)(Z:St)(H:Hp)(x:V)(xs:List V)(v:Value)(f:TZ)(Q:VK),Inv X a Z H s->aS x v->aD xs f->r x xs H Q ->
  wpAny (model X.prog X.w) X.A (call (.builtin id) (v::f)) (EP X a Z Q) X.xe s
section
variable{X:Cx}{a b:Expr}{ta tb:TE}{pos:Pos}
def IxR.or(h:IxR X r)(E:IxR X r'):IxR X (λx y H Q=>r x y H Q\/r' x y H Q):=by
 intro f i l s Z H x y v u Q j z B q C;rcases q with q|q
 .exact h f i l s Z H x y v u Q j z B q C
 .exact E f i l s Z H x y v u Q j z B q C
def Ln{r:R2}(B:IxR X r)(i:PE X a ta)(l:PE X b tb)(C:lH b):PE X (.Subscript a b pos) (K8 r ta tb):=by intro E s Z H Q f h;exact Subscript_ (Gx i l f h λv u G x y z L F j q=>B a b E G Z z x y v u Q L F j q (C _ _))
def Lp(K:hU):R2:=λx y H Q=>∃p xs i v,x=.ref p/\y=.int i/\SqL K H p xs/\n_ xs i=J v/\Q v H
def Lq(K:hU):R2:=λx y H Q=>∃p xs i v,x=.ref p/\y=.int i/\SqT K H p xs/\n_ xs i=J v/\Q v H
def Lr:R2:=λx y H Q=>∃z i c,x=.str z/\y=.int i/\z.length<=sizeLine/\n_ z.cps.toList i=J c/\Q (.str ⟨#[c]⟩) H
def Dm:IxR X (Lp X.K):=by
 intro L G Lo s Z H x y v u Q f rx S h O;obtain⟨p,xs,i,z,rfl,rfl,hq,he,q⟩:=h;cases rx;obtain⟨t,rfl⟩:=S;obtain⟨E,r,C,hz⟩:=f.list hq;obtain⟨j,l,h2,h3,R,U⟩:=oJ he;obtain⟨w,P,F⟩:=r.get h2;have W:=r.length;have hn:=ni;have fin:EP X Lo Z Q w s:=⟨z,H,f,F,q⟩;by_cases M:0<=i
 .have B:i.toNat=j:=by
   rw[seqIndex_of M U]at l;exact Option.some.inj l
  exact item_listR C.isList M ⋯ (by rw[B];simpa using P) fin O
 .have B:(i+(E.toArray.size:Int)).toNat=j:=by
   rw[seqIndex_neg ⋯ R]at l;rw[pq,<-W];exact Option.some.inj l
  exact subscriptTail_builtinR C.isList.typeIs slot_list_getitem.lookup
   (wpAny_getItem_list_neg C.isList ⋯ (by rw[pq]<;>lia) ⋯ (by rw[B];simpa using P) ⟨rfl,fin⟩) O
def GJ:IxR X (Lq X.K):=by
 intro C B U s Z H x y v u Q f W F h P;obtain⟨p,xs,i,z,rfl,rfl,R,O,q⟩:=h;cases W;obtain⟨t,rfl⟩:=F;obtain⟨S,r,E,hz⟩:=f.tuple R;obtain⟨j,L,M,h3,h4,h5⟩:=oJ O;obtain⟨w,ew,l⟩:=r.get M;have G:=r.length;have hn:=ni;have fin:EP X U Z Q w s:=⟨z,H,f,l,q⟩;exact subscriptTail_builtinR E.typeIs slot_tuple_getitem.lookup
  (getItem_tuple E ⋯ ⋯ (by rw[pq,<-G];exact L) (by simpa using ew) ⟨rfl,fin⟩) P
def GK:IxR X Lr:=by
 intro r l S s Z H x y v u Q f P E h O;obtain⟨z,i,c,rfl,rfl,U,M,q⟩:=h;obtain⟨t,rfl⟩:=P;obtain⟨R,rfl⟩:=E;obtain⟨j,B,L,W,C,F⟩:=oJ M;have G:z.cps.toList.length=z.length:=by simp[Str.length]
 rw[G]at B C F;have hn:=ni
 exact tail_any (typeIs_str s z t) slot_str_getitem.lookup (getItem_str (by
  have e1:decide (i < -(2^63:Int))=T:=decide_eq_false ⋯;have e2:decide (i>=2^63)=T:=decide_eq_false ⋯
  rw[e1,e2,Bool.or_false]) (by rw[B];simpa using L) ⟨.str ⟨#[c]⟩,H,f.tok _,⟨_,rfl⟩,q⟩) O
def Tu(K:hU):R2:=λx y H Q=>Lp K x y H Q\/Lq K x y H Q\/Lr x y H Q
def GL:IxR X (Tu X.K):=Dm.or (GJ.or GK)
def wU(f:TZ)(n j:Nat)(u:Value):Obj.mapSeq (·.setIfInBounds j u) { cls:=.type "list",data:=.seq f.toArray n}={ cls:=.type "list",data:=.seq (f.set j u).toArray n}:=by simp[Obj.mapSeq]
def Inv.lst{j:T0}{Z:St}{H:Hp}{s:Shared}{p:Addr}{xs:List V}(i:Inv X j Z H s)(h:H p=J (.lst xs)):
  ∃(f:TZ) (n:Nat),aD xs f/\s.heap.get? p=J { cls:=.type "list",data:=.seq f.toArray n}/\xs.length<=sizeLine:=by
 obtain⟨z,f,n,r,e⟩:=i.hok p _ h;exact⟨f,n,r,e,z⟩
def Inv.lstUpd{z:T0}{Z:St}{H:Hp}{s:Shared}{p:Addr}{xs ys:List V}{j i:TZ}{n y:Nat}{f:Obj->Obj}(l:Inv X z Z H s)(h:H p=J (.lst xs))(B:s.heap.get? p=J { cls:=.type "list",data:=.seq j.toArray n})(hf:f { cls:=.type "list",data:=.seq j.toArray n}={ cls:=.type "list",data:=.seq i.toArray y})(r:aD ys i)(E:ys.length<=sizeLine)(t:Nat):
  Inv X z Z (lf H p (.lst ys)) { s with heap:=s.heap.update p f,toks:=t}:=by
 have e:(s.heap.update p f).get? p=J { cls:=.type "list",data:=.seq i.toArray y}:=by rw[JY f B (by rw[hf]<;>rfl),hf]
 refine l.write (by rw[h];trivial) (.inl rfl) (λb u C q=>(N1 _ _ (Ne.symm C)).trans q) ⟨_,e⟩ ?_;exact⟨E,i,y,r,e⟩
def Ls:V->V->V->Hp->(Hp->Prop)->Prop:=λo i v H Q=>∃p xs k j,o=.ref p/\i=.int k/\H p=J (.lst xs)/\wS xs.length k=J j/\Q (lf H p (.lst (xs.set j v)))
def Aw:Gn X Ls:=by
 intro Lo s Z H o i v ov W u Q f R S P h;obtain⟨p,xs,k,j,rfl,rfl,E,O,q⟩:=h;cases R;obtain⟨t,rfl⟩:=S;obtain⟨l,n,r,z,U⟩:=f.lst E;obtain⟨y,h2,M,F⟩:=u4 O;have B:=r.length;have hn:=ni;have L :=
  f.lstUpd E z (wU l n j u) (r.set P j) (by rw[List.length_set];exact U) s.toks
 by_cases G:0<=k
 .have C:k.toNat=j:=by
   rw[seqIndex_of G F]at y;exact Option.some.inj y
  exact PySem.W.ki_setAt z G ⋯ (by rw[pq,<-B];exact F) (by rw[C];exact⟨_,L,q⟩)
 .have C:(k+(l.toArray.size:Int)).toNat=j:=by
   rw[seqIndex_neg ⋯ M]at y;rw[pq,<-B];exact Option.some.inj y
  exact PySem.W.ki_setBack z ⋯ (by rw[pq,<-B];exact M) ⋯ (by rw[C];exact⟨_,L,q⟩)
def rZ(lo f:T4)(n:Nat):(sliceBounds lo f Y n).1=((HT.lg n 0 lo:Nat):Int)/\(sliceBounds lo f Y n).2.1=((HT.lg n n f:Nat):Int)/\(sliceBounds lo f Y n).2.2=1:=by
 refine⟨?_,?_,rfl⟩
 .cases lo with
  |none=>simp[sliceBounds,HT.lg]
  |some i =>
   simp only[sliceBounds,HT.lg,Option.getD_none,show(1:Int)>0 by decide,if_true];by_cases h:i<0
   .simp only[h,if_true]<;>lia
   .simp only[h,if_false]<;>lia
 .cases f with
  |none=>simp[sliceBounds,HT.lg]
  |some i =>
   simp only[sliceBounds,HT.lg,Option.getD_none,show(1:Int)>0 by decide,if_true];by_cases h:i<0
   .simp only[h,if_true]<;>lia
   .simp only[h,if_false]<;>lia
def qP(f:TZ)(lo i:T4):slicePick f.toArray lo i Y=((f.drop (HT.lg f.length 0 lo)).take (HT.lg f.length f.length i-HT.lg f.length 0 lo)).toArray:=by obtain⟨j,l,r⟩:=rZ lo i f.toArray.size;unfold slicePick;rw[j,l,r];simp only[sliceRange_one,pick_run]<;>rfl
def Qn(K:hU):V->T4->T4->Hp->VK->Prop:=λx lo f H Q=>∃a xs,x=.ref a/\SqL K H a xs/\∀p,H p=Y->Q (.ref p) (lf H p (.lst (mY xs lo f)))
def uV:Op X (Qn X.K):=by intro O s Z H x v G L lo j sl Q f C z u F h;obtain⟨a,xs,rfl,y,q⟩:=h;cases C;obtain⟨B,r,l,E⟩:=f.list y;have i:=r.length;refine⟨"list",_,slot_list_getitem.lookup,l.isList.typeIs,?_⟩;refine wpAny_getItem_list_slice l.isList z u F .none (by simp) ?_ (by rw[pq]<;>lia);rw[qP,<-i];refine⟨.ref s.heap.objs.size,_,f.laid (t':=s.toks) (λb M q=>n7 _ q) (ia _) ?_,rfl,q _ (f.hok.fresh (ia _))⟩;exact⟨m_ (mf xs lo j) E,_,0,(r.drop (HT.lg xs.length 0 lo)).take (HT.lg xs.length xs.length j-HT.lg xs.length 0 lo),s_ _ rfl⟩
def uk:ci X (.type "list") (λxs H Q=>∃p ys,xs=[.ref p]/\(SqL X.K H p ys\/SqT X.K H p ys)/\∀l,H l=Y->Q (.ref l) (lf H l (.lst ys))):=by
 intro O s Z H xs R Q j r h;obtain⟨p,ys,rfl,B,q⟩:=h;obtain⟨u,rfl,P⟩:=fj r;cases P;have fin:∀(f:TZ),aD ys f->ys.length<=sizeLine->∀(i:Heap)(y:Nat),(∀b M,s.heap.get? b=J M->i.get? b=J M) ->
   i.get? s.heap.objs.size=J { cls:=.type "list",dict:=Y,data:=.seq f.toArray y,slots:=#[]}->EP X O Z Q (.ref s.heap.objs.size) { s with heap:=i}:=λf z C i y kp e =>
  ⟨.ref s.heap.objs.size,_,j.laid (t':=s.toks) kp (ia _) (show ObjOk X.prog X.w _ i _ (.lst ys) from⟨C,f,y,z,e⟩),rfl,q _ (j.hok.fresh (ia _))⟩
 rcases B with B|B
 .obtain⟨f,z,L,C⟩:=j.list B;have E:=z.length;obtain⟨o,F,G,n,hd⟩:=L.isList;exact call_list_seq p (.inl rfl) F G hd (λi y kp e=>fin f z C i y kp e) (by simp only[pq]<;>lia)
 .obtain⟨f,z,L,C⟩:=j.tuple B;have E:=z.length;obtain⟨o,F,G,n,hd⟩:=L;exact call_list_seq p (.inr rfl) F G hd (λi y kp e=>fin f z C i y kp e) (by simp only[pq]<;>lia)
def j5:ci X (.type "tuple") (λxs H Q=>∃p ys,xs=[.ref p]/\((SqL X.K H p ys/\∀l,H l=Y->Q (.ref l) (lf H l (.tup ys)))\/(SqT X.K H p ys/\Q (.ref p) H))):=by
 intro O s Z H xs M Q f r h;obtain⟨p,ys,rfl,h⟩:=h;obtain⟨u,rfl,G⟩:=fj r;cases G;rcases h with⟨z,q⟩|⟨z,q⟩
 .obtain⟨i,y,j,B⟩:=f.list z;have C:=y.length;refine call_tuple_list j.isList (λF kp=>?_) (by simp only[pq]<;>lia);have E:=f.kept (t':=s.toks) kp;have L :=
   E.laid (t':=s.toks) (λb o e=>n7 _ e) (ia _) (show ObjOk X.prog X.w _ _ _ (.tup ys) from⟨B,i,y,iQ.new _ _⟩)
  exact⟨.ref F.objs.size,_,L,rfl,q _ (E.hok.fresh (ia _))⟩
 .obtain⟨i,y,j,B⟩:=f.tuple z;exact call_tuple_same j ⟨.ref p,H,f,rfl,q⟩
def Qo(K:hU)(f:String)(x:V)(H:Hp):Prop:=match x with
 |.str _=>f="str"
 |.int _=>f="int"
 |.ref p=>(f="list"/\∃xs,SqL K H p xs)\/(f="tuple"/\∃o,K.lookup p=J o/\o.cls=.type "tuple"/\o.dict=Y) \/
   (f="dict"/\((∃i,H p=J (.dK i))\/∃i,H p=J (.dT i)))\/(f="set"/\∃S n,H p=J (.set S n))
 |_=>False
def GN{G:T0}{Z:St}{H:Hp}{s:Shared}{l:String}{x:V}{v:Value}(f:Inv X G Z H s)(r:aS x v)(ty:Qo X.K l x H):
  s.TypeIs v l/\∀a,v=.ref a->∃B,s.heap.get? a=J B/\B.dict=Y:=by
 cases x with
 |str z =>
  obtain⟨t,rfl⟩:=r;cases(ty);exact⟨typeIs_str s z t,λ_ e=>nomatch e⟩
 |int i =>
  obtain⟨t,rfl⟩:=r;cases(ty);exact⟨typeIs_int s i t,λ_ e=>nomatch e⟩
 |ref p =>
  cases r;rcases ty with⟨rfl,xs,E⟩|⟨rfl,o,j,C,hd⟩|⟨rfl,j⟩|⟨rfl,S,n,j⟩
  .obtain⟨F,_,y,_⟩:=f.list E;refine⟨y.isList.typeIs,λa e=>?_⟩;cases e;obtain⟨o,n,e,c,hd,_⟩:=y;exact⟨o,e,hd⟩
  .refine⟨⟨o,f.kIn p o j,C⟩,λa e=>?_⟩;cases e;exact⟨o,f.kIn _ o j,hd⟩
  .have z:∃o,s.heap.get? p=J o/\o.ExactDict:=by
    rcases j with⟨u,j⟩|⟨u,j⟩
    .obtain⟨_,_,_,_,o,_,_,e,ex,_⟩:=f.hok p _ j;exact⟨o,e,ex⟩
    .obtain⟨_,_,_,_,o,_,_,e,ex,_⟩:=f.hok p _ j;exact⟨o,e,ex⟩
   obtain⟨o,e,ex⟩:=z;refine⟨⟨o,e,ex.1⟩,λa e2=>?_⟩;cases e2;exact⟨o,e,ex.2.1⟩
  .obtain⟨o,_,_,_,e,ex,_⟩:=f.hok p _ j;refine⟨⟨o,e,ex.1⟩,λa e2=>?_⟩;cases e2;exact⟨o,e,ex.2.1⟩
 |_=>exact False.elim ty
def Tv(K:hU)(f:String)(r:V->List V->Hp->VK->Prop)(to:TE)(t:TA):TE:=λZ H Q=>to Z H λx i=>Qo K f x i/\t Z i λxs j=>r x xs j Q
variable{o e:Expr}{es:T5}{to:TE}{t:TA}{name:Str}{apos cpos:Pos}{T id:String}{r:V->List V->Hp->VK->Prop}
def Lu(M:PlainAttrs T)(slot:Slot T name id)(u:typeOf (.builtin id)=pure (.type "method_descriptor"))(P:GH X id r)(F:PE X o to)(L:PA X (e::es) t)(j:attributeBase o name X.env (eval o X.env)=eval o X.env:=by rfl)(l:((backTo cpos (starEach (e::es) X.env)).all (λx=>!x.1)&&(backToKw cpos (keywordEach [] X.env)).all (λx=>x.1.isSome)
   && decide ((e::es).length+([]:List Keyword).length+(if([]:List Keyword).isEmpty then 0 else 1)<30))=I:=by rfl)(i:(apos.endLine==cpos.line)=I:=by rfl)(hs:starEach (e::es) X.env=(false,eval e X.env)::starEach es X.env:=by rfl)(f:(backTo cpos (starEach es X.env)).any (·.1)=false:=by rfl):
  PE X (.Call (.Attribute o name apos) (e::es) [] cpos) (Tv X.K T r to t):=by
 intro z s Z H Q y h;refine wpAny_Call_method_late j l i rfl (k_ (F z s Z H _ y h) λv S ⟨x,O,B,C,ty,W⟩=>?_);obtain⟨R,U⟩:=GN B C ty;refine⟨T,id,M,slot,u,R,U,?_⟩;have E:=L cpos z S Z O _ B W;rw[hs]at E ⊢;refine Calls.callWith_builtin (by show(false||(backTo cpos (starEach es X.env)).any (·.1))=false;rw[f]<;>rfl) (Calls.evalArgs_plain ?_);exact k_ E λG s2 ⟨vs,H2,I2,r2,q2⟩=>P z s2 Z H2 x vs v G Q I2 C r2 q2
end
def Qp(X:Cx)(id:String)(r:V->List V->Hp->VK->Prop):Prop :=
 ∀(a:T0)(s:Shared)(Z:St)(H:Hp)(x:V)(xs:List V)(v:Value)(f:TZ)(Q:VK),Inv X a Z H s->aS x v->aD xs f->r x xs H Q ->
  wpAny (model X.prog X.w) X.A (call (.builtin id) (v::f)) (EP X a Z Q) X.xe s
def aD.zero(h:aD [] us):us=[]:=by cases h;rfl
def aD.one(h:aD [x] us):∃u,us=[u]/\aS x u:=by cases h with|cons r t=>exact⟨_,by rw[aD.zero t],r⟩
def aD.eraseIdx(i:Nat)(r:aD xs us):aD (xs.eraseIdx i) (us.eraseIdx i):=by
 induction r generalizing i with
 |nil=>exact .nil
 |cons a t f =>
  cases i with
  |zero=>exact t
  |succ i=>exact .cons a (f i)
def aD.rep(h:aD xs us):∀k:Nat,aD (List.replicate k xs).flatten (List.replicate k us).flatten
 |0=>.nil
 |k+1=>by
  exact aD.append h (aD.rep h k)
def pW{α:Type}:∀(l:List α)(i:Nat),(l.eraseIdx i).length<=l.length
 |[],_=>ia _
 |_::_,0=>Fk _
 |_::r,i+1=>F2 (pW r i)
def qz(a:TZ):∀(k:Nat)(f:TZ),
  List.foldl (λj i=>j++i) f.toArray (List.replicate k a.toArray)=(f++(List.replicate k a).flatten).toArray
 |0,f=>by simp
 |k+1,f=>by
  have e:f.toArray++a.toArray=(f++a).toArray:=by simp
  have e2:(f++a)++(List.replicate k a).flatten=f++(List.replicate (k+1) a).flatten:=by rw[N7,List.flatten_cons,B6]
  rw[<-e2,<-qz a k (f++a),<-e,N7,PM]
section
variable{X:Cx}{Lo:List (Addr × Obj)}{Z:St}{H:Hp}{s:Shared}{l b:Addr}{xs ys zs:List V}
def Inv.lset{a its':TZ}{n:Nat}{f:Array Value->Array Value}{j:Nat}(i:Inv X Lo Z H s)(y:H l=J (.lst xs))(e:s.heap.get? l=J { cls:=.type "list",data:=.seq a.toArray n})(hf:f a.toArray=its'.toArray)(hv:aD ys its')(z:ys.length<=sizeLine):
  Inv X Lo Z (lf H l (.lst ys)) { s with heap:=s.heap.update l (Obj.mapSeq f),toks:=j}:=by
 have q:=PySem.IsL.update e f;rw[hf]at q;refine i.write (x:=l) (e:=l) (by rw[y];exact trivial) (.inl rfl) (λC u B r=>(N1 s.heap (Obj.mapSeq f) (Ne.symm B)).trans r) ⟨_,q⟩ ?_;exact⟨z,its',_,hv,q⟩
def Inv.lnew(a:Inv X Lo Z H s)(hv:aD ys its)(f:ys.length<=sizeLine):
  Inv X Lo Z (lf H s.heap.objs.size (.lst ys)) { s with heap:=s.heap.push { cls:=.type "list",data:=.seq its.toArray},toks:=t'} :=
 a.laid (λ_ _ q=>n7 _ q) (ia _) ⟨f,its,0,hv,s_ _ rfl⟩
def Inv.fresh(a:Inv X Lo Z H s):H s.heap.objs.size=Y:=a.hok.fresh (ia _)
def Inv.lstM(f:Inv X Lo Z H s)(i:H l=J (.lst xs)):xs.length<=sizeLine/\∃(a:TZ) (n:Nat),aD xs a/\xs.length=a.length/\s.heap.get? l=J { cls:=.type "list",data:=.seq a.toArray n}:=by obtain⟨z,a,n,r,e⟩:=f.hok l _ i;exact⟨z,a,n,r,r.length,e⟩
def mq(h:n<=sizeLine):Builtin.List.listTooLong n=T:=by unfold Builtin.List.listTooLong;exact decide_eq_false ⋯
end
section
variable{X:Cx}
def Dn:V->List V->Hp->VK->Prop:=λx a H Q=>∃l xs y,x=.ref l/\a=[y]/\H l=J (.lst xs)/\xs.length<sizeLine/\Q .non (lf H l (.lst (xs++[y])))
def qF:Qp X "list.append" Dn:=by
 intro M s Z H x L v E Q a C j h;obtain⟨l,xs,y,rfl,rfl,i,O,q⟩:=h;cases C;obtain⟨u,rfl,B⟩:=j.one;obtain⟨z,f,n,r,G,e⟩:=a.lstM i;refine call_meets F.slot_list_append ⟨_,e,rfl⟩ F.entry_list_append (F.args_list_append_2 _ _) (PySem.list_append l f.toArray n u (by rw[pq];lia)) ⟨e,?_⟩;refine⟨.non,_,a.lset (its':=f++[u]) i e (by simp) (r.append (.cons B .nil)) ?_,rfl,q⟩
 grind
def Do:V->List V->Hp->VK->Prop:=λx f H Q=>∃l b xs a,x=.ref l/\f=[.ref b]/\H l=J (.lst xs)/\H b=J (.lst a)/\xs.length+a.length<=sizeLine/\Q .non (lf H l (.lst (xs++a)))
def xX:Qp X "list.extend" Do:=by
 intro Lo s Z H x vs v R Q i O G h;obtain⟨l,b,xs,S,rfl,rfl,B,P,hz,q⟩:=h;cases O;obtain⟨u,rfl,M⟩:=G.one;cases M;obtain⟨z,f,n,r,U,e⟩:=i.lstM B;obtain⟨W,a,E,L,C,e2⟩:=i.lstM P;have y:f.toArray.size+a.toArray.size<=sizeLine:=by rw[pq,pq];lia
 have j:¬(!f.toArray.isEmpty&&Builtin.List.listTooLong (f.toArray.size+a.toArray.size))=I:=by rw[mq y,PP];exact CV
 refine call_meets F.slot_list_extend ⟨_,e,rfl⟩ F.entry_list_extend (F.args_list_extend_2 _ _)
  (AutoSeq1.list_extend_list_list_0 l f.toArray n b a.toArray E j (by rw[pq];lia) ⋯) ⟨e,e2,?_⟩
 refine⟨.non,_,i.lset (its':=f++a) B e (by simp) (r.append L) ?_,rfl,q⟩;rw[wO];lia
def GO:V->List V->Hp->VK->Prop:=λx a H Q=>∃l xs i k y,x=.ref l/\a=[.int i]/\H l=J (.lst xs) /\ -(2^63)<=i/\i<2^63/\seqIndex? i xs.length=J k/\xs[k]?=J y/\Q y (lf H l (.lst (xs.eraseIdx k)))
def zF:Qp X "list.pop" GO:=by
 intro Lo s Z H x W v U Q a R M h;obtain⟨l,xs,i,k,y,rfl,rfl,B,E,G,O,L,q⟩:=h;cases R;obtain⟨u,rfl,P⟩:=M.one;obtain⟨t,rfl⟩:=P;obtain⟨z,f,n,r,C,e⟩:=a.lstM B;obtain⟨w,S,j⟩:=r.get L;refine call_meets F.slot_list_pop ⟨_,e,rfl⟩ F.entry_list_pop (F.args_list_pop_2 _ _)
  (MeetsSeq.list_pop_at l f.toArray n i t k w (fitsIndex_both E G) (by rw[pq,<-C];exact O) (by rw[<-v7];exact S) (by rw[pq];lia)) ⟨e,?_⟩
 refine⟨y,_,a.lset (its':=f.eraseIdx k) B e ?_ (r.eraseIdx k) ?_,j,q⟩
 .simp_all
 .have:=pW xs k
  lia
def Qq:R2:=λx y H Q=>∃l b xs a,x=.ref l/\y=.ref b/\H l=J (.lst xs)/\H b=J (.lst a)/\xs.length+a.length<=sizeLine/\∀p,H p=Y->Q (.ref p) (lf H p (.lst (xs++a)))
def GP:OpR X (binaryOp .Add) Qq:=by
 intro S s Z H x y v u Q a F j h;obtain⟨l,b,xs,M,rfl,rfl,B,L,U,q⟩:=h;cases F;cases j;obtain⟨z,i,n,r,O,e⟩:=a.lstM B;obtain⟨R,f,P,E,C,e2⟩:=a.lstM L;refine PySem.P.add_list e e2 ?_ (by rw[pq,pq];lia);have G:i.toArray++f.toArray=(i++f).toArray:=by simp
 rw[G];exact⟨.ref _,_,a.lnew (t':=s.toks) (r.append E) (by rw[wO];lia),rfl,q _ a.fresh⟩
def Qr:R2:=λx y H Q=>∃l k xs,x=.ref l/\y=.int k/\H l=J (.lst xs) /\ -(2^63)<=k/\k<2^63/\xs.length*k.toNat<=sizeLine /\
 ∀p,H p=Y->Q (.ref p) (lf H p (.lst (List.replicate k.toNat xs).flatten))
def vi{α:Type}(xs:List α)(k:Nat):(List.replicate k xs).flatten.length=k*xs.length:=by simp
def GQ:OpR X (binaryOp .Mult) Qr:=by
 intro Lo s Z H x y v u Q i rx R h;obtain⟨l,k,xs,rfl,rfl,hH,U,W,O,q⟩:=h;cases rx;obtain⟨t,rfl⟩:=R;obtain⟨z,f,n,r,S,e⟩:=i.lstM hH;have G:f.toArray.size*k.toNat<=sizeLine:=by rw[pq,<-S];exact O
 have C:¬f.toArray.size*k.toNat>(2^63-1)/8:=by
  have:(sizeLine:Nat)<=(2^63-1)/8:=by decide
  lia
 have E:¬(!Builtin.List.listFitsIndex k)=I:=by rw[fitsIndex_both U W];exact CV
 have j:¬Builtin.List.listTooLong (f.toArray.size*k.toNat)=I:=by rw[mq G];exact CV
 have B:List.foldl (λM L=>M++L) #[] (List.replicate (if f.toArray.isEmpty=I then 0 else k.toNat) f.toArray)=(List.replicate k.toNat f).flatten.toArray:=by
  have f0:∀m:Nat,List.foldl (λM L=>M++L) #[] (List.replicate m f.toArray)=(List.replicate m f).flatten.toArray:=λm=>by
   have:=qz f m []
   exact this
  rw[f0]
  cases f with
  |nil=>simp
  |cons a r'=>rw[e_ (by simp)]
 refine wpAny_binaryOp_repeat_ref (by decide) ⟨_,e,rfl⟩ (λP=>typeIs_int P k t) noFill_list_mul F.fills_int_mul F.slot_int_rmul repeat_list F.slot_int_index.lookup
  (call_meets F.slot_int_rmul (typeIs_int s k t) F.entry_int_rmul (F.args_int_rmul_2 _ _) (int___rmul___int_list k t l f.toArray n)
   ⟨e,rfl,⟨_,e,rfl⟩,call_meets F.slot_list_mul ⟨_,e,rfl⟩ F.entry_list_mul (F.args_list_mul_2 _ _) (AutoListH.list___mul___list_int_3 l f.toArray n k t E C j) ⟨e,?_⟩⟩)
 rw[B];exact⟨.ref _,_,i.lnew (t':=s.toks) (r.rep k.toNat) (by rw[vi,Nat.mul_comm];exact O),rfl,q _ i.fresh⟩
end
section
variable{prog:Program}{w:World}{A:Around}{E:T7}{s:Shared}
end
section
variable{X:Cx}
end
end L2
namespace Att
open PySem.W PySem.Calls PyProof.Rows
def nz:∀(ns:TR)(f:TZ),WellAll P h f (ns.map WData.int)->IntsAre f ns:=by
 intro ns
 induction ns with
 |nil =>
  intro f w;rw[Bh]at w;cases w;exact .nil
 |cons n ns i =>
  intro f w;rw[n8]at w
  cases w with
  |cons a b =>
   cases a;exact .cons _ _ (i _ b)
def yV{l:OpenLaw}{n:Nat}(Q:l.most=J n){P:Params}{h:Heap}{f:List WData}{j:TZ}(i:l.row.toRowW.claim.pre f=I)(C:WellAll P h j f):
  ∃a E ns,j=[Value.ref a]/\f=[WData.list (ns.map WData.int)]/\h.get? a=J { cls:=.type "list",data:=.seq E.toArray}/\IntsAre E ns/\ns.length<=n:=by
 have B:=(pre_splitW i).1;have H:=(pre_splitW i).2;obtain⟨d,r,rfl,L,M⟩:=hasAllW_cons B;obtain rfl:=hasAllW_nil M;obtain⟨xs,rfl,R⟩:=hasW_list L;obtain⟨ns,rfl⟩:=items_int R;have y:ns.length<=n:=by
  have z:(WTm.not (.lt (.lit (.int (n:Int))) (.len (.arg 0)))).holds [] { args:=[.list (ns.map .int)]}=I:=by have z:=(holds_andW H).1;rw[Q]at z;exact z
  have S:=condW_of z (w_not (w_lt w_lit (w_len_list (w_arg rfl))))
  simp_all
 cases C with
 |cons O G =>
  cases G
  cases O with
  |list F u=>exact⟨_,_,ns,rfl,rfl,F,nz ns _ u,y⟩
def y0(l:OpenLaw)(a:List WData):l.row.toRowW.claim.post a (.bool I) a=I :=
 postW_of
  (show WShape.has [] (.bool I) .bool=I by first | rfl | decide | simp)
  (w_eq_bool (w_res rfl) w_lit) rfl
def uy{l:OpenLaw}{n:Nat}{q:Program}{loose:TQ}{XP:(Str->T1)->Heap->Prop}{W:World->Heap->Prop}{d:DefRec}(hn:l.most=J n)(M:d.params.defaults=[])(call:∀(w:World)(s₀ i:Shared)(mg L:T8)(E:Addr)(o:Obj)(pm F u:Value)(a:Addr)(y:TZ)(ns:TR),
   Ground q loose [] XP w s₀ mg L i.heap->W w i.heap ->
   i.heap.get? E=J o->o.data=.func (docDef d.name d.params d.body d.scope pm F u)->i.heap.CodeRec F d.name->mg d.name=J (.ref E) ->
   i.heap.get? a=J { cls:=.type "list",data:=.seq y.toArray}->IntsAre y ns->ns.length<=n->i.gens=#[] ->
   codeAny (model l.prog w) callerA (.call (.ref E) ⟨[.ref a],[]⟩) (λr H=>r=.ok (.ret (.bool I))/\OldK i.heap H.heap/\H.os=i.os/\AllBare H.gens) i):
  WalkO q loose XP W l.row.toRowW d [] (λf y=>PySem.call f y):=by
 intro w s₀ i mg L G Q E o pm F u dV kV ho hd O X R hg U Z as z S ab P ah;obtain rfl:=Dflts.none X M;obtain rfl:=Dflts.noKw X;obtain⟨a,y,ns,rfl,rfl,B,j,C⟩:=yV hn z P;refine enter_call (codeAny_mono (call w s₀ i mg L E o pm F u a y ns G Q ho (fd_plain hd) O R B j C hg) λr H hq=>?_);obtain⟨rfl,h2,h3,h4⟩:=hq;exact⟨.inl ⟨.bool I,.bool I,[],rfl,λ_=>rfl,.bool I,y0 l _,λ_=>⟨List.Pairwise.nil,λ_ hm=>(nomatch hm)⟩⟩,h2,h3,h4⟩
section
variable{prog:Program}{w:World}{A:Around}{E:T7}{s:Shared}{K:Frag}
end
end Att
namespace L2
open PySem.Spec PyProof.Rows
def qg:∀{a:TZ}{ns:TR},IntsAre a ns->aD (ns.map V.int) a
 |_,_,.nil=>.nil
 |_,_,.cons n t h=>.cons ⟨t,rfl⟩ (qg h)
def GR(H:Hp):Prop:=∀b,H b=Y\/∃o xs,H b=J (.frz o (.lst xs))
def zQ{P:Program}{w:World}{K:hU}{mg mb:T8}{CX:B_}{k:Nat}{fa a:Addr}{fd:FuncData}{x:Str}{sp:Sp}{f:Shared}{E:TZ}{ns:TR}(KX:K.In f.heap)(S:f.heap.Ns mainGlobals mg)(j:f.heap.Ns builtinsNs mb)(ah:∀x:Str,x≠"__name__"->mb x=bootBuiltins x)(M:f.heap.NoLimit)(hg:f.gens=#[])(W:f.heap.get? a=J { cls:=.type "list",data:=.seq E.toArray})(hi:IntsAre E ns)(hl:ns.length<=sizeLine)(hr:Room k callerA)(F:∀base:Heap,K.In base->base.Ns mainGlobals mg->FnOk P w K mg base CX k fa fd [x] sp)(C:∀(s:Shared) (u:Value),BindsTo s fd ⟨[u],[]⟩ [(x,u)])(ab:∀H:Hp,GR H->SqL K H a (ns.map V.int)->sp [.ref a] H (λv _=>v=.bl I) λ_ _ _=>False)(Z:∀H e l,CX [] H f (λ_ _ _=>False) e l->False):
  codeAny (model P w) callerA (.call (.ref fa) ⟨[.ref a],[]⟩) (λr l=>r=.ok (.ret (.bool I))/\OldK f.heap l.heap/\l.os=f.os/\AllBare l.gens) f:=by
 have rv:=qg hi;have Q:=hi.length;have B:∀H:Hp,GR H->SqL K H a (ns.map V.int)->HOk P w H f.heap->(∀b,H b≠Y->b=a)->(H a≠Y->K.lookup a=Y) ->
   codeAny (model P w) callerA (.call (.ref fa) ⟨[.ref a],[]⟩) (λr l=>r=.ok (.ret (.bool I))/\OldK f.heap l.heap/\l.os=f.os/\AllBare l.gens) f:=by
  intro H hO hS hok hA hK;have i:∀{b:Addr}{o:Obj},f.heap.get? b=J o->H b=Y->(jP f.heap H).get? b=J o:=λe n=>Aj e n;have X:∀{b:Addr}{o:Obj}{U:Array DictEntry}{O:Nat},f.heap.get? b=J o->o.data=.dict U O->H b=Y:=λ{b o U O} e d=>by
   cases q:H b with
   |none=>rfl
   |some u =>
    have e':b=a:=hA b (by rw[q];simp);subst e';rw[W]at e;cases e;have d':Data.seq E.toArray _=Data.dict U O:=d;cases d'
  have y:∀{b:Addr}{m:T8},f.heap.Ns b m->(jP f.heap H).Ns b m:=λ{b m} ⟨o,U,O,e,d,r⟩=>⟨o,U,O,i e (X e d),d,r⟩
  have L:K.In (jP f.heap H):=λb o e=>i (KX b o e) (by
   cases q:H b with
   |none=>rfl
   |some u =>
    have e':b=a:=hA b (by rw[q];simp);subst e'
    rw[hK (by rw[q];simp)]at e;cases e)
  have hM:Mod K mg (jP f.heap H):=⟨L,y S,⟨mb,y j,ah⟩,let⟨mc,h1,h2⟩:=M;⟨mc,y h1,h2⟩⟩;have e0:Dg P w K mg (jP f.heap H) callerA [] f H:=⟨rfl,hM,λb o e=>C3 e,PZ (xx _ _),trivial,λb j=>absurd (show b∈([]:TX)from j) (by simp),hok,.of_eq hg⟩;refine codeAny_mono ((F _ L (y S)).run callerA [] f H ⟨[.ref a],[]⟩ [.ref a] [.ref a] _ _ hr e0 (C f (.ref a)) (.cons rfl .nil) (ab H hO hS)) λr l h=>?_
  cases r with
  |error e=>exact(Z H e l h).elim
  |ok fl =>
   cases fl with
   |next=>exact False.elim h
   |brk=>exact False.elim h
   |cont=>exact False.elim h
   |ret u =>
    obtain⟨v,H',os,bare,un,R,r',q⟩:=h;have q':v=.bl I:=q;subst q';obtain rfl:u=Value.bool I:=r';refine⟨rfl,OldK.of_keep λb o e=>?_,os,bare⟩
    cases q:H b with
    |none=>exact un.keep b o e q (by intro z;exact absurd (show b∈([]:TX)from z) (by simp)) (by simp)
    |some u =>
     rcases hO b with z|⟨ob,xs,z⟩
     .rw[q]at z;cases z
     .have z2:=un.frzs b ob _ z;obtain⟨e1,_⟩:=hok b _ z;obtain⟨e2,_⟩:=R b _ z2;rw[e]at e1;cases e1;exact e2
 cases hk:K.lookup a with
 |some o =>
  have e:=KX a o hk;rw[W]at e;cases e;refine B (λ_=>Y) (λ_=>.inl rfl) (.inr ⟨_,E.toArray,_,hk,rfl,rfl,rfl,by rw[pq,Q];exact hl,by simpa using rv⟩) (λb u z=>by have G:(Y:Option HO)=J u:=z;cases G) (λb z=>absurd rfl z) λz=>absurd rfl z
 |none =>
  refine B (λb=>if b=a then J (.frz { cls:=.type "list",data:=.seq E.toArray} (.lst (ns.map V.int)))else Y) (λb=>?_) (.inl (.inr ⟨{ cls:=.type "list",data:=.seq E.toArray},b_ rfl⟩)) (λb u z=>?_) (λb z=>?_) λ_=>hk
  .by_cases j:b=a
   .exact .inr ⟨_,_,b_ j⟩
   .exact .inl (e_ j)
  .by_cases j:b=a
   .have G:=(b_ j).symm.trans z;cases G;subst j;exact⟨W,by rw[mm];exact hl,E,_,rv,W⟩
   .have G:=(e_ j).symm.trans z;cases G
  .by_cases j:b=a
   .exact j
   .exact absurd (e_ j) z
abbrev oi{K:hU}{h:Heap}(_:K.In h):hU:=K
def Dp{l:PySem.W.OpenLaw}{n k:Nat}{q:Program}{loose:TQ}{XP:(Str->T1)->Heap->Prop}{Q:World->Heap->Prop}{d:DefRec}{K:Params->hU}{CX:World->B_}{sp:World->Sp}{x:Str}(hn:l.most=J n)(E:n<=sizeLine)(B:d.params.defaults=[])(hr:Room k callerA)(W:∀(w:World)(h:Heap),Q w h->(K w.params).In h)(F:∀(w:World)(mg:T8)(z:Addr)(h:Heap),(K w.params).In h->h.Ns mainGlobals mg->mg d.name=J (.ref z) ->
   ∃fd:FuncData,(∀(s:Shared)(u:Value),BindsTo s fd ⟨[u],[]⟩ [(x,u)]) /\
    ∀base:Heap,(K w.params).In base->base.Ns mainGlobals mg->FnOk l.prog w (K w.params) mg base (CX w) k z fd [x] (sp w))(L:∀(w:World)(H:Hp)(a:Addr)(ns:TR),ns.length<=n->GR H->SqL (K w.params) H a (ns.map V.int)->sp w [.ref a] H (λv _=>v=.bl I) λ_ _ _=>False)(M:∀(w:World)(H:Hp)(s:Shared)(e:Value)(C:Shared),CX w [] H s (λ_ _ _=>False) e C->False):
  PySem.W.WalkO q loose XP Q l.row.toRowW d [] (λf R=>PySem.call f R):=by
 refine Att.uy hn B λw s₀ r mg mb z o pm cd U a R ns G O ho hd X P y j i hg=>?_;have S:=W w _ O;obtain⟨fd,hb,hF⟩:=F w mg z _ S G.T.g P;exact zQ S G.T.g G.T.b G.T.builtins G.T.nolimit hg y j (m_ i E) hr hF hb (λH Z hS=>L w H a ns i Z hS) λH e C=>M w H r e C
def hV(s:Stmt):Arguments:=match s with
 |.FunctionDef _ a _ _ _ _ _ _ _ _=>a
 |_=>{ posonlyargs:=[],args:=[],vararg:=Y,kwonlyargs:=[],kw_defaults:=[],kwarg:=Y,defaults:=[]}
def aK(s:Stmt):List Stmt:=match s with
 |.FunctionDef _ _ b _ _ _ _ _ _ _=>b
 |_=>[]
def ak(s:Stmt):Scope:=match s with
 |.FunctionDef _ _ _ _ _ _ a _ _ _=>a
 |_=>{ kind:=.function,names:=[],isGenerator:=T,isCoroutine:=T}
structure Fun(K:hU)(x qual:Str)(st:Stmt)(f:Addr)(fd:FuncData):Prop where
 ex:∃(oc:Value)(od:Option Addr)(kV doc pm:Value)(an:Option Addr)(cdv ct:Value)(osl:Array (T1)),
  fd=PySem.W.fnOf x qual (hV st) (aK st) (ak st) .none kV doc pm an cdv ct/\K.lookup f=J ⟨oc,od,.func fd,osl⟩/\PySem.W.codeIn K cdv qual=I
 kp:PySem.W.keepIn K (.ref f)=I
section
variable{P:Program}{w:World}{K:hU}{mg:T8}{base:Heap}
def Fun.binds{x a:Str}{st:Stmt}{f:Addr}{fd:FuncData}{r:TQ}(F:Fun K x a st f fd)(h:∀(kV i pm:Value)(u:Option Addr)(j ct:Value)(l:TZ),l.length=r.length->bindArgs (PySem.W.fnOf x a (hV st) (aK st) (ak st) .none kV i pm u j ct) ⟨l,[]⟩=pure (r.zip l)):og K fd r []:=by
 obtain⟨C,B,kV,i,pm,u,j,ct,z,rfl,lk,y⟩:=F.ex;exact .all (h kV i pm u j ct)
def GU{x a:Str}{st:Stmt}{f:Addr}{z:Value}{y u:Option Addr}{r:Array (T1)}{kV j pm i ct:Value}(l:K.lookup f=J ⟨z,y,.func (PySem.W.fnOf x a (hV st) (aK st) (ak st) .none kV j pm u i ct),r⟩)(c:PySem.W.codeIn K i a=I)(k:PySem.W.keepIn K (.ref f)=I):Fun K x a st f (PySem.W.fnOf x a (hV st) (aK st) (ak st) .none kV j pm u i ct):=⟨⟨z,y,kV,j,pm,u,i,ct,r,rfl,l,c⟩,k⟩
end
section
variable{X:Cx}
end
end L2
namespace MM
open PySem.Spec PyProof.Rows L2
inductive PV where
 |non | bl (b:Bool) | int (i:Int) | str (x:Str) | tup (xs:List PV) | frl (xs:List PV) | loc (n:Nat)
abbrev _root_.TN:=List PV
structure Bv where
 cls:Str
 fs:List (Str×PV):=[]
inductive MO where
 |lst(xs:TN)
 |dic(ks:TU)(xs:TN)
 |exc(x:Bv)
abbrev MH:=List MO
abbrev ls:=List (Option PV)
inductive Out(α:Type) where
 |ok(a:α)(h:MH)
 |exc(x:Bv)(h:MH)
 |bad
abbrev _root_.T6:=Out PV
def Out.bind{α β:Type}(o:Out α)(f:α->MH->Out β):Out β:=match o with
 |.ok a h=>f a h
 |.exc x h=>.exc x h
 |.bad=>.bad
@[simp]theorem Out.bind_ok(a:α)(h:MH)(f:α->MH->Out β):(Out.ok a h).bind f=f a h:=rfl
@[simp]theorem Out.bind_exc(x:Bv)(h:MH)(f:α->MH->Out β):(Out.exc x h).bind f=.exc x h:=rfl
@[simp]theorem Out.bind_bad(f:α->MH->Out β):(Out.bad:Out α).bind f=.bad:=rfl
inductive SOut where
 |nx(Z:ls)(h:MH)
 |rt(v:PV)(h:MH)
 |bk(Z:ls)(h:MH)
 |ct(Z:ls)(h:MH)
 |exc(x:Bv)(Z:ls)(h:MH)
 |rse(x:Bv)(Z:ls)(h:MH)
 |bad
def Out.ne{α:Type}(o:Out α):Out α:=match o with
 |.exc _ _=>.bad
 |o=>o
@[simp]theorem Out.ne_ok(a:α)(h:MH):(Out.ok a h).ne=.ok a h:=rfl
@[simp]theorem Out.ne_bad:(Out.bad:Out α).ne=.bad:=rfl
@[simp]theorem Out.ne_ne(o:Out α):o.ne.ne=o.ne:=by cases o<;>rfl
def SqF(K:hU)(H:Hp)(a:Addr)(ys:List V):Prop :=
 (∃o,H a=J (.frz o (.lst ys))) \/
  ∃(o:Obj) (f:Array Value) (n:Nat),K.lookup a=J o/\o.cls=.type "list"/\o.dict=Y/\o.data=.seq f n/\f.size<=sizeLine/\aD ys f.toList
def SqF.sq{K:hU}{H:Hp}{a:Addr}{ys:List V}(h:SqF K H a ys):SqL K H a ys:=by
 rcases h with h|h
 .exact .inl (.inr h)
 .exact .inr h
mutual
inductive RP(K:hU)(U:TX)(H:Hp):PV->V->Prop where
 |non:RP K U H .non .non
 |bl(b:Bool):RP K U H (.bl b) (.bl b)
 |int(i:Int):RP K U H (.int i) (.int i)
 |str(x:Str):RP K U H (.str x) (.str x)
 |tup{xs:TN}{a:Addr}{ys:List V}(s:SqT K H a ys)(r:RPs K U H xs ys):RP K U H (.tup xs) (.ref a)
 |frl{xs:TN}{a:Addr}{ys:List V}(s:SqF K H a ys)(r:RPs K U H xs ys):RP K U H (.frl xs) (.ref a)
 |loc{n:Nat}{a:Addr}(e:U[n]?=J a):RP K U H (.loc n) (.ref a)
inductive RPs(K:hU)(U:TX)(H:Hp):TN->List V->Prop where
 |nil:RPs K U H [] []
 |cons{x:PV}{y:V}{xs:TN}{ys:List V}(r:RP K U H x y)(t:RPs K U H xs ys):RPs K U H (x::xs) (y::ys)
end
structure Le(U:TX)(H:Hp)(U':TX)(H':Hp):Prop where
 pre:∃m,U'=U++m
 tup:∀a xs,H a=J (.tup xs)->H' a=J (.tup xs)
 frz:∀a o u,H a=J (.frz o u)->H' a=J (.frz o u)
def Le.refl(U:TX)(H:Hp):Le U H U H:=⟨⟨[],by simp⟩,λ_ _ h=>h,λ_ _ _ h=>h⟩
def Le.trans(a:Le U H U1 H1)(b:Le U1 H1 U2 H2):Le U H U2 H2:=by obtain⟨m,e⟩:=a.pre;obtain⟨i,f⟩:=b.pre;exact⟨⟨m++i,by rw[f,e,B6]⟩,λc xs h=>b.tup c xs (a.tup c xs h),λc o u h=>b.frz c o u (a.frz c o u h)⟩
def Le.get{U f:TX}{H j:Hp}(l:Le U H f j){n:Nat}{a:Addr}(e:U[n]?=J a):f[n]?=J a:=by obtain⟨m,i⟩:=l.pre;rw[i,we (qp.mp e).1];exact e
def Le.sqt{K:hU}{U i:TX}{H f:Hp}(l:Le U H i f){a:Addr}{xs:List V}(h:SqT K H a xs):SqT K f a xs:=by
 rcases h with(h|⟨o,h⟩)|h
 .exact .inl (.inl (l.tup _ _ h))
 .exact .inl (.inr ⟨o,l.frz _ _ _ h⟩)
 .exact .inr h
def Le.sqf{K:hU}{U i:TX}{H f:Hp}(l:Le U H i f){a:Addr}{xs:List V}(h:SqF K H a xs):SqF K f a xs:=by
 rcases h with⟨o,h⟩|h
 .exact .inl ⟨o,l.frz _ _ _ h⟩
 .exact .inr h
section
variable{K:hU}{U U':TX}{H H':Hp}
def RP.le(l:Le U H U' H'){x:PV}{y:V}(r:RP K U H x y):RP K U' H' x y :=
 RP.rec .non .bl .int .str (λs _ i=>.tup (l.sqt s) i) (λs _ i=>.frl (l.sqf s) i) (λe=>.loc (l.get e)) .nil (λ_ _ a b=>.cons a b) r
def RPs.le(l:Le U H U' H')(r:RPs K U H xs ys):RPs K U' H' xs ys:=by
 induction xs generalizing ys with
 |nil=>cases r;exact .nil
 |cons x xs f=>cases r with|cons a t=>exact .cons (a.le l) (f t)
def RPs.length(r:RPs K U H xs ys):xs.length=ys.length:=by
 induction xs generalizing ys with
 |nil=>cases r;rfl
 |cons x xs f=>cases r with|cons a t=>exact congrArg (·+1) (f t)
def RPs.get{xs:TN}{ys:List V}{i:Nat}{x:PV}(r:RPs K U H xs ys)(e:xs[i]?=J x):∃y,ys[i]?=J y/\RP K U H x y:=by
 induction xs generalizing ys i with
 |nil=>cases e
 |cons x xs f =>
  cases r with
  |cons a t =>
   cases i with
   |zero=>cases e;exact⟨_,rfl,a⟩
   |succ i=>have z:=@f _ i t e;exact z
def RPs.set(r:RP K U H x u)(i:Nat)(q:RPs K U H xs us):RPs K U H (xs.set i x) (us.set i u):=by
 induction xs generalizing us i with
 |nil=>cases q;exact .nil
 |cons x xs f =>
  cases q with
  |cons a t =>
   cases i with
   |zero=>exact .cons r t
   |succ i=>exact .cons a (f i t)
def RPs.append(r:RPs K U H xs us)(s:RPs K U H ys ws):RPs K U H (xs++ys) (us++ws):=by
 induction xs generalizing us with
 |nil=>cases r;exact s
 |cons x xs f=>cases r with|cons a t=>exact .cons a (f t)
def RPs.take(n:Nat)(r:RPs K U H xs us):RPs K U H (xs.take n) (us.take n):=by
 induction n generalizing xs us with
 |zero=>exact .nil
 |succ n f =>
  cases xs with
  |nil=>cases r;exact .nil
  |cons x xs=>cases r with|cons a t=>exact .cons a (f t)
def RPs.drop(n:Nat)(r:RPs K U H xs us):RPs K U H (xs.drop n) (us.drop n):=by
 induction n generalizing xs us with
 |zero=>exact r
 |succ n f =>
  cases xs with
  |nil=>cases r;exact .nil
  |cons x xs=>cases r with|cons a t=>exact f t
def RPs.ints:∀(ns:TR),RPs K U H (ns.map PV.int) (ns.map V.int)
 |[]=>.nil
 |n::r=>.cons (.int n) (RPs.ints r)
end
def Lv(a C:Addr)(h:Heap):Prop:=∃o f,h.get? a=J o/\o.cls=.ref C/\o.data=.fields f
abbrev Ca:=Str->T1
def Lw(x:TR×Addr×Value):DictEntry:=⟨reduceHash (Builtin.Tuple.tupleHashOf (x.1.map hashInt)),.ref x.2.1,x.2.2⟩
def DT(a:Addr)(bs:List (TR×Addr×Value))(h:Heap):Prop :=
 ∃o f i,h.get? a=J o/\o.ExactDict/\o.data=.dict f i/\f.toList=bs.map Lw/\(bs.map (·.1)).Nodup/\(a==sysModules)=T/\bs.length<=sizeLine
def pX{a:Addr}{bs:List (TR×Addr×Value)}:∀f i:Heap,DT a bs f->(∀o,f.get? a=J o->i.get? a=J o)->DT a bs i :=
 λ_ _ ⟨o,u,j,l,r⟩ k=>⟨o,u,j,k o l,r⟩
inductive DR(K:hU)(U:TX)(H:Hp)(a:Addr)(ks:TU)(xs:TN)(oh:Option HO):Prop
 |mk(bs:List (TR×Addr×Value))(ys:List V)(e:ks=bs.map (·.1))(kr:∀x∈bs,SqT K H x.2.1 (x.1.map V.int))(vs:aD ys (bs.map (·.2.2)))(r:RPs K U H xs ys)(o:oh=J (.ext (DT a bs)))
def DR.le{K:hU}{U f:TX}{H i:Hp}{a:Addr}{u:TU}{xs:TN}{j:Option HO}(l:Le U H f i)(r:DR K U H a u xs j):DR K f i a u xs j:=by obtain⟨bs,ys,e,y,B,r,o⟩:=r;exact⟨bs,ys,e,λx z=>l.sqt (y x z),B,r.le l,o⟩
def RO(K:hU)(mg:Ca)(U:TX)(H:Hp)(a:Addr):MO->Option HO->Prop
 |.lst xs,f=>∃ys,f=J (.lst ys)/\RPs K U H xs ys
 |.dic i xs,f=>DR K U H a i xs f
 |.exc x,f=>x.fs=[]/\∃C,mg x.cls=J (.ref C)/\f=J (.ext (Lv a C))
structure RH(K:hU)(mg:Ca)(U:TX)(H:Hp)(h:MH):Prop where
 len:U.length=h.length
 nd:U.Nodup
 at':∀(n:Nat)(a:Addr)(o:MO),U[n]?=J a->h[n]?=J o->RO K mg U H a o (H a)
def RO.le{K:hU}{mg:Ca}{U f:TX}{H i:Hp}{a:Addr}(l:Le U H f i){o:MO}{j:Option HO}(r:RO K mg U H a o j):RO K mg f i a o j:=by
 cases o with
 |lst xs=>obtain⟨ys,e,r⟩:=r;exact⟨ys,e,r.le l⟩
 |dic u xs=>exact DR.le l r
 |exc x=>exact r
def RO.some{K:hU}{mg:Ca}{U:TX}{H:Hp}{a:Addr}{o:MO}{f:Option HO}(r:RO K mg U H a o f):f≠Y:=by
 cases o with
 |lst xs=>obtain⟨ys,e,_⟩:=r;rw[e];simp
 |dic i xs=>obtain⟨_,_,_,_,_,_,e⟩:=r;rw[e];simp
 |exc x=>obtain⟨_,C,_,e⟩:=r;rw[e];simp
def RO.plain{K:hU}{mg:Ca}{U:TX}{H:Hp}{a:Addr}{o:MO}{f:Option HO}(r:RO K mg U H a o f):(∀xs,f≠Option.some (.tup xs))/\∀p u,f≠Option.some (.frz p u):=by
 cases o with
 |lst xs=>obtain⟨ys,e,_⟩:=r;rw[e];exact⟨(λ_ z=>nomatch z),(λ_ _ z=>nomatch z)⟩
 |dic i xs=>obtain⟨_,_,_,_,_,_,e⟩:=r;rw[e];exact⟨(λ_ z=>nomatch z),(λ_ _ z=>nomatch z)⟩
 |exc x=>obtain⟨_,C,_,e⟩:=r;rw[e];exact⟨(λ_ z=>nomatch z),(λ_ _ z=>nomatch z)⟩
section
variable{K:hU}{mg:Ca}{U:TX}{H:Hp}{h:MH}
def RH.obj(r:RH K mg U H h){n:Nat}{a:Addr}(e:U[n]?=J a):∃o,h[n]?=J o/\RO K mg U H a o (H a):=by
 have f:n<h.length:=by rw[<-r.len];exact(qp.mp e).1
 exact⟨h[n],by simp,r.at' n a _ e (by simp)⟩
def RH.new(r:RH K mg U H h){p:Addr}(y:H p=Y){o:MO}{ho:HO}(G:RO K mg U H p o (J ho)):RH K mg (U++[p]) (lf H p ho) (h++[o])/\Le U H (U++[p]) (lf H p ho):=by
 have i:∀n a,U[n]?=J a->a≠p:=λn a e z=>by
  obtain⟨E,_,q⟩:=r.obj e;rw[z,y]at q;exact q.some rfl
 have l:Le U H (U++[p]) (lf H p ho):=⟨⟨[p],rfl⟩,λa xs e=>by rw[aY (bO e y)];exact e,λa M u e=>by rw[aY (bO e y)];exact e⟩;refine⟨⟨by simp[r.len],?_,λn a E e1 e2=>?_⟩,l⟩
 .rw[Bg];refine⟨r.nd,by simp,λa F b L=>?_⟩;obtain⟨n,e⟩:=zm.mp F;have j:b=p:=by simpa using L
  rw[j];exact i n a e
 .by_cases f:n<U.length
  .rw[we f]at e1;rw[we (by rw[<-r.len];exact f)]at e2;rw[aY (i n a e1)];exact(r.at' n a E e1 e2).le l
  .rw[Bq ⋯]at e1;rw[Bq (by rw[<-r.len];lia)]at e2;have B:n-U.length=0:=by
    grind
   rw[B]at e1;have C:n-h.length=0:=by have:=r.len;lia
   rw[C]at e2;simp at e1 e2;subst e1;subst e2;rw[bU];exact G.le l
def RH.put(r:RH K mg U H h){n:Nat}{a:Addr}(e:U[n]?=J a){o:MO}{ho:HO}(B:RO K mg U H a o (J ho)):RH K mg U (lf H a ho) (h.set n o)/\Le U H U (lf H a ho):=by
 obtain⟨Q,_,q⟩:=r.obj e;obtain⟨C,L⟩:=q.plain
 have l:Le U H U (lf H a ho):=⟨⟨[],by simp⟩,λb xs z=>by
   have:b≠a:=by rintro rfl;exact C _ z
   rw[aY this];exact z,λb P u z=>by
   have:b≠a:=by rintro rfl;exact L _ _ z
   rw[aY this];exact z⟩
 refine⟨⟨by simp[r.len],r.nd,λm b F e1 e2=>?_⟩,l⟩;by_cases f:m=n
 .subst f;rw[e]at e1;cases e1;rw[bU]
  have:m<h.length:=by rw[<-r.len];exact(qp.mp e).1
  rw[Br this]at e2;cases e2;exact B.le l
 .rw[tu (λz=>f z.symm)]at e2;have E:b≠a:=by
   rintro rfl;have j:=qp.mp e;have y:=qp.mp e1;obtain⟨M,i⟩:=j;obtain⟨O,G⟩:=y;exact f ((List.getElem_inj r.nd).mp (G.trans i.symm))
  rw[aY E];exact(r.at' m b F e1 e2).le l
def RH.tup(r:RH K mg U H h){p:Addr}(f:H p=Y)(ys:List V):RH K mg U (lf H p (.tup ys)) h/\Le U H U (lf H p (.tup ys)):=by
 have i:∀n a,U[n]?=J a->a≠p:=λn a e z=>by
  obtain⟨j,_,q⟩:=r.obj e;rw[z,f]at q;exact q.some rfl
 have l:Le U H U (lf H p (.tup ys)):=⟨⟨[],by simp⟩,λa xs e=>by rw[aY (bO e f)];exact e,λa y u e=>by rw[aY (bO e f)];exact e⟩;exact⟨⟨r.len,r.nd,λn a o e1 e2=>by rw[aY (i n a e1)];exact(r.at' n a o e1 e2).le l⟩,l⟩
end
def RS(K:hU)(U:TX)(H:Hp)(a:ls)(Z:L2.St):Prop :=
 Z.length=a.length/\∀(i:Nat)(v:PV),a[i]?=J (J v)->∃f,Z[i]?=J (J f)/\RP K U H v f
def RS.le{K:hU}{U f:TX}{H j:Hp}{a:ls}{Z:L2.St}(l:Le U H f j)(r:RS K U H a Z):RS K f j a Z :=
 ⟨r.1,λi v e=>by obtain⟨y,u,q⟩:=r.2 i v e;exact⟨y,u,q.le l⟩⟩
def RS.set{K:hU}{U:TX}{H:Hp}{a:ls}{Z:L2.St}(r:RS K U H a Z)(i:Nat){v:PV}{l:V}(q:RP K U H v l):RS K U H (a.set i (J v)) (Z.set i (J l)):=by
 refine⟨by simp[r.1],λj u e=>?_⟩;by_cases f:j=i
 .subst f;by_cases y:j<a.length
  .rw[Br y]at e;cases e;exact⟨l,Br (by rw[r.1];exact y),q⟩
  .rw[FW (by simp;lia)]at e;cases e
 .rw[tu (λz=>f z.symm)]at e;obtain⟨C,B,E⟩:=r.2 j u e;exact⟨C,by rw[tu (λz=>f z.symm)];exact B,E⟩
def Tw(B:Heap)(fs:TX)(h:Heap):Prop:=∀b o,h.get? b=J o->b∉fs->∃a,B.get? b=J a
def Qs(l:List Env)(H:Hp)(a:Heap)(C f:Addr)(h:Heap):Prop :=
 ∃B t,Heap.FlyingW B l f (.ref C) (.ref t) h/\(∀b o,H b=J o->∃i,B.get? b=J i)/\Tw B (xq l) a/\H f=Y
structure Fq(X:Cx)(h:Heap):Prop where
 old:∀b o,X.s₀.heap.get? b=J o->b∉X.ex->∃o',h.get? b=J o'
 cell:∀x c,X.env.cells.lookup x=J c->∃o,h.get? c=J o
 pin:∀p∈X.pn,∃o,h.get? p.1=J o
def Inv.bears{X:Cx}{f:T0}{Z:L2.St}{H:Hp}{s:Shared}(a:Inv X f Z H s):Fq X s.heap :=
 ⟨λb o e n=>a.base.there b o e n,λx c e=>let⟨_,o,i,_⟩:=a.cell x c e;⟨o,i⟩,λp j=>⟨_,(a.pin p (xn _ j)).1⟩⟩
def XP(X:Cx)(l:ls)(U:TX)(H:Hp)(x:Bv)(h:MH):Prop:=∀(r C:Addr)(j:TX)(f:Hp)(u:L2.St)(i:Shared)(a:Heap),x.fs=[]->X.mg x.cls=J (.ref C)->Le U H j f->RH X.K X.mg j f h->RS X.K j f l u ->
 Inv X [] u f i->Fq X a->Qs X.stack f a C r i.heap->X.xe (.ref r) i
def XM(X:Cx)(l:ls)(U:TX)(H:Hp)(x:Bv)(h:MH):Prop:=∀(u C:Addr)(j:TX)(f:Hp)(y:L2.St)(i:Shared)(r:Heap)(a:TZ),x.fs=[]->X.mg x.cls=J (.ref C)->Le U H j f->RH X.K X.mg j f h->RS X.K j f l y ->
 Inv X [] y f { i with heap:=r}->Heap.MadeExcOf r i.heap u (.ref C) a->X.xe (.ref u) i
def XP.le(l:Le U H U' H')(q:XP X σp U H x h):XP X σp U' H' x h :=
 λj C i u r f a e1 e2 y=>q j C i u r f a e1 e2 (l.trans y)
def XM.le(l:Le U H U' H')(q:XM X σp U H x h):XM X σp U' H' x h :=
 λr C j y u i f a e1 e2 z=>q r C j y u i f a e1 e2 (l.trans z)
abbrev Rl(α β:Type):=TX->Hp->α->β->Prop
def Ful{α β:Type}(X:Cx)(R:Rl α β)(j:ls)(U:TX)(H:Hp)(o:Out α)(Q:β->Hp->Prop):Prop:=match o with
 |.ok v f=>∀i a l,Le U H i a->RH X.K X.mg i a f->R i a v l->Q l a
 |.exc x f=>XP X j U H x f
 |.bad=>False
def ja{α β:Type}(X:Cx)(R:Rl α β)(U:TX)(H:Hp)(o:Out α)(Q:β->Hp->Prop):Prop:=match o with
 |.ok v j=>∀f a i,Le U H f a->RH X.K X.mg f a j->R f a v i->Q i a
 |_=>False
def Ful.zero(f:Ful X R σp U H o.ne Q):ja X R U H o Q:=by
 cases o with
 |ok v h=>exact f
 |exc x h=>exact f
 |bad=>exact f
def Ful.le(l:Le U H U1 H1)(f:Ful X R σp U H o Q):Ful X R σp U1 H1 o Q:=by
 cases o with
 |ok v h=>exact λj r a i=>f j r a (l.trans i)
 |exc x h=>exact XP.le l f
 |bad=>exact f
def Ful.bind{α β γ δ:Type}{X:Cx}{R:Rl α β}{S:Rl γ δ}{a:ls}{U:TX}{H:Hp}{o:Out α}{f:α->MH->Out γ}{Q:δ->Hp->Prop}{z:β->Hp->Prop}(q:Ful X S a U H (o.bind f) Q)(k:∀u i v j y,o=.ok v y->Le U H u i->RH X.K X.mg u i y->R u i v j->Ful X S a u i (f v y) Q->z j i):Ful X R a U H o z:=by
 cases o with
 |ok v h=>exact λB C j l r w=>k B C v j h rfl l r w (Ful.le l q)
 |exc x h=>exact q
 |bad=>exact q
abbrev RV'(X:Cx):Rl PV V:=λU H=>RP X.K U H
abbrev RVs'(X:Cx):Rl (TN) (List V):=λU H=>RPs X.K U H
abbrev Lx{α:Type}:Rl α α:=λ_ _ x y=>x=y
abbrev Mx(α:Type):=ls->MH->Out α
inductive tM{α β:Type}(X:Cx)(R:Rl α β)(m:Mx α)(Z:L2.St)(H:Hp)(Q:β->Hp->Prop):Prop
 |mk(U:TX)(σp:ls)(h:MH)(rs:RS X.K U H σp Z)(rh:RH X.K X.mg U H h)(q:Ful X R σp U H (m σp h) Q):tM X R m Z H Q
def ME(X:Cx)(e:Expr)(m:Mx PV):Prop:=PE X e (tM X (RV' X) m)
def MT(X:Cx)(e:Expr)(m:Mx Bool):Prop:=PT X e (tM X Lx m)
def MW(X:Cx)(e:Expr)(m:Mx Bool):Prop:=PW X e (tM X Lx m)
def MA(X:Cx)(a:T5)(m:Mx (TN)):Prop:=PA X a (tM X (RVs' X) m)
def PE.imp(h:PE X e t)(i:∀Z H Q,t' Z H Q->t Z H Q):PE X e t':=λf s Z H Q a q=>h f s Z H Q a (i Z H Q q)
def PT.imp(h:PT X e t)(i:∀Z H Q,t' Z H Q->t Z H Q):PT X e t':=λf s Z H Q a q=>h f s Z H Q a (i Z H Q q)
def PW.imp(h:PW X e t)(i:∀Z H Q,t' Z H Q->t Z H Q):PW X e t':=λa j s Z H Q f q=>h a j s Z H Q f (i Z H Q q)
def PA.imp(h:PA X e t)(i:∀Z H Q,t' Z H Q->t Z H Q):PA X e t':=λa j s Z H Q f q=>h a j s Z H Q f (i Z H Q q)
def PS.imp(h:PS X e t)(i:∀D Z H,t' D Z H->t D Z H):PS X e t':=λf s Z H D a q=>h f s Z H D a (i D Z H q)
def PSs.imp(h:PSs X e t)(i:∀D Z H,t' D Z H->t D Z H):PSs X e t':=λf s Z H D a q=>h f s Z H D a (i D Z H q)
def bA(X:Cx)(U:TX)(H:Hp)(o:SOut)(D:Ends):Prop:=match o with
 |.nx f j=>∀i a l,Le U H i a->RH X.K X.mg i a j->RS X.K i a f l->D.nx l a
 |.bk f j=>∀i a l,Le U H i a->RH X.K X.mg i a j->RS X.K i a f l->D.bk l a
 |.ct f j=>∀i a l,Le U H i a->RH X.K X.mg i a j->RS X.K i a f l->D.ct l a
 |.rt v j=>∀i a r,Le U H i a->RH X.K X.mg i a j->RP X.K i a v r->D.rt r a
 |.exc x f j=>XP X f U H x j
 |.rse x f j=>XM X f U H x j
 |.bad=>False
def bA.le(l:Le U H U1 H1)(f:bA X U H o D):bA X U1 H1 o D:=by
 cases o with
 |nx a h=>exact λr u i j=>f r u i (l.trans j)
 |bk a h=>exact λr u i j=>f r u i (l.trans j)
 |ct a h=>exact λr u i j=>f r u i (l.trans j)
 |rt v h=>exact λr u i j=>f r u i (l.trans j)
 |exc x a h=>exact XP.le l f
 |rse x a h=>exact XM.le l f
 |bad=>exact f
abbrev mh:=ls->MH->SOut
inductive Oq(X:Cx)(m:mh)(D:Ends)(Z:L2.St)(H:Hp):Prop
 |mk(U:TX)(σp:ls)(h:MH)(rs:RS X.K U H σp Z)(rh:RH X.K X.mg U H h)(q:bA X U H (m σp h) D):Oq X m D Z H
def MS(X:Cx)(st:Stmt)(m:mh):Prop:=PS X st (Oq X m)
def Bw(X:Cx)(st:List Stmt)(m:mh):Prop:=PSs X st (Oq X m)
section
variable{X:Cx}{N W G:TQ}{k:Nat}
structure Good(X:Cx)(N W G:TQ)(k:Nat):Prop where
 hN:X.N=N
 nd:N.Nodup
 loc:∀x∈N,Loc X.env.scope x
 fn:∀x∈W,X.fn x=I\/X.env.scope.names.lookup x=J .local
 gl:∀x∈G,Gl X x
 dbg:∀x∈N++G,(x==("__debug__":Str))=T/\(x==("__classdict__":Str))=T/\x≠"__name__"
 calm:X.calm=I
 room:Room k X.A
 po:PassesOwn (model X.prog X.w) X.A X.env X.xe
def Good.x(g:Good X N W G k){i:Nat}{x:Str}(a:N[i]?=J x):X.N[i]?=J x:=by rw[g.hN];exact a
def aN{l:TQ}{i:Nat}{x:Str}(a:l[i]?=J x):x∈l:=Be a
def rJ(X:Cx)(g:PV->PV->MH->T6):R2:=λa f H Q=>∃U h x y,RH X.K X.mg U H h/\RP X.K U H x a/\RP X.K U H y f/\ja X (RV' X) U H (g x y h) Q
abbrev w6(X:Cx)(f:Value->Value->Sem Value)(g:PV->PV->MH->T6):Prop:=OpR X f (rJ X g)
def uJ(X:Cx)(g:PV->MH->T6):V->Hp->VK->Prop:=λa H Q=>∃U h x,RH X.K X.mg U H h/\RP X.K U H x a/\ja X (RV' X) U H (g x h) Q
abbrev Sk(X:Cx)(f:Value->Sem Value)(g:PV->MH->T6):Prop:=Oo X f (uJ X g)
def cJ(X:Cx)(g:TN->MH->T6):List V->Hp->VK->Prop:=λa H Q=>∃U h xs,RH X.K X.mg U H h/\RPs X.K U H xs a/\ja X (RV' X) U H (g xs h) Q
abbrev cg(X:Cx)(f:Value)(g:TN->MH->T6):Prop:=ci X f (cJ X g)
def ag(i:Nat):Mx PV:=λZ h=>match Z[i]? with
 |some (J v)=>.ok v h
 |_=>.bad
def mC(v:PV):Mx PV:=λ_ h=>.ok v h
def xV(g:Good X N W G k)(i:Nat){x:Str}{j:Pos}(a:N[i]?=J x):ME X (.Name x j) (ag i):=by
 have d:=g.dbg x (xn _ (aN a));have hv:Ol X.env.scope x:=by
  rcases g.loc x (aN a)with q|q
  .exact .inl q
  .exact .inr (.inl q)
 refine PE.imp (F_ (g.x a) hv d.1 d.2.1) λZ H Q ⟨U,l,h,B,z,f⟩=>?_;unfold ag at f
 cases e:l[i]? with
 |none=>rw[e]at f;exact f.elim
 |some o =>
  rw[e]at f
  cases o with
  |none=>exact f.elim
  |some v =>
   obtain⟨u,y,r⟩:=B.2 i v e;exact⟨u,y,f U H u (Le.refl _ _) z r⟩
def aC:ME X (.Constant (.int i) j pos) (mC (.int i)):=PE.imp Ga λ_ H _ ⟨U,_,_,_,a,f⟩=>f U H _ (Le.refl _ _) a (.int i)
def GV:ME X (.Constant (.str i) j pos) (mC (.str i)):=PE.imp Gc λ_ H _ ⟨U,_,_,_,a,f⟩=>f U H _ (Le.refl _ _) a (.str i)
def lc:ME X (.Constant (.bool i) j pos) (mC (.bl i)):=PE.imp KQ λ_ H _ ⟨U,_,_,_,a,f⟩=>f U H _ (Le.refl _ _) a (.bl i)
def GW:ME X (.Constant .none j pos) (mC .non):=PE.imp Gb λ_ H _ ⟨U,_,_,_,a,f⟩=>f U H _ (Le.refl _ _) a .non
def az(f:PV->PV->MH->T6)(l i:Mx PV):Mx PV:=λZ h=>(l Z h).bind λx a=>(i Z a).bind λy j=>(f x y j).ne
def Ly(f:PV->MH->T6)(i:Mx PV):Mx PV:=λZ h=>(i Z h).bind λx a=>(f x a).ne
def si{f:PV->PV->MH->T6}{r l:Mx PV}{Z:L2.St}{H:Hp}{Q:VK}(q:tM X (RV' X) (az f r l) Z H Q):K8 (rJ X f) (tM X (RV' X) r) (tM X (RV' X) l) Z H Q:=by obtain⟨U,a,h,u,C,q⟩:=q;refine⟨U,a,h,u,C,Ful.bind q λS H1 x x' E _ L j R M=>?_⟩;refine⟨S,a,E,u.le L,j,Ful.bind M λz H2 y y' F _ O i B P=>?_⟩;exact⟨z,F,x,y,i,R.le O,B,P.zero⟩
def aL(i:w6 X (binaryOp op) f)(j:ME X a ma)(l:ME X b mb):ME X (.BinOp a op b pos) (az f ma mb) :=
 PE.imp (K9 i j l) λ_ _ _ q=>si q
def Fs(r:Sk X (unaryOp op) f)(z:ME X a ma):ME X (.UnaryOp op a pos) (Ly f ma) :=
 PE.imp (K_ r z) λ_ _ _ ⟨U,j,h,u,E,q⟩=>⟨U,j,h,u,E,Ful.bind q λB L x F l _ H i y C=>⟨B,l,x,i,y,C.zero⟩⟩
def GX(i:w6 X (compareOp op) f)(j:ME X a ma)(l:ME X b mb)(r:behindInMarks op b=T):ME X (.Compare a [op] [b] pos) (az f ma mb) :=
 PE.imp (De i j l r) λ_ _ _ q=>si q
def mB(m:Mx PV):Mx Bool:=λZ h=>(m Z h).bind λv a=>match v with
 |.bl b=>.ok b a
 |_=>.bad
def Lz(q:tM X Lx (mB m) Z H Q):tM X (RV' X) m Z H λx i=>∃c,x=.bl c/\Q c i:=by
 obtain⟨U,a,h,r,l,q⟩:=q;refine⟨U,a,h,r,l,Ful.bind q λy i x B z _ C f u j=>?_⟩
 cases u with
 |bl b=>exact⟨b,rfl,j y i b (Le.refl _ _) f rfl⟩
 |_=>exact j.elim
def xJ(j:w6 X (compareOp op) f)(r:ME X a ma)(u:ME X b mb)(y:behindInMarks op b=T):MT X (.Compare a [op] [b] pos) (mB (az f ma mb)) :=
 PT.imp (Df j r u y) λZ H Q q=>by
  obtain⟨U,i,h,l,z,q⟩:=Lz q;exact si ⟨U,i,h,l,z,q⟩
def sL(h:ME X e m)(f:∀a,isTrue e X.env a=(do let v <-a;standAt e.pos;holding [v] (truthy v)):=by intro _;rfl):MT X e (mB m) :=
 PT.imp (Ge h f) λ_ _ _ q=>Lz q
def rV(m:Mx Bool):Mx Bool:=λZ h=>(m Z h).bind λb a=>.ok (!b) a
def sv(h:MT X e m):MT X (.UnaryOp .Not e pos) (rV m) :=
 PT.imp (Gh h) λ_ _ _ ⟨U,f,h,i,y,q⟩=>⟨U,f,h,i,y,Ful.bind q λl u x B z _ C a j r=>by
  cases j;exact r l u _ (Le.refl _ _) a rfl⟩
def GY(a b:Mx Bool):Mx Bool:=λZ h=>(a Z h).bind λx f=>if x=I then b Z f else .ok T f
def Qt(a b:Mx Bool):Mx Bool:=λZ h=>(a Z h).bind λx f=>if x=I then .ok I f else b Z f
section
variable{a b:Expr}{rest:T5}{ma mb:Mx Bool}{pos:Pos}
def Dq(f:MT X a ma):MW X (.BoolOp .And [a] pos) ma:=C5 f
def GZ(f:MT X a ma):MW X (.BoolOp .Or [a] pos) ma:=Gf f
def G0(u:MT X a ma)(C:MW X (.BoolOp .And (b::rest) pos) mb):MW X (.BoolOp .And (a::b::rest) pos) (GY ma mb) :=
 PW.imp (Gg u C) λZ H Q ⟨U,f,h,l,y,q⟩=>⟨U,f,h,l,y,Ful.bind q λr F x L z _ B i E j=>by
  cases E
  cases x with
  |true=>exact⟨r,f,z,l.le B,i,j⟩
  |false=>exact j r F _ (Le.refl _ _) i rfl⟩
def LA(u:MT X a ma)(C:MW X (.BoolOp .Or (b::rest) pos) mb):MW X (.BoolOp .Or (a::b::rest) pos) (Qt ma mb) :=
 PW.imp (KR u C) λZ H Q ⟨U,f,h,l,y,q⟩=>⟨U,f,h,l,y,Ful.bind q λr F x L z _ B i E j=>by
  cases E
  cases x with
  |true=>exact j r F _ (Le.refl _ _) i rfl
  |false=>exact⟨r,f,z,l.le B,i,j⟩⟩
def MW.mt(h:MW X e m):MT X e m:=PW.pt h
end
def wg(a b:Mx PV):Mx PV:=λZ h=>(a Z h).bind λx f=>match x with
 |.bl c=>if c=I then b Z f else .ok (.bl T) f
 |_=>.bad
def wM(a:Mx PV):Mx PV:=λZ h=>(a Z h).bind λx f=>match x with
 |.bl c=>.ok (.bl (!c)) f
 |_=>.bad
section
variable{a b:Expr}{rest:T5}{ma mb:Mx PV}{pos:Pos}
def G1(f:ME X a ma):ME X (.BoolOp op [a] pos) ma:=Gi f
def G2(u:ME X a ma)(C:ME X (.BoolOp .And (b::rest) pos) mb):ME X (.BoolOp .And (a::b::rest) pos) (wg ma mb) :=
 PE.imp (Gj u C) λZ H Q ⟨U,f,h,l,y,q⟩=>⟨U,f,h,l,y,Ful.bind q λr F x L z _ B i E j=>by
  cases E with
  |bl c =>
   refine⟨c,rfl,?_⟩
   cases c with
   |true=>exact⟨r,f,z,l.le B,i,j⟩
   |false=>exact j r F _ (Le.refl _ _) i (.bl T)
  |_=>exact j.elim⟩
def G3(l:ME X a ma):ME X (.UnaryOp .Not a pos) (wM ma) :=
 PE.imp (Gk l) λZ H Q ⟨U,f,h,u,r,q⟩=>⟨U,f,h,u,r,Ful.bind q λz B x E C _ F i y j=>by
  cases y with
  |bl c=>exact⟨c,rfl,j z B _ (Le.refl _ _) i (.bl _)⟩
  |_=>exact j.elim⟩
end
def h8:Mx (TN):=λ_ h=>.ok [] h
def ao(a:Mx PV)(r:Mx (TN)):Mx (TN):=λZ h=>(a Z h).bind λx f=>(r Z f).bind λxs i=>.ok (x::xs) i
def aP:MA X [] h8:=PA.imp jh λZ H Q ⟨U,f,h,i,a,q⟩=>q U H _ (Le.refl _ _) a .nil
def aE(l:ME X e m)(M:MA X es ms)(O:starEach (e::es) X.env=(T,eval e X.env)::starEach es X.env:=by rfl):MA X (e::es) (ao m ms) :=
 PA.imp (fJ l M O) λZ H Q ⟨U,a,h,j,z,q⟩=>⟨U,a,h,j,z,Ful.bind q λS H1 x x' B _ C i R E =>
  ⟨S,a,B,j.le C,i,Ful.bind E λr F y y' h2 _ L f u P=>P r F _ (Le.refl _ _) f (.cons (R.le L) u)⟩⟩
def o_(xs:TN)(h:MH):T6:=if xs.length<=sizeLine then .ok (.loc h.length) (h++[.lst xs])else .bad
def wj(xs:TN)(h:MH):T6:=if xs.length<=sizeLine then .ok (.tup xs) h else .bad
def lm{U:TX}{H:Hp}{h:MH}{xs:TN}{ys:List V}{Q:VK}(i:RH X.K X.mg U H h)(a:RPs X.K U H xs ys)(f:ja X (RV' X) U H (o_ xs h) Q):ys.length<=sizeLine/\∀p,H p=Y->Q (.ref p) (lf H p (.lst ys)):=by
 unfold o_ at f
 split at f
 .rename_i u
  refine⟨by rw[<-a.length];exact u,λp l=>?_⟩;obtain⟨r,j⟩:=i.new l (o:=.lst xs) ⟨ys,rfl,a⟩;refine f _ _ _ j r (.loc ?_);rw[<-i.len];simp
 .exact f.elim
def vy{U:TX}{H:Hp}{h:MH}{xs:TN}{ys:List V}{Q:VK}(j:RH X.K X.mg U H h)(a:RPs X.K U H xs ys)(f:ja X (RV' X) U H (wj xs h) Q):ys.length<=sizeLine/\∀p,H p=Y->Q (.ref p) (lf H p (.tup ys)):=by
 unfold wj at f
 split at f
 .rename_i u
  refine⟨by rw[<-a.length];exact u,λp l=>?_⟩;obtain⟨r,i⟩:=j.tup l ys;exact f _ _ _ i r (.tup (.inl (.inl bU)) (a.le i))
 .exact f.elim
def G4{a:ls}{U:TX}{H:Hp}{h:MH}{xs:TN}{Q:VK}(f:Ful X (RV' X) a U H (o_ xs h) Q):ja X (RV' X) U H (o_ xs h) Q:=by
 unfold o_ at f ⊢
 split at f
 .rw[b_ (by assumption)];exact f
 .exact f.elim
def G5{a:ls}{U:TX}{H:Hp}{h:MH}{xs:TN}{Q:VK}(f:Ful X (RV' X) a U H (wj xs h) Q):ja X (RV' X) U H (wj xs h) Q:=by
 unfold wj at f ⊢
 split at f
 .rw[b_ (by assumption)];exact f
 .exact f.elim
def d6(m:Mx (TN)):Mx PV:=λZ h=>(m Z h).bind o_
def Dr(m:Mx (TN)):Mx PV:=λZ h=>(m Z h).bind wj
def om(h:MA X es ms):ME X (.List es pos) (d6 ms) :=
 PE.imp (GF h) λZ H Q ⟨U,a,h,l,i,q⟩=>⟨U,a,h,l,i,Ful.bind q λB C x y u _ z f r j=>lm f r (G4 j)⟩
def G6(h:MA X es ms):ME X (.Tuple es j pos) (Dr ms) :=
 PE.imp (GD h) λZ H Q ⟨U,a,h,r,i,q⟩=>⟨U,a,h,r,i,Ful.bind q λC E x z y _ B f u l=>vy f u (G5 l)⟩
def SOut.then(o:SOut)(k:mh):SOut:=match o with
 |.nx Z h=>k Z h
 |o=>o
def aO(a b:mh):mh:=λZ h=>(a Z h).then b
def lB:mh:=λZ h=>.nx Z h
def eY:Bw X [] lB:=PSs.imp C6 λD Z H ⟨U,i,h,a,f,q⟩=>q U H Z (Le.refl _ _) f a
def Ds{st:Stmt}{m:mh}(h:MS X st m):Bw X [st] m:=C7 h
def bA.then{U:TX}{H:Hp}{o:SOut}{k:mh}{D:Ends}(q:bA X U H (o.then k) D):bA X U H o { D with nx:=λZ H=>Oq X k D Z H}:=by
 cases o with
 |nx a h=>exact λf j i l r s=>⟨f,a,h,s,r,bA.le l q⟩
 |_=>exact q
def Ah{st:Stmt}{a:List Stmt}{m u:mh}(i:MS X st m)(j:Bw X a u):Bw X (st::a) (aO m u) :=
 PSs.imp (zK i j) λD Z H ⟨U,f,h,l,r,q⟩=>⟨U,f,h,l,r,bA.then q⟩
def b8(m:Mx PV):mh:=λZ h=>match m Z h with
 |.ok v a=>.rt v a
 |.exc x a=>.exc x Z a
 |.bad=>.bad
def G7(j:ME X e m):MS X (.Return (J e) pos) (b8 m) :=
 PS.imp (Gm j) λD Z H ⟨U,a,h,i,l,q⟩=>⟨U,a,h,i,l,by
  unfold b8 at q
  cases e:m a h with
  |ok v f=>rw[e]at q;exact q
  |exc x f=>rw[e]at q;exact q
  |bad=>rw[e]at q;exact q⟩
def w_{α:Type}(m:Mx α)(k:α->mh):mh:=λZ h=>match m Z h with
 |.ok v a=>k v Z a
 |.exc x a=>.exc x Z a
 |.bad=>.bad
def bA.ex{α β:Type}{R:Rl α β}{m:Mx α}{k:α->mh}{U:TX}{H:Hp}{a:ls}{h:MH}{D:Ends}{Q:β->Hp->Prop}(q:bA X U H (w_ m k a h) D)(w:∀i f v j y,Le U H i f->RH X.K X.mg i f y->R i f v j->bA X i f (k v a y) D->Q j f):Ful X R a U H (m a h) Q:=by
 unfold w_ at q
 cases e:m a h with
 |ok v u=>rw[e]at q;exact λi f j l r z=>w i f v j u l r z (bA.le l q)
 |exc x u=>rw[e]at q;exact q
 |bad=>rw[e]at q;exact q
def gU(m:Mx PV):mh:=w_ m λ_=>lB
def pB{e:Expr}{m:Mx PV}{a:Pos}(y:ME X e m)(B:swapsWith e Y a.line X.env=pure T:=by rfl):MS X (.Expr e a) (gU m) :=
 PS.imp (C8 y B) λD Z H ⟨U,f,h,i,u,q⟩=>⟨U,f,h,i,u,bA.ex q λC j v E F l r z w=>w C j Z (Le.refl _ _) r (i.le l)⟩
def Bi(c:Mx Bool)(a b:mh):mh:=w_ c λx=>if x=I then a else b
def gS{c:Expr}{a b:List Stmt}{y:Mx Bool}{C u:mh}{i:Pos}(M:MT X c y)(F:Bw X a C)(O:Bw X b u):MS X (.If c a b i) (Bi y C u) :=
 PS.imp (K1 M F O) λD Z H ⟨U,f,h,j,L,q⟩=>⟨U,f,h,j,L,bA.ex q λE Q v P B l r z w=>by
  cases z
  cases v with
  |true=>exact⟨E,f,B,j.le l,r,w⟩
  |false=>exact⟨E,f,B,j.le l,r,w⟩⟩
def aZ(i:Nat)(m:Mx PV):mh:=w_ m λv Z h=>.nx (Z.set i (J v)) h
def nD(g:Good X N W G k)(i:Nat){x:Str}{e:Expr}{m:Mx PV}{f a:Pos}(u:N[i]?=J x)(M:W[i]?=J x)(E:ME X e m)(F:swapsWith e (J (.Name x a)) f.line X.env=pure T:=by rfl):
  MS X (.Assign [.Name x a] e f) (aZ i m):=by
 refine PS.imp (Gr (by rw[g.hN];exact g.nd) (g.x u) (g.loc x (aN u)) E F (g.fn x (aN M))) λD Z H ⟨U,j,h,y,C,q⟩=>?_;exact⟨U,j,h,y,C,bA.ex q λL B v O P l r z w=>w L B _ (Le.refl _ _) r ((y.le l).set i z)⟩
end
section
variable{X:Cx}{N W G:TQ}{k:Nat}
abbrev Mg:=PV->mh
def mT(X:Cx)(U:TX)(H:Hp)(o:SOut)(Q:L2.St->Hp->Prop):Prop:=match o with
 |.nx a i=>∀j f l,Le U H j f->RH X.K X.mg j f i->RS X.K j f a l->Q l f
 |.exc x a i=>XP X a U H x i
 |_=>False
def mT.le(l:Le U H U1 H1)(f:mT X U H o Q):mT X U1 H1 o Q:=by
 cases o with
 |nx a h=>exact λr u i j=>f r u i (l.trans j)
 |exc x a h=>exact XP.le l f
 |_=>exact f
inductive tG(X:Cx)(g:Mg)(v':V)(Z:L2.St)(H:Hp)(Q:L2.St->Hp->Prop):Prop
 |mk(U:TX)(σp:ls)(h:MH)(v:PV)(rs:RS X.K U H σp Z)(rh:RH X.K X.mg U H h)(rv:RP X.K U H v v')(q:mT X U H (g v σp h) Q):tG X g v' Z H Q
def MG(X:Cx)(a:Expr)(g:Mg):Prop:=PG X a (tG X g)
def PG.imp(h:PG X e t)(i:∀v Z H Q,t' v Z H Q->t v Z H Q):PG X e t':=λf s Z H v u Q a r q=>h f s Z H v u Q a r (i v Z H Q q)
def AN(i:Nat):Mg:=λv Z h=>.nx (Z.set i (J v)) h
def u3(g:Good X N W G k)(i:Nat)(a:N[i]?=J x)(l:W[i]?=J x):MG X (.Name x pos) (AN i) :=
 PG.imp (ve (by rw[g.hN];exact g.nd) (g.x a) (g.loc x (aN a)) (g.fn x (aN l))) λy Z H Q ⟨U,u,h,v,j,r,f,q⟩=>q U H _ (Le.refl _ _) r (j.set i f)
abbrev Dt:=TN->mh
inductive Sl(X:Cx)(g:Dt)(v':List V)(Z:L2.St)(H:Hp)(Q:L2.St->Hp->Prop):Prop
 |mk(U:TX)(σp:ls)(h:MH)(v:TN)(rs:RS X.K U H σp Z)(rh:RH X.K X.mg U H h)(rv:RPs X.K U H v v')(q:mT X U H (g v σp h) Q):Sl X g v' Z H Q
def LD(X:Cx)(a:T5)(g:Dt):Prop:=PGs X a (Sl X g)
def PGs.imp(h:PGs X e t)(i:∀v Z H Q,t' v Z H Q->t v Z H Q):PGs X e t':=λf s Z H v u Q a r q=>h f s Z H v u Q a r (i v Z H Q q)
def Qu:Dt:=λa Z h=>match a with
 |[]=>.nx Z h
 |_=>.bad
def Ot(a:Mg)(r:Dt):Dt:=λi Z h=>match i with
 |v::f=>(a v Z h).then (r f)
 |[]=>.bad
def Du:LD X [] Qu:=PGs.imp C9 λl Z H Q ⟨U,j,h,v,f,i,a,q⟩=>by
 cases a with
 |nil=>exact⟨rfl,q U H Z (Le.refl _ _) i f⟩
 |cons _ _=>exact q.elim
def zl(i:MG X e a)(B:LD X es r)(E:(assignEach (e::es) X.env).map (·.2)=assign e X.env::(assignEach es X.env).map (·.2):=by rfl):LD X (e::es) (Ot a r) :=
 PGs.imp (zp i B E) λR Z H Q ⟨U,f,h,v,M,u,C,q⟩=>by
  cases C with
  |nil=>exact q.elim
  |@cons x y xs ys O P =>
   refine⟨_,_,rfl,U,f,h,x,M,u,O,?_⟩;dsimp only[Ot]at q
   cases e:a x f h with
   |nx L i=>rw[e]at q;exact λj H' S l F z=>⟨j,L,i,xs,z,F,P.le l,mT.le l q⟩
   |_=>rw[e]at q;exact q
def Ou(r:Dt)(n:Nat):Mg:=λv Z h=>match v with
 |.tup xs=>if xs.length=n then r xs Z h else .bad
 |_=>.bad
def G8(g:Good X N W G k){a:T5}{j:Nat}{r:Dt}{n:Nat}{f:Pos}(h:LD X a r)(B:(assignEach a X.env).length=n:=by rfl)(l:(assignEach a X.env).findIdx? (·.1)=Y:=by rfl):
  MG X (.Tuple a j f) (Ou r n) :=
 PG.imp (Go g.calm h B l) λF Z H Q ⟨U,i,h,v,E,y,C,q⟩=>by
  cases C with
  |tup s u =>
   dsimp only[Ou]at q
   split at q
   .rename_i z
    exact⟨_,_,rfl,s,by rw[<-u.length];exact z,U,i,h,_,E,y,u,q⟩
   .exact q.elim
  |_=>exact q.elim
def pC(m:Mx PV)(g:Mg):mh:=w_ m λv Z h=>match g v Z h with
 |.nx f a=>.nx f a
 |.exc x f a=>.exc x f a
 |_=>.bad
def tJ{f e:Expr}{m:Mx PV}{g:Mg}{i:Pos}(B:ME X e m)(E:MG X f g)(C:swapsWithSole [f] e i.line X.env=pure T:=by rfl)(L:swappedStores [f] e X.env=pure Y:=by rfl)(j:(assignEach [f] X.env).map (·.2)=[assign f X.env]:=by rfl):MS X (.Assign [f] e i) (pC m g) :=
 PS.imp (Gq B E C L j) λD Z H ⟨U,a,h,u,y,q⟩=>⟨U,a,h,u,y,bA.ex q λF O v M j l r z w=>⟨F,a,j,v,u.le l,r,z,by
  cases e:g v a j with
  |_=>rw[e]at w;exact w⟩⟩
def rW(o i v:PV)(h:MH):Option MH:=match o,i with
 |.loc n,.int j=>(match h[n]? with
  |some (.lst xs)=>(wS xs.length j).map λp=>h.set n (.lst (xs.set p v))
  |_=>Y)
 |_,_=>Y
def LF(mo f:Mx PV):Mg:=λv=>w_ mo λo=>w_ f λi Z h=>match rW o i v h with
 |some a=>.nx Z a
 |none=>.bad
def yT(S:ME X o mo)(hi:ME X i mi)(ha:∀v,assign (.Subscript o i pos) X.env v=(do
   let u <-holding [v] (eval o X.env)
   let y <-holding [v,u] (eval i X.env)
   standAt pos
   holding [v,u,y] (setItem u y v)
   release [v,u,y] []):=by intro _;rfl):MG X (.Subscript o i pos) (LF mo mi) :=
 PG.imp (yU S hi Aw ha) λv' Z H Q ⟨U,f,h,v,M,rh,rv,q⟩=>by
  refine⟨U,f,h,M,rh,?_⟩;unfold LF w_ at q
  cases e:mo f h with
  |exc x E=>rw[e]at q;exact q
  |bad=>rw[e]at q;exact q
  |ok u E =>
   rw[e]at q;intro U1 H1 o' r L ro;refine⟨U1,f,E,M.le r,L,?_⟩;dsimp only at q
   cases e2:mi f E with
   |exc x h2=>rw[e2]at q;exact XP.le r q
   |bad=>rw[e2]at q;exact q
   |ok y h2 =>
    rw[e2]at q;intro U2 H2 i' z l ri;have O:=ro.le z;have F:=(rv.le r).le z;unfold rW at q
    cases O with
    |@loc n a R =>
     cases ri with
     |int j =>
      dsimp only at q;obtain⟨ob,eo,C⟩:=l.obj R;rw[eo]at q
      cases ob with
      |dic ab=>exact q.elim
      |exc x=>exact q.elim
      |lst xs =>
       obtain⟨ys,ey,P⟩:=C;dsimp only at q
       cases B:wS xs.length j with
       |none=>rw[B]at q;exact q.elim
       |some p =>
        rw[B]at q;refine⟨a,ys,j,p,rfl,rfl,ey,by rw[<-P.length];exact B,?_⟩;obtain⟨r3,l3⟩:=l.put R (o:=.lst (xs.set p v)) ⟨_,rfl,RPs.set F p P⟩;exact q U2 _ Z (r.trans (z.trans l3)) r3 (M.le (r.trans (z.trans l3)))
     |_=>exact q.elim
    |_=>exact q.elim
structure MIt where
 xs:TN
 gd:List (Nat×TN):=[]
def MIt.ok(a:MIt)(h:MH):Prop:=∀p∈a.gd,h[p.1]?=J (.lst p.2)
def rM(X:Cx):Rl MIt It:=λu y f a=>∀U H h (i:Nat),Le u y U H->RH X.K X.mg U H h->f.ok h ->
 (i<f.xs.length->a.go i H/\∀r j,a.yld i H r j->∃l x,Le U H l j/\RH X.K X.mg l j h/\f.xs[i]?=J x/\RP X.K l j x r)/\(f.xs.length<=i->a.stop i H)
def MI(X:Cx)(f a:Expr)(m:Mx MIt):Prop:=PI X f a (tM X (rM X) m)
def PI.imp(h:PI X tg e t)(i:∀Z H Q,t' Z H Q->t Z H Q):PI X tg e t':=λf s Z H Q a q=>h f s Z H Q a (i Z H Q q)
def v9(i:MIt)(g:Mg)(b:mh):TN->mh
 |[]=>λZ h=>if i.ok h then .nx Z h else .bad
 |x::r=>λZ h=>if i.ok h then (match g x Z h with
   |.nx l j=>(match b l j with
    |.nx f a=>v9 i g b r f a
    |.ct f a=>v9 i g b r f a
    |.bk f a=>.nx f a
    |.rt v a=>.rt v a
    |.exc e f a=>.exc e f a
    |.rse e f a=>.rse e f a
    |.bad=>.bad)
   |.exc e l j=>.exc e l j
   |_=>.bad)else .bad
def iJ(f:Mx MIt)(g:Mg)(b:mh):mh:=w_ f λa=>v9 a g b a.xs
def kA(gd:Good X N W G k)(hi:MI X tg iter mi)(hg:MG X tg g)(hb:Bw X body mb)(hs:∀x,foldedSetIterable iter X.env x=pure x:=by intro _;rfl):MS X (.For tg iter body [] pos) (iJ mi g mb):=by
 refine PS.imp (Gw gd.po gd.calm hi hg hb hs) λD Z H ⟨U,l,h,rs,rh,q⟩=>⟨U,l,h,rs,rh,bA.ex q λS H1 j al h1 l1 ah jr w=>?_⟩;refine⟨λi m Z H=>m=j.xs.length-i/\i<=j.xs.length/\∃U l h,Le S H1 U H/\RS X.K U H l Z/\RH X.K X.mg U H h/\bA X U H (v9 j g mb (j.xs.drop i) l h) D,⟨_,rfl,t_ _,S,l,h1,Le.refl _ _,rs.le l1,ah,w⟩,?_⟩;rintro i m Z2 H2 ⟨rfl,hi,U2,C,R,l2,P,E,r⟩;by_cases u:i<j.xs.length
 .have ed:j.xs.drop i=j.xs[i]::j.xs.drop (i+1):=Fe u;rw[ed]at r;unfold v9 at r
  split at r
  .rename_i hok
   obtain⟨j1,j2⟩:=jr U2 H2 R i l2 E hok;obtain⟨go,yl⟩:=j1 u;refine .inr ⟨go,λZ3 O=>∃Q B h3,Le S H1 Q O/\RS X.K Q O B Z3/\RH X.K X.mg Q O h3/\bA X Q O (v9 j g mb (j.xs.drop (i+1)) B h3) D,λZ3 O z=>⟨_,by ext,rfl,u,z⟩,λx' H' y=>?_⟩;obtain⟨U',x,l',ab,ex,rx⟩:=yl x' H' y;have aj:x=j.xs[i]:=by rw[BE u]at ex;exact(Option.some.inj ex).symm
   subst aj;refine⟨U',C,R,_,P.le l',ab,rx,?_⟩;have f:=bA.le l' r
   cases eg:g j.xs[i] C R with
   |nx Z4 h4 =>
    rw[eg]at f;intro U5 H5 Z5 l5 r5 s5;refine⟨U5,Z4,h4,s5,r5,?_⟩;have a:=bA.le l5 f;have l6:Le S H1 U5 H5:=l2.trans (l'.trans l5);dsimp only at a
    cases em:mb Z4 h4 with
    |nx L F=>rw[em]at a;exact λU7 H7 Z7 M r7 s7=>⟨U7,L,F,l6.trans M,s7,r7,bA.le M a⟩
    |ct L F=>rw[em]at a;exact λU7 H7 Z7 M r7 s7=>⟨U7,L,F,l6.trans M,s7,r7,bA.le M a⟩
    |bk L F=>rw[em]at a;exact a
    |rt v F=>rw[em]at a;exact a
    |exc e L F=>rw[em]at a;exact a
    |rse e L F=>rw[em]at a;exact a
    |bad=>rw[em]at a;exact a
   |exc e Z4 h4=>rw[eg]at f;exact f
   |_=>rw[eg]at f;exact f.elim
  .exact r.elim
 .have e:i=j.xs.length:=by ext
  rw[e,PF]at r;unfold v9 at r
  split at r
  .rename_i hok
   obtain⟨j1,j2⟩:=jr U2 H2 R i l2 E hok;exact .inl ⟨j2 (by ext),r U2 H2 Z2 (Le.refl _ _) E P⟩
  .exact r.elim
def Ft(v:PV)(h:MH):Out MIt:=match v with
 |.loc n=>(match h[n]? with
  |some (.lst xs)=>.ok ⟨xs,[(n,xs)]⟩ h
  |_=>.bad)
 |.frl xs=>.ok ⟨xs,[]⟩ h
 |_=>.bad
def LG(m:Mx PV):Mx MIt:=λZ h=>(m Z h).bind Ft
def uX(M:∀f j h,Le U H f j->RH X.K X.mg f j h->(⟨xs,gd⟩:MIt).ok h->∃ys,SqL X.K j a ys/\RPs X.K f j xs ys):rM X U H ⟨xs,gd⟩ (Qd X.K a):=by
 intro f j h i l C ok;obtain⟨ys,u,F⟩:=M f j h l C ok;refine⟨λr=>?_,λr=>⟨ys,u,by rw[<-F.length];exact r⟩⟩;have E:=BE r;obtain⟨y,B,L⟩:=F.get E;refine⟨⟨ys,y,u,B⟩,λO P ⟨e,z⟩=>?_⟩;subst e
 have:=z ys u
 rw[B]at this;cases this;exact⟨f,_,Le.refl _ _,C,E,L⟩
def Dv(S:ME X l m):MI X tg l (LG m) :=
 PI.imp (C_ S) λZ H Q ⟨U,B,h,rs,P,q⟩=>⟨U,B,h,rs,P,Ful.bind q λE F x x' h1 _ l1 i rx f=>by
  cases rx with
  |@loc n a e =>
   obtain⟨ob,eo,y⟩:=i.obj e;dsimp only[Ft]at f;rw[eo]at f
   cases ob with
   |dic ab=>exact f.elim
   |exc x=>exact f.elim
   |lst xs =>
    obtain⟨ys,M,ry⟩:=y;refine⟨a,rfl,⟨ys,SqL.of M⟩,f E F _ (Le.refl _ _) i (uX λO R L l j ok=>?_)⟩;obtain⟨C,u,z⟩:=j.at' n a _ (l.get e) (ok (n,xs) (by simp));exact⟨C,SqL.of u,z⟩
  |frl s r =>
   exact⟨_,rfl,⟨_,s.sq⟩,f E F _ (Le.refl _ _) i (uX λO R L l j ok=>⟨_,(l.sqf s).sq,r.le l⟩)⟩
  |_=>exact f.elim⟩
def LH(m:Mx PV):Mx MIt:=λZ h=>(m Z h).bind λv a=>match v with
 |.tup xs=>.ok ⟨xs,[]⟩ a
 |_=>.bad
def G9(R:ME X l m):MI X tg l (LH m) :=
 PI.imp (Gu R) λZ H Q ⟨U,u,h,rs,P,q⟩=>⟨U,u,h,rs,P,Ful.bind q λU1 H1 x S h1 _ l1 B rx F=>by
  cases rx with
  |@tup xs a ys s r =>
   refine⟨_,rfl,⟨_,s⟩,F U1 H1 _ (Le.refl _ _) B ?_⟩;intro O H' h' i l C ok;have j:=l.sqt s;have r':=r.le l;refine⟨λf=>?_,λf=>⟨ys,j,by rw[<-r.length];exact f⟩⟩;have L:=BE f;obtain⟨y,E,M⟩:=r'.get L;refine⟨⟨ys,y,j,E⟩,λS H2 ⟨e,z⟩=>?_⟩;subst e
   have:=z ys j
   rw[E]at this;cases this;exact⟨O,_,Le.refl _ _,C,L,M⟩
  |_=>exact F.elim⟩
def bG(lo:Int)(n:Nat):TN:=(List.range n).map λ(i:Nat)=>PV.int (lo+(i:Int))
def wk(lo:Int)(n:Nat):(bG lo n).length=n:=by simp[bG]
def Dw(lo:Int)(n:Nat):rM X U H ⟨bG lo n,[]⟩ (Om lo n):=by intro r z h i l j ok;have f:=wk lo n;refine⟨λa=>⟨by rw[f]at a;exact a,λu y ⟨e1,e2⟩=>?_⟩,λa=>by rw[f]at a;exact a⟩;subst e1;subst e2;rw[f]at a;exact⟨r,.int (lo+i),Le.refl _ _,j,by simp[bG,a],.int _⟩
def jV(m:Mx (TN)):Mx MIt:=λZ h=>(m Z h).bind λf a=>match f with
 |[.int j]=>if -(2^62)<=j/\j<2^62 then .ok ⟨bG 0 j.toNat,[]⟩ a else .bad
 |_=>.bad
def qB(F:Gl X "range")(B:X.mg "range"=Y)(y:MA X [a] m)(E:starEach [a] X.env=[(T,eval a X.env)]:=by rfl):MI X tg (.Call (.Name "range" p) [a] [] pos) (jV m):=by
 refine PI.imp (zg F B y E) λZ H Q ⟨U,i,h,L,C,q⟩=>⟨U,i,h,L,C,Ful.bind q λO P x S R _ l1 l M f=>?_⟩
 cases M with
 |nil=>exact f.elim
 |cons u z =>
  cases z with
  |nil =>
   cases u with
   |int j =>
    dsimp only at f
    split at f
    .rename_i r
     exact⟨j,rfl,r.1,r.2,f O P _ (Le.refl _ _) l (Dw 0 j.toNat)⟩
    .exact f.elim
   |_=>exact f.elim
  |cons r2 t2=>cases u<;>exact f.elim
def cj(c:Mx Bool)(b:mh):Nat->mh
 |0=>λ_ _=>.bad
 |n+1=>w_ c λx=>if x=I then (λZ h=>match b Z h with
   |.nx f a=>cj c b n f a
   |.ct f a=>cj c b n f a
   |.bk f a=>.nx f a
   |.rt v a=>.rt v a
   |.exc e f a=>.exc e f a
   |.rse e f a=>.rse e f a
   |.bad=>.bad)else lB
def G_(c:Mx Bool)(b:mh):mh:=λZ h=>if z:∃n,cj c b n Z h≠.bad then cj c b (Classical.choose z) Z h else .bad
def kc:∀{n:Nat}{Z:ls}{h:MH},cj c b n Z h≠.bad->cj c b (n+1) Z h=cj c b n Z h
 |n+1,Z,h,q=>by
  rw[cj]at q;rw[cj]
  conv=>rhs;rw[cj]
  unfold w_ at q ⊢
  cases e:c Z h with
  |exc x a=>rfl
  |bad=>rfl
  |ok x a =>
   rw[e]at q
   cases x with
   |false=>rfl
   |true =>
    simp only[if_true]at q ⊢
    cases em:b Z a with
    |nx i f=>rw[em]at q;exact kc q
    |ct i f=>rw[em]at q;exact kc q
    |_=>rfl
def vL(q:cj c b n Z h≠.bad)(l:n<=m):cj c b m Z h=cj c b n Z h:=by
 induction l with
 |refl=>rfl
 |step l a=>rw[kc (by rw[a];exact q),a]
def gu(q:cj c b n Z h≠.bad):G_ c b Z h=cj c b n Z h:=by
 have z:∃n,cj c b n Z h≠.bad:=⟨n,q⟩;unfold G_;rw[dif_pos z];have a:=Classical.choose_spec z;rcases Nat.le_total n (Classical.choose z)with l|l
 .exact vL q l
 .exact (vL a l).symm
def zI(gd:Good X N W G k)(hc:MT X c mc)(hb:Bw X body mb):MS X (.While c body [] pos) (G_ mc mb):=by
 refine PS.imp (Av gd.po hc hb) λD Z H ⟨U,a,h,rs,R,q⟩=>?_;refine⟨λm Z H=>∃U a h,RS X.K U H a Z/\RH X.K X.mg U H h/\bA X U H (cj mc mb m a h) D,?_,?_⟩
 .unfold G_ at q
  split at q
  .exact⟨_,U,a,h,rs,R,q⟩
  .exact q.elim
 .rintro m Z1 H1 ⟨U1,f,S,j,y,L⟩
  cases m with
  |zero=>exact L.elim
  |succ m =>
   refine⟨U1,f,S,j,y,bA.ex L λE H2 v v' F M O z w=>?_⟩;cases z
   cases v with
   |false=>exact w E H2 Z1 (Le.refl _ _) O (j.le M)
   |true =>
    rw[b_ rfl]at w ⊢;refine⟨λZ H=>∃U a h,RS X.K U H a Z/\RH X.K X.mg U H h/\bA X U H (cj mc mb m a h) D,λZ' H' z=>⟨m,J5 _,z⟩,E,f,F,j.le M,O,?_⟩
    cases em:mb f F with
    |nx l i=>rw[em]at w;exact λC P Q r u B=>⟨C,l,i,B,u,bA.le r w⟩
    |ct l i=>rw[em]at w;exact λC P Q r u B=>⟨C,l,i,B,u,bA.le r w⟩
    |bk l i=>rw[em]at w;exact w
    |rt v i=>rw[em]at w;exact w
    |exc e l i=>rw[em]at w;exact w
    |rse e l i=>rw[em]at w;exact w
    |bad=>rw[em]at w;exact w
def cB(f:PV->Option PyData):TN->Option (List PyData)
 |[]=>J []
 |x::r=>match f x,cB f r with
  |some d,J a=>J (d::a)
  |_,_=>Y
def rd:Nat->MH->PV->Option PyData
 |0,_,v=>(match v with
  |.non=>J .none
  |.bl b=>J (.bool b)
  |.int i=>J (.int i)
  |.str x=>J (.str x)
  |_=>Y)
 |n+1,h,v=>(match v with
  |.non=>J .none
  |.bl b=>J (.bool b)
  |.int i=>J (.int i)
  |.str x=>J (.str x)
  |.tup xs=>(cB (rd n h) xs).map PyData.tuple
  |.frl xs=>(cB (rd n h) xs).map PyData.list
  |.loc m=>(match h[m]? with
   |some (.lst xs)=>(cB (rd n h) xs).map PyData.list
   |_=>Y))
def f8{l:Heap}{f:PV->Option PyData}{K:hU}{U:TX}{H:Hp}(hf:∀v y u d,RP K U H v y->aS y u->f v=J d->∃j,Reads l u d j):
  ∀{xs:TN}{ys:List V}{a:TZ}{i:List PyData},RPs K U H xs ys->aD ys a->cB f xs=J i->∃j,ReadsAll l a i j:=by
 intro xs
 induction xs with
 |nil =>
  intro ys a i r v e;cases r;cases v;cases e;exact⟨_,.nil⟩
 |cons x xs z =>
  intro ys a i r v e;cases r with|cons r t=>cases v with|cons v w =>
  simp only[cB]at e
  split at e
  .rename_i d E e1 e2
   cases e;obtain⟨F,B⟩:=hf _ _ _ _ r v e1;obtain⟨L,C⟩:=z t w e2;exact⟨_,.cons B C⟩
  .cases e
def fR{S:T0}{Z:L2.St}{H:Hp}{s:Shared}{U:TX}{h:MH}(f:Inv X S Z H s)(P:RH X.K X.mg U H h):
  ∀(n:Nat)(v:PV)(z:V)(u:Value)(d:PyData),RP X.K U H v z->aS z u->rd n h v=J d->∃B,Reads s.heap u d B:=by
 intro n
 induction n with
 |zero =>
  intro v z u d rp r e
  cases rp with
  |non=>cases e;cases r;exact⟨_,.none⟩
  |bl b=>cases e;cases r;exact⟨_,.bool b⟩
  |int i=>cases e;obtain⟨t,rfl⟩:=r;exact⟨_,.int i t⟩
  |str i=>cases e;obtain⟨t,rfl⟩:=r;exact⟨_,.str i t⟩
  |_=>cases e
 |succ n C =>
  intro v z u d rp r e
  cases rp with
  |non=>cases e;cases r;exact⟨_,.none⟩
  |bl b=>cases e;cases r;exact⟨_,.bool b⟩
  |int i=>cases e;obtain⟨t,rfl⟩:=r;exact⟨_,.int i t⟩
  |str i=>cases e;obtain⟨t,rfl⟩:=r;exact⟨_,.str i t⟩
  |@tup xs a ys s F =>
   cases r;simp only[rd]at e
   cases q:cB (rd n h) xs with
   |none=>rw[q]at e;cases e
   |some L =>
    rw[q]at e;cases e;obtain⟨y,j,⟨o,e1,e2,m,e3⟩,_⟩:=f.tuple s;obtain⟨B,l⟩:=f8 (C) F j q;exact⟨_,.tuple e1 e2 e3 (by simpa using l)⟩
  |@frl xs a ys s F =>
   cases r;simp only[rd]at e
   cases q:cB (rd n h) xs with
   |none=>rw[q]at e;cases e
   |some L =>
    rw[q]at e;cases e;obtain⟨y,j,⟨o,m,e1,e2,_,e3⟩,_⟩:=f.list s.sq;obtain⟨B,l⟩:=f8 (C) F j q;exact⟨_,.list e1 e2 e3 (by simpa using l)⟩
  |loc en =>
   cases r;simp only[rd]at e;obtain⟨R,Q,E⟩:=P.obj en;rw[Q]at e
   cases R with
   |dic ks xs=>cases e
   |exc x=>cases e
   |lst xs =>
    obtain⟨ys,M,O⟩:=E;dsimp only at e
    cases q:cB (rd n h) xs with
    |none=>rw[q]at e;cases e
    |some L =>
     rw[q]at e;cases e;obtain⟨y,j,⟨o,m',e1,e2,_,e3⟩,_⟩:=f.list (SqL.of M);obtain⟨B,l⟩:=f8 (C) O j q;exact⟨_,.list e1 e2 e3 (by simpa using l)⟩
def u0(x y:PV)(h:MH):T6:=match rd 60 h x,rd 60 h y with
 |some a,J b=>if SeqAt.shaped a=I/\SeqAt.shaped b=I then .ok (.bl (PyData.eqv a b)) h else .bad
 |_,_=>.bad
def Az(x y:PV)(h:MH):T6:=match rd 60 h x,rd 60 h y with
 |some a,J b=>if SeqAt.shaped a=I/\SeqAt.shaped b=I then .ok (.bl (!PyData.eqv a b)) h else .bad
 |_,_=>.bad
def rE(F:Room k X.A):w6 X (compareOp .Eq) u0:=by
 intro R s Z H B C u v Q f l j ⟨U,h,x,y,i,M,z,q⟩;unfold u0 at q
 split at q
 .rename_i a b O E
  split at q
  .rename_i r
   obtain⟨_,L⟩:=fR f i 60 x B u a M l O;obtain⟨_,P⟩:=fR f i 60 y C v b z j E;exact eq_dataH L P r.1 r.2 F.units ⟨.bl _,H,f,rfl,q U H _ (Le.refl _ _) i (.bl _)⟩
  .exact q.elim
 .exact q.elim
def xm(F:Room k X.A):w6 X (compareOp .NotEq) Az:=by
 intro R s Z H B C u v Q f l j ⟨U,h,x,y,i,M,z,q⟩;unfold Az at q
 split at q
 .rename_i a b O E
  split at q
  .rename_i r
   obtain⟨_,L⟩:=fR f i 60 x B u a M l O;obtain⟨_,P⟩:=fR f i 60 y C v b z j E;exact ne_dataH L P r.1 r.2 F.units ⟨.bl _,H,f,rfl,q U H _ (Le.refl _ _) i (.bl _)⟩
  .exact q.elim
 .exact q.elim
def m9(f:Int->Int->PV):PV->PV->MH->T6:=λx y h=>match x,y with
 |.int i,.int j=>.ok (f i j) h
 |_,_=>.bad
def nq(z:OpR X F (Db f))(OT:∀U H i j,RP X.K U H (g i j) (f i j)):w6 X F (m9 g):=by
 intro E s Z H M O u v Q l r a ⟨U,h,x,y,C,L,B,q⟩;unfold m9 at q
 split at q
 .cases L;cases B;exact z E s Z H _ _ u v Q l r a ⟨_,_,rfl,rfl,q U H _ (Le.refl _ _) C (OT U H _ _)⟩
 .exact q.elim
def Ck:=m9 λi j=>.bl (decide (i<j))
def Ha:=m9 λi j=>.bl (decide (i<=j))
def Cm:=m9 λi j=>.bl (decide (j<i))
def Co:=m9 λi j=>.bl (decide (j<=i))
def Fv:w6 X (compareOp .Lt) Ck:=nq Lb λ_ _ _ _=>.bl _
def LJ:w6 X (compareOp .LtE) Ha:=nq Lc λ_ _ _ _=>.bl _
def Fw:w6 X (compareOp .Gt) Cm:=nq Ld λ_ _ _ _=>.bl _
def LK:w6 X (compareOp .GtE) Co:=nq Lf λ_ _ _ _=>.bl _
def LL(a:Bool):PV->PV->MH->T6:=λx y h=>match y with
 |.non=>(match x with
  |.non=>.ok (.bl (!a)) h
  |_=>.ok (.bl a) h)
 |.bl b=>(match x with
  |.bl c=>.ok (.bl (if a then !(c==b)else c==b)) h
  |.non=>.ok (.bl a) h
  |.int _=>.ok (.bl a) h
  |.str _=>.ok (.bl a) h
  |.tup _=>.ok (.bl a) h
  |_=>.bad)
 |_=>.bad
def ki(x y:PV)(h:MH):T6:=match x,y with
 |.int i,.int j=>if IntMulOk i j then .ok (.int (i*j)) h else .bad
 |.loc n,.int j=>(match h[n]? with
  |some (.lst xs)=>if -(2^63)<=j/\j<2^63 then o_ (List.flatten (List.replicate j.toNat xs)) h else .bad
  |_=>.bad)
 |_,_=>.bad
def AC(x y:PV)(h:MH):T6:=match x,y with
 |.int i,.int j=>if j≠0/\Builtin.divisionGoesByPylong i j=T then .ok (.int (i.fdiv j)) h else .bad
 |_,_=>.bad
def lT(x y:PV)(h:MH):T6:=match x,y with
 |.int i,.int j=>if j≠0 then .ok (.int (i.fmod j)) h else .bad
 |_,_=>.bad
def q7(x y:PV)(h:MH):T6:=match x,y with
 |.int i,.int j=>if iF i j then .ok (.int (i^j.toNat)) h else .bad
 |_,_=>.bad
def kx(x y:PV)(h:MH):T6:=match x,y with
 |.int i,.int j=>.ok (.int (i+j)) h
 |.str a,.str b=>if a.length+b.length<=sizeLine then .ok (.str (a++b)) h else .bad
 |.loc n,.loc m=>(match h[n]?,h[m]? with
  |some (.lst xs),J (.lst ys)=>o_ (xs++ys) h
  |_,_=>.bad)
 |.tup xs,.tup ys=>if xs≠[]then wj (xs++ys) h else .bad
 |_,_=>.bad
def xv:=m9 λi j=>.int (i-j)
def BJ(x:PV)(h:MH):T6:=match x with
 |.int i=>.ok (.int (-i)) h
 |_=>.bad
def kf:w6 X (binaryOp .Sub) xv:=nq Gz λ_ _ _ _=>.int _
def xT:Sk X (unaryOp .USub) BJ:=by
 intro j s Z H y u Q a f ⟨U,h,x,r,l,q⟩
 cases l with
 |int i=>exact GB j s Z H _ u Q a f ⟨i,rfl,q U H _ (Le.refl _ _) r (.int _)⟩
 |_=>exact q.elim
def rB:w6 X (binaryOp .FloorDiv) AC:=by
 intro F s Z H B C u v Q f i a ⟨U,h,x,y,r,z,l,q⟩;unfold AC at q
 split at q
 .cases z;cases l
  split at q
  .rename_i j
   obtain⟨t,rfl⟩:=i;obtain⟨E,rfl⟩:=a;exact floordiv_int j.1 ⟨.int _,H,f.tok _,⟨_,rfl⟩,q U H _ (Le.refl _ _) r (.int _)⟩ (.inl j.2)
  .exact q.elim
 .exact q.elim
def d9:w6 X (binaryOp .Mod) lT:=by
 intro F s Z H B C u v Q f i a ⟨U,h,x,y,l,z,j,q⟩;unfold lT at q
 split at q
 .cases z;cases j
  split at q
  .rename_i r
   obtain⟨t,rfl⟩:=i;obtain⟨E,rfl⟩:=a;exact mod_int' r ⟨.int _,H,f.tok _,⟨_,rfl⟩,q U H _ (Le.refl _ _) l (.int _)⟩
  .exact q.elim
 .exact q.elim
def yu:w6 X (binaryOp .Pow) q7:=by
 intro C s Z H F L u v Q f l a ⟨U,h,x,y,z,E,r,q⟩;unfold q7 at q
 split at q
 .rename_i i j
  cases E;cases r
  split at q
  .rename_i B
   exact GA C s Z H _ _ u v Q f l a ⟨i,j,rfl,rfl,B,q U H _ (Le.refl _ _) z (.int _)⟩
  .exact q.elim
 .exact q.elim
def cV:w6 X (binaryOp .Add) kx:=by
 intro L s Z H x' y' u v Q l r f ⟨U,h,x,y,B,rx,C,q⟩
 cases rx with
 |int i =>
  cases C with
  |int j=>exact Gy L s Z H _ _ u v Q l r f ⟨i,j,rfl,rfl,q U H _ (Le.refl _ _) B (.int _)⟩
  |_=>exact q.elim
 |str a =>
  cases C with
  |str b =>
   dsimp only[kx]at q
   split at q
   .rename_i hl
    exact w8 L s Z H _ _ u v Q l r f ⟨a,b,rfl,rfl,hl,q U H _ (Le.refl _ _) B (.str _)⟩
   .exact q.elim
  |_=>exact q.elim
 |@loc n a e =>
  cases C with
  |@loc m b e2 =>
   dsimp only[kx]at q;obtain⟨o1,h1,E⟩:=B.obj e;obtain⟨o2,h2,F⟩:=B.obj e2;rw[h1,h2]at q
   cases o1 with
   |dic ks xs=>exact q.elim
   |exc x=>exact q.elim
   |lst xs =>
    cases o2 with
    |dic ks xs=>exact q.elim
    |exc x=>exact q.elim
    |lst ys =>
     obtain⟨M,ex,P⟩:=E;obtain⟨ab,ey,O⟩:=F;obtain⟨R,z2⟩:=lm B (P.append O) q;exact GP L s Z H _ _ u v Q l r f ⟨a,b,M,ab,rfl,rfl,ex,ey,by rw[<-wO];exact R,z2⟩
  |_=>exact q.elim
 |tup s1 E =>
  cases C with
  |tup s2 F =>
   dsimp only[kx]at q
   split at q
   .rename_i S
    obtain⟨R,z2⟩:=vy B (E.append F) q;refine Dl L s Z H _ _ u v Q l r f ⟨_,_,_,_,rfl,rfl,s1,s2,?_,by rw[<-wO];exact R,λz=>?_,λ_=>z2⟩
    .rintro rfl;cases E;exact S rfl
    .subst z;cases F;unfold wj at q
     split at q
     .exact q U H _ (Le.refl _ _) B (by rw[F3];exact .tup s1 E)
     .exact q.elim
   .exact q.elim
  |_=>exact q.elim
 |_=>cases C<;>exact q.elim
def RPs.rep{K:hU}{U:TX}{H:Hp}{xs:TN}{ys:List V}(r:RPs K U H xs ys):∀n:Nat,RPs K U H (List.replicate n xs).flatten (List.replicate n ys).flatten
 |0=>.nil
 |n+1=>by exact r.append (RPs.rep r n)
def fb:w6 X (binaryOp .Mult) ki:=by
 intro Lo s Z H x' y' u v Q l r f ⟨U,h,x,y,B,rx,z,q⟩
 cases rx with
 |int i =>
  cases z with
  |int j =>
   dsimp only[ki]at q
   split at q
   .rename_i M
    obtain⟨t,rfl⟩:=r;obtain⟨t',rfl⟩:=f;exact PyProof.Rows.mul_int ⟨.int _,H,l.tok _,⟨_,rfl⟩,q U H _ (Le.refl _ _) B (.int _)⟩ M
   .exact q.elim
  |_=>exact q.elim
 |@loc n a e =>
  cases z with
  |int j =>
   dsimp only[ki]at q;obtain⟨P,O,S⟩:=B.obj e;rw[O]at q
   cases P with
   |dic ks xs=>exact q.elim
   |exc x=>exact q.elim
   |lst xs =>
    dsimp only at q
    split at q
    .rename_i F
     obtain⟨C,ex,E⟩:=S;obtain⟨L,R⟩:=lm B (E.rep j.toNat) q;refine GQ Lo s Z H _ _ u v Q l r f ⟨a,j,C,rfl,rfl,ex,F.1,F.2,?_,R⟩;rw[vi]at L;rw[Nat.mul_comm];exact L
    .exact q.elim
  |_=>exact q.elim
 |_=>cases z<;>exact q.elim
def kU{f:T0}{Z:L2.St}{H:Hp}{s:Shared}{Q:VK}{x':V}{u:Value}{b c:Bool}(a:Inv X f Z H s)(r:aS x' u)(i:plainIs u (.bool b)=I)(j:(!(u == .bool b))=c)(q:Q (.bl c) H):
  wpAny (model X.prog X.w) X.A (compareOp .IsNot u (.bool b)) (EP X f Z Q) X.xe s:=by
 exact d_ (wpAny_isSame_plain i (ii (by rw[j];exact⟨.bl c,H,a,rfl,q⟩)))
def Hb:w6 X (compareOp .IsNot) (LL I):=by
 intro B s Z H E F u v Q a f l ⟨U,h,x,y,j,r,z,q⟩
 cases z with
 |non =>
  refine Dd B s Z H _ _ u v Q a f l ⟨rfl,?_⟩;cases r<;>exact q U H _ (Le.refl _ _) j (by first | exact .bl I | exact .bl T)
 |bl b =>
  cases l
  cases r with
  |non=>cases f;exact kU (x':=.non) a rfl (by cases b<;>rfl) (by cases b<;>rfl) (q U H _ (Le.refl _ _) j (.bl I))
  |bl c=>cases f;exact kU (x':=.bl c) a rfl (by cases b<;>cases c<;>rfl) (by cases b<;>cases c<;>rfl) (q U H _ (Le.refl _ _) j (.bl _))
  |int i=>obtain⟨t,rfl⟩:=f;exact kU (x':=.int i) a ⟨_,rfl⟩ (by cases b<;>rfl) (by cases b<;>rfl) (q U H _ (Le.refl _ _) j (.bl I))
  |str i=>obtain⟨t,rfl⟩:=f;exact kU (x':=.str i) a ⟨_,rfl⟩ (by cases b<;>rfl) (by cases b<;>rfl) (q U H _ (Le.refl _ _) j (.bl I))
  |tup C L=>cases f;exact kU (x':=.ref _) a rfl (by cases b<;>rfl) (by cases b<;>rfl) (q U H _ (Le.refl _ _) j (.bl I))
  |_=>exact q.elim
 |_=>exact q.elim
def bI(x y:PV)(h:MH):T6:=match y with
 |.int i=>(match x with
  |.loc n=>(match h[n]? with
   |some (.lst xs)=>(match n_ xs i with
    |some v=>.ok v h
    |none=>.bad)
   |_=>.bad)
  |.tup xs=>(match n_ xs i with
   |some v=>.ok v h
   |none=>.bad)
  |.frl xs=>(match n_ xs i with
   |some v=>.ok v h
   |none=>.bad)
  |.str z=>(match n_ z.cps.toList i with
   |some c=>if z.length<=sizeLine then .ok (.str ⟨#[c]⟩) h else .bad
   |none=>.bad)
  |_=>.bad)
 |_=>.bad
def pE{K:hU}{U:TX}{H:Hp}{xs:TN}{ys:List V}{i:Int}{v:PV}(r:RPs K U H xs ys)(e:n_ xs i=J v):∃a,n_ ys i=J a/\RP K U H v a:=by
 unfold n_ at e ⊢;rw[<-r.length]
 cases q:wS xs.length i with
 |none=>rw[q]at e;cases e
 |some j =>
  rw[q]at e;exact r.get e
def Fx{a b:Expr}{ma mb:Mx PV}{P:Pos}(ha:ME X a ma)(hb:ME X b mb)(hs:lH b):ME X (.Subscript a b P) (az bI ma mb):=by
 refine PE.imp (Ln GL ha hb hs) λZ H Q q=>?_;obtain⟨U,B,h,rs,rh,q⟩:=q;refine⟨U,B,h,rs,rh,Ful.bind q λU1 H1 x x' h1 _ l1 S rx q1=>⟨U1,B,h1,rs.le l1,S,Ful.bind q1 λF L y y' h2 _ l2 l ry f=>?_⟩⟩;have R:=rx.le l2
 cases ry with
 |int i =>
  cases R with
  |@loc n a e =>
   obtain⟨ob,eo,M⟩:=l.obj e;dsimp only[bI]at f;rw[eo]at f
   cases ob with
   |dic ks xs=>exact f.elim
   |exc x=>exact f.elim
   |lst xs =>
    obtain⟨ys,ey,E⟩:=M;dsimp only at f
    cases j:n_ xs i with
    |none=>rw[j]at f;exact f.elim
    |some v =>
     rw[j]at f;obtain⟨u,r,C⟩:=pE E j;exact .inl ⟨a,ys,i,u,rfl,rfl,SqL.of ey,r,f F L _ (Le.refl _ _) l C⟩
  |@tup xs a ys O E =>
   dsimp only[bI]at f
   cases j:n_ xs i with
   |none=>rw[j]at f;exact f.elim
   |some v =>
    rw[j]at f;obtain⟨u,r,C⟩:=pE E j;exact .inr (.inl ⟨_,_,i,u,rfl,rfl,O,r,f F L _ (Le.refl _ _) l C⟩)
  |@frl xs a ys O E =>
   dsimp only[bI]at f
   cases j:n_ xs i with
   |none=>rw[j]at f;exact f.elim
   |some v =>
    rw[j]at f;obtain⟨u,r,C⟩:=pE E j;exact .inl ⟨_,_,i,u,rfl,rfl,O.sq,r,f F L _ (Le.refl _ _) l C⟩
  |str z =>
   dsimp only[bI]at f
   cases j:n_ z.cps.toList i with
   |none=>rw[j]at f;exact f.elim
   |some c =>
    rw[j]at f;dsimp only at f
    split at f
    .rename_i hz
     exact .inr (.inr ⟨z,i,c,rfl,rfl,hz,j,f F L _ (Le.refl _ _) l (.str _)⟩)
    .exact f.elim
  |_=>exact f.elim
 |_=>exact f.elim
def v2(f:TN->MH->T6)(m:Mx (TN)):Mx PV:=λZ h=>(m Z h).bind λxs a=>(f xs a).ne
section
variable{x:Str}{id T:String}{e:Expr}{es:T5}{f:TN->MH->T6}{m:Mx (TN)}{p pos:Pos}
def Fy{Z:L2.St}{H:Hp}{Q:VK}(q:tM X (RV' X) (v2 f m) Z H Q):Ql (cJ X f) (tM X (RVs' X) m) Z H Q:=by obtain⟨U,a,h,u,j,q⟩:=q;exact⟨U,a,h,u,j,Ful.bind q λz E x B l _ C i y r=>⟨z,l,x,i,y,r.zero⟩⟩
def tF(g:Good X N W G k)(j:Nat)(i:G[j]?=J x)(y:cg X (.builtin id) f)(u:X.mg x=Y)(hv:bootBuiltins x=J (.builtin id))(l:MA X (e::es) m)(r:starEach (e::es) X.env=(false,eval e X.env)::starEach es X.env:=by rfl)(a:(backTo pos (starEach es X.env)).any (·.1)=false:=by rfl):ME X (.Call (.Name x p) (e::es) [] pos) (v2 f m) :=
 have d:=g.dbg x (q0 _ (aN i))
 PE.imp (jA y (g.gl x (aN i)) u hv l d.2.2 d.1 r a) λ_ _ _ q=>Fy q
def yH(g:Good X N W G k)(j:Nat)(i:G[j]?=J x)(y:cg X (.type T) f)(u:X.mg x=Y)(hv:bootBuiltins x=J (.type T))(l:MA X (e::es) m)(r:starEach (e::es) X.env=(false,eval e X.env)::starEach es X.env:=by rfl)(a:(backTo pos (starEach es X.env)).any (·.1)=false:=by rfl):ME X (.Call (.Name x p) (e::es) [] pos) (v2 f m) :=
 have d:=g.dbg x (q0 _ (aN i))
 PE.imp (gE y (g.gl x (aN i)) u hv l d.2.2 d.1 r a) λ_ _ _ q=>Fy q
end
def A5(xs:TN)(h:MH):T6:=match xs with
 |[.int i]=>.ok (.int (if i<0 then -i else i)) h
 |_=>.bad
def A6(xs:TN)(h:MH):T6:=match xs with
 |[.int i,.int j]=>.ok (.int (if j<i then j else i)) h
 |_=>.bad
def Dx(xs:TN)(h:MH):T6:=match xs with
 |[.int i,.int j]=>.ok (.int (if j>i then j else i)) h
 |_=>.bad
def o0(xs:TN)(h:MH):T6:=match xs with
 |[.loc n]=>(match h[n]? with
  |some (.lst ys)=>.ok (.int ys.length) h
  |_=>.bad)
 |[.tup ys]=>.ok (.int ys.length) h
 |[.frl ys]=>.ok (.int ys.length) h
 |[.str z]=>if z.length<=sizeLine then .ok (.int z.length) h else .bad
 |_=>.bad
def ze:cg X (.builtin "abs") A5:=by
 intro y s Z H xs j Q a r ⟨U,h,z,u,rp,q⟩
 cases rp with
 |nil=>exact q.elim
 |cons f l =>
  cases l with
  |cons _ _=>cases f<;>exact q.elim
  |nil =>
   cases f with
   |int i=>exact zH y s Z H _ j Q a r ⟨i,rfl,q U H _ (Le.refl _ _) u (.int _)⟩
   |_=>exact q.elim
def tE{f:TN->MH->T6}{F:Int->Int->Int}{r:List V->Hp->VK->Prop}{u:Value}(hf:∀i j h,f [.int i,.int j] h=.ok (.int (F i j)) h)(L:∀xs h,(∀i j,xs≠[.int i,.int j])->f xs h=.bad)(E:ci X u (λxs H Q=>∃i j,xs=[.int i,.int j]/\Q (.int (F i j)) H)):cg X u f:=by
 intro R s Z H xs y Q a r ⟨U,h,l,C,rp,q⟩;by_cases z:∃i j,l=[.int i,.int j]
 .obtain⟨i,j,rfl⟩:=z
  cases rp with
  |cons P B=>cases B with
   |cons M O =>
    cases O;cases P;cases M;rw[hf]at q;exact E R s Z H _ y Q a r ⟨i,j,rfl,q U H _ (Le.refl _ _) C (.int _)⟩
 .rw[L l h λi j e=>z ⟨i,j,e⟩]at q;exact q.elim
def sI(g:Good X N W G k):cg X (.builtin "min") A6:=tE (r:=λ_ _ _=>True) (λ_ _ _=>rfl) (λxs h z=>by unfold A6;split<;>first | rfl | exact absurd rfl (z _ _)) (qi g.calm)
def Hc(g:Good X N W G k):cg X (.builtin "max") Dx:=tE (r:=λ_ _ _=>True) (λ_ _ _=>rfl) (λxs h z=>by unfold Dx;split<;>first | rfl | exact absurd rfl (z _ _)) (qG g.calm)
def ec:cg X (.builtin "len") o0:=by
 intro u s Z H xs l Q f r ⟨U,h,P,i,rp,q⟩
 cases rp with
 |nil=>exact q.elim
 |cons C F =>
  cases F with
  |cons _ _=>cases C<;>exact q.elim
  |nil =>
   cases C with
   |@loc n a e =>
    obtain⟨M,L,y⟩:=i.obj e;dsimp only[o0]at q;rw[L]at q
    cases M with
    |dic R xs=>exact q.elim
    |exc x=>exact q.elim
    |lst xs =>
     obtain⟨ys,E,j⟩:=y;exact jJ u s Z H _ l Q f r ⟨_,_,rfl,.inl ⟨ys,SqL.of E,rfl⟩,by rw[<-j.length];exact q U H _ (Le.refl _ _) i (.int _)⟩
   |tup B j=>exact jJ u s Z H _ l Q f r ⟨_,_,rfl,.inr ⟨_,B,rfl⟩,by rw[<-j.length];exact q U H _ (Le.refl _ _) i (.int _)⟩
   |frl B j=>exact jJ u s Z H _ l Q f r ⟨_,_,rfl,.inl ⟨_,B.sq,rfl⟩,by rw[<-j.length];exact q U H _ (Le.refl _ _) i (.int _)⟩
   |str z =>
    dsimp only[o0]at q
    split at q
    .rename_i O
     exact jJ u s Z H _ l Q f r ⟨_,_,rfl,⟨O,rfl⟩,q U H _ (Le.refl _ _) i (.int _)⟩
    .exact q.elim
   |_=>exact q.elim
def Fz(h:MH):PV->Option String
 |.non=>J "NoneType"
 |.bl _=>J "bool"
 |.int _=>J "int"
 |.str _=>J "str"
 |.tup _=>J "tuple"
 |.frl _=>J "list"
 |.loc n=>match h[n]? with
  |some (.lst _)=>J "list"
  |some (.dic _ _)=>J "dict"
  |_=>Y
def fv(t:String)(a:String):Bool:=t==a||(t == "bool" && a == "int")
def sJ(a:List String)(x:PV)(h:MH):T6:=match Fz h x with
 |some t=>.ok (.bl (a.any (fv t))) h
 |none=>.bad
def Ka(a:String):Prop:=∀K:hU,∀t∈["NoneType","bool","int","str","tuple","list","dict"],PySem.W.kitOne K (.type t) (.type a)=J (fv t a)
def tN(f:∀K,PySem.W.kitOne K (.type "NoneType") (.type b)=J (fv "NoneType" b))(j:∀K,PySem.W.kitOne K (.type "bool") (.type b)=J (fv "bool" b))(r:∀K,PySem.W.kitOne K (.type "int") (.type b)=J (fv "int" b))(u:∀K,PySem.W.kitOne K (.type "str") (.type b)=J (fv "str" b))(y:∀K,PySem.W.kitOne K (.type "tuple") (.type b)=J (fv "tuple" b))(l:∀K,PySem.W.kitOne K (.type "list") (.type b)=J (fv "list" b))(i:∀K,PySem.W.kitOne K (.type "dict") (.type b)=J (fv "dict" b)):Ka b:=by
 intro K t a;simp only[l_,J6,or_false]at a;rcases a with rfl|rfl|rfl|rfl|rfl|rfl|rfl
 .exact f K
 .exact j K
 .exact r K
 .exact u K
 .exact y K
 .exact l K
 .exact i K
def Dy:Ka "int":=tN (λ_=>rfl) (λ_=>rfl) (λ_=>rfl) (λ_=>rfl) (λ_=>rfl) (λ_=>rfl) (λ_=>rfl)
def zU:Ka "bool":=tN (λ_=>rfl) (λ_=>rfl) (λ_=>rfl) (λ_=>rfl) (λ_=>rfl) (λ_=>rfl) (λ_=>rfl)
def Ac:Ka "list":=tN (λ_=>rfl) (λ_=>rfl) (λ_=>rfl) (λ_=>rfl) (λ_=>rfl) (λ_=>rfl) (λ_=>rfl)
def kitx_of{S:T0}{Z:L2.St}{H:Hp}{s:Shared}{U:TX}{h:MH}{x:PV}{C:V}{u:Value}{t:String}(f:Inv X S Z H s)(L:RH X.K X.mg U H h)(rx:RP X.K U H x C)(j:aS C u)(e:Fz h x=J t):
  t∈["NoneType","bool","int","str","tuple","list","dict"]/\u≠.builtin "__main__.__loader__#opaque"/\∃F,PySem.W.KitX X.K u (.type t) F/\F s.heap:=by
 cases rx with
 |non=>cases e;cases j;exact⟨by simp,(λz=>nomatch z),_,PySem.W.kitx_none,trivial⟩
 |bl b=>cases e;cases j;exact⟨by simp,(λz=>nomatch z),_,PySem.W.kitx_bool,trivial⟩
 |int i=>cases e;obtain⟨t,rfl⟩:=j;exact⟨by simp,(λz=>nomatch z),_,PySem.W.kitx_int,trivial⟩
 |str i=>cases e;obtain⟨t,rfl⟩:=j;exact⟨by simp,(λz=>nomatch z),_,PySem.W.kitx_str,trivial⟩
 |tup B R =>
  cases e;cases j;obtain⟨r,E,⟨o,e1,e2,_⟩,_⟩:=f.tuple B;exact⟨by simp,(λz=>nomatch z),_,PySem.W.kitx_tuple,⟨o,e1,e2⟩⟩
 |frl B R =>
  cases e;cases j;obtain⟨r,E,⟨o,m,e1,e2,_,e3⟩,_⟩:=f.list B.sq;exact⟨by simp,(λz=>nomatch z),_,PySem.W.kitx_list,⟨o,e1,e2⟩⟩
 |@loc n a en =>
  obtain⟨Q,P,l⟩:=L.obj en;dsimp only[Fz]at e;rw[P]at e;cases j
  cases Q with
  |lst xs =>
   cases e;obtain⟨ys,y,_⟩:=l;obtain⟨r,E,⟨o,m,e1,e2,_,e3⟩,_⟩:=f.list (SqL.of y);exact⟨by simp,(λz=>nomatch z),_,PySem.W.kitx_list,⟨o,e1,e2⟩⟩
  |dic ks xs =>
   cases e;obtain⟨bs,_,_,_,_,_,y⟩:=l;obtain⟨⟨o,es,ep,M,O,_⟩,_⟩:=(show ObjOk X.prog X.w H s.heap a (.ext (DT a bs))from f.hok a _ y);exact⟨by simp,(λz=>nomatch z),_,PySem.W.kitx_dict,⟨o,M,O.1⟩⟩
  |exc x=>cases e
def Hd(g:Good X N W G k){a:Expr}{m:Mx PV}{f:String}{c:Str}{i j:Nat}{p q z:Pos}(R:G[i]?=J "isinstance")(hm:X.mg "isinstance"=Y)(S:G[j]?=J c)(hc:X.mg c=Y)(hv:bootBuiltins c=J (.type f))(hT:Ka f)(ha:ME X a m)(he:starEach [a,.Name c q] X.env=(T,eval a X.env)::starEach [.Name c q] X.env:=by rfl)(C:starEach [.Name c q] X.env=[(T,eval (.Name c q) X.env)]:=by rfl)(O:(backTo z (starEach [.Name c q] X.env)).any (·.1)=T:=by rfl):
  ME X (.Call (.Name "isinstance" p) [a,.Name c q] [] z) (Ly (sJ [f]) m):=by
 have d1:=g.dbg _ (q0 _ (aN R));have d:=g.dbg c (q0 _ (aN S));have l:ci X (.builtin "isinstance") (λxs H Q=>∃y,xs=[y,.ty f]/\uJ X (sJ [f]) y H Q):=by
  intro Lo s Z H xs us Q u r ⟨y,e,U,h,x,B,P,q⟩;subst e
  cases r with
  |cons r1 t1=>cases t1 with
   |cons r2 t2 =>
    cases t2;obtain rfl:=(r2);unfold sJ at q
    cases E:Fz h x with
    |none=>rw[E]at q;exact q.elim
    |some t =>
     rw[E]at q;obtain⟨ht,L,Hq,Za,hz⟩:=kitx_of u B P r1 E
     exact PySem.W.kia_one Za u.kIn hz (hT X.K t ht) L λtk=>⟨.bl _,H,u.tok _,rfl,by
      have q':=q U H _ (Le.refl _ _) B (.bl _)
      simpa using q'⟩
 refine PE.imp (jA l (g.gl _ (aN R)) hm PyProof.Rows.Boot.«isinstance» (fJ ha (fJ (C4 (v:=.ty f) (g.gl c (aN S)) hc hv rfl d.2.2 d.1) jh C) he) d1.2.2 d1.1 he O) λZ H Q ⟨U,F,h,rs,B,q⟩=>?_;exact⟨U,F,h,rs,B,Ful.bind q λU1 H1 x y h1 _ l1 M P q1=>⟨y,rfl,U1,h1,x,M,P,q1.zero⟩⟩
def He(K:hU)(mg:Ca)(F:TN->MH->T6):Sp:=λr H Q E=>∃U j h,RPs K U H j r/\RH K mg U H h/\match F j h with
 |.ok v i=>∀f a l,Le U H f a->RH K mg f a i->RP K f a v l->Q l a
 |.exc x i=>∀C f a,x.fs=[]->mg x.cls=J (.ref C)->Le U H f a->RH K mg f a i->E (.ref C) Y a
 |.bad=>False
def Kb(P:Program)(w:World):B_:=λouter H s E e a=>∃i C f,e=.ref i/\a.os=s.os/\AllBare a.gens/\Un (xq outer) [] H f s.heap a.heap/\HOk P w f a.heap/\Qs outer f s.heap C i a.heap/\E (.ref C) Y f
structure Cal(X:Cx)(x:Str)(ps:TQ)(F:TN->MH->T6)(k:Nat):Prop where
 ex:∃f fd,X.mg x=J (.ref f)/\PySem.W.keepIn X.K (.ref f)=I/\og X.K fd ps []/\FnOk X.prog X.w X.K X.mg X.base (Kb X.prog X.w) k f fd ps (He X.K X.mg F)
def Cal.to(c:Cal X x ps F i)(e1:g.prog=X.prog)(e2:g.w=X.w)(e3:g.K=X.K)(e4:g.mg=X.mg)(e5:g.base=X.base):Cal g x ps F i:=by obtain⟨f,fd,a,b,d,e⟩:=c.ex;refine⟨f,fd,by rw[e4];exact a,by rw[e3];exact b,by rw[e3];exact d,?_⟩;rw[e1,e2,e3,e4,e5];exact e
def bS(F:TN->MH->T6)(m:Mx (TN)):Mx PV:=λZ h=>(m Z h).bind F
def pg(g:Good X N W G k){x:Str}{j:Nat}(hj:G[j]?=J x){ps:TQ}{F:TN->MH->T6}(C:Cal X x ps F k){e:Expr}{es:T5}{m:Mx (TN)}{p R:Pos}(ha:MA X (e::es) m)(he:starEach (e::es) X.env=(T,eval e X.env)::starEach es X.env:=by rfl)(al:(backTo R (starEach es X.env)).any (·.1)=T:=by rfl):ME X (.Call (.Name x p) (e::es) [] R) (bS F m):=by
 obtain⟨f,fd,hm,hk,hb,F'⟩:=C.ex;have d:=g.dbg x (q0 _ (aN hj));intro Lo s Z H Q S ⟨U,ah,h,rs,rh,q⟩;refine wpAny_Call_Name_kw (uK S (g.gl x (aN hj)) hm ?_ d.1)
 refine PySem.W.callWith_K S.ok.mod.kin hk (k_ (ha R Lo s Z H (λvs B=>∃y xs M,Le U H y B/\RH X.K X.mg y B M/\RPs X.K y B xs vs/\Ful X (RV' X) ah y B (F xs M) Q) S
  ⟨U,ah,h,rs,rh,Ful.bind q λy B xs vs M _ l1 L rx O=>⟨y,xs,M,l1,L,rx,O⟩⟩) λus P ⟨vs,B,I1,r,y,xs,M,l1,L,rx,O⟩=>⟨I1.kIn,?_⟩) he al
 have run:∀E:XK,He X.K X.mg F vs B Q E->(∀ea C i l,l.os=P.os->AllBare l.gens->Un (xq X.stack) [] B i P.heap l.heap->HOk X.prog X.w i l.heap->Qs X.stack i P.heap C ea l.heap->E (.ref C) Y i->X.xe (.ref ea) l) ->
   wpAny (model X.prog X.w) X.A (call (.ref f) us) (EP X Lo Z Q) X.xe P:=λE aj hE=>by
  have hl:(us++[]).length=ps.length:=by rw[F3,<-r.length];exact F'.len _ _ _ _ aj
  have ab:=hb P us I1.kIn hl;rw[F3]at ab;refine wpAny_call (codeAny_mono (F'.run X.A X.stack P B ⟨us,[]⟩ us vs Q E g.room I1.env0 ab r aj) λr l hq=>?_)
  cases r with
  |error e =>
   obtain⟨ea,C,i,rfl,a1,a2,a3,a4,a5,a6⟩:=hq;exact hE ea C i l a1 a2 a3 a4 a5 a6
  |ok fl =>
   cases fl with
   |ret u=>exact I1.after hq
   |next=>exact False.elim hq
   |brk=>exact False.elim hq
   |cont=>exact False.elim hq
 cases eF:F xs M with
 |bad=>rw[eF]at O;exact O.elim
 |ok v h' =>
  rw[eF]at O;exact run (λ_ _ _=>False) ⟨y,xs,M,rx,L,by rw[eF];exact O⟩ λ_ _ _ _ _ _ _ _ _ z=>z.elim
 |exc x' h' =>
  rw[eF]at O;refine run (λc _ i=>∃C U',c=.ref C/\x'.fs=[]/\X.mg x'.cls=J (.ref C)/\Le y B U' i/\RH X.K X.mg U' i h') ⟨y,xs,M,rx,L,by rw[eF];exact λC U' i a b c d=>⟨C,U',rfl,a,b,c,d⟩⟩ λea C i l a1 a2 a3 a4 a5 a6=>?_;obtain⟨C',U',eC,b1,b2,b3,b4⟩:=a6;cases eC;have IX:=I1.call' (s':=l) a1 a3 a4 a2 (λb z=>absurd z (by simp));have am:=Inv.unpinned (Lo:=[]) IX;exact O ea C U' i Z l P.heap b1 b2 b3 b4 (rs.le (l1.trans b3)) am (Inv.bears I1) a5
def ce(n:Nat)(a:TN):ls:=a.map J++List.replicate (n-a.length) Y
def eO(n i:Nat)(m:mh):TN->MH->T6:=λf h=>if f.length=i then (match m (ce n f) h with
 |.nx _ a=>.ok .non a
 |.rt v a=>.ok v a
 |.exc x _ a=>.exc x a
 |.rse x _ a=>.exc x a
 |_=>.bad)else .bad
def Ag{K:hU}{U:TX}{H:Hp}{N:TQ}{a:TN}{j:List V}(r:RPs K U H a j):RS K U H (ce N.length a) (L2.start N j):=by
 have y:=r.length;refine⟨by simp[ce,L2.start,y],λi v e=>?_⟩;unfold ce at e;by_cases f:i<a.length
 .rw[we (by simpa using f),tx]at e
  cases q:a[i]? with
  |none=>rw[q]at e;cases e
  |some x =>
   rw[q]at e;cases e;obtain⟨u,l,z⟩:=r.get q;refine⟨u,?_,z⟩;unfold L2.start;rw[we (by simp;lia),tx,l];rfl
 .rw[Bq (by simpa using f),FU]at e
  split at e<;>cases e
def Ai{B h:Heap}(k:B.StaysIn h){b:Addr}{o a:Obj}(e1:B.get? b=J a)(e2:h.get? b=J o):a=o:=by
 have:=k b a e1
 rw[e2]at this;exact(Option.some.inj this).symm
def uQ{X:Cx}{U:L2.St}{M:Hp}{L:Shared}{r B:Heap}(f:Inv X [] U M L)(Q:X.ex=[])(Z:B.StaysIn L.heap)(E:B.StaysIn r)(S:L.heap.UpToSlots r)(C:∀b o,X.s₀.heap.get? b=J o->b∉X.fs->∃i,B.get? b=J i)(y:∀b o,M b=J o->∃i,B.get? b=J i):Un X.fs [] X.H₀ M X.s₀.heap r/\HOk X.prog X.w M r:=by
 have j:∀b:Addr,b∉X.ex:=λb=>by rw[Q];simp
 have kp:∀b o i,B.get? b=J i->L.heap.get? b=J o->r.get? b=J o:=λb o i e1 e2=>by
  have:=Ai Z e1 e2
  subst this;exact E b i e1
 refine⟨⟨λb o e n hf _=>?_,λb o e n hf _=>?_,λb o e n _=>f.base.free b o e n (j b),λb o e _=>?_,f.base.tups,f.base.frzs,f.base.tbls⟩,λa o e=>?_⟩
 .obtain⟨i,l⟩:=C b o e hf;exact kp b o i l (f.base.keep b o e n hf (j b))
 .obtain⟨sl,e1⟩:=f.base.slot b o e n hf (j b);obtain⟨_,oF,H,O⟩:=f.ok.funs.mem hf;rw[e]at H;cases H;obtain⟨F,e2⟩:=S b _ e1 (λR z=>O R z);exact⟨F,e2⟩
 .by_cases hf:b∈X.fs
  .obtain⟨_,oF,H,O⟩:=f.ok.funs.mem hf;rw[e]at H;cases H;obtain⟨sl,e1⟩:=f.base.slot b o e (f.ok.frf b hf) hf (j b);obtain⟨F,e2⟩:=S b _ e1 (λR z=>O R z);exact⟨_,e2⟩
  .obtain⟨i,l⟩:=C b o e hf;exact⟨i,E b i l⟩
 .refine (f.hok a o e).stay (λb u P z=>?_) (λ_ z=>z) λ_ _ z=>z;rcases P with rfl|P
  .obtain⟨i,l⟩:=y _ _ e;exact kp _ u i l z
  .obtain⟨i,l⟩:=y _ _ P;exact kp _ u i l z
def _root_.L2.ObjOk.has(x:ObjOk P w H h a o):∃u,h.get? a=J u:=by
 cases o with
 |lst xs=>obtain⟨_,_,_,_,e⟩:=x;exact⟨_,e⟩
 |tup xs=>obtain⟨_,_,_,o,e,_⟩:=x;exact⟨o,e⟩
 |dK i=>obtain⟨_,_,_,_,o,_,_,e,_⟩:=x;exact⟨o,e⟩
 |dT i=>obtain⟨_,_,_,_,o,_,_,e,_⟩:=x;exact⟨o,e⟩
 |set S n=>obtain⟨o,_,_,_,e,_⟩:=x;exact⟨o,e⟩
 |ins C j fs=>obtain⟨_,_,_,e,_⟩:=x;exact⟨_,e⟩
 |own y=>obtain⟨o,e⟩:=x;exact⟨o,e⟩
 |xd fs=>obtain⟨_,⟨o,_,_,e,_⟩,_⟩:=x;exact⟨o,e⟩
 |rng lo r=>obtain⟨_,_,_,e⟩:=x;exact⟨_,e⟩
 |frz z u=>obtain⟨e,_⟩:=x;exact⟨_,e⟩
 |tbl l=>exact⟨_,(x)⟩
 |met f y=>exact⟨_,(x)⟩
 |ext φ=>obtain⟨_,⟨o,e⟩,_⟩:=x;exact⟨o,e⟩
structure j3(X:Cx):Prop where
 stk:X.stack=X.env::X.outer
 fr:X.env.frame=J X.env.locals
 ex:X.ex=[]
def Qw{P:Program}{w:World}{K:hU}{mg:T8}{base:Heap}{x a:Str}{st:Stmt}{f:Addr}{fd:FuncData}{ps:TQ}{m:mh}(Fu:Fun K x a st f fd)(S:rb N ps (ak st))(hl:∀y∈N,Loc (ak st) y)(a5:∀y∈G,(ak st).names.lookup y=J .globalImplicit)(dbg:∀x∈N++G,(x==("__debug__":Str))=T/\(x==("__classdict__":Str))=T/\x≠"__name__")(hb:∀X:Cx,X.prog=P->X.w=w->X.K=K->X.mg=mg->X.base=base->X.env.scope=ak st->Good X N N G k->j3 X->Bw X (aK st) m):
  FnOk P w K mg base (Kb P w) (k+1) f fd ps (He K mg (eO N.length ps.length m)):=by
 have len:∀vs H Q E,He K mg (eO N.length ps.length m) vs H Q E->vs.length=ps.length:=by
  rintro vs H Q E ⟨U,zs,h,r,rh,q⟩;rw[<-r.length];unfold eO at q;by_cases hp:zs.length=ps.length
  .exact hp
  .rw[e_ hp]at q;exact q.elim
 obtain⟨oc,od,kV,bi,pm,an,i,ct,a9,rfl,lk,a0⟩:=Fu.ex;refine Lj lk a0 S len λA outer s H vs Q E hr a6=>?_;obtain⟨U,zs,h,r,rh,q⟩:=a6;refine⟨_,hb _ rfl rfl rfl rfl rfl rfl ⟨rfl,S.nd,hl,λ_ _=>.inl rfl,a5,dbg,rfl,hr,PassesOwn.leaving⟩ ⟨rfl,rfl,rfl⟩,U,ce N.length zs,h,Ag r,rh,?_⟩;unfold eO at q;by_cases hp:zs.length=ps.length
 .rw[b_ hp]at q
  cases e:m (ce N.length zs) h with
  |nx Z' h'=>rw[e]at q;exact λU' R Z' l r' s'=>q U' R .non l r' .non
  |rt v h'=>rw[e]at q;exact q
  |bk Z h'=>rw[e]at q;exact q.elim
  |ct Z h'=>rw[e]at q;exact q.elim
  |bad=>rw[e]at q;exact q.elim
  |exc x Z h' =>
   rw[e]at q;intro ea C U' R Z' s' be am al l ah a4 F a3 a1;obtain⟨B,t,as,L,ap,aj⟩:=a1;refine wpAny_leaves_onW (base:=B) (env:=envOfC a (ak st) s.heap.objs.size f i) (outer:=outer) F.ok.frames rfl as λax j sm=>?_;have M:∀b o,s.heap.get? b=J o->b∉xq outer->∃ob,B.get? b=J ob:=λb o eb hf=>by
    obtain⟨o',e'⟩:=a3.old b o eb (by show b∉([]:TX);simp);refine ap b o' e' λhm=>?_;rcases l_.mp (F.stkSub b hm)with z|z
    .exact absurd (nw eb) (by rw[z];exact Bt _)
    .exact hf z
   obtain⟨un,ab⟩:=uQ (B:=B) F rfl as.1 j.1 sm M L;exact⟨ea,C,R,rfl,F.os,F.bare,un,ab,⟨B,t,j,L,M,aj⟩,q C U' R am al l ah⟩
  |rse x Z h' =>
   rw[e]at q;intro ea C U' R Z' s' h0 a8 am al l ah a4 F O;have a2:=F.stack;have ay:∀env∈(envOfC a (ak st) s.heap.objs.size f i::outer),∀b,env.frame=J b->b∈xq (envOfC a (ak st) s.heap.objs.size f i::outer):=λenv he b hb=>CG.mpr ⟨env,he,hb⟩;refine wpAny_leaves_madeW (base:=PySem.W.hideAll h0 (xq (envOfC a (ak st) s.heap.objs.size f i::outer))) (h:=h0) (env:=envOfC a (ak st) s.heap.objs.size f i) (outer:=outer) F.ok.frames rfl (λb o z=>PySem.W.of_hideAll _ z)
    (PySem.W.funFrames_hide (base:=base) a2 ay) O λax t j _ _ sm=>?_
   have sub:∀b,b∈xq (envOfC a (ak st) s.heap.objs.size f i::outer)->b=s.heap.objs.size\/b∈xq outer:=λb hm=>l_.mp (F.stkSub b hm);have M:∀b o,s.heap.get? b=J o->b∉xq outer->∃ob,(PySem.W.hideAll h0 (xq (envOfC a (ak st) s.heap.objs.size f i::outer))).get? b=J ob:=λb o eb hf=>by
    obtain⟨o',e'⟩:=F.base.there b o eb (by show b∉([]:TX);simp);refine⟨o',PySem.W.hideAll_get _ e' λhm=>?_⟩;rcases sub b hm with z|z
    .exact absurd (nw eb) (by rw[z];exact Bt _)
    .exact hf z
   have L:∀b o,R b=J o->∃ob,(PySem.W.hideAll h0 (xq (envOfC a (ak st) s.heap.objs.size f i::outer))).get? b=J ob:=λb o eb=>by
    obtain⟨u,eu⟩:∃u,h0.get? b=J u:=(F.hok b o eb).has;refine⟨u,PySem.W.hideAll_get _ eu λhm=>?_⟩
    have:=F.stkFree b hm
    rw[eb]at this;cases this
   have a7:h0.UpToSlots ax:=(Heap.UpToSlots.of_keeps O.keeps).trans sm;obtain⟨un,ab⟩:=uQ (B:=PySem.W.hideAll h0 (xq (envOfC a (ak st) s.heap.objs.size f i::outer))) F rfl (λb o z=>PySem.W.of_hideAll _ z) j.1 a7 M L;have aj:R ea=Y:=by
    cases z:R ea with
    |none=>rfl
    |some o =>
     obtain⟨u,eu⟩:=(F.hok ea o z).has;rw[O.new]at eu;cases eu
   exact⟨ea,C,R,rfl,F.os,F.bare,un,ab,⟨_,t,j,L,M,aj⟩,q C U' R am al l ah⟩
 .rw[e_ hp]at q;exact q.elim
def v_(v:PV)(h:MH):Out MIt:=match v with
 |.loc n=>(match h[n]? with
  |some (.lst xs)=>.ok ⟨xs,[(n,xs)]⟩ h
  |_=>.bad)
 |.frl xs=>.ok ⟨xs,[]⟩ h
 |.tup xs=>.ok ⟨xs,[]⟩ h
 |_=>.bad
def iw(m:Mx PV):Mx MIt:=λZ h=>(m Z h).bind v_
def k7(r:ME X l m):MI X tg l (iw m):=by
 intro u s Z H R i ⟨U,a,h,y,j,q⟩;by_cases z:∃xs f,m a h=.ok (.tup xs) f
 .obtain⟨xs,f,e⟩:=z;refine G9 r u s Z H R i ⟨U,a,h,y,j,?_⟩;unfold iw at q;unfold LH;rw[e]at q ⊢;exact q
 .refine Dv r u s Z H R i ⟨U,a,h,y,j,?_⟩;unfold iw at q;unfold LG
  cases e:m a h with
  |ok v f =>
   rw[e]at q
   cases v with
   |tup xs=>exact absurd ⟨xs,f,e⟩ z
   |_=>exact q
  |exc x f=>rw[e]at q;exact q
  |bad=>rw[e]at q;exact q
def Inv.bigM{f:T0}{Z:L2.St}{H:Hp}{s:Shared}(a:Inv X f Z H s):sysModules<s.heap.objs.size:=by have h:=(a.mod.glob.keeps a.bk).lt;exact Og (by decide) h
def Hf:Mx PV:=λ_ h=>.ok (.loc h.length) (h++[.dic [] []])
def Dz:ME X (.Dict [] [] pos) Hf:=λr s Z H Q a ⟨U,l,h,u,f,q⟩=>by
 have hf:=a.hok.fresh (ia _);obtain⟨j,i⟩:=f.new hf (o:=.dic [] []) (ho:=.ext (DT s.heap.objs.size [])) ⟨[],[],rfl,(λ_ z=>nomatch z),.nil,.nil,rfl⟩;refine wpAny_Dict_empty ⟨.ref s.heap.objs.size,_,a.laid (t':=s.toks) (λ_ _ q=>n7 _ q) (ia _) ?_,rfl,q _ _ _ i j (.loc (by rw[<-f.len];simp))⟩;refine⟨⟨_,#[],0,s_ _ rfl,⟨rfl,rfl,rfl⟩,rfl,rfl,Oe,beq_eq_false_iff_ne.mpr (Ne.symm (t3 (Inv.bigM a))),t_ _⟩,⟨_,s_ _ rfl⟩,pX⟩
structure FnAt(P:Program)(w:World)(K:hU)(mg:T8)(base:Heap)(x:Str)(ps:TQ)(F:TN->MH->T6)(k:Nat):Prop where
 ex:∃f fd,mg x=J (.ref f)/\PySem.W.keepIn K (.ref f)=I/\og K fd ps []/\FnOk P w K mg base (Kb P w) k f fd ps (He K mg F)/\∃oc od osl,K.lookup f=J ⟨oc,od,.func fd,osl⟩
def FnAt.mono{P:Program}{w:World}{K:hU}{mg:T8}{base:Heap}{x:Str}{l:TQ}{F:TN->MH->T6}{i j:Nat}(c:FnAt P w K mg base x l F i)(h:i<=j):FnAt P w K mg base x l F j :=
 let⟨f,fd,a,b,d,e,z⟩:=c.ex;⟨f,fd,a,b,d,e.mono h,z⟩
def FnAt.cal{P:Program}{w:World}{K:hU}{mg:T8}{base:Heap}{x:Str}{j:TQ}{F:TN->MH->T6}{i:Nat}(c:FnAt P w K mg base x j F i){X:Cx}(e1:X.prog=P)(e2:X.w=w)(e3:X.K=K)(e4:X.mg=mg)(e5:X.base=base):Cal X x j F i:=by subst e1;subst e2;subst e3;subst e4;subst e5;obtain⟨f,fd,a,b,d,e,_⟩:=c.ex;exact⟨f,fd,a,b,d,e⟩
structure f_(K:hU)(x:Str)(st:Stmt):Prop where
 ex:∃f fd,PySem.W.nsIn K mainGlobals x=J (J (.ref f))/\Fun K x x st f fd
def Cp{K:hU}{x:Str}{st:Stmt}{f:Addr}{y:Value}{u j:Option Addr}{sl:Array (T1)}{kV r pm i ct:Value}(a:PySem.W.nsIn K mainGlobals x=J (J (.ref f)))(l:K.lookup f=J ⟨y,u,.func (PySem.W.fnOf x x (hV st) (aK st) (ak st) .none kV r pm j i ct),sl⟩)(c:PySem.W.codeIn K i x=I)(kp:PySem.W.keepIn K (.ref f)=I):f_ K x st :=
 ⟨f,_,a,GU l c kp⟩
def jo(x:Str)(st:Stmt)(j:TQ):Prop:=∀(kV i pm:Value)(l:Option Addr)(a ct:Value)(f:TZ),f.length=j.length->bindArgs (PySem.W.fnOf x x (hV st) (aK st) (ak st) .none kV i pm l a ct) ⟨f,[]⟩=pure (j.zip f)
def zc{P:Program}{w:World}{K:hU}{mg:T8}{base:Heap}{x:Str}{st:Stmt}{i:TQ}{m:mh}(kin:K.In base)(ns:base.Ns mainGlobals mg)(D:f_ K x st)(S:rb N i (ak st))(B:jo x st i)(z:∀y∈N,(ak st).names.lookup y=J .local\/(ak st).names.lookup y=J .cell)(l:∀y∈G,(ak st).names.lookup y=J .globalImplicit)(dbg:∀x∈N++G,(x==("__debug__":Str))=T/\(x==("__classdict__":Str))=T/\x≠"__name__")(E:∀X:Cx,X.prog=P->X.w=w->X.K=K->X.mg=mg->X.base=base->X.env.scope=ak st->Good X N N G k->j3 X->Bw X (aK st) m):
  FnAt P w K mg base x i (eO N.length i.length m) (k+1):=by
 obtain⟨f,fd,a,j⟩:=D.ex;have u:=j.ex;obtain⟨L,F,kV,C,pm,M,H,ct,r,e1,e2,_⟩:=u;exact⟨f,fd,PySem.W.mg_of kin ns a,j.kp,j.binds B,Qw j S z l dbg E,L,F,r,e2⟩
def Hg{P:Program}{w:World}{K:hU}{mg:T8}{h:Heap}{x y:Str}{st:Stmt}{F:TN->MH->T6}{z:Addr}(D:f_ K x st)(B:jo x st [y])(l:mg x=J (.ref z))(kin:K.In h)(ns:h.Ns mainGlobals mg)(H:∀base:Heap,K.In base->base.Ns mainGlobals mg->FnAt P w K mg base x [y] F k):
  ∃fd:FuncData,(∀(s:Shared)(u:Value),BindsTo s fd ⟨[u],[]⟩ [(y,u)])/\∀base:Heap,K.In base->base.Ns mainGlobals mg->FnOk P w K mg base (Kb P w) k z fd [y] (He K mg F):=by
 obtain⟨f,fd,a,E⟩:=D.ex;have e:=l.symm.trans (PySem.W.mg_of kin ns a);obtain⟨oc,Z,kV,i,pm,L,j,ct,M,e1,e2,e3⟩:=E.ex;refine⟨fd,λs u=>.of_eq ?_,λbase kb nb=>?_⟩
 .rw[e1];exact B kV i pm L j ct [u] rfl
 .obtain⟨U,C,R,g2,g3,S,O,Q,r,g5⟩:=(H base kb nb).ex
  grind
def LM(K:hU):Sp:=λf H Q _=>∃(a:Addr)(ns:TR),f=[.ref a]/\SqF K H a (ns.map V.int)/\ns.length<=63/\∀i,Q (.bl I) i
def Hh{l:PySem.W.OpenLaw}{q:Program}{loose:TQ}{XP:(Str->T1)->Heap->Prop}{P:World->Heap->Prop}{d:DefRec}{K:Params->hU}{x:Str}{F:TN->MH->T6}(U:l.most=J 63)(j:d.params.defaults=[])(hr:Room k callerA)(Z:∀(w:World)(h:Heap),P w h->(K w.params).In h)(HF:∀(w:World)(mg:T8)(i:Addr)(h:Heap),(K w.params).In h->h.Ns mainGlobals mg->mg d.name=J (.ref i) ->
   ∃fd:FuncData,(∀(s:Shared)(u:Value),BindsTo s fd ⟨[u],[]⟩ [(x,u)])/\∀base:Heap,(K w.params).In base->base.Ns mainGlobals mg->FnOk l.prog w (K w.params) mg base (Kb l.prog w) k i fd [x] (He (K w.params) mg F))(ht:∀ns:TR,ns.length<=63->∃O,F [.frl (ns.map .int)] []=.ok (.bl I) O):
  PySem.W.WalkO q loose XP P l.row.toRowW d [] (λf R=>PySem.call f R):=by
 refine L2.Dp (x:=x) (CX:=λw=>Kb l.prog w) (sp:=λw=>LM (K w.params)) U (by decide) j hr Z (λw mg i h hK L M=>?_) (λw H a ns B hO hS=>?_) λw H s e s' z=>?_
 .obtain⟨fd,hb,hF⟩:=HF w mg i h hK L M;refine⟨fd,hb,λbase kb nb=>(hF base kb nb).imp λR H Q E z=>?_⟩;obtain⟨a,ns,rfl,C,B,hq⟩:=z;obtain⟨O,e⟩:=ht ns B;refine⟨[],[.frl (ns.map .int)],[],.cons (.frl C (RPs.ints ns)) .nil,⟨rfl,Oe,λn a o z _=>by simp at z⟩,?_⟩;rw[e];intro U' S v' _ _ r;cases r;exact hq S
 .have C:SqF (K w.params) H a (ns.map V.int):=by
   rcases hS with(z|z)|z
   .rcases hO a with y|⟨o,xs,y⟩
    .rw[y]at z;cases z
    .rw[y]at z;cases z
   .exact .inl z
   .exact .inr z
  exact⟨a,ns,rfl,C,B,λ_=>rfl⟩
 .obtain⟨_,_,_,_,_,_,_,_,_,z⟩:=z;exact z
end
section
variable{α:Type}{Z:ls}{h:MH}
@[simp]theorem Sn:mC v Z h=.ok v h:=rfl
@[simp]theorem Qx{v:PV}{r:ls}:ag 0 (J v::r) h=.ok v h:=rfl
@[simp]theorem Qy{i:Nat}{o:Option PV}{r:ls}:ag (i+1) (o::r) h=ag i r h:=by simp[ag]
@[simp]theorem Ov:az f a b Z h=(a Z h).bind λx h1=>(b Z h1).bind λy h2=>(f x y h2).ne:=rfl
@[simp]theorem Qz:Ly f a Z h=(a Z h).bind λx h1=>(f x h1).ne:=rfl
@[simp]theorem QA:v2 f a Z h=(a Z h).bind λx h1=>(f x h1).ne:=rfl
@[simp]theorem LN:bS f a Z h=(a Z h).bind f:=rfl
@[simp]theorem Ow:h8 Z h=.ok [] h:=rfl
@[simp]theorem LO:ao a r Z h=(a Z h).bind λx h1=>(r Z h1).bind λxs h2=>.ok (x::xs) h2:=rfl
@[simp]theorem Ox:d6 a Z h=(a Z h).bind o_:=rfl
@[simp]theorem Oy:Dr a Z h=(a Z h).bind wj:=rfl
@[simp]theorem Oz:Hf Z h=.ok (.loc h.length) (h++[.dic [] []]):=rfl
@[simp]theorem So:mB a Z h=(a Z h).bind λv h1=>match v with|.bl b=>.ok b h1|_=>.bad:=rfl
@[simp]theorem OA:rV a Z h=(a Z h).bind λb h1=>.ok (!b) h1:=rfl
@[simp]theorem OB:GY a b Z h=(a Z h).bind λx h1=>if x=I then b Z h1 else .ok T h1:=rfl
@[simp]theorem QB:Qt a b Z h=(a Z h).bind λx h1=>if x=I then .ok I h1 else b Z h1:=rfl
@[simp]theorem LP:wg a b Z h=(a Z h).bind λx h1=>match x with|.bl c=>if c=I then b Z h1 else .ok (.bl T) h1|_=>.bad:=rfl
@[simp]theorem LQ:wM a Z h=(a Z h).bind λx h1=>match x with|.bl c=>.ok (.bl (!c)) h1|_=>.bad:=rfl
@[simp]theorem LR:lB Z h=.nx Z h:=rfl
@[simp]theorem dW:aO a b Z h=(a Z h).then b:=rfl
@[simp]theorem aq:(SOut.nx Z h).then k=k Z h:=rfl
@[simp]theorem vf:(SOut.rt v h).then k=.rt v h:=rfl
@[simp]theorem then_bk:(SOut.bk Z h).then k=.bk Z h:=rfl
@[simp]theorem then_ct:(SOut.ct Z h).then k=.ct Z h:=rfl
@[simp]theorem zT:(SOut.rse x Z h).then k=.rse x Z h:=rfl
@[simp]theorem At:(SOut.exc x Z h).then k=.exc x Z h:=rfl
@[simp]theorem A2:SOut.bad.then k=.bad:=rfl
def Out.rt(o:T6)(Z:ls):SOut:=match o with
 |.ok v a=>.rt v a
 |.exc x a=>.exc x Z a
 |.bad=>.bad
@[simp]theorem Sq:(Out.ok v h).rt Z=.rt v h:=rfl
@[simp]theorem QC:(Out.exc x h:T6).rt Z=.exc x Z h:=rfl
@[simp]theorem QD:(Out.bad:T6).rt Z=.bad:=rfl
@[simp]theorem OC:b8 m Z h=(m Z h).rt Z:=rfl
def Out.go{α:Type}(o:Out α)(Z:ls)(k:α->mh):SOut:=match o with
 |.ok v a=>k v Z a
 |.exc x a=>.exc x Z a
 |.bad=>.bad
@[simp]theorem aF:(Out.ok v h).go Z k=k v Z h:=rfl
@[simp]theorem go_exc:(Out.exc x h:Out α).go Z k=.exc x Z h:=rfl
@[simp]theorem go_bad:(Out.bad:Out α).go Z k=.bad:=rfl
@[simp]theorem QE:w_ m k Z h=(m Z h).go Z k:=rfl
@[simp]theorem LU:gU m Z h=(m Z h).go Z λ_=>lB:=rfl
@[simp]theorem QF:Bi c a b Z h=(c Z h).go Z λx=>if x=I then a else b:=rfl
@[simp]theorem lx:aZ i m Z h=(m Z h).go Z λv Z h=>.nx (Z.set i (J v)) h:=rfl
@[simp]theorem OD:pC m g Z h=(m Z h).go Z λv Z h=>match g v Z h with|.nx Z2 h2=>.nx Z2 h2|.exc x Z2 h2=>.exc x Z2 h2|_=>.bad:=rfl
@[simp]theorem QG:AN i v Z h=.nx (Z.set i (J v)) h:=rfl
@[simp]theorem QH:Qu [] Z h=.nx Z h:=rfl
@[simp]theorem QI:Ot a r (v::vs) Z h=(a v Z h).then (r vs):=rfl
@[simp]theorem QJ:Ou r n (.tup xs) Z h=if xs.length=n then r xs Z h else .bad:=rfl
@[simp]theorem DA:iJ mi g b Z h=(mi Z h).go Z λit=>v9 it g b it.xs:=rfl
@[simp]theorem OE:iw m Z h=(m Z h).bind v_:=rfl
@[simp]theorem LV:jV m Z h=(m Z h).bind λvs h1=>match vs with
 |[.int j]=>if -(2^62)<=j/\j<2^62 then .ok ⟨bG 0 j.toNat,[]⟩ h1 else .bad
 |_=>.bad:=rfl
@[simp]theorem QK:LF mo mi v Z h=(mo Z h).go Z λo=>w_ mi λi Z h=>match rW o i v h with
 |some h2=>.nx Z h2
 |none=>.bad:=rfl
def SOut.fin(o:SOut):T6:=match o with
 |.nx _ a=>.ok .non a
 |.rt v a=>.ok v a
 |.exc x _ a=>.exc x a
 |.rse x _ a=>.exc x a
 |_=>.bad
@[simp]theorem fin_exc:(SOut.exc x Z h).fin=.exc x h:=rfl
@[simp]theorem fin_rse:(SOut.rse x Z h).fin=.exc x h:=rfl
@[simp]theorem gz:(SOut.rt v h).fin=.ok v h:=rfl
@[simp]theorem fin_nx:(SOut.nx Z h).fin=.ok .non h:=rfl
theorem lK(e:ps.length=np):eO n np m ps h=(m (ce n ps) h).fin:=by unfold eO;rw[b_ e];rfl
end
section
variable{h:MH}{i j:Int}
@[simp]theorem LW:kx (.int i) (.int j) h=.ok (.int (i+j)) h:=rfl
@[simp]theorem LX:xv (.int i) (.int j) h=.ok (.int (i-j)) h:=rfl
@[simp]theorem OF:BJ (.int i) h=.ok (.int (-i)) h:=rfl
@[simp]theorem OG:Ck (.int i) (.int j) h=.ok (.bl (decide (i<j))) h:=rfl
@[simp]theorem OH:Ha (.int i) (.int j) h=.ok (.bl (decide (i<=j))) h:=rfl
@[simp]theorem OI:Cm (.int i) (.int j) h=.ok (.bl (decide (j<i))) h:=rfl
@[simp]theorem OK:Co (.int i) (.int j) h=.ok (.bl (decide (j<=i))) h:=rfl
@[simp]theorem OL:u0 (.int i) (.int j) h=.ok (.bl (decide (i=j))) h:=rfl
@[simp]theorem OM:Az (.int i) (.int j) h=.ok (.bl (!decide (i=j))) h:=rfl
@[simp]theorem ON:u0 (.bl a) (.bl b) h=.ok (.bl (a==b)) h:=by simp[u0,rd,SeqAt.shaped,PyData.canLay0,PyData.depth,PyData.eqv]
@[simp]theorem OO:Az (.bl a) (.bl b) h=.ok (.bl (!(a==b))) h:=by simp[Az,rd,SeqAt.shaped,PyData.canLay0,PyData.depth,PyData.eqv]
theorem fN(a:j≠0):lT (.int i) (.int j) h=.ok (.int (i.fmod j)) h:=by simp[lT,a]
def uR(f:j≠0)(a:j.natAbs.log2<9000):AC (.int i) (.int j) h=.ok (.int (i.fdiv j)) h:=by simp[AC,f,PyProof.noPylong_of_log2 a]
def hX(a:-(2^64)<i/\i<2^64):ki (.int i) (.int j) h=.ok (.int (i*j)) h:=by simp[ki,IntMulOk.of_left (intBits_le_64 a.1 a.2)]
def DB(a:-(2^64)<j/\j<2^64):ki (.int i) (.int j) h=.ok (.int (i*j)) h:=by simp[ki,IntMulOk.of_right (intBits_le_64 a.1 a.2)]
def ub(a:0<=j/\j<=1000000/\i.natAbs<2^64):q7 (.int i) (.int j) h=.ok (.int (i^j.toNat)) h:=by simp[q7,iF,a]
@[simp]theorem QL:A5 [.int i] h=.ok (.int (if i<0 then -i else i)) h:=rfl
@[simp]theorem OP:A6 [.int i,.int j] h=.ok (.int (if j<i then j else i)) h:=rfl
@[simp]theorem OQ:Dx [.int i,.int j] h=.ok (.int (if j>i then j else i)) h:=rfl
@[simp]theorem LY:o0 [.frl xs] h=.ok (.int xs.length) h:=rfl
@[simp]theorem LZ:o0 [.tup xs] h=.ok (.int xs.length) h:=rfl
theorem wt(a:xs.length<=1000):o_ xs h=.ok (.loc h.length) (h++[.lst xs]):=by unfold o_;rw[b_ (m_ a (by decide))]
def vp(a:m<n):wS n (m:Int)=J m:=by unfold wS;rw[b_ ⋯,b_ ⋯];simp
@[simp]theorem ly:n_ (a::r) 0=J a:=ie (j:=0) rfl
@[simp]theorem L0:n_ (a::b::r) 1=J b:=ie (j:=1) rfl
@[simp]theorem Sr:n_ (a::b::c::r) 2=J c:=ie (j:=2) rfl
@[simp]theorem Ss:n_ (a::b::c::d::r) 3=J d:=ie (j:=3) rfl
def Out.ofO(o:Option PV)(h:MH):T6:=match o with
 |some v=>.ok v h
 |none=>.bad
@[simp]theorem L3:Out.ofO (J v) h=.ok v h:=rfl
@[simp]theorem L4:bI (.tup xs) (.int i) h=Out.ofO (n_ xs i) h:=rfl
@[simp]theorem L5:bI (.frl xs) (.int i) h=Out.ofO (n_ xs i) h:=rfl
theorem jz(e:h[n]?=J (.lst xs)):bI (.loc n) (.int i) h=Out.ofO (n_ xs i) h:=by simp only[bI,e];rfl
def mM(e:h[n]?=J (.lst xs)):rW (.loc n) (.int i) v h=(wS xs.length i).map λp=>h.set n (.lst (xs.set p v)):=by simp only[rW,e]
@[simp]theorem Kc:v_ (.tup xs) h=.ok ⟨xs,[]⟩ h:=rfl
@[simp]theorem Kd:v_ (.frl xs) h=.ok ⟨xs,[]⟩ h:=rfl
@[simp]theorem DC:(⟨xs,[]⟩:MIt).ok h↔True:=⟨λ_=>trivial,λ_ p hp=>nomatch hp⟩
@[simp]theorem OR:(⟨xs,[(n,zs)]⟩:MIt).ok h↔h[n]?=J (.lst zs):=by
 constructor
 .intro q;exact q (n,zs) (by simp)
 .intro q p hp;have e:=Fg.mp hp;subst e;exact q
end
def SOut.turn(o:SOut)(k:mh):SOut:=match o with
 |.nx f a=>k f a
 |.ct f a=>k f a
 |.bk f a=>.nx f a
 |.rt v a=>.rt v a
 |.exc e f a=>.exc e f a
 |.rse e f a=>.rse e f a
 |.bad=>.bad
@[simp]theorem AR:(SOut.rse x Z h).turn k=.rse x Z h:=rfl
@[simp]theorem A1:(SOut.exc x Z h).turn k=.exc x Z h:=rfl
@[simp]theorem turn_nx:(SOut.nx Z h).turn k=k Z h:=rfl
@[simp]theorem turn_ct:(SOut.ct Z h).turn k=k Z h:=rfl
@[simp]theorem turn_bk:(SOut.bk Z h).turn k=.nx Z h:=rfl
@[simp]theorem turn_rt:(SOut.rt v h).turn k=.rt v h:=rfl
theorem DD(e:it.ok h):v9 it g b [] Z h=.nx Z h:=by rw[v9];dsimp only;rw[b_ e]
def Ad(e:it.ok h)(a:g x Z h=.nx Z1 h1):v9 it g b (x::r) Z h=(b Z1 h1).turn (v9 it g b r):=by rw[v9];dsimp only;rw[b_ e,a];rfl
def sR(l:Nat->Shared->Prop)(turn:∀n s,l n s->wpAny (model prog w) A (pyNext it) (λr f=>match r with
   |none=>R (.ok .next) f
   |some v=>wpAny (model prog w) A (letOwnedTupleGo target it v) (λ_ i=>wpAny (model prog w) A (assign target env v) (λ_ y =>
     wpAny (model prog w) A (forIn ifs I λc r=>if r=I then do let ok <-isTrue c env (eval c env);pure (ForInStep.yield ok)else pure (ForInStep.yield r)) (λok j =>
      if ok=I then wpAny (model prog w) A (eval elt env) (λx C =>
       wpAny (model prog w) A (call (.builtin "list.append") [acc,x]) (λ_ B=>∃m,m<n/\l m B) (λ_ _=>False) C) (λ_ _=>False) j
      else ∃m,m<n/\l m j) (λ_ _=>False) y) (λ_ _=>False) i) (λ_ _=>False) f) (λ_ _=>False) s)(n:Nat)(h:l n s):
  codeAny (model prog w) A (.compLoop (.ListComp elt [⟨target,iter,ifs,0⟩] scope pos) 0 it acc env) R s:=by
 refine codeAny_loop rfl l (λn s L=>?_) n h;refine wpAny_noted ?_;rw[compTurn_list];refine d_ (wpAny_standAt (d_ (wpAny_mono (turn n s L) (λr f u=>?_) λ_ _ a=>a.elim)))
 cases r with
 |none=>exact ii u
 |some v =>
  refine d_ (wpAny_mono u (λ_ i E=>?_) λ_ _ a=>a.elim);refine d_ (wpAny_mono E (λ_ y G=>d_ (wpAny_mono G (λok j z=>?_) λ_ _ a=>a.elim)) λ_ _ a=>a.elim)
  cases ok with
  |false=>exact ii ⟨rfl,z⟩
  |true =>
   exact d_ (d_ (wpAny_mono z (λx C F=>d_ (wpAny_mono F (λ_ B H=>ii (ii ⟨rfl,H⟩)) λ_ _ a=>a.elim)) λ_ _ a=>a.elim))
def jQ(env:Env):List (Str×NameKind)->List (Str×Addr)->List (Str×Addr)
 |[],a=>a
 |(n,k)::r,a=>jQ env r (if(k==NameKind.free)=I then(n,(env.cells.lookup n).getD 0)::a else a)
def rg(h:∀y∈scope.names,y.2=.free->∃c,env.cells.lookup y.1=J c):closureFor scope env=pure (jQ env scope.names []):=by
 have key:∀(l:List (Str×NameKind))(f:List (Str×Addr)),(∀y∈l,y.2=.free->∃c,env.cells.lookup y.1=J c) ->
   (forIn l f λ(x:Str×NameKind)(r:List (Str×Addr))=>if(x.2==NameKind.free)=I then(do let a <-cellOf env x.1;pure (ForInStep.yield ((x.1,a)::r)):Sem _)else pure (ForInStep.yield r))=(pure (jQ env l f):Sem _):=by
  intro l
  induction l with
  |nil=>intro f _;rfl
  |cons y l B =>
   intro f u;obtain⟨n,k⟩:=y;rw[List.forIn_cons];have C:=λz F=>u z (l7 _ F);by_cases i:(k==NameKind.free)=I
   .obtain⟨c,E⟩:=u (n,k) pa (by simpa using i);rw[b_ i];have j:cellOf env n=pure c:=by unfold cellOf;rw[E]
    rw[j];refine(B ((n,c)::f) C).trans ?_;simp only[jQ,i,if_true,E,BG]
   .rw[e_ i];refine(B f C).trans ?_;simp[jQ,i]
 exact(congrArg (λz=>z >>= λr=>pure r) (key scope.names [] h)).trans rfl
def lV:∀(l:List (Str×NameKind))(f:List (Str×Addr)),(∀a,f.lookup x=J a->a=(env.cells.lookup x).getD 0)->(∀a,(jQ env l f).lookup x=J a->a=(env.cells.lookup x).getD 0)/\((∃k,(x,k)∈l/\k=.free)\/(∃a,f.lookup x=J a)->∃a,(jQ env l f).lookup x=J a):=by
 intro l
 induction l with
 |nil =>
  intro f h;refine⟨h,λz=>?_⟩;rcases z with⟨k,z,_⟩|z
  .cases z
  .exact z
 |cons y r C =>
  intro f h;obtain⟨n,k⟩:=y;have u:∀a,(if(k==NameKind.free)=I then(n,(env.cells.lookup n).getD 0)::f else f).lookup x=J a->a=(env.cells.lookup x).getD 0:=λa i=>by
   split at i
   .rw[CY]at i
    split at i
    .rename_i e
     have:x=n:=by simpa using e
     subst this;exact(Option.some.inj i).symm
    .exact h a i
   .exact h a i
  obtain⟨B,F⟩:=C _ u;refine⟨B,λz=>F ?_⟩;rcases z with⟨E,z,j⟩|⟨a,z⟩
  .rcases l_.mp z with e|e
   .cases e;right;subst j;exact⟨(env.cells.lookup x).getD 0,by simp⟩
   .exact .inl ⟨E,e,j⟩
  .right;split
   .rw[CY];split
    .exact⟨_,rfl⟩
    .exact⟨a,z⟩
   .exact⟨a,z⟩
def cA{env:Env}(u:env.scope.kind=.function):∀{names:List (Str×NameKind)}{x:Str}{k:NameKind},names.lookup x=J k ->
  (names.map λ(n,k)=>if(k==NameKind.free&&env.scope.kind == .function&&env.kindOf n==J .cell)then(n,NameKind.cell)else(n,k)).lookup x=J (if k=.free/\env.kindOf x=J .cell then .cell else k):=by
 intro names
 induction names with
 |nil=>intro x k h;simp at h
 |cons y r i =>
  intro x k h;obtain⟨n,f⟩:=y;have j:=@i x k;show List.lookup x ((if(f==NameKind.free&&env.scope.kind == .function&&env.kindOf n==J .cell)=I then(n,NameKind.cell)else(n,f))::_)=_
  cases a:x==n with
  |true =>
   have e:x=n:=by simpa using a
   subst e;simp only[CY,a]at h;cases h;by_cases z:k=.free/\env.kindOf x=J .cell
   .rw[b_ (by simp[z.1,z.2,u]),b_ z];simp
   .rw[e_ (by simp[u];intro B C;exact z ⟨B,C⟩),e_ z];simp
  |false =>
   simp only[CY,a]at h;by_cases l:(f==NameKind.free&&env.scope.kind == .function&&env.kindOf n==J .cell)=I
   .rw[b_ l];simp only[CY,a];exact j h
   .rw[e_ l];simp only[CY,a];exact j h
def dL(X:Cx)(a:Scope)(cl:List (Str×Addr))(f:Shared)(i:Hp)(l:TX)(j:TQ):Cx :=
 { X with N:=j,s₀:=f,H₀:=i,env:=compEnvC a cl f.heap.objs.size X.env,outer:=X.stack,ex:=l,fn:=λx=>decide (a.names.lookup x=J .cell),pn:=[],xe:=λ_ _=>False}
structure x_(X:Cx)(N:TQ)(scope:Scope)(vars frees:TQ)(fm:TV):Prop where
 kind:scope.kind=.function
 cell:∀y∈scope.names,y.2=.cell->scope.names.lookup y.1=J .cell
 names:∀y∈scope.names,y.2=.local->scope.names.lookup y.1=J .local
 hv:∀x∈vars,scope.names.lookup x=J .local\/scope.names.lookup x=J .cell
 hf:∀x∈frees,scope.names.lookup x=J .free
 all:∀y∈scope.names,y.2=.free->y.1∈frees
 fm:fm.map (λi=>N[i]?)=frees.map J
 cl:∀x∈frees,X.env.kindOf x=J .cell
def Cq(a:Nat)(fm:TV)(Z:ls):ls:=List.replicate a Y++fm.map λi=>(Z[i]?).getD Y
def BK(f:MIt)(n:Nat)(j:Mg)(mt:Mx Bool)(i:Mx PV):TN->ls->MH->Out Unit
 |[],_,h=>if f.ok h then .ok () h else .bad
 |x::r,Z,h=>if f.ok h then (match j x Z h with
  |.nx a y=>(mt a y).ne.bind λb l=>if b=I then (i a l).ne.bind λv u=>(match u[n]? with
    |some (.lst ys)=>if ys.length<sizeLine then BK f n j mt i r a (u.set n (.lst (ys++[v])))else .bad
    |_=>.bad)else BK f n j mt i r a l
  |_=>.bad)else .bad
def gP(j:Nat)(fm:TV)(l:Mx MIt)(r:Mg)(mt:Mx Bool)(i:Mx PV):Mx PV:=λZ h =>
 (l Z h).bind λf a=>(BK f a.length r mt i f.xs (Cq j fm Z) (a++[.lst []])).bind λ_ u=>.ok (.loc a.length) u
def Hi(X:Cx)(a:T5)(m:Mx Bool):Prop :=
 ∀(f:T0)(s:Shared)(Z:L2.St)(H:Hp)(Q:Bool->Hp->Prop),Inv X f Z H s->tM X Lx m Z H Q ->
  wpAny (model X.prog X.w) X.A (forIn a I λc r=>if r=I then do let ok <-isTrue c X.env (eval c X.env);pure (ForInStep.yield ok)else pure (ForInStep.yield r)) (TP X f Z Q) X.xe s
def BL:Mx Bool:=λ_ h=>.ok I h
def o3:Hi X [] BL:=λj s Z H Q a ⟨U,i,h,l,f,q⟩=>wpAny_tests_nil ⟨H,a,q U H I (Le.refl _ _) f rfl⟩
def DE(h:MT X c m):Hi X [c] m:=λf s Z H Q a q=>wpAny_tests_one (h f s Z H Q a q)
inductive CS(X:Cx)(U:TX)(H:Hp)(σp:ls)(gt:Mg)(mt:Mx Bool)(me:Mx PV)(Z0:ls)(Q:VK)(J:It)(H1:Hp):Prop
 |mk(U1:TX)(it:MIt)(h1:MH)(l:Le U H U1 H1)(rh:RH X.K X.mg U1 H1 h1)(j:rM X U1 H1 it J)(q:Ful X (RV' X) σp U1 H1 ((BK it h1.length gt mt me it.xs Z0 (h1++[.lst []])).bind λ_ h3=>.ok (.loc h1.length) h3) Q):CS X U H σp gt mt me Z0 Q J H1
inductive CI(X Y:Cx)(it:MIt)(tn:Nat->Heap->Prop)(fp U0:TX)(H0:Hp)(σp:ls)(n1:Nat)(gt:Mg)(mt:Mx Bool)(me:Mx PV)(Q:VK)(n:Nat)(s6:Shared):Prop
 |mk(i:Nat)(Z6:L2.St)(H6:Hp)(U6:TX)(σp6:ls)(h6:MH)(e:n=it.xs.length-i)(l:i<=it.xs.length)(v:Inv Y [] Z6 H6 s6)(t:tn i s6.heap)(f:∀b∈fp,H6 b=none)(le:Le U0 H0 U6 H6)(rs:RS X.K U6 H6 σp6 Z6)(rh:RH X.K X.mg U6 H6 h6)
   (q:Ful X (RV' X) σp U6 H6 ((BK it n1 gt mt me (it.xs.drop i) σp6 h6).bind λ_ h3=>.ok (.loc n1) h3) Q):CI X Y it tn fp U0 H0 σp n1 gt mt me Q n s6
def rj(i:Q (newEnv scope s.heap.objs.size globals (cellsFrom (s.heap.objs.size+1) scope.names closure) qual Y .none (J env) builtinsNs) { s with heap:=pushCells (s.heap.push { cls:=.type "dict",data:=.dict #[]}) scope.names}):
  wpAny M A (newFunctionEnv scope globals closure [] qual Y .none (J env)) Q E s:=by
 simp only[newFunctionEnv,Option.isSome_some,if_true];refine d_ (wpAny_alloc ?_);refine d_ (wpAny_layCells _ (λf kind a=>by cases j:kind==NameKind.cell<;>simp) _ _ _ _ ?_);rw[show({ s with heap:=s.heap.push { cls:=.type "dict",data:=.dict #[]}}:Shared).heap.objs.size=s.heap.objs.size+1 from Fj ..];exact d_ (ii (ii i))
def dy:∀(names:List (Str×NameKind))(n:Nat)(a:List (Str×Addr)),cellsFrom n names a=cellsFrom n names []++a
 |[],n,a=>rfl
 |(x,k)::r,n,a=>by
  unfold cellsFrom;split
  .rw[dy r (n+1) ((x,n)::a),dy r (n+1) [(x,n)]];simp
  .exact dy r n a
def fF:∀(names:List (Str×NameKind))(n:Nat)(x:Str),(∃c,(x,c)∈cellsFrom n names [])↔(x,NameKind.cell)∈names
 |[],n,x=>by simp[cellsFrom]
 |(y,k)::r,n,x=>by
  unfold cellsFrom;split
  .rename_i i
   have f:k=NameKind.cell:=by simpa using i
   subst f;rw[dy];constructor
   .rintro⟨c,a⟩;rcases nt.mp a with a|a
    .exact l7 _ ((fF r (n+1) x).mp ⟨c,a⟩)
    .have:x=y:=by simp at a;exact a.1
     rw[this];exact pa
   .intro h;rcases l_.mp h with e|h
    .have:x=y:=by simpa using e
     subst this;exact⟨n,q0 _ (by simp)⟩
    .obtain⟨c,a⟩:=(fF r (n+1) x).mpr h;exact⟨c,xn _ a⟩
  .rw[fF r n x];constructor
   .exact l7 _
   .intro h;rcases l_.mp h with e|h
    .exfalso
     grind
    .exact h
def mF{α:Type}:∀(a b:List (Str×α))(x:Str),(a++b).lookup x=(a.lookup x).or (b.lookup x):= by grind
def AV{α:Type}:∀(a:List (Str×α))(x:Str),a.lookup x=Y->∀c,(x,c)∉a:= by grind
section
variable{X:Cx}{N W G:TQ}{k:Nat}
def qI(g:Good X N W G k){tg al cd:Expr}{ca:T5}{f:Scope}{c6:Pos}{B frees G':TQ}{fm:TV}{mi:Mx MIt}{gt:Mg}{mt:Mx Bool}{me:Mx PV}(C:x_ X N f B frees fm)(nd:(B++frees).Nodup)(g0:∀x∈G',f.names.lookup x=J .globalImplicit)(dbg:∀x∈(B++frees)++G',(x==("__debug__":Str))=T/\(x==("__classdict__":Str))=T/\x≠"__name__")(hi:MI X tg al mi)(hY:∀ah:Cx,ah.prog=X.prog->ah.w=X.w->ah.K=X.K->ah.mg=X.mg->ah.base=X.base->ah.env.scope=relabel f X.env->Good ah (B++frees) B G' k->MG ah tg gt/\Hi ah ca mt/\ME ah cd me)(hs:∀x,foldedSetIterable al X.env x=pure x){use:Option (Value->Sem Unit)}{Qv:T7}{pp:Pos}{Lo:T0}{s:Shared}{Z:L2.St}{H:Hp}{Q:VK}(c9:Inv X Lo Z H s)(tm:tM X (RV' X) (gP B.length fm mi gt mt me) Z H Q)(fin:∀(d0 C:Addr) (H6:Hp) (s7:Shared) (m7:T8),Inv X Lo Z H6 s7->H6 C=Y->s7.heap.Ns C m7->C≠X.env.locals->X.s₀.heap.objs.size<=C->C∉X.fs->(∀x c,X.env.cells.lookup x=J c->c≠C)->(∀p∈X.pn++Lo,p.1≠C)->Q (.ref d0) H6 ->
   compPost (model X.prog X.w) X.A X.xe use Qv (.ref d0) C (.ok .next) s7):
  wpAny (model X.prog X.w) X.A (comprehension (.ListComp cd [⟨tg,al,ca,0⟩] f c6) f X.env pp (newList []) T (eval al X.env) use) Qv X.xe s:=by
 obtain⟨U,aj,h,rs,rh,q⟩:=tm;have b0:∀y∈f.names,y.2=.free->∃c,X.env.cells.lookup y.1=J c:=λy hy e=>c9.ok.has y.1 (.inl (C.cl _ (C.all y hy e)));refine wpAny_comprehension_free (use:=use) rfl hs (rg b0) C.kind C.names ?_;generalize dd:jQ X.env f.names []=cl;have et:∀x a,cl.lookup x=J a->X.env.cells.lookup x=J a\/((X.env.cells.lookup x)=Y/\a=0):=λx a e=>by
  rw[<-dd]at e
  have:=(lV (env:=X.env) (x:=x) f.names [] (λa z=>by simp at z)).1 a e
  cases z:X.env.cells.lookup x with
  |none=>right;rw[z]at this;exact⟨rfl,this⟩
  |some c=>left;rw[z]at this;rw[this];rfl
 have e0:∀x∈frees,∃c,cl.lookup x=J c/\X.env.cells.lookup x=J c:=λx hx=>by
  obtain⟨c,hc⟩:=c9.ok.has x (.inl (C.cl x hx));have hm:(∃kk,(x,kk)∈f.names/\kk=.free):=⟨.free,PySem.mem_of_lookup (C.hf x hx),rfl⟩;obtain⟨a,ha⟩:=(lV (env:=X.env) (x:=x) f.names [] (λa z=>by simp at z)).2 (.inl hm);rw[dd]at ha;rcases et x a ha with z|⟨z,_⟩
  .rw[hc]at z;cases z;exact⟨c,ha,hc⟩
  .rw[hc]at z;cases z
 have er:∀x a,cl.lookup x=J a->X.env.cells.lookup x=J a/\x∈frees:=λx a e=>by
   have only:∀(l:List (Str×NameKind))(cs:List (Str×Addr))(x:Str)(a:Addr),(jQ X.env l cs).lookup x=J a->(x,NameKind.free)∈l\/cs.lookup x=J a:=by
    intro l
    induction l with
    |nil=>intro cs x a e;exact .inr e
    |cons y l ih =>
     intro cs x a e;obtain⟨n,kk⟩:=y;rcases ih _ x a e with z|z
     .exact .inl (l7 _ z)
     .split at z
      .rename_i hk
       have f3:kk=NameKind.free:=by simpa using hk
       rw[CY]at z
       split at z
       .rename_i e'
        have:x=n:=by simpa using e'
        subst this;subst f3;exact .inl pa
       .exact .inr z
      .exact .inr z
   have e':=e;rw[<-dd]at e';rcases only _ _ x a e' with z'|z'
   .refine⟨?_,C.all _ z' rfl⟩;rcases et x a e with z|⟨z,_⟩
    .exact z
    .obtain⟨c,hc⟩:=b0 _ z' rfl;rw[z]at hc;cases hc
   .simp at z'
 have start:=hi Lo s Z H (CS X U H aj gt mt me (Cq B.length fm aj) Q) c9
  ⟨U,aj,h,rs,rh,Ful.bind q λU1 H1 it gg h1 _ l1 cb jr q1=>⟨U1,it,h1,l1,cb,jr,q1⟩⟩
 refine wpAny_mono start (λx hA ds=>wpAny_mono ds (λhB F es=>?_) λ_ _ e=>e) λ_ _ e=>e;obtain⟨e7,fp,tn,gg,H2,rfl,I2,R,ew,f2,U1,it,h1,l1,cb,jr,q1⟩:=es;refine wpAny_newObj_type ?_;have f1:H2 F.heap.objs.size=Y:=I2.hok.fresh (ia _);have M:=I2.lnew (ys:=[]) (its:=[]) (t':=F.toks) .nil (t_ _);obtain⟨ea,l3⟩:=cb.new f1 (o:=.lst []) (ho:=.lst []) ⟨[],rfl,.nil⟩;generalize gx:({ F with heap:=F.heap.push { cls:=.type "list",data:=.seq ([]:TZ).toArray},toks:=F.toks}:Shared)=E at M;generalize d2:lf H2 F.heap.objs.size (.lst [])=L at M ea l3;have hz:L F.heap.objs.size=J (.lst []):=by rw[<-d2];exact bU
 have g6:E.heap=F.heap.push { cls:=.type "list",data:=.seq ([]:TZ).toArray}:=by rw[<-gx]
 have b5:tn 0 E.heap:=R.keep _ _ _ ew λb _ o e=>by rw[g6];exact n7 _ e
 have a8:∀b∈fp,jb X Lo L b:=λb S=>by
  obtain⟨a0,a1⟩:=f2 b S;refine⟨?_,a1⟩;obtain⟨o,eo,_⟩:=R.obj _ _ ew b S;rw[<-d2,aY (t3 (nw eo))];exact a0
 have db:wpAny (model X.prog X.w) X.A (newFunctionEnv f X.env.globals cl [] X.env.qual Y .none (J X.env)) (λwp fi =>
    codeAny (model X.prog X.w) X.A (.compStart (.ListComp cd [⟨tg,al,ca,0⟩] f c6) 0 (.ref e7) (.ref F.heap.objs.size) { wp with scope:=relabel f X.env}) (compPost (model X.prog X.w) X.A X.xe use Qv (.ref F.heap.objs.size) wp.locals) fi) X.xe E:=by
  refine rj ?_;have O:∀b o,E.heap.get? b=J o->(pushCells (E.heap.push { cls:=.type "dict",data:=.dict #[]}) f.names).get? b=J o:=λb o e=>pushCells_keeps _ _ b o (n7 _ e);have eu:=(Heap.Ns.new E.heap (.type "dict")).keeps (pushCells_keeps f.names _);have b4:=cellsFrom_ok f.names (E.heap.push { cls:=.type "dict",data:=.dict #[]}) (E.heap.objs.size+1) [] ⟨λ_ _ hm=>(nomatch hm),List.Pairwise.nil⟩ (by rw[Fj];exact ia _);rw[Fj]at b4;rw[dy];have b6:=fF f.names (E.heap.objs.size+1);generalize cellsFrom (E.heap.objs.size+1) f.names []=cn at b4 b6 ⊢;generalize pushCells (E.heap.push { cls:=.type "dict",data:=.dict #[]}) f.names=h' at O eu b4 ⊢;dsimp only[newEnv];have ax:∀x c,(cn++cl).lookup x=J c->((x,c)∈cn/\f.names.lookup x=J .cell/\E.heap.objs.size<c/\h'.IsCell c Y)\/(X.env.cells.lookup x=J c/\f.names.lookup x=J .free):=λx c e=>by
   rw[mF]at e
   cases z:cn.lookup x with
   |some c' =>
    rw[z]at e
    have:c'=c:=by simpa using e
    subst this;have m:=PySem.mem_of_lookup z;obtain⟨q1,q2⟩:=b4.empty x c' m;exact .inl ⟨m,C.cell _ ((b6 x).mp ⟨c',m⟩) rfl,q2,q1⟩
   |none =>
    rw[z]at e;obtain⟨q1,q2⟩:=er x c (by simpa using e);exact .inr ⟨q1,C.hf x q2⟩
  have d1:∀x c,x∈frees->cl.lookup x=J c->(cn++cl).lookup x=J c:=λx c hx e=>by
   rw[mF]
   cases z:cn.lookup x with
   |none=>simpa using e
   |some c' =>
    have:=C.cell _ ((b6 x).mp ⟨c',PySem.mem_of_lookup z⟩) rfl
    rw[C.hf x hx]at this;cases this
  have old:∀x c,X.env.cells.lookup x=J c->c<E.heap.objs.size:=λx c e=>by
   obtain⟨v,qc⟩:=M.cell x c e;exact qc.lt
  have ok:(dL X f (cn++cl) E L fp (B++frees)).Ok:=by
   refine⟨M.ok.mod,C.kind,M.ok.glob,M.ok.blt,ia _,λx y c h1 h2=>?_,λx hx=>?_,λx c hx e=>?_,M.ok.hd,M.ok.frames,.inl rfl,
    λb S=>⟨?_,λx c e z=>?_⟩,M.bs,m_ M.ok.bsz M.sz,λb o e S=>?_,λb S z=>?_,M.stack,M.stkFree⟩
   .rcases ax x c h1 with⟨a1,_,a2,_⟩|⟨a1,_⟩<;>rcases ax y c h2 with⟨b1,_,b2,_⟩|⟨b1,_⟩
    .exact PySem.name_of_addr b4.apart a1 b1
    .exact absurd (Og a2 (old y c b1)) (Bt _)
    .exact absurd (Og b2 (old x c a1)) (Bt _)
    .exact M.ok.inj x y c a1 b1
   .
    have be:(relabel f X.env).names.lookup x=J .cell\/(relabel f X.env).names.lookup x=J .free:=hx
    cases e:f.names.lookup x with
    |none =>
     exfalso;have nn:∀(l:List (Str×NameKind)),l.lookup x=Y->(l.map λ(n,k)=>if(k==NameKind.free&&X.env.scope.kind == .function&&X.env.kindOf n==J .cell)then(n,NameKind.cell)else(n,k)).lookup x=Y:=by
      intro l
      induction l with
      |nil=>intro _;rfl
      |cons y l ih =>
       intro hl;obtain⟨n,kk⟩:=y;rw[CY]at hl
       split at hl
       .cases hl
       .rename_i gi
        rw[n8];dsimp only
        split<;>(rw[CY];simp only[gi];exact ih hl)
     have e2:=nn f.names e;rcases be with z|z
     .rw[show(relabel f X.env).names.lookup x=Y from e2]at z;cases z
     .rw[show(relabel f X.env).names.lookup x=Y from e2]at z;cases z
    |some kk =>
     have e2:=cA (env:=X.env) M.ok.kind e;have hk:kk=.free\/kk=.cell:=by
      rcases be with z|z
      .rw[show(relabel f X.env).names.lookup x=_ from e2]at z;have z':=Option.some.inj z;by_cases zz:kk=.free/\X.env.kindOf x=J .cell
       .exact .inl zz.1
       .rw[e_ zz]at z';exact .inr z'
      .rw[show(relabel f X.env).names.lookup x=_ from e2]at z;have z':=Option.some.inj z;by_cases zz:kk=.free/\X.env.kindOf x=J .cell
       .exact .inl zz.1
       .rw[e_ zz]at z';exact .inl z'
     rcases hk with hk|hk
     .subst hk;have hf:=C.all _ (PySem.mem_of_lookup e) rfl;obtain⟨c,h1,_⟩:=e0 x hf;exact⟨c,d1 x c hf h1⟩
     .subst hk;obtain⟨c,hc⟩:=(b6 x).mpr (PySem.mem_of_lookup e);show ∃c,(cn++cl).lookup x=J c;rw[mF]
      cases z:cn.lookup x with
      |some c'=>exact⟨c',rfl⟩
      |none=>exact absurd hc (AV cn x z c)
   .have be:=of_decide_eq_true hx;rcases ax x c e with⟨_,_,q,_⟩|⟨_,q⟩
    .exact wh q
    .rw[q]at be;cases be
   .obtain⟨o,eo,_⟩:=R.obj _ _ b5 b S;exact t3 (nw eo)
   .rcases ax x c e with⟨_,_,q,_⟩|⟨q,_⟩
    .obtain⟨o,eo,_⟩:=R.obj _ _ b5 b S;exact absurd (Og q (z▸nw eo)) (Bt _)
    .exact (a8 b S).2.2.2.2.1 x c q z
   .obtain⟨_,_,_,h4,_⟩:=a8 b S;rcases h4 with h4|h4
    .exact M.ok.noex b o e h4
    .exact absurd (rc (nw e) (m_ M.ok.bsz h4)) (Bt _)
   .obtain⟨_,h2,h3,_⟩:=a8 b S;rcases l_.mp (M.stkSub b z)with e|e
    .exact h2 e
    .exact h3 e
  obtain⟨mX,hC,lX⟩:=M.loc;have fk:Le U H (U1++[F.heap.objs.size]) L:=l1.trans l3
  let am:L2.St:=List.replicate B.length Y++fm.map λi=>(Z[i]?).getD Y
  have gV:fm.length=frees.length:=by have:=congrArg List.length C.fm;simpa using this
  have dt:Inv (dL X f (cn++cl) E L fp (B++frees)) [] am L { E with heap:=h',toks:=E.toks}:=by
   refine⟨ok,rfl,M.bare,Un.kept O,⟨_,eu,λi x v hN hv hw=>?_⟩,λx c e=>?_,?_,λx c e=>?_,λp hp=>absurd (show p∈([]:T0)from hp) (by simp),M.hok.kept O,?_⟩
   .have dc:(B++frees)[i]?=J x:=hN;have dx:B.length<=i:=by
     by_cases z:B.length<=i
     .exact z
     .exfalso;have an:am[i]?=J (J v):=hv;rw[we (by simp;ext),FU]at an
      split at an<;>cases an
    have an:am[i]?=J (J v):=hv;rw[Bq (by simpa using dx),Kz,tx]at an;rw[Bq dx]at dc
    cases ej:fm[i-B.length]? with
    |none=>rw[ej]at an;cases an
    |some j =>
     rw[ej]at an;have ef:=congrArg (λl=>l[i-B.length]?) C.fm;simp only[tx,ej,dc,KO]at ef;have hh:N[j]?=J x:=by simpa using ef
     have ev:Z[j]?=J (J v):=by
      have:(Z[j]?).getD Y=J v:=by simpa using an
      cases z:Z[j]? with
      |none=>rw[z]at this;cases this
      |some o=>rw[z]at this;simp at this;rw[this]
     have hx:x∈frees:=Be dc;have gp:Ol X.env.scope x:=.inr (.inl (C.cl x hx));obtain⟨u,ru,ez⟩:=lX j x v (by rw[g.hN];exact hh) ev gp;refine⟨u,ru,.inr ⟨?_,?_⟩⟩
     .left;show(relabel f X.env).names.lookup x=J .cell
      have:=cA (env:=X.env) M.ok.kind (C.hf x hx)
      rw[b_ ⟨rfl,C.cl x hx⟩]at this;exact this
     .rcases ez with⟨hk,_⟩|⟨_,c,hc,dr⟩
      .rw[C.cl x hx]at hk;cases hk
      .obtain⟨c',h1,h2⟩:=e0 x hx;rw[hc]at h2;cases h2;obtain⟨o,eo,ed⟩:=dr;exact⟨c,d1 x c hx h1,o,O _ _ eo,ed⟩
   .rcases ax x c e with⟨_,_,_,q⟩|⟨q,_⟩
    .exact⟨Y,q⟩
    .obtain⟨v,o,eo,ed⟩:=M.cell x c q;exact⟨v,o,O _ _ eo,ed⟩
   .exact M.hok.fresh (ia _)
   .rcases ax x c e with⟨_,_,q,_⟩|⟨q,_⟩
    .exact M.hok.fresh (wh q)
    .exact M.freeC x c q
   .show am.length=(B++frees).length;simp[am,gV]
  have gY:Good (dL X f (cn++cl) E L fp (B++frees)) (B++frees) B G' k:=by
   refine⟨rfl,nd,λx hx=>?_,λx hx=>?_,λx hx=>?_,dbg,g.calm,g.room,PassesOwn.never⟩
   .rcases nt.mp hx with z|z
    .rcases C.hv x z with z|z
     .left
      have:=cA (env:=X.env) M.ok.kind z
      rw[e_ (λq=>nomatch q.1)]at this;exact this
     .right
      have:=cA (env:=X.env) M.ok.kind z
      rw[e_ (λq=>nomatch q.1)]at this;exact this
    .right
     have:=cA (env:=X.env) M.ok.kind (C.hf x z)
     rw[b_ ⟨rfl,C.cl x z⟩]at this;exact this
   .rcases C.hv x hx with z|z
    .right
     have:=cA (env:=X.env) M.ok.kind z
     rw[e_ (λq=>nomatch q.1)]at this;exact this
    .exact .inl (decide_eq_true z)
   .have:=cA (env:=X.env) M.ok.kind (g0 x hx)
    rw[e_ (λq=>nomatch q.1)]at this;exact this
  obtain⟨hg,ht,he⟩:=hY (dL X f (cn++cl) E L fp (B++frees)) rfl rfl rfl rfl rfl rfl gY;have hj:RS X.K (U1++[F.heap.objs.size]) L (Cq B.length fm aj) am:=by
   refine⟨by simp[am,Cq],λi v e=>?_⟩;unfold Cq at e;by_cases z:B.length<=i
   .rw[Bq (by simpa using z),Kz,tx]at e
    cases ej:fm[i-B.length]? with
    |none=>rw[ej]at e;cases e
    |some j =>
     rw[ej]at e;have ev:aj[j]?=J (J v):=by
      have:(aj[j]?).getD Y=J v:=by simpa using e
      cases z:aj[j]? with
      |none=>rw[z]at this;cases this
      |some o=>rw[z]at this;simp at this;rw[this]
     obtain⟨v',e',rv⟩:=rs.2 j v ev;refine⟨v',?_,rv.le fk⟩;show am[i]?=_;rw[Bq (by simpa using z),Kz,tx,ej];simp[e']
   .rw[we (by simp;ext),FU]at e
    split at e<;>cases e
  have q3:Ful X (RV' X) aj (U1++[F.heap.objs.size]) L ((BK it h1.length gt mt me it.xs (Cq B.length fm aj) (h1++[.lst []])).bind λ_ h3=>.ok (.loc h1.length) h3) Q:=Ful.le l3 q1;have b3:(U1++[F.heap.objs.size])[h1.length]?=J F.heap.objs.size:=by rw[<-cb.len];simp
  have cp:∀a9:Shared,a9={ E with heap:=h',toks:=E.toks}->codeAny (model X.prog X.w) X.A (.compLoop (.ListComp cd [⟨tg,al,ca,0⟩] f c6) 0 (.ref e7) (.ref F.heap.objs.size) (compEnvC f (cn++cl) E.heap.objs.size X.env))
    (compPost (model X.prog X.w) X.A X.xe use Qv (.ref F.heap.objs.size) E.heap.objs.size) a9:=by
   rintro a9 rfl;refine sR (CI X (dL X f (cn++cl) E L fp (B++frees)) it tn fp (U1++[F.heap.objs.size]) L aj h1.length gt mt me Q) ?_ it.xs.length
    ⟨0,am,L,_,_,_,rfl,t_ _,dt,R.keep _ _ _ b5 (λb _ o e=>O b o e),λb S=>(a8 b S).1,Le.refl _ _,hj,ea,by simpa using q3⟩
   rintro n s6 ⟨i,Z6,H6,U6,bt,h6,rfl,hE,I6,eF,e6,l6,hq,c0,q6⟩;have a7:∀{H':Hp},(∀b∈fp,H' b=Y)->∀b∈fp,jb (dL X f (cn++cl) E L fp (B++frees)) [] H' b:=λ{H'} hn b S =>
    ⟨hn b S,(ok.exf b S).1,ok.exfs b S,.inl S,(ok.exf b S).2,λp hp=>absurd (show p∈([]:T0)from hp) (by simp)⟩
   by_cases bi:i<it.xs.length
   .have ed:it.xs.drop i=it.xs[i]::it.xs.drop (i+1):=Fe bi;rw[ed]at q6;simp only[BK]at q6;by_cases hok:it.ok h6
    .rw[b_ hok]at q6;obtain⟨j1,_⟩:=jr U6 H6 h6 i (l3.trans l6) c0 hok;obtain⟨go,yl⟩:=j1 bi;refine k_ (R.item (dL X f (cn++cl) E L fp (B++frees)) rfl rfl rfl g.calm i [] s6 Z6 H6 (λ_ _=>False) I6 (a7 e6) eF go) λr s7 ⟨u,hr,h7⟩=>?_;subst hr;refine k_ h7 λ_ s8 ⟨x8,H8,I8,r8,y8,da,fl⟩=>?_;obtain⟨U8,x,l8,f6,ex,rx⟩:=yl x8 H8 y8;have g2:x=it.xs[i]:=by rw[BE bi]at ex;exact(Option.some.inj ex).symm
     subst g2;have f4:=I8.pinned (a7 fl) (R.obj _ _ da);have q8:=Ful.le l8 q6;have back:∀{Z9:L2.St}{H9:Hp}{s9:Shared},Inv (dL X f (cn++cl) E L fp (B++frees)) ([]++k8 fp s8.heap) Z9 H9 s9->Inv (dL X f (cn++cl) E L fp (B++frees)) [] Z9 H9 s9/\tn (i+1) s9.heap/\∀b∈fp,H9 b=Y:=λ{Z9 H9 s9} I9=>by
      refine⟨I9.unpinned,R.keep _ _ _ da λb S o e=>(I9.pin (b,o) (q0 _ (q0 _ (hG S e)))).1,λb S=>?_⟩;obtain⟨o,e,d⟩:=R.obj _ _ da b S;exact(I9.pin (b,o) (q0 _ (q0 _ (hG S e)))).2.1
     cases eg:gt it.xs[i] bt h6 with
     |nx P h9 =>
      rw[eg]at q8;dsimp only at q8
      refine k_ (hg _ s8 Z6 H8 x8 u (λZ' H'=>∃U',Le U8 H8 U' H'/\RH X.K X.mg U' H' h9/\RS X.K U' H' P Z') f4 r8 ⟨U8,bt,h6,_,hq.le l8,f6,rx,by
       show mT _ _ _ (gt it.xs[i] bt h6) _
       rw[eg];exact λU' H' Z' l r s=>⟨U',l,r,s⟩⟩) λ_ s9 ⟨Z9,H9,I9,U9,l9,hu,cf⟩=>?_
      have q9:=Ful.le l9 q8
      cases em:mt P h9 with
      |ok b ay =>
       rw[em,Out.ne_ok]at q9;rw[Out.bind_ok]at q9
       refine k_ (ht _ s9 Z9 H9 (λb' H'=>b'=b/\∃U',Le U9 H9 U' H'/\RH X.K X.mg U' H' ay) I9 ⟨U9,P,h9,cf,hu,by
        show Ful _ _ _ _ _ (mt P h9) _
        rw[em];exact λU' H' v' l r e=>⟨e.symm,U',l,r⟩⟩) λb' g3 ⟨c1,fa,eb,c2,a3,cx⟩=>?_
       subst eb;have ab:=Ful.le a3 q9
       cases b' with
       |false =>
        rw[e_ CV]at ab ⊢;obtain⟨eC,el,ei⟩:=back fa;exact⟨_,by ext,i+1,Z9,c1,c2,P,ay,rfl,bi,eC,el,ei,l6.trans (l8.trans (l9.trans a3)),cf.le a3,cx,ab⟩
       |true =>
        rw[b_ rfl]at ab ⊢
        cases ee:me P ay with
        |ok v eh =>
         rw[ee,Out.ne_ok]at ab;rw[Out.bind_ok]at ab
         refine k_ (he _ g3 Z9 c1 (λv' H'=>∃U',Le c2 c1 U' H'/\RH X.K X.mg U' H' eh/\RP X.K U' H' v v') fa ⟨c2,P,ay,cf.le a3,cx,by
          show Ful _ _ _ _ _ (me P ay) _
          rw[ee];exact λU' H' v' l r e=>⟨U',l,r,e⟩⟩) λge g5 ⟨v',c3,gs,dF,en,c4,cm,ey⟩=>?_
         have as:=Ful.le c4 ab;have bm:Le (U1++[F.heap.objs.size]) L en c3:=l6.trans (l8.trans (l9.trans (a3.trans c4)));obtain⟨oa,f0,g4⟩:=cm.obj (bm.get b3);rw[f0]at as
         cases oa with
         |dic ks xs=>exact as.elim
         |exc x=>exact as.elim
         |lst ys =>
          dsimp only at as;by_cases bj:ys.length<sizeLine
          .rw[b_ bj]at as;obtain⟨dj,gy,ry⟩:=g4;obtain⟨ep,c5⟩:=cm.put (bm.get b3) (o:=.lst (ys++[v])) (ho:=.lst (dj++[v'])) ⟨_,rfl,ry.append (.cons ey .nil)⟩;have ap:=qF (X:=dL X f (cn++cl) E L fp (B++frees)) _ g5 Z9 c3 (.ref F.heap.objs.size) [v'] (.ref F.heap.objs.size) [ge] (λ_ H'=>H'=lf c3 F.heap.objs.size (.lst (dj++[v']))) gs rfl (.cons dF .nil) ⟨F.heap.objs.size,dj,v',rfl,rfl,gy,by rw[<-ry.length];exact bj,rfl⟩;refine k_ ap λ_ hD ⟨_,hF,f5,_,eH⟩=>?_;subst eH;obtain⟨dV,e8,ek⟩:=back f5;exact⟨_,by ext,i+1,Z9,_,en,P,_,rfl,bi,dV,e8,ek,bm.trans c5,(cf.le a3).le (c4.trans c5),ep,Ful.le c5 as⟩
          .rw[e_ bj]at as;exact as.elim
        |exc x eh=>rw[ee]at ab;exact ab.elim
        |bad=>rw[ee]at ab;exact ab.elim
      |exc x ay=>rw[em]at q9;exact q9.elim
      |bad=>rw[em]at q9;exact q9.elim
     |_=>rw[eg]at q8;exact q8.elim
    .rw[e_ hok]at q6;exact q6.elim
   .have e:i=it.xs.length:=by ext
    rw[e,PF]at q6;simp only[BK]at q6;by_cases hok:it.ok h6
    .rw[b_ hok]at q6;obtain⟨_,j2⟩:=jr U6 H6 h6 i (l3.trans l6) c0 hok;refine k_ (R.done (dL X f (cn++cl) E L fp (B++frees)) rfl rfl rfl g.calm i [] s6 Z6 H6 (λ_ _=>False) I6 (a7 e6) eF (j2 (by ext))) λr s7 ⟨hr,I7⟩=>?_;subst hr;obtain⟨m7,g1,_⟩:=I7.loc;have IX:=M.call' (s':=s7) (ch:=fp) I7.os I7.base I7.hok I7.bare λb S=>by
      obtain⟨_,a2,_,a4,a5,a6⟩:=a8 b S;exact⟨a4,a2,a5,a6⟩
     exact fin _ _ H6 s7 m7 IX I7.free g1 (C2 M.lt) M.sz (M.nofs (ia _)) (λx c e z=>by
      obtain⟨v,qc⟩:=M.cell x c e
      exact absurd qc.lt (by rw[z];exact Bt _)) (λp hp z=>absurd (nw (M.pin p hp).1) (by rw[z];exact Bt _)) (q6 U6 H6 _ (Le.refl _ _) c0 (.loc (l6.get b3)))
    .rw[e_ hok]at q6;exact q6.elim
  exact codeAny_compStart_list (cp _ rfl) (R.self X.A 0 _ _ _ (R.keep _ _ _ b5 (λb _ o e=>O b o e)) (cp _ rfl))
 exact db
def DF(g:Good X N W G k){F j r:Expr}{l:T5}{i:Scope}{z:Pos}{f frees u:TQ}{fm:TV}{O:Mx MIt}{P:Mg}{mt:Mx Bool}{M:Mx PV}(C:x_ X N i f frees fm)(nd:(f++frees).Nodup)(y:∀x∈u,i.names.lookup x=J .globalImplicit)(dbg:∀x∈(f++frees)++u,(x==("__debug__":Str))=T/\(x==("__classdict__":Str))=T/\x≠"__name__")(R:MI X F j O)(hY:∀a:Cx,a.prog=X.prog->a.w=X.w->a.K=X.K->a.mg=X.mg->a.base=X.base->a.env.scope=relabel i X.env->Good a (f++frees) f u k->MG a F P/\Hi a l mt/\ME a r M)(hs:∀x,foldedSetIterable j X.env x=pure x:=by intro _;rfl):ME X (.ListComp r [⟨F,j,l,0⟩] i z) (gP f.length fm O P mt M):=by
 intro Lo s Z H Q E tm;refine qI g C nd y dbg R hY hs E tm λL D H6 s7 m7 IX hC ns hL hz U B S q=>?_;refine⟨m7,ns,λab Bj=>⟨.ref L,H6,?_,rfl,q⟩⟩;exact IX.turned (t':=s7.toks) (λb o hb e=>Bj.extBut b o hb e) hC hL (.inr hz) B S
def vt(g:Good X N W G k)(i:Nat){y:Str}{py B:Pos}{Q u L:Expr}{F:T5}{a:Scope}{O:Pos}{j frees R:TQ}{fm:TV}{mi:Mx MIt}{gt:Mg}{mt:Mx Bool}{me:Mx PV}(M:N[i]?=J y)(hw:W[i]?=J y)(S:swapsWith (.ListComp L [⟨Q,u,F,0⟩] a O) (J (.Name y py)) B.line X.env=pure I)(C:x_ X N a j frees fm)(nd:(j++frees).Nodup)(ab:∀x∈R,a.names.lookup x=J .globalImplicit)(dbg:∀x∈(j++frees)++R,(x==("__debug__":Str))=T/\(x==("__classdict__":Str))=T/\x≠"__name__")(hi:MI X Q u mi)(hY:∀f:Cx,f.prog=X.prog->f.w=X.w->f.K=X.K->f.mg=X.mg->f.base=X.base->f.env.scope=relabel a X.env->Good f (j++frees) j R k->MG f Q gt/\Hi f F mt/\ME f L me)(hs:∀x,foldedSetIterable u X.env x=pure x:=by intro _;rfl):MS X (.Assign [.Name y py] (.ListComp L [⟨Q,u,F,0⟩] a O) B) (aZ i (gP j.length fm mi gt mt me)):=by
 intro Lo s Z H D aj tm;obtain⟨U,ah,h,rs,rh,q⟩:=tm;rw[exec_Assign_Name_used _ _ _ _ S];refine d_ (wpAny_standAt (d_ ?_))
 refine d_ (wpAny_mono (qI g C nd ab dbg hi hY hs aj
  ⟨U,ah,h,rs,rh,bA.ex q λU1 H1 v v' h1 l r z w=>w U1 H1 _ (Le.refl _ _) r ((rs.le l).set i z)⟩ λE P H6 s7 m7 IX hC ns hL hz al am hp q6=>?_) (λ_ s' hq=>ii (ii hq)) λ_ _ e=>e)
 .obtain⟨o,es,ep,ho,hd,hr⟩:=id ns;have IP:Inv X (Lo++[(P,o)]) Z H6 s7:=IX.pins_of λp an=>(nt.mp an).elim (λz=>IX.pin p (q0 _ z)) λz=>by
   have e:p=(P,o):=by simpa using z
   subst e;exact⟨ho,hC,hL,al,λv z=>by rw[hd]at z;cases z⟩
  have st:=ve (pos:=py) (by rw[g.hN];exact g.nd) (g.x M) (g.loc y (aN M)) (g.fn y (aN hw)) (Lo++[(P,o)]) s7 Z H6 (.ref E) (.ref E) (λZ' H'=>Z'=Z.set i (J (.ref E))/\H'=H6) IP rfl ⟨rfl,rfl⟩;refine k_ st λ_ s8 ⟨Z8,H8,I8,e1,e2⟩=>?_;subst e1;subst e2;have pn:=I8.pin (P,o) (q0 _ (q0 _ (by simp)));refine⟨m7,⟨o,es,ep,pn.1,hd,hr⟩,λap Bj=>⟨_,_,?_,q6⟩⟩;exact(I8.unpinned).turned (t':=s8.toks) (λb o hb e=>Bj.extBut b o hb e) hC hL (.inr hz) am hp
end
@[inline]abbrev DG:TZ:=[.type "ValueError",.type "Exception",.type "BaseException",.type "object"]
structure Cr(K:hU)(mg:Ca)(x:Str)(C:Addr):Prop where
 bd:mg x=J (.ref C)
 ok:PySem.W.excIn K C DG "ValueError.__new__"=I
abbrev L6(X:Cx)(x:Str)(C:Addr):Prop:=Cr X.K X.mg x C
def DH{K:hU}{h:Heap}{C:Addr}{y:TZ}{a:String}(G:K.In h)(q:PySem.W.excIn K C y a=I):
  ∃u N O q bs i M sub P f Q F B H z E U,h.get? C=J (excClassObj O q C N bs u i M sub P f Q F B H z E a)/\h.Ns N U/\U "__init__"=Y/\OwnTail h y u/\∀base r,PySem.W.mroIn K C base=J r->(Value.ref C::u).contains base=r:=by
 unfold PySem.W.excIn at q
 split at q
 .rename_i Q X sl S
  split at q
  .rename_i C' u F B H z n E hm W
   simp only[KJ,beq_iff_eq,F0]at q;obtain⟨⟨⟨⟨⟨rfl,rfl⟩,j⟩,ht⟩,hok⟩,L⟩:=q;obtain⟨O,bs,Z,ns,qn,hd,M,sub,P,f,ah⟩:=X;subst hm j;have R:sl=#[F,B,H,z,J (.builtin n),E]:=by obtain⟨l⟩:=sl;simp only at W;rw[W]
   subst R
   exact⟨u,ns,O,qn,bs,hd,M,sub,P,f,Q,F,B,H,z,E,_,G _ _ S,.of_isNs (PySem.W.isNs_of_in G hok),PySem.W.nsMap_none_of_in G hok L,PySem.W.tail_of_in G ht,λbase r e=>by
    unfold PySem.W.mroIn PySem.W.clsIn at e;rw[S]at e
    simpa using e⟩
  .cases q
 .cases q
section
variable{X:Cx}{N W G:TQ}{k:Nat}
def nG(x:Str)(m:Mx (TN)):mh:=w_ m λa Z h=>if a.length<=sizeLine then .rse ⟨x,[]⟩ Z h else .bad
def zV(g:Good X N W G k){x:Str}{j:Nat}{C:Addr}(hj:G[j]?=J x)(EC:L6 X x C){e:Expr}{B:T5}{m:Mx (TN)}{np a R:Pos}(ha:MA X (e::B) m)(he:starEach (e::B) X.env=(T,eval e X.env)::starEach B X.env:=by rfl)(aj:(backTo a (starEach B X.env)).any (·.1)=T:=by rfl):
  MS X (.Raise (J (.Call (.Name x np) (e::B) [] a)) Y R) (nG x m):=by
 intro Lo s Z H D f ⟨U,M,h,rs,rh,q⟩;have d:=g.dbg x (q0 _ (aN hj));obtain⟨bm,Nn,nm,qn,bs,F,sn,sub,ab,al,dd,k0,k1,k2,k3,k5,mN,hC,hN,S,E,_⟩:=DH f.mod.kin EC.ok;refine wpAny_Raise_call_subT (nm:=nm) (q:=qn) (N:=Nn) (bs:=bs) (hdct:=F) (sn:=sn) (sub:=sub) (ab:=ab) (col:=al) (dd:=dd) (k0:=k0) (k1:=k1) (k2:=k2) (k3:=k3) (k5:=k5)
  PySem.F.excBase_ValueError (E.hasType PySem.F.excBase_ValueError.hasBase) (f.ok.hd g.calm) (by rw[he];show(T||(backTo a (starEach B X.env)).any (·.1))=T;rw[aj];rfl) S (uK f (g.gl x (aN hj)) EC.bd ⟨rfl,?_⟩ d.1)
 have A:=ha a Lo s Z H (λvs u=>∃i xs L,Le U H i u/\RH X.K X.mg i u L/\RPs X.K i u xs vs/\bA X i u (if xs.length<=sizeLine then .rse ⟨x,[]⟩ M L else .bad) D) f
  ⟨U,M,h,rs,rh,bA.ex q λi u v v' L l r z w=>⟨i,v,L,l,r,z,w⟩⟩
 rw[he]at A ⊢;refine Calls.evalArgs_plain (wpAny_mono A (λus s2 ⟨vs,u,P,rv,i,xs,L,l1,ah,rx,w⟩=>?_) λ_ _ y=>y);by_cases Q:xs.length<=sizeLine
 .rw[b_ Q]at w;refine⟨rfl,by rw[<-rv.length,<-rx.length];exact Q,P.bk _ _ hC,hN.keeps P.bk,E.keeps P.bk,λh' ea O=>?_⟩;have I0:=Inv.unpinned (Lo:=[]) P;exact w ea C i u Z { s2 with heap:=h'} s2.heap us rfl EC.bd (Le.refl _ _) ah (rs.le l1) I0 O
 .rw[e_ Q]at w;exact w.elim
end
section
variable{X:Cx}{N W G:TQ}{k:Nat}{Z:L2.St}{H:Hp}{s:Shared}
end
section
variable{prog:Program}{w:World}{A:Around}{E:T7}{h:Heap}{g:Array GenState}{d:Drawn}{t:Nat}{os:OsState}{a C:Addr}{o:Obj}{K:hU}
end
section
variable{X:Cx}{N W G:TQ}{k:Nat}
end
def lZ(hf:∀v d,f v=J d->d.depth<=n/\d.hasDict=T):∀{xs:TN}{a:List PyData},cB f xs=J a->PyData.depthAll a<=n/\PyData.hasDictAll a=T
 |[],a,e=>by cases e;simp[PyData.depthAll,PyData.hasDictAll]
 |x::r,a,e=>by
  simp only[cB]at e
  split at e
  .rename_i d j e1 e2
   cases e;obtain⟨u,i⟩:=hf _ _ e1;obtain⟨y,l⟩:=lZ hf e2;simp only[PyData.depthAll,PyData.hasDictAll,i,l];exact⟨⋯,rfl⟩
  .cases e
def ui:∀(n:Nat)(v:PV)(d:PyData),rd n h v=J d->d.depth<=n/\d.hasDict=T
 |0,v,d,e=>by
  cases v<;>simp only[rd]at e<;>cases e<;>simp[PyData.depth,PyData.hasDict]
 |n+1,v,d,e=>by
  have key:∀xs,(∀f,cB (rd n h) xs=J f->PyData.depthAll f<=n/\PyData.hasDictAll f=T):=λxs f=>lZ (ui n)
  cases v with
  |non=>cases e;simp[PyData.depth,PyData.hasDict]
  |bl b=>cases e;simp[PyData.depth,PyData.hasDict]
  |int b=>cases e;simp[PyData.depth,PyData.hasDict]
  |str b=>cases e;simp[PyData.depth,PyData.hasDict]
  |tup xs =>
   simp only[rd,t0]at e;obtain⟨f,e1,rfl⟩:=e;obtain⟨a,b⟩:=key xs f e1;exact⟨by simp only[PyData.depth];lia,by simp only[PyData.hasDict,b]⟩
  |frl xs =>
   simp only[rd,t0]at e;obtain⟨f,e1,rfl⟩:=e;obtain⟨a,b⟩:=key xs f e1;exact⟨by simp only[PyData.depth];lia,by simp only[PyData.hasDict,b]⟩
  |loc m =>
   simp only[rd]at e
   split at e
   .rename_i xs _
    simp only[t0]at e;obtain⟨f,e1,rfl⟩:=e;obtain⟨a,b⟩:=key xs f e1;exact⟨by simp only[PyData.depth];lia,by simp only[PyData.hasDict,b]⟩
   .cases e
section
variable{X:Cx}{N W G:TQ}{k:Nat}
end
def rT{p:Str->Prop}{a:Str}{l:TQ}(h:p a)(t:∀x∈l,p x):∀x∈a::l,p x:=λx f=>by
 rcases l_.mp f with rfl|z
 .exact h
 .exact t x z
section
variable{X:Cx}{N W G:TQ}{k:Nat}
def yN(g:Good X N W G k){x:Str}{j:Nat}(r:G[j]?=J x)(B:∃C,L6 X x C){e:Expr}{f:T5}{m:Mx (TN)}{u a l:Pos}(y:MA X (e::f) m)(z:starEach (e::f) X.env=(T,eval e X.env)::starEach f X.env:=by rfl)(i:(backTo a (starEach f X.env)).any (·.1)=T:=by rfl):
  MS X (.Raise (J (.Call (.Name x u) (e::f) [] a)) Y l) (nG x m):=let⟨_,h⟩:=B;zV g r h y z i
def Cal.at(e1:a.prog=X.prog)(e2:a.w=X.w)(e3:a.K=X.K)(e4:a.mg=X.mg)(e5:a.base=X.base)(c:Cal X x ps F i):Cal a x ps F i:=c.to e1 e2 e3 e4 e5
end
def Hj(Bz:X.env.scope=sc)(j:scope.kind=.function)(u:∀y∈scope.names,y.2=.cell->scope.names.lookup y.1=J .cell)(C:∀y∈scope.names,y.2=.local->scope.names.lookup y.1=J .local)(E:∀x∈a,scope.names.lookup x=J .local\/scope.names.lookup x=J .cell)(B:∀x∈frees,scope.names.lookup x=J .free)(z:∀y∈scope.names,y.2=.free->y.1∈frees)(l:fm.map (λi=>N[i]?)=frees.map J)(f:∀x∈frees,sc.names.lookup x=J .cell):x_ X N scope a frees fm :=
 ⟨j,u,C,E,B,z,l,λx r=>by rw[<-Bz]at f;exact f x r⟩
section
variable{Z:ls}{h:MH}
@[simp]theorem Ke:nG x m Z h=(m Z h).go Z λvs Z h=>if vs.length<=sizeLine then .rse ⟨x,[]⟩ Z h else .bad:=rfl
@[simp]theorem L7{nv:Nat}{fm:TV}{mi:Mx MIt}{gt:Mg}{mt:Mx Bool}{me:Mx PV}:gP nv fm mi gt mt me Z h =
 (mi Z h).bind λit h1=>(BK it h1.length gt mt me it.xs (Cq nv fm Z) (h1++[.lst []])).bind λ_ h3=>.ok (.loc h1.length) h3:=rfl
def L8{o:MO}{g:MH}:(h++o::g)[h.length]?=J o:=by simp
end
def Cb(f:Nat->TN->MH->T6)(m:Mx PV)(j:Mx (TN)):Mx PV:=λZ h=>(m Z h).bind λo a=>match o with
 |.loc n=>(match a[n]? with
  |some (.lst _)=>(j Z a).bind λl i=>(f n l i).ne
  |_=>.bad)
 |_=>.bad
def fP(n:Nat)(a:TN)(h:MH):T6:=match a,h[n]? with
 |[v],J (.lst xs)=>if xs.length<sizeLine then .ok .non (h.set n (.lst (xs++[v])))else .bad
 |_,_=>.bad
def jt(n:Nat)(a:TN)(h:MH):T6:=match a with
 |[.loc m]=>(match h[n]?,h[m]? with
  |some (.lst xs),J (.lst ys)=>if xs.length+ys.length<=sizeLine then .ok .non (h.set n (.lst (xs++ys)))else .bad
  |_,_=>.bad)
 |[.tup ys]=>(match h[n]? with
  |some (.lst xs)=>if xs.length+ys.length<=sizeLine then .ok .non (h.set n (.lst (xs++ys)))else .bad
  |_=>.bad)
 |_=>.bad
section
variable{X:Cx}{N W G:TQ}{k:Nat}
def Hk(X:Cx)(f:Nat->TN->MH->T6):V->List V->Hp->VK->Prop:=λx j H Q=>∃U h n a i,x=.ref a/\U[n]?=J a/\RH X.K X.mg U H h/\RPs X.K U H i j/\ja X (RV' X) U H (f n i h) Q
def qe:GH X "list.append" (Hk X fP):=by
 intro M s Z H x S v y Q i P F ⟨U,h,n,a,R,e,u,r,rp,q⟩;subst e;obtain⟨o,E,O⟩:=r.obj u;unfold fP at q
 cases rp with
 |nil=>exact q.elim
 |cons L B =>
  cases B with
  |cons _ _=>exact q.elim
  |nil =>
   rw[E]at q
   cases o with
   |lst xs =>
    dsimp only at q;by_cases f:xs.length<sizeLine
    .rw[b_ f]at q;obtain⟨ys,z,l⟩:=O;obtain⟨j,C⟩:=r.put u (o:=.lst (xs++[_])) ⟨_,rfl,l.append (.cons L .nil)⟩;exact qF M s Z H _ _ v y Q i P F ⟨a,ys,_,rfl,rfl,z,by rw[<-l.length];exact f,q U _ .non C j .non⟩
    .rw[e_ f]at q;exact q.elim
   |_=>exact q.elim
def qX(l b:Addr)(f:Array Value)(n:Nat)(a:Array Value)(r:¬(!f.isEmpty&&Builtin.List.listTooLong (f.size+a.size))=I)(j:f.size<=sizeLine)(i:f.size+a.size<=sizeLine+1):
  Meets (Builtin.«list.extend» ⟨[.ref l,.ref b],[]⟩) (λ_ R s=>s.heap.get? l=J { cls:=.type "list",data:=.seq f n}/\IsTup s.heap b a/\R (.ok (.ret Value.none)) { s with heap:=s.heap.update l (Obj.mapSeq λx=>x++a),toks:=s.toks}):=by
 intro prog w A R s ⟨z,⟨o,y,B,E,hd⟩,h⟩;have u:(f++a).size<=sizeLine+1:=by rw[KH];exact i
 show wpAny _ A.in1 (Builtin.List.listExtendWith (.ref l) (.ref b) .none) _ _ s;refine d_ (wpAny_typeOf ⟨o,y,B⟩ ?_);have C:(Builtin.List.listSameRef (.ref l) (.ref b)||Value.type "tuple" == Value.type "list" || Value.type "tuple" == Value.type "tuple")=I:=by simp
 simp only[C];refine d_ ?_;refine d_ (wpAny_seqItems y hd (ii ?_));refine d_ ?_;refine d_ (wpAny_seqItems z rfl (ii ?_));simp only[r];refine d_ (wpAny_updateSeq z rfl ?_ (hz:=j) (_hz':=u));exact ii h
def yw:GH X "list.extend" (Hk X jt):=by
 intro Lo s Z H x vs v us Q j rx rv ⟨U,h,n,a,ps,e,en,P,rp,q⟩;subst e;obtain⟨o,eo,ro⟩:=P.obj en;unfold jt at q
 cases rp with
 |nil=>exact q.elim
 |cons r1 t1 =>
  cases t1 with
  |cons _ _=>cases r1<;>exact q.elim
  |nil =>
   cases r1 with
   |@loc m b em =>
    obtain⟨o2,S,ah⟩:=P.obj em;dsimp only at q;rw[eo,S]at q
    cases o with
    |lst xs =>
     cases o2 with
     |lst C =>
      dsimp only at q;by_cases l:xs.length+C.length<=sizeLine
      .rw[b_ l]at q;obtain⟨ys,O,L⟩:=ro;obtain⟨E,ew,M⟩:=ah;obtain⟨B,R⟩:=P.put en (o:=.lst (xs++C)) (ho:=.lst (ys++E)) ⟨_,rfl,L.append M⟩;exact xX Lo s Z H _ _ v us Q j rx rv ⟨a,b,ys,E,rfl,rfl,O,ew,by rw[<-L.length,<-M.length];exact l,q U _ .non R B .non⟩
      .rw[e_ l]at q;exact q.elim
     |_=>exact q.elim
    |_=>exact q.elim
   |@tup C a2 E sq rr =>
    rw[eo]at q
    cases o with
    |lst xs =>
     dsimp only at q;by_cases l:xs.length+C.length<=sizeLine
     .rw[b_ l]at q;obtain⟨ys,O,L⟩:=ro;obtain⟨B,R⟩:=P.put en (o:=.lst (xs++C)) (ho:=.lst (ys++E)) ⟨_,rfl,L.append rr⟩;cases rx;obtain⟨u,rfl,ru⟩:=rv.one;cases ru;obtain⟨z,i,n,r,an,e⟩:=j.lstM O;obtain⟨f,r2,pl,am⟩:=j.tuple sq;have aj:ys.length+E.length<=sizeLine:=by rw[<-L.length,<-rr.length];exact l
      have al:=r2.length;have ab:i.toArray.size+f.toArray.size<=sizeLine:=by rw[pq,pq];lia
      have y:¬(!i.toArray.isEmpty&&Builtin.List.listTooLong (i.toArray.size+f.toArray.size))=I:=by rw[mq ab,PP];exact CV
      refine call_meets F.slot_list_extend ⟨_,e,rfl⟩ F.entry_list_extend (F.args_list_extend_2 _ _) (qX a _ i.toArray n f.toArray y (by rw[pq];lia) ⋯) ⟨e,pl,?_⟩;refine⟨.non,_,j.lset (its':=i++f) O e (by simp) (r.append r2) ?_,rfl,q U _ .non R B .non⟩;rw[wO];lia
     .rw[e_ l]at q;exact q.elim
    |_=>exact q.elim
   |_=>exact q.elim
variable{o e:Expr}{es:T5}{name:Str}{apos cpos:Pos}{id:String}{f:Nat->TN->MH->T6}{m:Mx PV}{ma:Mx (TN)}
def L9{C:TA}(z:∀Z H Q,tM X (RVs' X) ma Z H Q->C Z H Q){Z:L2.St}{H:Hp}{Q:VK}(tm:tM X (RV' X) (Cb f m ma) Z H Q):tM X (RV' X) m Z H (λx r=>Qo X.K "list" x r/\C Z r λxs B=>Hk X f x xs B Q):=by
 obtain⟨U,j,h,F,O,q⟩:=tm;refine⟨U,j,h,F,O,?_⟩;refine Ful.bind q λU1 r x x' P _ l1 l rx i=>?_
 cases rx with
 |@loc n a E =>
  obtain⟨ob,S,ro⟩:=l.obj E;dsimp only at i;rw[S]at i
  cases ob with
  |lst xs =>
   obtain⟨ys,L,ry⟩:=ro;refine⟨.inl ⟨rfl,ys,SqL.of L⟩,z Z r _ ⟨U1,j,P,F.le l1,l,?_⟩⟩;exact Ful.bind i λM B vs ab R _ l2 u y q2=>⟨M,R,n,a,vs,rfl,l2.get E,u,y,q2.zero⟩
  |_=>exact i.elim
 |_=>exact i.elim
def FA(slot:Slot "list" name id)(r:typeOf (.builtin id)=pure (.type "method_descriptor"))(C:GH X id (Hk X f))(u:ME X o m)(y:MA X (e::es) ma)(j:attributeBase o name X.env (eval o X.env)=eval o X.env:=by rfl)(l:((backTo cpos (starEach (e::es) X.env)).all (λx=>!x.1)&&(backToKw cpos (keywordEach [] X.env)).all (λx=>x.1.isSome)
   && decide ((e::es).length+([]:List Keyword).length+(if([]:List Keyword).isEmpty then 0 else 1)<30))=I:=by rfl)(i:(apos.endLine==cpos.line)=I:=by rfl)(B:starEach (e::es) X.env=(T,eval e X.env)::starEach es X.env:=by rfl)(a:(backTo cpos (starEach es X.env)).any (·.1)=T:=by rfl):
  ME X (.Call (.Attribute o name apos) (e::es) [] cpos) (Cb f m ma) :=
 PE.imp (Lu PySem.F.plainAttrs_list slot r C u y j l i B a) λZ H Q q=>L9 (λ_ _ _ z=>z) q
@[simp]theorem QM:Cb f m ma Z h=(m Z h).bind λo h1=>match o with
 |.loc n=>(match h1[n]? with
  |some (.lst _)=>(ma Z h1).bind λvs h2=>(f n vs h2).ne
  |_=>.bad)
 |_=>.bad:=rfl
end
def bq(h:MH):PV->Option (TN)
 |.tup xs=>J xs
 |.frl xs=>J xs
 |.loc n=>(match h[n]? with
  |some (.lst xs)=>J xs
  |_=>Y)
 |_=>Y
section
variable{X:Cx}{N W G:TQ}{k:Nat}
def eV(j:RH X.K X.mg U H h)(z:RP X.K U H x x')(e:bq h x=J xs):∃a ys,x'=.ref a/\(SqL X.K H a ys\/SqT X.K H a ys)/\RPs X.K U H xs ys:=by
 cases z with
 |tup s r=>cases e;exact⟨_,_,rfl,.inr s,r⟩
 |frl s r=>cases e;exact⟨_,_,rfl,.inl s.sq,r⟩
 |@loc n a u =>
  obtain⟨o,l,y⟩:=j.obj u;simp only[bq,l]at e
  cases o with
  |lst ys =>
   cases e;obtain⟨f,i,B⟩:=y;exact⟨a,f,rfl,.inl (SqL.of i),B⟩
  |_=>cases e
 |_=>cases e
def nU(f g:PV->PV->MH->T6)(a b c:Mx PV):Mx PV:=λZ h=>(a Z h).bind λx j=>(b Z j).bind λy l=>(f x y l).ne.bind λz i=>match z with
 |.bl t=>if t=I then(c Z i).bind λw r=>(g y w r).ne else .ok (.bl T) i
 |_=>.bad
variable{a b c:Expr}{ma mb mc:Mx PV}{f g':PV->PV->MH->T6}{op op':CmpOp}{pos:Pos}
def zq{Z:L2.St}{H:Hp}{Q:VK}(q:tM X (RV' X) (nU f g' ma mb mc) Z H Q):ye (rJ X f) (rJ X g') (tM X (RV' X) ma) (tM X (RV' X) mb) (tM X (RV' X) mc) Z H Q:=by
 obtain⟨U,i,h,C,rh,q⟩:=q;refine⟨U,i,h,C,rh,Ful.bind q λU1 H1 x x' h1 _ R B rx q1=>?_⟩;refine⟨U1,i,h1,C.le R,B,Ful.bind q1 λL H2 y y' P _ S r M q2=>?_⟩;refine⟨L,P,x,y,r,rx.le S,M,?_⟩;have key:Ful X (RV' X) i L H2 (f x y P).ne (λz l=>∃k,z=.bl k/\(if k=I then tM X (RV' X) mc Z l λO H4=>rJ X g' y' O H4 Q else Q (.bl T) l)):=Ful.bind q2 λU3 l z z' h3 _ l3 j rz F=>by
  cases rz with
  |bl t =>
   refine⟨t,rfl,?_⟩
   cases t with
   |true =>
    exact⟨U3,i,h3,C.le (R.trans (S.trans l3)),j,Ful.bind F λU4 H4 w O h4 _ l4 u E q4=>⟨U4,h4,y,w,u,(M.le l3).le l4,E,q4.zero⟩⟩
   |false =>
    exact F U3 l _ (Le.refl _ _) j (.bl _)
  |_=>exact F.elim
 exact key.zero
def zw(j:w6 X (compareOp op) f)(i:w6 X (compareOp op') g')(l:ME X a ma)(r:ME X b mb)(y:ME X c mc)(u:lastMarks [op,op'] [b,c]=T:=by with_unfolding_all rfl):ME X (.Compare a [op,op'] [b,c] pos) (nU f g' ma mb mc) :=
 PE.imp (AQ j i l r y u) λ_ _ _ q=>zq q
@[simp]theorem Kf:nU f g' ma mb mc Z h=(ma Z h).bind λx h1=>(mb Z h1).bind λy h2=>(f x y h2).ne.bind λz h3=>match z with
 |.bl t=>if t=I then(mc Z h3).bind λw h4=>(g' y w h4).ne else .ok (.bl T) h3
 |_=>.bad:=rfl
def DI(i:Bool)(x y:PV)(h:MH):T6:=match bq h y with
 |some ys=>(match rd 60 h x,cB (rd 60 h) ys with
  |some d,J j=>if d.canLay0=I/\PyData.canLayAll0 j=I then .ok (.bl (if i then !j.any (λe=>PyData.eqv e d)else j.any (λe=>PyData.eqv e d))) h else .bad
  |_,_=>.bad)
 |none=>.bad
def n4:∀{i:List PyData},PyData.canLayAll0 i=I->∀d∈i,d.canLay0=I
 |e::i,h,d,hd=>by
  simp only[PyData.canLayAll0,KJ]at h;rcases l_.mp hd with rfl|hd
  .exact h.1
  .exact n4 h.2 d hd
def pY(hf:∀u d i,Reads hp u d i->fq u=PyData.eqv d dx):∀{j:TZ}{l:List PyData}{i:TX},ReadsAll hp j l i->j.any fq=l.any λe=>PyData.eqv e dx
 |_,_,_,.nil=>rfl
 |_,_,_,.cons r t=>by rw[J9,J9,hf _ _ _ r,pY hf t]
def qy:∀{j:TZ}{l:List PyData}{z:TX},ReadsAll hp j l z->∀u∈j,∃d i,d∈l/\Reads hp u d i
 |_,_,_,.nil,u,h=>nomatch h
 |_,_,_,.cons r t,u,h=>by
  rcases l_.mp h with rfl|h
  .exact⟨_,_,pa,r⟩
  .obtain⟨d,i,hd,y⟩:=qy t u h;exact⟨d,i,l7 _ hd,y⟩
def fq(j:Heap)(i:PyData)(u:Value):Bool:=if z:∃d l,Reads j u d l then PyData.eqv z.choose i else T
def FC(r:Reads hp u d i):fq hp dx u=PyData.eqv d dx:=by have z:∃d i,Reads hp u d i:=⟨d,i,r⟩;unfold fq;rw[dif_pos z];obtain⟨l,j⟩:=z.choose_spec;rw[<-(Reads.unique r _ _ j).1]
def FD(hr:Room k X.A)(P:Bool):w6 X (compareOp (if P then .NotIn else .In)) (DI P):=by
 intro Lo s Z H x' y' u v Q j aj ab ⟨U,h,x,y,E,rx,ry,q⟩;unfold DI at q
 cases es:bq h y with
 |none=>rw[es]at q;exact q.elim
 |some ys =>
  rw[es]at q;dsimp only at q;obtain⟨a,zs,rfl,S,ah⟩:=eV E ry es
  cases ex:rd 60 h x with
  |none=>rw[ex]at q;exact q.elim
  |some l =>
   rw[ex]at q
   cases ed:cB (rd 60 h) ys with
   |none=>rw[ed]at q;exact q.elim
   |some ds =>
    rw[ed]at q;dsimp only at q;by_cases hl:l.canLay0=I/\PyData.canLayAll0 ds=I
    .rw[b_ hl]at q;cases ab;obtain⟨_,rX⟩:=fR j E 60 x x' u l rx aj ex;have am:=(ui 60 x l ex).1;have B:∀(i:TZ),aD zs i->(∀w∈i,SeqAt.EqAt X.A.in1 s w u (fq s.heap l w))/\i.any (fq s.heap l)=ds.any λe=>PyData.eqv e l:=λi z=>by
      obtain⟨as,RA⟩:=f8 (λv v' u d r1 r2 e=>fR j E 60 v v' u d r1 r2 e) ah z ed;refine⟨λw C=>?_,pY (λu d as r=>FC r) RA⟩;obtain⟨d,al,hd,R⟩:=qy RA w C;rw[FC R];refine SeqAt.eqAt_reads d l X.A.in1 s w u _ _ R rX (n4 hl.2 d hd) hl.1 ?_
      have:=hr.un
      lia
     cases P with
     |false =>
      rcases S with O|O
      .obtain⟨i,z,L,hz⟩:=j.list O;obtain⟨F,M⟩:=B i z;refine SeqAt.in_listAt (fq s.heap l) L.isList (λw C=>F w (by simpa using C)) ⟨.bl _,H,j,rfl,?_⟩;rw[show i.toArray.any (fq s.heap l)=i.any (fq s.heap l) by simp,M];exact q U H _ (Le.refl _ _) E (.bl _)
      .obtain⟨i,z,L,hz⟩:=j.tuple O;obtain⟨F,M⟩:=B i z;refine SeqAt.in_tupleAt (fq s.heap l) L (λw C=>F w (by simpa using C)) ⟨.bl _,H,j,rfl,?_⟩;rw[show i.toArray.any (fq s.heap l)=i.any (fq s.heap l) by simp,M];exact q U H _ (Le.refl _ _) E (.bl _)
     |true =>
      rcases S with O|O
      .obtain⟨i,z,L,hz⟩:=j.list O;obtain⟨F,M⟩:=B i z;refine SeqAt.notIn_listAt (fq s.heap l) L.isList (λw C=>F w (by simpa using C)) ⟨.bl _,H,j,rfl,?_⟩;rw[show i.toArray.any (fq s.heap l)=i.any (fq s.heap l) by simp,M];exact q U H _ (Le.refl _ _) E (.bl _)
      .obtain⟨i,z,L,hz⟩:=j.tuple O;obtain⟨F,M⟩:=B i z;refine SeqAt.notIn_tupleAt (fq s.heap l) L (λw C=>F w (by simpa using C)) ⟨.bl _,H,j,rfl,?_⟩;rw[show i.toArray.any (fq s.heap l)=i.any (fq s.heap l) by simp,M];exact q U H _ (Le.refl _ _) E (.bl _)
    .rw[e_ hl]at q;exact q.elim
def BM(xs:TN)(h:MH):T6:=match xs with
 |[x]=>(match bq h x with
  |some ys=>o_ ys h
  |none=>.bad)
 |_=>.bad
def AE(xs:TN)(h:MH):T6:=match xs with
 |[x]=>(match bq h x with
  |some ys=>.ok (.tup ys) h
  |none=>.bad)
 |_=>.bad
def DJ:cg X (.type "list") BM:=by
 intro M s Z H xs B Q u r ⟨U,h,O,z,rp,q⟩
 cases rp with
 |nil=>exact q.elim
 |cons F E =>
  cases E with
  |cons _ _=>exact q.elim
  |nil =>
   rename_i x y
   unfold BM at q
   cases j:bq h x with
   |none=>simp only[j]at q;exact q.elim
   |some ys =>
    simp only[j]at q;obtain⟨a,C,rfl,l,i⟩:=eV z F j;obtain⟨_,L⟩:=lm z i q;exact uk M s Z H _ B Q u r ⟨a,C,rfl,l,L⟩
def zS:cg X (.type "tuple") AE:=by
 intro M s Z H xs F Q j r ⟨U,h,ps,B,rp,q⟩
 cases rp with
 |nil=>exact q.elim
 |cons S O =>
  cases O with
  |cons _ _=>exact q.elim
  |nil =>
   rename_i x y
   unfold AE at q
   cases C:bq h x with
   |none=>simp only[C]at q;exact q.elim
   |some ys =>
    simp only[C]at q;obtain⟨a,z,rfl,E,i⟩:=eV B S C;rcases E with u|u
    .refine j5 M s Z H _ F Q j r ⟨a,z,rfl,.inl ⟨u,λl P=>?_⟩⟩;obtain⟨R,L⟩:=B.tup P z;exact q U _ _ L R (.tup (SqT.of bU) (i.le L))
    .exact j5 M s Z H _ F Q j r ⟨a,z,rfl,.inr ⟨u,q U H _ (Le.refl _ _) B (.tup u i)⟩⟩
def fX(xs:TN)(lo i:T4):TN:=(xs.drop (HT.lg xs.length 0 lo)).take (HT.lg xs.length xs.length i-HT.lg xs.length 0 lo)
def Hl(x:PV)(lo i:T4)(h:MH):T6:=match x with
 |.tup xs=>if HT.lg xs.length 0 lo=0/\HT.lg xs.length xs.length i=xs.length then .bad else .ok (.tup (fX xs lo i)) h
 |.frl xs=>.ok (.loc h.length) (h++[.lst (fX xs lo i)])
 |.loc n=>(match h[n]? with
  |some (.lst xs)=>.ok (.loc h.length) (h++[.lst (fX xs lo i)])
  |_=>.bad)
 |_=>.bad
def Tx(X:Cx)(f:PV->T4->T4->MH->T6):V->T4->T4->Hp->VK->Prop:=λi lo j H Q=>∃U h x,RH X.K X.mg U H h/\RP X.K U H x i/\ja X (RV' X) U H (f x lo j h) Q
def pf{K:hU}{U:TX}{H:Hp}{xs:TN}{ys:List V}(r:RPs K U H xs ys)(lo i:T4):RPs K U H (fX xs lo i) (mY ys lo i):=by unfold fX mY;rw[r.length];exact(r.drop _).take _
def L_:Op X (Tx X Hl):=by
 intro P s Z H x' v C L lo i sl Q j R M F S ⟨U,h,x,r,O,q⟩
 cases O with
 |tup E B =>
  unfold Hl at q;dsimp only at q
  rename_i xs a ys
  by_cases z:HT.lg xs.length 0 lo=0/\HT.lg xs.length xs.length i=xs.length
  .rw[b_ z]at q;exact q.elim
  .rw[e_ z]at q;refine GG P s Z H _ v C L lo i sl Q j R M F S ⟨a,ys,rfl,E,by rw[<-B.length];exact z,λp u=>?_⟩;obtain⟨y,l⟩:=r.tup u (mY ys lo i);exact q U _ _ l y (.tup (SqT.of bU) ((pf B lo i).le l))
 |frl E B =>
  rename_i xs a ys
  refine uV P s Z H _ v C L lo i sl Q j R M F S ⟨a,ys,rfl,E.sq,λp u=>?_⟩;obtain⟨y,l⟩:=r.new u (o:=.lst (fX xs lo i)) ⟨_,rfl,pf B lo i⟩;exact q _ _ _ l y (.loc (by rw[<-r.len];simp))
 |@loc n a en =>
  obtain⟨o,eo,ro⟩:=r.obj en;unfold Hl at q;dsimp only at q;rw[eo]at q
  cases o with
  |lst xs =>
   obtain⟨ys,ey,ry⟩:=ro;refine uV P s Z H _ v C L lo i sl Q j R M F S ⟨a,ys,rfl,SqL.of ey,λp u=>?_⟩;obtain⟨y,l⟩:=r.new u (o:=.lst (fX xs lo i)) ⟨_,rfl,pf ry lo i⟩;exact q _ _ _ l y (.loc (by rw[<-r.len];simp))
  |_=>exact q.elim
 |_=>exact q.elim
def MO'(X:Cx)(e:Option Expr)(m:Mx (T4)):Prop:=PO X e (tM X Lx m)
def Ma:Mx (T4):=λ_ h=>.ok Y h
def Mb(m:Mx PV):Mx (T4):=λZ h=>(m Z h).bind λv j=>match v with
 |.int i=>.ok (J i) j
 |_=>.bad
def lG:MO' X Y Ma:=λj s Z H Q i ⟨U,r,h,u,l,q⟩=>Dj j s Z H Q i (q U H Y (Le.refl _ _) l rfl)
def lI(h:ME X e m):MO' X (J e) (Mb m):=λC s Z H Q l ⟨U,j,y,E,z,q⟩=>Dk h C s Z H Q l ⟨U,j,y,E,z,Ful.bind q λF L v M O _ P r B u=>by
 cases B with
 |int i=>exact⟨i,rfl,u F L (J i) (Le.refl _ _) r rfl⟩
 |_=>exact u.elim⟩
def OS(m:Mx PV)(j u:Mx (T4)):Mx PV:=λZ h=>(m Z h).bind λx i=>(j Z i).bind λlo l=>(u Z l).bind λr y=>(Hl x lo r y).ne
def wR{e:Expr}{lo j:Option Expr}{m:Mx PV}{z E:Mx (T4)}{F:Pos}(he:ME X e m)(R:MO' X lo z)(hu:MO' X j E):ME X (.Subscript e (.Slice lo j Y F) pos) (OS m z E) :=
 PE.imp (Aa L_ he R hu) λZ H Q ⟨U,i,h,y,M,q⟩=>⟨U,i,h,y,M,Ful.bind q λU1 H1 x x' S _ B u rx q1=>⟨U1,i,S,y.le B,u,Ful.bind q1 λL H2 lo ab h2 _ C l el q2=>by
  subst el
  exact⟨L,i,h2,y.le (B.trans C),l,Ful.bind q2 λU3 H3 j O h3 _ l3 r P q3=>by
   subst P
   exact⟨U3,h3,x,r,(rx.le C).le l3,q3.zero⟩⟩⟩⟩
end
section
variable{X:Cx}{N W G:TQ}{k:Nat}
def iL{A:Around}{E:T7}{L:T0}{Z:L2.St}{H:Hp}{s:Shared}{a:Addr}{ys:List V}{Q:T7}(C:A.handled=Y)(u:Inv X L Z H s)(y:SqL X.K H a ys\/SqT X.K H a ys)(h:∀(f:TZ)(z:Heap)(It:Addr)(St:Nat->Heap->Prop),aD ys f->Walks X.prog X.w A It [It,a] [It] f.toArray.size (λi v=>f.toArray[i]?=J v) St->St 0 z->(∀b∈[It,a],b<z.objs.size)->(∀b o,s.heap.get? b=J o->z.get? b=J o)->s.heap.objs.size=It->Q (.ref It) { s with heap:=z}):
  wpAny (model X.prog X.w) A (pyIter (.ref a)) Q E s:=by
 have sz:∀(o:Obj),a<s.heap.objs.size->∀b∈[s.heap.objs.size,a],b<(s.heap.push o).objs.size:=λo j b r=>by
  rw[Fj];rcases l_.mp r with rfl|r
  .exact J5 _
  .rcases l_.mp r with rfl|r
   .exact J0 j
   .cases r
 rcases y with y|y
 .obtain⟨f,B,F,_⟩:=u.list y;have l:=F.isList;have j:a<s.heap.objs.size:=by obtain⟨_,e,_⟩:=l;exact nw e
  exact wpAny_pyIter_list l (h f _ _ _ B (Walks.list C _ a (t3 j) f.toArray) ⟨⟨_,s_ _ rfl,rfl,rfl⟩,l.push _⟩ (sz _ j) (λb o e=>n7 _ e) rfl)
 .obtain⟨f,B,l,_⟩:=u.tuple y;have j:a<s.heap.objs.size:=by obtain⟨_,e,_⟩:=l;exact nw e
  exact wpAny_pyIter_tuple l (h f _ _ _ B (Walks.tuple C _ a (t3 j) f.toArray) ⟨⟨_,s_ _ rfl,rfl,rfl⟩,l.push _⟩ (sz _ j) (λb o e=>n7 _ e) rfl)
def nI{s:Shared}{a f:Heap}{It:Addr}(l:∀b o,s.heap.get? b=J o->a.get? b=J o)(e:s.heap.objs.size=It)(i:∀b o,b∉[It]->a.get? b=J o->f.get? b=J o):∀b o,s.heap.get? b=J o->f.get? b=J o:=λb o q=>by
 refine i b o (λj=>?_) (l b o q)
 have:b=It:=by simpa using j
 exact absurd (nw q) (by rw[this,e];exact Bt _)
def jR:TN->Option (List Bool)
 |[]=>J []
 |.bl b::r=>(jR r).map (b::·)
 |_=>Y
def d5:TN->Option (TR)
 |[]=>J []
 |.int i::r=>(d5 r).map (i::·)
 |_=>Y
def vx{K:hU}{U:TX}{H:Hp}:∀{xs:TN}{ys:List V}{bs:List Bool}{a:TZ},RPs K U H xs ys->aD ys a->jR xs=J bs->a=bs.map Value.bool:=by
 intro xs
 induction xs with
 |nil=>intro ys bs a r v e;cases r;cases v;cases e;rfl
 |cons x xs i =>
  intro ys bs a r v e
  cases r with
  |cons y l =>
   cases v with
   |cons j u =>
    cases y with
    |bl b =>
     simp only[jR,t0]at e;obtain⟨z,f,rfl⟩:=e;rw[i l u f,show _=Value.bool b from j];rfl
    |_=>cases e
def mG{K:hU}{U:TX}{H:Hp}:∀{xs:TN}{ys:List V}{j:TR}{f:TZ},RPs K U H xs ys->aD ys f->d5 xs=J j->f.length=j.length/\∀(i:Nat)(u:Value),f[i]?=J u->∃t,u=.int (j.getD i 0) t:=by
 intro xs
 induction xs with
 |nil=>intro ys j f r v e;cases r;cases v;cases e;exact⟨rfl,λi u h=>by simp at h⟩
 |cons x xs y =>
  intro ys j f r v e
  cases r with
  |cons M F =>
   cases v with
   |cons B L =>
    cases M with
    |int b =>
     simp only[d5,t0]at e;obtain⟨z,l,rfl⟩:=e;obtain⟨a,E⟩:=y F L l;obtain⟨C,rfl⟩:=B;refine⟨by simp[a],λi u h=>?_⟩
     cases i with
     |zero=>simp at h;exact⟨C,by rw[<-h];rfl⟩
     |succ i=>obtain⟨t,e⟩:=E i u (by simpa using h);exact⟨t,by rw[e];simp⟩
    |_=>cases e
def lW(bs:List Bool):TruthOf X.prog X.w A (λi v=>(bs.map Value.bool).toArray[i]?=J v) (λi=>bs.getD i T):=λi v s Q E a f=>by
 have:v=.bool (bs.getD i T):=by
  have a:(List.map Value.bool bs).toArray[i]?=J v:=a;rw[FX,tx,t0]at a;obtain⟨b,e,rfl⟩:=a
  simp_all
 subst this;exact wpAny_truthy_bool f
def xW(bs:List Bool):(List.range bs.length).all (λi=>bs.getD i T)=bs.all id:=by
 induction bs with
 |nil=>rfl
 |cons b r a =>
  rw[BH,Pt,List.all_cons,List.all_map,List.all_cons,<-a];rfl
def xD(bs:List Bool):(List.range bs.length).any (λi=>bs.getD i T)=bs.any id:=by
 induction bs with
 |nil=>rfl
 |cons b r a =>
  rw[BH,Pt,J9,List.any_map,J9,<-a];rfl
def DK(xs:TN)(h:MH):T6:=match xs with
 |[x]=>(match (bq h x).bind jR with
  |some bs=>.ok (.bl (bs.all id)) h
  |none=>.bad)
 |_=>.bad
def DL(xs:TN)(h:MH):T6:=match xs with
 |[x]=>(match (bq h x).bind jR with
  |some bs=>.ok (.bl (bs.any id)) h
  |none=>.bad)
 |_=>.bad
def Hm(g:Good X N W G k):cg X (.builtin "all") DK:=by
 intro Lo s Z H xs S Q f r ⟨U,h,ps,B,rp,q⟩
 cases rp with
 |nil=>exact q.elim
 |cons M E =>
  cases E with
  |cons _ _=>exact q.elim
  |nil =>
   rename_i x y
   unfold DK at q
   cases l:(bq h x).bind jR with
   |none=>simp only[l]at q;exact q.elim
   |some bs =>
    simp only[l]at q;obtain⟨ys,e1,e2⟩:=BF.mp l;obtain⟨a,zs,rfl,u,j⟩:=eV B M e1
    cases r with
    |cons O F =>
     cases F;cases O;refine call_all_walk (iL g.room.hd f u λz h2 It St L P st fp kp i=>?_);have C:=vx j L e2;refine⟨It,_,_,_,_,St,_,rfl,P,st,by rw[C];exact lW bs,λh' tk kk=>?_⟩;have R:z.toArray.size=bs.length:=by rw[C];simp
     rw[R,xW];exact⟨.bl _,H,f.kept (nI kp i kk),rfl,q U H _ (Le.refl _ _) B (.bl _)⟩
def Hn(g:Good X N W G k):cg X (.builtin "any") DL:=by
 intro Lo s Z H xs S Q f r ⟨U,h,ps,B,rp,q⟩
 cases rp with
 |nil=>exact q.elim
 |cons M E =>
  cases E with
  |cons _ _=>exact q.elim
  |nil =>
   rename_i x y
   unfold DL at q
   cases l:(bq h x).bind jR with
   |none=>simp only[l]at q;exact q.elim
   |some bs =>
    simp only[l]at q;obtain⟨ys,e1,e2⟩:=BF.mp l;obtain⟨a,zs,rfl,u,j⟩:=eV B M e1
    cases r with
    |cons O F =>
     cases F;cases O;refine call_any_walk (iL g.room.hd f u λz h2 It St L P st fp kp i=>?_);have C:=vx j L e2;refine⟨It,_,_,_,_,St,_,rfl,P,st,by rw[C];exact lW bs,λh' tk kk=>?_⟩;have R:z.toArray.size=bs.length:=by rw[C];simp
     rw[R,xD];exact⟨.bl _,H,f.kept (nI kp i kk),rfl,q U H _ (Le.refl _ _) B (.bl _)⟩
def lA(b:Nat->Nat->Bool)(a:TR):Int:=a.getD (argBest b (a.length-1)) 0
def BN(xs:TN)(h:MH):T6:=match xs with
 |[x]=>(match (bq h x).bind d5 with
  |some a=>if 0<a.length then .ok (.int (lA (λi j=>decide (a.getD i 0>a.getD j 0)) a)) h else .bad
  |none=>.bad)
 |[.int i,.int j]=>.ok (.int (if j>i then j else i)) h
 |_=>.bad
def BO(xs:TN)(h:MH):T6:=match xs with
 |[x]=>(match (bq h x).bind d5 with
  |some a=>if 0<a.length then .ok (.int (lA (λi j=>decide (a.getD i 0<a.getD j 0)) a)) h else .bad
  |none=>.bad)
 |[.int i,.int j]=>.ok (.int (if j<i then j else i)) h
 |_=>.bad
def DM(g:Good X N W G k):cg X (.builtin "max") BN:=by
 intro Lo s Z H xs R Q f r ⟨U,h,ps,z,rp,q⟩;unfold BN at q
 split at q
 .rename_i x
  cases rp with
  |cons M u =>
  cases u
  cases F:(bq h x).bind d5 with
  |none=>simp only[F]at q;exact q.elim
  |some y =>
   simp only[F]at q;by_cases B:0<y.length
   .rw[b_ B]at q;obtain⟨ys,e1,e2⟩:=BF.mp F;obtain⟨a,zs,rfl,L,E⟩:=eV z M e1
    cases r with
    |cons ru S =>
     cases S;cases ru;refine call_max_walk (iL g.room.hd f L λO h2 It St rv Wk st fp kp C=>?_);obtain⟨el,P⟩:=mG E rv e2;have j:O.toArray.size=y.length:=by exact el
     refine⟨It,_,_,_,_,St,_,rfl,Wk,st,fp,by rw[j];exact B,CmpOf.ints_gt (λi=>y.getD i 0) (λi v hv=>P i v (by simpa using hv)),λv h' tk hP kk=>?_⟩;have l:=hP;rw[j,FX]at l;obtain⟨t,rfl⟩:=P _ v l;exact⟨.int _,H,f.kept (nI kp C kk),⟨t,rfl⟩,q U H _ (Le.refl _ _) z (.int _)⟩
   .rw[e_ B]at q;exact q.elim
 .cases rp with
  |cons M u =>
   cases u with
   |cons r2 t2 =>
    cases t2;cases M;cases r2;exact qG g.calm Lo s Z H _ R Q f r ⟨_,_,rfl,q U H _ (Le.refl _ _) z (.int _)⟩
 .exact q.elim
def DN(g:Good X N W G k):cg X (.builtin "min") BO:=by
 intro Lo s Z H xs R Q f r ⟨U,h,ps,z,rp,q⟩;unfold BO at q
 split at q
 .rename_i x
  cases rp with
  |cons M u =>
  cases u
  cases F:(bq h x).bind d5 with
  |none=>simp only[F]at q;exact q.elim
  |some y =>
   simp only[F]at q;by_cases B:0<y.length
   .rw[b_ B]at q;obtain⟨ys,e1,e2⟩:=BF.mp F;obtain⟨a,zs,rfl,L,E⟩:=eV z M e1
    cases r with
    |cons ru S =>
     cases S;cases ru;refine call_min_walk (iL g.room.hd f L λO h2 It St rv Wk st fp kp C=>?_);obtain⟨el,P⟩:=mG E rv e2;have j:O.toArray.size=y.length:=by exact el
     refine⟨It,_,_,_,_,St,_,rfl,Wk,st,fp,by rw[j];exact B,CmpOf.ints_lt (λi=>y.getD i 0) (λi v hv=>P i v (by simpa using hv)),λv h' tk hP kk=>?_⟩;have l:=hP;rw[j,FX]at l;obtain⟨t,rfl⟩:=P _ v l;exact⟨.int _,H,f.kept (nI kp C kk),⟨t,rfl⟩,q U H _ (Le.refl _ _) z (.int _)⟩
   .rw[e_ B]at q;exact q.elim
 .cases rp with
  |cons M u =>
   cases u with
   |cons r2 t2 =>
    cases t2;cases M;cases r2;exact qi g.calm Lo s Z H _ R Q f r ⟨_,_,rfl,q U H _ (Le.refl _ _) z (.int _)⟩
 .exact q.elim
end
def RH.loose{K:hU}{mg:Ca}{U:TX}{H:Hp}{h:MH}(r:RH K mg U H h){p:Addr}(i:H p=Y)(f:HO):RH K mg U (lf H p f) h/\Le U H U (lf H p f):=by
 have j:∀n a,U[n]?=J a->a≠p:=λn a e z=>by
  obtain⟨y,_,q⟩:=r.obj e;rw[z,i]at q;exact q.some rfl
 have l:Le U H U (lf H p f):=⟨⟨[],by simp⟩,λa xs e=>by rw[aY (bO e i)];exact e,λa B u e=>by rw[aY (bO e i)];exact e⟩;exact⟨⟨r.len,r.nd,λn a o e1 e2=>by rw[aY (j n a e1)];exact(r.at' n a o e1 e2).le l⟩,l⟩
section
variable{X:Cx}{N W G:TQ}{k:Nat}
def ko(xs:TN)(i:Int)(v:PV):TN :=
 let k:=if i<0 then(i+(xs.length:Int)).toNat else min i.toNat xs.length
 xs.take k++v::xs.drop k
def lQ(n:Nat)(a:TN)(h:MH):T6:=match a with
 |[.int i,v]=>(match h[n]? with
  |some (.lst xs)=>if(-(2^63)<=i/\i<2^63)/\xs.length<sizeLine then .ok .non (h.set n (.lst (ko xs i v)))else .bad
  |_=>.bad)
 |_=>.bad
def ym:GH X "list.insert" (Hk X lQ):=by
 intro Lo s Z H x vs v us Q l rx rv ⟨U,h,n,a,ps,e,en,rh,rp,q⟩;subst e;obtain⟨o,eo,ro⟩:=rh.obj en;unfold lQ at q
 split at q
 .rename_i i F
  cases rp with
  |cons r1 t1 =>
   cases t1 with
   |cons r2 t2 =>
    cases t2;cases r1;rw[eo]at q
    cases o with
    |lst xs =>
     dsimp only at q;by_cases B:(-(2^63)<=i/\i<2^63)/\xs.length<sizeLine
     .rw[b_ B]at q;obtain⟨ys,S,L⟩:=ro;cases rx
      cases rv with
      |cons C O=>cases O with
       |cons M E =>
        cases E
        rename_i v' u1 u2
        obtain⟨t,rfl⟩:=C;obtain⟨z,f,nn,r,u,e⟩:=l.lstM S
        let kk:=if i<0 then(i+(f.length:Int)).toNat else min i.toNat f.length
        have j:RPs X.K U H (ko xs i F) (ys.take kk++v'::ys.drop kk):=by
         have:(if i<0 then(i+(xs.length:Int)).toNat else min i.toNat xs.length)=kk:=by rw[L.length,u]
         unfold ko;rw[this];exact(L.take kk).append (.cons r2 (L.drop kk))
        obtain⟨P,l'⟩:=rh.put en (o:=.lst (ko xs i F)) ⟨_,rfl,j⟩;refine call_meets PySem.F.slot_list_insert ⟨_,e,rfl⟩ PySem.F.entry_list_insert (PySem.F.args_list_insert_3 _ _ _) (AutoListH.list_insert_list_int_val_1 a f.toArray nn i t u2 (by rw[fitsIndex_both B.1.1 B.1.2];simp) (by rw[pq];ext)) ⟨e,?_⟩;have y:=(r.take kk).append (.cons M (r.drop kk));have R:(ys.take kk++v'::ys.drop kk).length<=sizeLine:=by
         rw[<-j.length];have e1:(ko xs i F).length=xs.length+1:=by unfold ko;simp only[wO,BH,CH,Bs];ext
         ext
        refine⟨.non,_,l.lset (its':=f.take kk++u2::f.drop kk) S e ?_ y R,rfl,q U _ .non l' P .non⟩;simp[kk,List.extract];refine CD ?_;rw[Bs];exact ia _
     .rw[e_ B]at q;exact q.elim
    |_=>exact q.elim
 .exact q.elim
def Mc(f:TA):TE:=λZ H Q=>f Z H λi a=>∃j:Int,i=[.int j] /\ -(2^62)<=j/\j<2^62/\∀p,a p=Y->Q (.ref p) (lf a p (.rng 0 j))
def yj(C:Gl X "range")(y:X.mg "range"=Y)(u:PA X [a] ta)(B:starEach [a] X.env=[(T,eval a X.env)]:=by rfl):PE X (.Call (.Name "range" p) [a] [] pos) (Mc ta):=by
 intro F s Z H R f h;refine Call_ (iN f C y boot_range (PyProof.Rows.callWith_type1 (k_ (u pos F s Z H _ f h) λM z ⟨P,Q,l,E,i⟩=>?_) B rfl));obtain⟨j,e,i,O,q⟩:=i;subst e
 cases E with
 |cons r L =>
  cases L;obtain⟨t,rfl⟩:=r;refine call_range_1 ⟨.ref z.heap.objs.size,_,l.laid (λb o e=>n7 _ e) (ia _) ?_,rfl,q _ (l.hok.fresh (ia _))⟩;exact⟨_,_,_,s_ _ rfl⟩
def jI:∀(n:Nat)(lo:Int)(a:TZ),a.length=n->(∀(i:Nat)(v:Value),a[i]?=J v->∃t,v=.int (lo+i) t)->aD ((List.range n).map λi=>V.int (lo+(i:Nat))) a
 |0,lo,a,f,_=>by cases a with|nil=>exact .nil|cons _ _=>simp at f
 |n+1,lo,a,f,h=>by
  cases a with
  |nil=>simp at f
  |cons u a =>
   rw[Pt,n8,AL];obtain⟨t,e⟩:=h 0 u rfl;refine .cons ⟨t,e⟩ ?_;have j:=jI n (lo+1) a (by simpa using f) λi v hv=>by
    obtain⟨t,e⟩:=h (i+1) v (by simpa using hv);exact⟨t,by rw[e];congr 1;push_cast;ext⟩
   have e2:((λi=>V.int (lo+((i:Nat):Int)))∘Nat.succ)=λi=>V.int (lo+1+((i:Nat):Int)):=by funext i;simp only[Function.comp];congr 1;push_cast;ext
   rw[e2];exact j
def re(C:X.calm=I):ci X (.type "list") (λxs H Q=>∃r j,xs=[.ref r]/\H r=J (.rng 0 j) /\ -(2^62)<=j/\j<2^62/\j.toNat<=sizeLine/\∀l,H l=Y->Q (.ref l) (lf H l (.lst ((List.range j.toNat).map λi=>V.int (0+(i:Nat)))))):=by
 intro Lo s Z H xs U Q a r ⟨R,j,e,O,F,L,y,q⟩;subst e
 cases r with
 |cons P E =>
  cases E;cases P;obtain⟨t,u,v,B⟩:=(a.hok R _ O);refine call_list_range (a.ok.hd C) B (small_one (by ext) (by ext) F L) (by rw[rangeSize_one];split<;>ext) y λh' tk f M kp e z=>?_;have S:=jI _ 0 _ (by exact z.1) λi v hv=>by
   obtain⟨t,e⟩:=z.2 i v (by rw[<-v7];exact hv)
   grind
  refine⟨.ref s.heap.objs.size,_,a.laid (o:=.lst _) kp (ia _) (⟨by simpa using y,f.toList,M,S,by simpa using e⟩),rfl,q _ (a.hok.fresh (ia _))⟩
def Su(m:Mx (TN)):Mx PV:=λZ h=>(m Z h).bind λf a=>match f with
 |[.int j]=>if -(2^62)<=j/\j<2^62/\j.toNat<=sizeLine then .ok (.loc a.length) (a++[.lst (bG 0 j.toNat)])else .bad
 |_=>.bad
def kz{K:hU}{U:TX}{H:Hp}{lo:Int}:∀(l:TV),RPs K U H (l.map λ(i:Nat)=>PV.int (lo+(i:Int))) (l.map λ(i:Nat)=>V.int (lo+(i:Int)))
 |[]=>.nil
 |i::l=>.cons (.int _) (kz l)
def rO(g:Good X N W G k){a:Expr}{m:Mx (TN)}{i j:Nat}{p M F f:Pos}(P:G[i]?=J "list")(hm:X.mg "list"=Y)(hj:G[j]?=J "range")(O:X.mg "range"=Y)(ha:MA X [a] m)(hs:starEach [a] X.env=[(T,eval a X.env)]:=by rfl)(R:starEach [.Call (.Name "range" M) [a] [] f] X.env=[(T,eval (.Call (.Name "range" M) [a] [] f) X.env)]:=by rfl):ME X (.Call (.Name "list" p) [.Call (.Name "range" M) [a] [] f] [] F) (Su m):=by
 have d:=g.dbg _ (q0 _ (aN P));refine PE.imp (gE (re g.calm) (g.gl _ (aN P)) hm PyProof.Rows.Boot.«list» (fJ (yj (g.gl _ (aN hj)) O ha hs) jh R) d.2.2 d.1 R rfl) λZ H Q ⟨U,L,h,rs,rh,q⟩=>?_;refine⟨U,L,h,rs,rh,Ful.bind q λU1 H1 x x' h1 _ l1 B rx u=>?_⟩
 cases rx with
 |nil=>exact u.elim
 |cons S t1 =>
  cases t1 with
  |cons _ _=>cases S<;>exact u.elim
  |nil =>
   cases S with
   |int y =>
    dsimp only at u;by_cases z:-(2^62)<=y/\y<2^62/\y.toNat<=sizeLine
    .rw[b_ z]at u;refine⟨y,rfl,z.1,z.2.1,λr hr=>?_⟩;obtain⟨C,l2⟩:=B.loose hr (.rng 0 y);refine⟨r,y,rfl,bU,z.1,z.2.1,z.2.2,λl hl=>?_⟩;obtain⟨E,l3⟩:=C.new hl (o:=.lst (bG 0 y.toNat)) ⟨_,rfl,kz _⟩;exact u _ _ _ (l2.trans l3) E (.loc (by rw[<-B.len];simp))
    .rw[e_ z]at u;exact u.elim
   |_=>exact u.elim
end
end MM
namespace SetT
open PySem.SetTable
def eQ(xs:Array Nat):Prop:=∀a b u v:Nat,a<b->xs[a]?=J u->xs[b]?=J v->u<v
def zo(xs:Array Nat)(j:Nat)(L:eQ xs):∀l lo i:Nat,i-lo<=l->lo<=i->i<=xs.size ->
  (∀a v,xs[a]?=J v->a<lo->v<j)->(∀a v,xs[a]?=J v->i<=a->j<=v) ->
  below.go xs j l lo i<=xs.size/\(∀a v,xs[a]?=J v->a<below.go xs j l lo i->v<j) /\
   (∀a v,xs[a]?=J v->below.go xs j l lo i<=a->j<=v):=by
 intro l
 induction l with
 |zero =>
  intro lo i P Q G z B
  have:lo=i:=by lia
  subst this;exact⟨G,z,B⟩
 |succ f H =>
  intro lo i P Q G z B;unfold below.go;by_cases y:lo<i
  .simp only[y,if_true];have u:(lo+i)/2<xs.size:=by lia
   have C:xs[(lo+i)/2]?=J (xs[(lo+i)/2]'u):=Kx u;have hd:xs.getD ((lo+i)/2) j=xs[(lo+i)/2]'u:=by simp[Array.getD,u]
   rw[hd];by_cases E:xs[(lo+i)/2]'u<j
   .simp only[E,if_true];apply H
    .lia
    .lia
    .lia
    .intro a v r M;by_cases F:a=(lo+i)/2
     .subst F;rw[C]at r;cases r;exact E
     .have:=L a ((lo+i)/2) v _ ⋯ r C;lia
    .exact B
   .simp only[E,if_false];apply H
    .lia
    .lia
    .lia
    .exact z
    .intro a v r O;by_cases F:a=(lo+i)/2
     .subst F;rw[C]at r;cases r;lia
     .have:=L ((lo+i)/2) a _ v ⋯ C r;lia
  .simp only[y,if_false]
   have:lo=i:=by lia
   subst this;exact⟨G,z,B⟩
def dR(xs:Array Nat)(j:Nat)(f:eQ xs):
  below xs j<=xs.size/\(∀a v,xs[a]?=J v->a<below xs j->v<j)/\(∀a v,xs[a]?=J v->below xs j<=a->j<=v):=by
 apply zo xs j f
 .lia
 .lia
 .lia
 .lia
 .intro a v i h
  simp_all
def iA(xs:Array Nat)(i j:Nat)(f:eQ xs)(h:xs[i]?=J j):below xs j=i:=by
 obtain⟨_,r,u⟩:=dR xs j f;by_cases y:i<below xs j
 .have:=r i j h y;lia
 .by_cases z:below xs j=i
  .exact z
  .have a:below xs j<i:=by lia
   have C:i<xs.size:=by grind
   have l:xs[below xs j]?=J (xs[below xs j]'⋯):=Kx ⋯;have B:=f _ i _ j a l h;have E:=u _ _ l (ia _);lia
def A7(a:Array Nat)(s:Nat):Prop:=∃i:Nat,a[i]?=J s
def vm(j:Nat):has (#[]:Array Nat) j=T:=by unfold has;simp
def qA(t:SetTable)(a:eQ t.place)(i s:Nat)(h:t.place[i]?=J s):t.slot s=.live i:=by unfold SetTable.slot;simp only[iA t.place i s a h,h];simp
def wN(t:SetTable)(hd:t.dummies=#[])(s:Nat)(h:¬A7 t.place s):t.slot s=.empty:=by
 unfold SetTable.slot;simp only[hd,vm];split
 .rename_i a
  exact absurd ⟨_,by simpa using a⟩ h
 .simp
def cv(xs:Array α)(p:Nat)(x:α)(l:p<=xs.size)(i:Nat):
  (insertAt xs p x)[i]?=if i<p then xs[i]? else if i=p then J x else xs[i-1]?:=by
 unfold insertAt;have e1:(xs.extract 0 p).size=p:=by simp;lia
 rw[Array.getElem?_append];simp only[C0,e1];split
 .rw[Array.getElem?_push];simp only[e1];split
  .rename_i a;subst a;simp
  .rw[Ky];lia
 .have a:¬i<p:=by lia
  have j:¬i=p:=by lia
  rw[Ky];have e2:p+(i-(p+1))=i-1:=by lia
  simp only[e2];split
  .rfl
  .rename_i f
   rw[Pu];simp at f;lia
def dv(xs:Array α)(p:Nat)(x:α)(a:p<=xs.size):(insertAt xs p x).size=xs.size+1:=by unfold insertAt;simp;lia
def sP(f:α->β)(xs:Array α)(p:Nat)(x:α):(insertAt xs p x).map f=insertAt (xs.map f) p (f x):=by unfold insertAt;simp
def nk(x M:Nat):x % (M+1)<=M:=F1 (Nat.mod_lt x (Nat.succ_pos M))
def Bx(M:Nat)(p:Probe):Probe :=
 if p.more>0 then { p with j:=p.j+1,more:=p.more-1} else
 { p with j:=(leap M p.i p.perturb).1,more:=runEnd M (leap M p.i p.perturb).1-(leap M p.i p.perturb).1,i:=(leap M p.i p.perturb).1,perturb:=(leap M p.i p.perturb).2}
def xj(t:SetTable)(p:Probe):t.advance p=Bx t.mask p:=by unfold SetTable.advance Bx;rfl
def DO(M:Nat)(h:Int):Probe:={ j:=bits h % (M+1),more:=runEnd M (bits h % (M+1))-bits h % (M+1),i:=bits h % (M+1),perturb:=bits h,dummy:=Y}
def st(M:Nat)(h:Int):Nat->Probe
 |0=>DO M h
 |n+1=>Bx M (st M h n)
def sl(M:Nat)(h:Int)(n:Nat):Nat:=(st M h n).j
def gk(M i:Nat)(h:i<=M):i<=runEnd M i/\runEnd M i<=M/\runEnd M i-i<=9:=by unfold runEnd;split<;>lia
def yk(M:Nat)(h:Int)(n:Nat):(st M h n).i<=M/\(st M h n).j+(st M h n).more=runEnd M (st M h n).i/\(st M h n).dummy=Y:=by
 induction n with
 |zero =>
  have a:bits h % (M+1)<=M:=nk _ _
  have:=gk M _ a
  refine⟨a,?_,rfl⟩;show bits h % (M+1)+(runEnd M (bits h % (M+1))-bits h % (M+1))=runEnd M (bits h % (M+1));lia
 |succ n f =>
  show(Bx M (st M h n)).i<=M/\(Bx M (st M h n)).j+(Bx M (st M h n)).more=runEnd M (Bx M (st M h n)).i/\(Bx M (st M h n)).dummy=Y;unfold Bx;split
  .lia
  .have a:(leap M (st M h n).i (st M h n).perturb).1<=M:=nk _ _
   have:=gk M _ a
   grind
def FE(M:Nat)(h:Int)(n:Nat):sl M h n<=M:=by
 have:=yk M h n
 have a:=gk M _ this.1;unfold sl;lia
def base(M:Nat)(h:Int):Nat->Nat×Nat
 |0=>(bits h % (M+1),bits h)
 |b+1=>leap M (base M h b).1 (base M h b).2
def o6(M:Nat)(h:Int)(b:Nat):(base M h b).1<=M:=by
 cases b with
 |zero=>exact nk _ _
 |succ b =>
  exact nk _ _
def tb(M:Nat)(h:Int):Nat->Nat
 |0=>0
 |b+1=>tb M h b+(runEnd M (base M h b).1-(base M h b).1)+1
def Md(M:Nat)(h:Int)(b:Nat):tb M h b<=10*b:=by
 induction b with
 |zero=>exact ia _
 |succ b a =>
  have:=gk M _ (o6 M h b)
  show tb M h b+(runEnd M (base M h b).1-(base M h b).1)+1<=10*(b+1);lia
def Me(M:Nat)(h:Int)(b k:Nat):Probe :=
 { j:=(base M h b).1+k,more:=runEnd M (base M h b).1-(base M h b).1-k,i:=(base M h b).1,perturb:=(base M h b).2,dummy:=Y}
def sH(M:Nat)(h:Int)(b:Nat):∀k,k<=runEnd M (base M h b).1-(base M h b).1->st M h (tb M h b+k)=Me M h b k:=by
 induction b with
 |zero =>
  intro k
  induction k with
  |zero=>intro _;rfl
  |succ k f =>
   intro i;show Bx M (st M h (tb M h 0+k))=_;rw[f ⋯];unfold Bx Me;lia
 |succ b a =>
  intro k
  induction k with
  |zero =>
   intro _;show Bx M (st M h (tb M h b+(runEnd M (base M h b).1-(base M h b).1)))=_;rw[a _ (ia _)];unfold Bx Me;simp;exact⟨rfl,rfl,rfl,rfl⟩
  |succ k f =>
   intro i;show Bx M (st M h (tb M h (b+1)+k))=_;rw[f ⋯];unfold Bx Me
   have:runEnd M (base M h (b+1)).1-(base M h (b+1)).1-k>0:=by lia
   lia
def DP(h:Int):bits h<2^64:=by unfold bits;lia
def yb(M:Nat)(h:Int):∀b,(base M h b).2=bits h/32^b:=by
 intro b
 induction b with
 |zero=>simp[base]
 |succ b a =>
  show(base M h b).2/32=_;rw[a,Nat.div_div_eq_div_mul,Nat.pow_succ]
def wD(M:Nat)(h:Int)(b:Nat)(a:13<=b):(base M h b).2=0:=by rw[yb];apply Nat.div_eq_of_lt;have f:=DP h;have i:32^13<=32^b:=Nat.pow_le_pow_right (by decide) a;lia
def By(M:Nat):Nat->Nat->Nat
 |0,x=>x
 |n+1,x=>(By M n x*5+1) % (M+1)
def zk(M:Nat)(h:Int)(n:Nat):(base M h (13+n)).1=By M n (base M h 13).1:=by
 induction n with
 |zero=>rfl
 |succ n a =>
  show((base M h (13+n)).1*5+1+(base M h (13+n)).2/32) % (M+1)=(By M n (base M h 13).1*5+1) % (M+1);rw[a,wD M h (13+n) ⋯]
def lq(M:Nat)(a b x:Nat):By M (a+b) x=By M a (By M b x):=by
 induction a with
 |zero=>simp[By]
 |succ a f=>rw[Nat.succ_add];show(By M (a+b) x*5+1) % (M+1)=(By M a (By M b x)*5+1) % (M+1);rw[f]
def Kg(M:Nat):Nat->Nat->TV
 |0,_=>[]
 |n+1,x=>x::Kg M n ((x*5+1) % (M+1))
def zB(M n x:Nat):By M n ((x*5+1) % (M+1))=By M (n+1) x:=by
 have:=lq M n 1 x
 rw[this];rfl
def vc(M:Nat)(s:Nat):∀n x,s∈Kg M n x->∃m,m<n/\By M m x=s:=by
 intro n
 induction n with
 |zero=>intro x h;cases h
 |succ n a =>
  intro x h
  cases h with
  |head=>exact⟨0,⋯,rfl⟩
  |tail _ h =>
   obtain⟨m,f,e⟩:=a _ h;exact⟨m+1,⋯,by rw[<-e,zB]⟩
def fO(M:Nat):Prop:=By M (M+1) 0=0/\∀s,s<=M->s∈Kg M (M+1) 0
set_option maxRecDepth 100000 in
theorem Mf:fO 7:=⟨by decide,by
 have:∀s:Fin 8,(Kg 7 8 0).contains s.val=I:=by decide
 intro s a;have:=this ⟨s,⋯⟩;simpa using this⟩
set_option maxRecDepth 100000 in
theorem Ho:fO 31:=⟨by decide,by
 have:(List.range 32).all (λs=>(Kg 31 32 0).contains s)=I:=by decide
 intro s f;have a:=PH.mp this s (by simp;lia)
 simpa using a⟩
set_option maxRecDepth 100000 in
theorem DQ:fO 127:=⟨by decide,by
 have:(List.range 128).all (λs=>(Kg 127 128 0).contains s)=I:=by decide
 intro s f;have a:=PH.mp this s (by simp;lia)
 simpa using a⟩
def xP(M:Nat)(hf:fO M)(x s:Nat)(j:x<=M)(l:s<=M):∃m,m<=2*M+1/\m<=M/\By M m x=s:=by
 obtain⟨a,r,i⟩:=vc M x _ _ (hf.2 x j);obtain⟨b,u,f⟩:=vc M s _ _ (hf.2 s l);by_cases h:a<=b
 .refine⟨b-a,⋯,⋯,?_⟩;rw[<-i,<-lq,FZ h];exact f
 .refine⟨M+1-a+b,⋯,⋯,?_⟩;rw[<-i,<-lq]
  have:M+1-a+b+a=b+(M+1):=by lia
  rw[this,lq,hf.1];exact f
def nu(M:Nat)(hf:fO M)(h:Int)(s:Nat)(a:s<=M):∃b,b<=M+13/\(base M h b).1=s:=by obtain⟨m,_,f,e⟩:=xP M hf (base M h 13).1 s (o6 M h 13) a;exact⟨13+m,⋯,by rw[zk];exact e⟩
def Al(M:Nat)(hf:fO M)(h:Int)(s:Nat)(a:s<=M):∃n,n<=10*(M+13)/\sl M h n=s:=by
 obtain⟨b,f,e⟩:=nu M hf h s a;refine⟨tb M h b,?_,?_⟩
 .have:=Md M h b;lia
 .have:=sH M h b 0 ⋯
  unfold sl;rw[Nat.add_zero]at this;rw[this];show(base M h b).1+0=s;lia
structure WF(M:Nat)(pl:Array Nat)(hs:Array Int):Prop where
 rise:eQ pl
 bound:∀i v:Nat,pl[i]?=J v->v<=M
 size:pl.size=hs.size
 reach:∀(i:Nat)(h:Int)(v:Nat),hs[i]?=J h->pl[i]?=J v->∃n,sl M h n=v/\∀m,m<n->A7 pl (sl M h m)
def d7{α:Type}{xs:Array α}{i:Nat}{v:α}(h:xs[i]?=J v):i<xs.size:=by grind
def dE{α:Type}(xs:Array α)(i:Nat)(h:i<xs.size):∃v,xs[i]?=J v:=⟨_,Kx h⟩
def xN(j:Array Nat)(l:eQ j)(M:Nat)(h:∀s,s<=M->A7 j s):∀s i:Nat,s<=M->j[i]?=J s->s<=i:=by
 intro s
 induction s with
 |zero=>lia
 |succ s u =>
  intro i B f;obtain⟨k,a⟩:=h s ⋯;have y:=u k ⋯ a;by_cases z:k<i
  .lia
  .by_cases r:k=i
   .subst r;rw[a]at f;cases f
   .have:=l i k (s+1) s ⋯ f a;lia
def xO(f:Array Nat)(r:eQ f)(M:Nat)(l:f.size<=M):∃s,s<=M/\¬A7 f s:=by
 apply Classical.byContradiction;intro u;have a:∀s,s<=M->A7 f s:=by
  intro s y
  simp_all
 obtain⟨i,j⟩:=a M (ia _)
 have:=xN f r M a M i (ia _) j
 have:=d7 j
 lia
def Mh(P:Nat->Prop):∀n,P n->∃m,m<=n/\P m/\∀k,k<m->¬P k:=by
 intro n
 induction n using Nat.strongRecOn with
 |_ n i =>
  intro j;by_cases h:∃k,k<n/\P k
  .obtain⟨k,a,f⟩:=h;obtain⟨m,l,r⟩:=i k a f;exact⟨m,⋯,r⟩
  .exact⟨n,ia _,j,λk a f=>h ⟨k,a,f⟩⟩
def wz(a:Array Nat)(l:eQ a)(M:Nat)(hf:fO M)(f:a.size<=M)(h:Int):
  ∃n,n<=10*(M+13)/\¬A7 a (sl M h n)/\∀m,m<n->A7 a (sl M h m):=by
 obtain⟨s,r,i⟩:=xO a l M f;obtain⟨n,B,e⟩:=Al M hf h s r;obtain⟨m,z,u,y⟩:=Mh (λn=>¬A7 a (sl M h n)) n (by rw[e];exact i);exact⟨m,⋯,u,λk j=>Classical.byContradiction (y k j)⟩
def zY(t:SetTable)(hd:t.dummies=#[])(P:eQ t.place)(hashAt:Nat->Int)(h:Int)(y:Nat)(H:¬A7 t.place (sl t.mask h y))(C:∀m,m<y->A7 t.place (sl t.mask h m)):
  ∀j n,n<=y->y-n<j ->
   (probe.go t hashAt h j (st t.mask h n)=J (.empty (sl t.mask h y) Y) /\
    ∀m i:Nat,n<=m->m<y->t.place[i]?=J (sl t.mask h m)->hashAt i≠h) \/
   (∃m i:Nat,n<=m/\m<y/\t.place[i]?=J (sl t.mask h m)/\hashAt i=h /\
    probe.go t hashAt h j (st t.mask h n)=J (.candidate (sl t.mask h m) i (st t.mask h (m+1))) /\
    ∀z l:Nat,n<=z->z<m->t.place[l]?=J (sl t.mask h z)->hashAt l≠h):=by
 intro j
 induction j with
 |zero=>intro n W X;lia
 |succ f S =>
  intro n W X;by_cases he:n=y
  .subst he;left;refine⟨?_,λm i Q E=>by lia⟩;unfold probe.go;have u:=wN t hd _ H;unfold sl at u;simp only[u]
   have:=(yk t.mask h n).2.2
   rw[this];rfl
  .obtain⟨i,G⟩:=C n ⋯;have u:=qA t P i _ G;have R:probe.go t hashAt h (f+1) (st t.mask h n)=if hashAt i==h then J (.candidate (sl t.mask h n) i (st t.mask h (n+1)))else probe.go t hashAt h f (st t.mask h (n+1)):=by
    conv=>lhs;unfold probe.go
    unfold sl at u;simp only[u,xj];rfl
   by_cases B:hashAt i=h
   .right;refine⟨n,i,ia _,⋯,G,B,?_,λz l Q E=>by lia⟩;rw[R];simp[B]
   .have L:probe.go t hashAt h (f+1) (st t.mask h n)=probe.go t hashAt h f (st t.mask h (n+1)):=by
     rw[R];simp[B]
    rw[L];have r:∀l:Nat,t.place[l]?=J (sl t.mask h n)->l=i:=by intro l M;have a:=iA _ _ _ P G;have b:=iA _ _ _ P M;lia
    rcases S (n+1) ⋯ ⋯with⟨r1,r2⟩|⟨m,i2,q1,q2,q3,U,Z,q6⟩
    .left;refine⟨r1,?_⟩;intro m l Q E F;by_cases O:m=n
     .subst O;rw[r l F];exact B
     .exact r2 m l ⋯ E F
    .right;refine⟨m,i2,⋯,q2,q3,U,Z,?_⟩;intro z l Q E F;by_cases O:z=n
     .subst O;rw[r l F];exact B
     .exact q6 z l ⋯ E F
def pz(f:Array Nat)(p s:Nat)(l:p<=f.size)(x:Nat)(h:A7 f x):A7 (insertAt f p s) x:=by
 obtain⟨i,j⟩:=h;by_cases r:i<p
 .exact⟨i,by rw[cv _ _ _ l];simp[r,j]⟩
 .refine⟨i+1,?_⟩;rw[cv _ _ _ l];have a:¬i+1<p:=by lia
  have b:¬i+1=p:=by lia
  simp[a,b,j]
def AD(j:Array Nat)(s:Nat)(r:eQ j)(y:¬A7 j s):eQ (insertAt j (below j s) s):=by
 obtain⟨G,z,E⟩:=dR j s r;intro a b u v B l f;rw[cv _ _ _ G]at l f;have C:=λi F=>y ⟨i,F⟩
 split at l
 .rename_i H
  have L:=z a u l H
  split at f
  .exact r a b u v B l f
  .split at f
   .cases f;exact L
   .exact r a (b-1) u v ⋯ l f
 .split at l
  .have e1:¬b<below j s:=by lia
   have e2:¬b=below j s:=by lia
   simp only[e1,e2,if_false]at f
   have:=E (b-1) v f ⋯
   have M:v≠s:=λe=>C (b-1) (by rw[f,e]);lia
  .have e1:¬b<below j s:=by lia
   have e2:¬b=below j s:=by lia
   simp only[e1,e2]at f;exact r (a-1) (b-1) u v ⋯ l f
def Hr(M:Nat)(a:Array Nat)(F:Array Int)(w:WF M a F)(h:Int)(n:Nat)(B:¬A7 a (sl M h n))(u:∀m,m<n->A7 a (sl M h m)):
  WF M (insertAt a (below a (sl M h n)) (sl M h n)) (insertAt F (below a (sl M h n)) h):=by
 have l:=(dR a (sl M h n) w.rise).1;have z:below a (sl M h n)<=F.size:=by have:=w.size;lia
 refine⟨AD a _ w.rise B,?_,?_,?_⟩
 .intro i v j;rw[cv _ _ _ l]at j
  split at j
  .exact w.bound _ _ j
  .split at j
   .cases j;exact FE M h n
   .exact w.bound _ _ j
 .rw[dv _ _ _ l,dv _ _ _ z,w.size]
 .intro i G v f hv;rw[cv _ _ _ l]at hv;rw[cv _ _ _ z]at f
  split at hv
  .rename_i C
   simp only[C]at f;obtain⟨k,e,r⟩:=w.reach i G v f hv;exact⟨k,e,λm y=>pz _ _ _ l _ (r m y)⟩
  .rename_i C
   split at hv
   .rename_i E
    simp only[E]at f;cases hv;simp at f;cases f;exact⟨n,rfl,λm y=>pz _ _ _ l _ (u m y)⟩
   .rename_i E
    simp only[C,E]at f;obtain⟨k,e,r⟩:=w.reach (i-1) G v f hv;exact⟨k,e,λm y=>pz _ _ _ l _ (r m y)⟩
def iR(ow:Array (UL))(s:Nat):Prop:=∃i:Nat,ow[s]?=J (J i)
structure LC(M:Nat)(ow:Array (UL))(k:Nat)(hs:Array Int):Prop where
 size:ow.size=M+1
 own:∀i,i<k->∃j:Nat,ow[j]?=J (J i)
 inj:∀i j j':Nat,ow[j]?=J (J i)->ow[j']?=J (J i)->j=j'
 lt:∀j i:Nat,ow[j]?=J (J i)->i<k
 reach:∀(j i:Nat)(h:Int),ow[j]?=J (J i)->hs[i]?=J h->∃n,sl M h n=j/\∀m,m<n->iR ow (sl M h m)
def jU(ow:Array (UL))(s:Nat)(a:s<ow.size):(ow.getD s (J 0)).isNone=I↔¬iR ow s:=by
 unfold iR
 have:=Kx a
 simp only[Array.getD,a,this]
 cases h:ow[s]'a with
 |none=>simp[h]
 |some v=>simp[h]
def za(M:Nat)(hf:fO M)(ow:Array (UL))(ab:ow.size=M+1)(h:Int)(s:Nat)(Z:s<=M)(F:¬iR ow s):
  ∀l b,M+13<b+l->(∀m,m<tb M h b->iR ow (sl M h m)) ->
   ∃n,layClean.free M ow l (base M h b).1 (base M h b).2=J (sl M h n)/\¬iR ow (sl M h n)/\∀m,m<n->iR ow (sl M h m):=by
 have r:∀b c,b<c->tb M h b<tb M h c:=by
  intro b c P
  induction c with
  |zero=>lia
  |succ c G =>
   show tb M h b<tb M h c+(runEnd M (base M h c).1-(base M h c).1)+1;by_cases e:b=c
   .subst e;lia
   .have:=G ⋯;lia
 intro l
 induction l with
 |zero =>
  intro b U a;obtain⟨C,Q,e⟩:=nu M hf h s Z;have z:=r C b ⋯;have u:=a _ z;have y:=sH M h C 0 ⋯;rw[Nat.add_zero]at y;unfold sl at u;rw[y]at u
  have:(Me M h C 0).j=s:=by show(base M h C).1+0=s;lia
  rw[this]at u;exact absurd u F
 |succ f G =>
  intro b U a;have E:=o6 M h b;have ah:=gk M _ E;have i:∀k,k<=runEnd M (base M h b).1-(base M h b).1->sl M h (tb M h b+k)=(base M h b).1+k:=by intro k O;unfold sl;rw[sH M h b k O];rfl
  unfold layClean.free
  cases Ki:(List.range (runEnd M (base M h b).1+1-(base M h b).1)).find? λk=>(ow.getD ((base M h b).1+k) (J 0)).isNone with
  |some k =>
   rw[List.find?_range_eq_some]at Ki;obtain⟨W,S,R⟩:=Ki;have O:k<runEnd M (base M h b).1+1-(base M h b).1:=by simpa using S
   refine⟨tb M h b+k,?_,?_,?_⟩
   .rw[i k ⋯]
   .rw[i k ⋯];exact(jU ow _ ⋯).mp W
   .intro m L;by_cases z:m<tb M h b
    .exact a m z
    .have e:m=tb M h b+(m-tb M h b):=by lia
     rw[e,i _ ⋯];have u:=R (m-tb M h b) ⋯;have y:=jU ow ((base M h b).1+(m-tb M h b)) ⋯;apply Classical.byContradiction;intro H;rw[y.mpr H]at u;simp at u
  |none =>
   rw[List.find?_range_eq_none]at Ki;have B:∀m,m<tb M h (b+1)->iR ow (sl M h m):=by
    intro m L;by_cases z:m<tb M h b
    .exact a m z
    .have X:m<tb M h b+(runEnd M (base M h b).1-(base M h b).1)+1:=L;have e:m=tb M h b+(m-tb M h b):=by lia
     rw[e,i _ ⋯];have u:=Ki (m-tb M h b) ⋯;have y:=jU ow ((base M h b).1+(m-tb M h b)) ⋯;apply Classical.byContradiction;intro H;rw[y.mpr H]at u;simp at u
   exact G (b+1) ⋯ B
def DU(M:Nat)(ow:Array (UL))(k:Nat)(j:Array Int)(c:LC M ow k j)(L:k<=M):∃s,s<=M/\¬iR ow s:=by
 apply Classical.byContradiction;intro u;have r:=λs j=>Classical.byContradiction (λh=>u ⟨s,j,h⟩);have f:∀s,s<=M->ow[s]?=J (J ((ow.getD s Y).getD 0)):=by
  intro s j;obtain⟨i,H⟩:=r s j
  simp_all
 have B:((List.range (M+1)).map (λs=>(ow.getD s Y).getD 0)).Nodup:=by unfold List.Nodup;rw[J1];apply List.Pairwise.imp_of_mem _ Oc;intro a b E F z e;have y:=f a (by simp at E;lia);have C:=f b (by simp at F;lia);rw[<-e]at C;exact z (c.inj _ _ _ y C)
 have l:((List.range (M+1)).map (λs=>(ow.getD s Y).getD 0)) ⊆ List.range k:=by
  intro x G;obtain⟨s,j,e⟩:=ml.mp G;have y:=f s (by simp at j;lia)
  have:=c.lt _ _ y
  rw[e]at this;simpa using this
 have:=List.Nodup.length_le_of_subset B l
 simp at this;lia
def DV(M:Nat)(hf:fO M)(ow:Array (UL))(k:Nat)(B:Array Int)(c:LC M ow k B)(R:k<=M)(h:Int)(Q:B[k]?=J h):
  ∃j,layClean.free M ow (turns M) (bits h % (M+1)) (bits h)=J j/\LC M (ow.setIfInBounds j (J k)) (k+1) B:=by
 obtain⟨s,G,C⟩:=DU M ow k B c R;obtain⟨n,e,F,y⟩:=za M hf ow c.size h s G C (turns M) 0 (by unfold turns;lia) (by intro m z;exact absurd z (Nat.not_lt_zero m));refine⟨sl M h n,e,?_⟩;have E:=FE M h n;have H:sl M h n<ow.size:=by have:=c.size;lia
 have a:∀s:Nat,(ow.setIfInBounds (sl M h n) (J k))[s]?=if s=sl M h n then J (J k)else ow[s]?:=by
  intro s;by_cases e:sl M h n=s
  .subst e;simp[H]
  .have e2:¬s=sl M h n:=λx=>e x.symm;simp[e,e2]
 have l:∀s,iR ow s->iR (ow.setIfInBounds (sl M h n) (J k)) s:=by
  intro s ⟨i,L⟩;by_cases e:s=sl M h n
  .exact⟨k,by rw[a];simp[e]⟩
  .exact⟨i,by rw[a];simp[e,L]⟩
 refine⟨by simp[c.size],?_,?_,?_,?_⟩
 .intro i L;by_cases e:i=k
  .subst e;exact⟨sl M h n,by rw[a];simp⟩
  .obtain⟨j,E⟩:=c.own i ⋯;refine⟨j,?_⟩;rw[a]
   have:¬j=sl M h n:=λe=>F ⟨i,by rw[<-e];exact E⟩
   simp[this,E]
 .intro i j O f u;rw[a]at f u;by_cases e1:j=sl M h n<;>by_cases e2:O=sl M h n
  .rw[e1,e2]
  .simp[e1]at f;simp[e2]at u
   have:=c.lt _ _ u;lia
  .simp[e1]at f;simp[e2]at u
   have:=c.lt _ _ f;lia
  .simp[e1]at f;simp[e2]at u;exact c.inj _ _ _ f u
 .intro j i f;rw[a]at f;by_cases e1:j=sl M h n
  .simp[e1]at f;lia
  .simp[e1]at f;have:=c.lt _ _ f;lia
 .intro j i U f u;rw[a]at f;by_cases e1:j=sl M h n
  .simp[e1]at f;subst f;rw[Q]at u;cases u;exact⟨n,e1.symm,λm z=>l _ (y m z)⟩
  .simp[e1]at f;obtain⟨S,P,r⟩:=c.reach _ _ _ f u;exact⟨S,P,λm z=>l _ (r m z)⟩
def Hs(M:Nat)(l:Array Int):LC M (Array.replicate (M+1) Y) 0 l:=by
 have a:∀(s i:Nat),(Array.replicate (M+1) (Y:UL))[s]?≠J (J i):=by
  intro s i h;rw[Array.getElem?_replicate]at h
  split at h<;>cases h
 exact⟨by simp,λi u=>by lia,λi j r h=>absurd h (a _ _),λj i h=>absurd h (a _ _),λj i h f=>absurd f (a _ _)⟩
def qV(M:Nat)(hf:fO M)(f:Array Int)(G:f.size<=M):∀(l:TR)(ow:Array (UL))(k:Nat),
  LC M ow k f->(∀q:Nat,l[q]?=f[k+q]?)->k<=f.size ->
  ∃a,(l.foldl (init:=J (ow,k)) λr h=>do
   let(owner,k) <-r
   let j <-layClean.free M owner (turns M) (bits h % (M+1)) (bits h)
   pure (owner.setIfInBounds j (J k),k+1))=J (a,f.size)/\LC M a f.size f:=by
 intro l
 induction l with
 |nil =>
  intro ow k c i F
  have:=i 0
  simp at this;have u:k=f.size:=by lia
  subst u;exact⟨ow,rfl,c⟩
 |cons h l z =>
  intro ow k c i F;have y:=i 0;have C:=d7 y.symm;obtain⟨j,e,E⟩:=DV M hf ow k f c ⋯ h y.symm
  obtain⟨a,e2,B⟩:=z (ow.setIfInBounds j (J k)) (k+1) E (by
   intro q
   have:=i (q+1)
   simp at this
   lia) ⋯
  refine⟨a,?_,B⟩;rw[<-e2];simp[e]
def ur(M:Nat)(hf:fO M)(a:Array Int)(f:a.size<=M):∃ow,layClean M a=J ow/\LC M ow a.size a:=by
 obtain⟨ow,e,c⟩:=qV M hf a f a.toList _ 0 (Hs M a) (by simp) ⋯;refine⟨ow,?_,c⟩;unfold layClean
 simp_all
def DW{L:TV}(h:L.Pairwise (·<·)):eQ L.toArray:=by intro a b u v j y z;simp at y z;obtain⟨l,f⟩:=qp.mp y;obtain⟨i,r⟩:=qp.mp z;rw[<-f,<-r];exact CQ.mp h a b l i j
def eG{α β:Type}(f:α->Option β):∀(l:List α),(∀x,x∈l->∃v,f x=J v)->∀q:Nat,(l.filterMap f)[q]?=l[q]?.bind f:=by
 intro l
 induction l with
 |nil=>intro _ q;simp
 |cons x l i =>
  intro h q;obtain⟨v,hv⟩:=h x (by simp);rw[JZ,hv]
  cases q with
  |zero=>simp[hv]
  |succ q=>exact i (λy a=>h y (by simp[a])) q
def dS{α:Type}(a:Array α):(List.range a.size).filterMap (a[·]?)=a.toList:=by
 apply KI;intro q;rw[eG _ _ (by intro x f;exact dE a x (by simpa using f))];by_cases h:q<a.size
 .rw[List.getElem?_range h];simp
 .rw[FW (by simp;lia)];simp;lia
def DX{α:Type}(M:Nat)(hf:fO M)(E:α->Int)(z:Array α)(ah:z.size<=M)(fin mv:Nat)(led S:Bool):
  ∃pl B,laid M fin mv led S (z.map E)=J ({ mask:=M,place:=pl,dummies:=#[],finger:=fin,led:=led,moves:=mv,plain:=S},B) /\
   WF M pl ((B.filterMap (z[·]?)).map E)/\(B.filterMap (z[·]?)).size=z.size/\(B.filterMap (z[·]?)).toList.Perm z.toList /\
   B.toList.Perm (List.range z.size):=by
 obtain⟨ow,e,c⟩:=ur M hf (z.map E) (by simpa using ah);have hn:(z.map E).size=z.size:=by simp
 let f:Nat->Option (Nat×Nat):=λj=>(ow.getD j Y).map (j,·)
 let l:=(List.range (M+1)).filterMap f
 have H:∀j b,f j=J b↔(b.1=j/\ow[j]?=J (J b.2)):=by
  intro j b;show(ow.getD j Y).map (j,·)=J b↔_;by_cases F:j<ow.size
  .have:ow[j]?=J (ow[j]'F):=Kx F
   simp only[Array.getD,F,dite_true,this]
   cases h:ow[j]'F with
   |none=>simp[h]
   |some v =>
    simp[h];constructor
    .intro e;subst e;simp
    .rintro⟨e1,e2⟩;cases b;simp_all
  .simp[Array.getD,F]
 have u:∀b:Nat×Nat,b∈l↔ow[b.1]?=J (J b.2):=by
  intro b;rw[CG];constructor
  .rintro⟨j,_,F⟩;obtain⟨e1,e2⟩:=(H j b).mp F;rw[e1];exact e2
  .intro h;refine⟨b.1,?_,(H b.1 b).mpr ⟨rfl,h⟩⟩
   have:=d7 h
   have:=c.size
   simp;lia
 have U:l.Pairwise (λa b=>a.1<b.1):=by show((List.range (M+1)).filterMap f).Pairwise _;rw[Ps];apply List.Pairwise.imp _ (N2 (n:=M+1));intro a b W x hx y hy;rw[((H _ _).mp hx).1,((H _ _).mp hy).1];exact W
 have ab:(l.map (·.2)).Nodup:=by
  unfold List.Nodup;rw[J1];apply List.Pairwise.imp_of_mem _ U;intro a b ha L W e;have P:=(u a).mp ha;have R:=(u b).mp L;have e':a.2=b.2:=e;rw[<-e']at R
  have:=c.inj _ _ _ P R
  lia
 have C:(l.map (·.2)).Perm (List.range z.size):=by
  rw[Kv ab Oc];intro i;rw[ml];constructor
  .rintro⟨b,L,e⟩
   have:=c.lt _ _ ((u b).mp L)
   rw[e]at this;simpa using this
  .intro X;obtain⟨j,F⟩:=c.own i (by simpa using X);exact⟨(j,i),(u (j,i)).mpr F,rfl⟩
 have Q:((l.map (·.2)).filterMap (z[·]?)).Perm z.toList:=by
  have:=C.filterMap (z[·]?)
  rw[dS]at this;exact this
 have G:((l.map (·.2)).toArray.filterMap (z[·]?)).toList=(l.map (·.2)).filterMap (z[·]?):=by simp
 have O:∀x,x∈l.map (·.2)->∃v,z[x]?=J v:=by
  intro x hx
  have:=C.mem_iff.mp hx
  exact dE z x (by simpa using this)
 refine⟨(l.map (·.1)).toArray,(l.map (·.2)).toArray,?_,?_,?_,?_,?_⟩
 .unfold laid;rw[e];rfl
 .refine⟨DW (by rw[J1];exact U),?_,?_,?_⟩
  .intro i v X;simp at X;obtain⟨b,L⟩:=X;have P:=(u _).mp (Be L);have R:=d7 P
   have:=c.size
   have h3:v<ow.size:=R;lia
  .have P:=Q.length_eq;have R:(((l.map (·.2)).toArray.filterMap (z[·]?)).map E).size=((l.map (·.2)).filterMap (z[·]?)).length:=by
    rw[Array.size_map,<-As,G]
   rw[R,P]
   have:=C.length_eq
   simp at this ⊢;exact this
  .intro i h v hh hv;simp at hv;obtain⟨b,L⟩:=hv;have P:=(u _).mp (Be L);have h3:((l.map (·.2)).toArray.filterMap (z[·]?))[i]?=z[b]?:=by
    rw[<-v7,G,eG _ _ O];simp[L]
   rw[Array.getElem?_map,h3]at hh;obtain⟨n,en,r⟩:=c.reach v b h P (by rw[Array.getElem?_map];exact hh);refine⟨n,en,?_⟩;intro m hm;obtain⟨i',Z⟩:=r m hm;have h5:=(u (sl M h m,i')).mpr Z;have h6:sl M h m∈l.map (·.1):=ml.mpr ⟨_,h5,rfl⟩;obtain⟨q,hq⟩:=zm.mp h6;exact⟨q,by simpa using hq⟩
 .rw[<-As,G,Q.length_eq];simp
 .rw[G];exact Q
 .exact C
section
variable{prog:Program}{w:World}{A:Around}{E:T7}{s:Shared}
abbrev TK(prog:Program)(w:World)(h:Heap)(k:TR)(a:Addr):Prop:=IsTupleKey (intKind prog w) h k a
abbrev TH(prog:Program)(w:World)(k:TR):Int:=tupleKeyHash (intKind prog w) k
def ItemsAre.ints(h:ItemsAre (intKind prog w) j f):∀v∈f,∃i t,v=.int i t:=by
 induction h with
 |nil=>intro v hv;cases hv
 |@cons k v j f l _ r =>
  intro u a
  cases a with
  |head =>
   cases v with
   |int i t=>exact⟨i,t,rfl⟩
   |_=>simp[intKind,Value.isInt]at l
  |tail _ a=>exact r u a
def jf(z:TK prog w s.heap ks a)(h:Q I s):wpAny (model prog w) A (hashByValue 8 (.ref a)) Q E s:=by
 have H:=z.typeIs;obtain⟨o,items,n,C,_,hd,G⟩:=z;refine d_ (wpAny_specialOf H F.slot_tuple_hash.lookup ?_);refine d_ (wpAny_seqItems C hd ?_);refine d_ ?_;rw[<-Array.forIn_toList];refine wpAny_forIn_list _ (λj r l=>r.1=Y/\l=s/\∀v∈j,∃i t,v=Value.int i t) _ ?_ ?_ _ _ ⟨rfl,rfl,ItemsAre.ints G⟩
 .rintro v j r l ⟨B,rfl,f⟩;obtain⟨i,t,rfl⟩:=f v pa;exact ii ⟨rfl,rfl,λu y=>f u (l7 _ y)⟩
 .rintro⟨M,L⟩ l ⟨B,rfl,_⟩;subst B;exact ii h
def gr(z:TK prog w s.heap ks a)(h:Q T s):wpAny (model prog w) A (ofAClassStatement 8 (.ref a)) Q E s:=by
 have G:=z.typeIs;obtain⟨o,items,n,C,_,hd,F⟩:=z;unfold ofAClassStatement;refine d_ (wpAny_typeOf G ?_);refine d_ ?_;refine ii ?_;refine d_ (wpAny_seqItems C hd ?_);refine d_ ?_;rw[<-Array.forIn_toList];refine wpAny_forIn_list _ (λj r l=>r.1=Y/\l=s/\∀v∈j,∃i t,v=Value.int i t) _ ?_ ?_ _ _ ⟨rfl,rfl,ItemsAre.ints F⟩
 .rintro v j r l ⟨B,rfl,f⟩;obtain⟨i,t,rfl⟩:=f v pa;exact ii ⟨rfl,rfl,λu y=>f u (l7 _ y)⟩
 .rintro⟨L,H⟩ l ⟨B,rfl,_⟩;subst B;exact ii h
def oV{k:TR}{a:Addr}{stored:TZ}{Q:Bool->Shared->Prop}(F:TK prog w s.heap k a)(f:∀v∈stored,∃b y,v=.ref b/\TK prog w s.heap y b)(h:Q T s):wpAny (model prog w) A (searchCouldBeSeen (.ref a) stored) Q E s:=by
 refine d_ ?_;refine wpAny_forIn_list _ (λj r z=>r.1=Y/\z=s/\∀v∈j,∃b y,v=Value.ref b/\TK prog w s.heap y b) _ ?_ ?_ _ _ ⟨rfl,rfl,f⟩
 .rintro v j r z ⟨G,rfl,f⟩;obtain⟨b,y,rfl,C⟩:=f v pa;have i:=λu B=>f u (l7 _ B);by_cases l:(a==b||(carriedByValue (.ref a)&&carriedByValue (.ref b)))=I
  .rw[b_ l];exact ii ⟨rfl,rfl,i⟩
  .rw[e_ l];refine d_ (wpAny_eqIsQuiet_tuple F ?_);refine d_ (wpAny_eqIsQuiet_tuple C ?_);refine d_ (gr F ?_);refine d_ (gr C ?_);exact ii ⟨rfl,rfl,i⟩
 .rintro⟨L,H⟩ z ⟨G,rfl,_⟩;subst G;exact ii h
def gL(prog:Program)(w:World)(P:Addr->Prop)(h:Heap)(j:Array (Int×Value))(f:TU):Prop :=
 j.size=f.length/\∀(i:Nat)(e:Int×Value)(k:TR),j[i]?=J e->f[i]?=J k->∃a,e.2=.ref a/\TK prog w h k a/\e.1=TH prog w k/\P a
def gL.at'{P:Addr->Prop}{h:Heap}{j:Array (Int×Value)}{f:TU}(x:gL prog w P h j f){i:Nat}{e:Int×Value}(l:j[i]?=J e):
  ∃k a,f[i]?=J k/\e.2=.ref a/\TK prog w h k a/\e.1=TH prog w k:=by
 have z:=d7 l
 have:i<f.length:=by rw[<-x.1];exact z
 obtain⟨a,y,r,u,_⟩:=x.2 i e f[i] l (by simp);exact⟨f[i],a,by simp,y,r,u⟩
def gL.key{P:Addr->Prop}{h:Heap}{f:Array (Int×Value)}{j:TU}(x:gL prog w P h f j){i:Nat}{k:TR}(l:j[i]?=J k):
  ∃e a,f[i]?=J e/\e.2=.ref a/\TK prog w h k a/\e.1=TH prog w k:=by
 have B:i<f.size:=by rw[x.1];exact(qp.mp l).1
 obtain⟨e,r⟩:=dE f i B;obtain⟨a,z,u,y,_⟩:=x.2 i e k r l;exact⟨e,a,r,z,u,y⟩
def x9{P:Addr->Prop}{S:Addr}{o:Obj}{r:Array (Int×Value)}{ep:Nat}{t:SetTable}{ks:TU}{k:TR}{a:Addr}{n1:Nat}{Q:SetFound->Shared->Prop}(hu:A.units<cLine)(ho:s.heap.get? S=J o)(hd:o.data=.set r ep t)(hf:t.fits r.size=I)(a6:t.dummies=#[])(al:t.gaveWay=T)(W:WF t.mask t.place (r.map (·.1)))(z:gL prog w P s.heap r ks)(hk:TK prog w s.heap k a)(M:¬A7 t.place (sl t.mask (TH prog w k) n1))(ab:∀m,m<n1->A7 t.place (sl t.mask (TH prog w k) m))(a8:n1<10*turns t.mask)(h1:k∈ks->Q (.there Y) s)(h2:k∉ks->Q (.free (sl t.mask (TH prog w k) n1) T) s):
  ∀(l n:Nat)(j:Option Probe),j.getD (t.probeStart (TH prog w k))=st t.mask (TH prog w k) n->n<=n1->n1-n<l ->
   (∀(m i:Nat),m<n->t.place[i]?=J (sl t.mask (TH prog w k) m)->ks[i]?≠J k) ->
   wpAny (model prog w) A (setSearchFrom S (.ref a) (TH prog w k) I l j) Q E s:=by
 intro l
 induction l with
 |zero=>intro n j _ _ h;lia
 |succ f ih =>
  intro n j a0 hn a9 u;unfold setSearchFrom;refine d_ (wpAny_setState_of ho hd hf ?_);dsimp only;rw[al];simp only[pk,if_false];rw[a0];have a3:=zY t a6 W.rise (λi=>(r[i]?.map (·.1)).getD 0) (TH prog w k) n1 M ab (10*turns t.mask) n hn ⋯;have F:∀i:Nat,ks[i]?=J k->∃m,m<n1/\t.place[i]?=J (sl t.mask (TH prog w k) m):=by
   intro i hi;obtain⟨e,b,C,_,_,R⟩:=z.key hi;have hl:i<t.place.size:=by have:=W.size;simp at this;rw[this];exact d7 C
   obtain⟨v,hv⟩:=dE t.place i hl;obtain⟨m,em,hm⟩:=W.reach i (TH prog w k) v (by simp[C,R]) hv;refine⟨m,?_,by rw[em];exact hv⟩;by_cases as:m<n1
   .exact as
   .exfalso;by_cases U:m=n1
    .subst U;exact M ⟨i,by rw[em];exact hv⟩
    .exact M (hm n1 ⋯)
  rcases a3 with⟨e1,e2⟩|⟨m,i,q1,q2,q3,q4,q5,q6⟩
  .have L:t.probe (λi=>(r[i]?.map (·.1)).getD 0) (TH prog w k) (st t.mask (TH prog w k) n)=J (.empty (sl t.mask (TH prog w k) n1) Y):=e1;erw [L];dsimp only;refine ii (h2 λah=>?_);obtain⟨i,hi⟩:=zm.mp ah;obtain⟨m,hm,hp⟩:=F i hi;by_cases ay:m<n
   .exact u m i ay hp hi
   .obtain⟨e,b,C,_,_,R⟩:=z.key hi;exact e2 m i ⋯ hm hp (by simp[C,R])
  .have L:t.probe (λi=>(r[i]?.map (·.1)).getD 0) (TH prog w k) (st t.mask (TH prog w k) n)=J (.candidate (sl t.mask (TH prog w k) m) i (st t.mask (TH prog w k) (m+1))):=q5;erw [L];dsimp only;have ax:i<r.size:=by
    have:=W.size;simp at this;rw[<-this];exact d7 q3
   obtain⟨e,C⟩:=dE r i ax;obtain⟨k',b,aj,eb,hb,R⟩:=z.at' C;obtain⟨eh,ev⟩:=e;simp only at eb R;subst eb
   have am:wpAny (model prog w) A (do
     let J (_,y):=r[i]? | unsupported "internal:set-entry"
     let B <-holding [y] (eqBool y (.ref a))
     let(es',_,t') <-setState S
     if I&&B then return .there Y
     let J same:=t'.sameMemory t.moves t.mask|unsupported "set.changed-during-lookup:is-the-new-block-at-the-old-address"
     let X <-match(if same then t'.slot (sl t.mask (TH prog w k) m)else .empty) with
      |.live H=>match es'[H]? with
       |some (_,y')=>do pure (if <-isSame y' y then J H else Y)
       |none=>pure Y
      |_=>pure Y
     match X with
     |none=>rule "set.search.anew";setSearchFrom S (.ref a) (TH prog w k) I f Y
     |some H=>if B then return .there (J H)else setSearchFrom S (.ref a) (TH prog w k) I f (J (st t.mask (TH prog w k) (m+1)))) Q E s:=by
    rw[C];dsimp only;refine d_ (wpAny_holding (wpAny_eqBool_tuple hu hb hk ?_));refine d_ (wpAny_setState_of ho hd hf ?_);dsimp only;by_cases O:k'=k
    .subst O;simp only[decide_true,Bool.and_self,if_true];exact ii (h1 (zm.mpr ⟨i,aj⟩))
    .simp only[O,decide_false,PP,pk,if_false];have ap:t.sameMemory t.moves t.mask=J I:=by unfold SetTable.sameMemory;simp
     rw[ap];simp only[if_true];rw[qA t W.rise i _ q3];dsimp only;rw[C];dsimp only;refine d_ (wpAny_isSame_ref_self ?_);simp only[if_true];refine d_ (ii ?_);dsimp only;refine ih (m+1) _ rfl ⋯ ⋯ ?_;intro m' H be Z G;by_cases a4:m'<n
     .exact u m' H a4 Z G
     .by_cases an:m'<m
      .obtain⟨e,b,C,_,_,R⟩:=z.key G;exact q6 m' H ⋯ an Z (by simp[C,R])
      .have:m'=m:=by lia
       subst this;have a1:=iA _ _ _ W.rise q3;have a2:=iA _ _ _ W.rise Z
       have:H=i:=by lia
       subst this;rw[aj]at G;exact O (Option.some.inj G)
   cases a7:t.led with
   |true =>
    simp only[CK,pk,if_false];exact am
   |false =>
    simp only[Of,if_true];refine d_ (oV hk ?_ ?_)
    .intro v hv;obtain⟨e,a5,rfl⟩:=ml.mp hv;have U:e∈r.toList:=by
      have:e∈r.filter (λx=>x.1==TH prog w k):=Array.mem_toList_iff.mp a5
      exact Array.mem_toList_iff.mpr (Array.mem_filter.mp this).1
     obtain⟨q,hq⟩:=zm.mp U;obtain⟨k2,b2,_,e2,h2,_⟩:=z.at' (i:=q) (e:=e) (by simpa using hq);exact⟨b2,k2,e2,h2⟩
    .simp only[pk,if_false];exact am
structure TTab(prog:Program)(w:World)(P:Addr->Prop)(h:Heap)(S:Addr)(led:Bool)(o:Obj)(es:Array (Int×Value))(ep:Nat)(t:SetTable)(ks:TU):Prop where
 get:h.get? S=J o
 ex:o.ExactSet
 data:o.data=.set es ep t
 dm:t.dummies=#[]
 mask:t.mask=7\/t.mask=31\/t.mask=127
 plain:t.plain=I
 led':t.led=led
 wf:WF t.mask t.place (es.map (·.1))
 ents:gL prog w P h es ks
def lp(t:SetTable)(n:Nat):Prop:=n*5<t.mask*3
def de(prog:Program)(w:World)(P:Addr->Prop)(h:Heap)(S:Addr)(led:Bool)(f:TU):Prop :=
 ∃o i j t a,TTab prog w P h S led o i j t a/\lp t i.size/\a.Perm f/\f.Nodup
def vD(h:M=7\/M=31\/M=127):fO M:=by
 rcases h with h|h | h<;>subst h
 .exact Mf
 .exact Ho
 .exact DQ
def TTab.size{P:Addr->Prop}{h:Heap}{S:Addr}{led:Bool}{o:Obj}{a:Array (Int×Value)}{i:Nat}{t:SetTable}{f:TU}(x:TTab prog w P h S led o a i t f):t.place.size=a.size:=by have:=x.wf.size;simpa using this
def TTab.fits{P:Addr->Prop}{h:Heap}{S:Addr}{led:Bool}{o:Obj}{a:Array (Int×Value)}{i:Nat}{t:SetTable}{f:TU}(x:TTab prog w P h S led o a i t f)(j:a.size<=t.mask):t.fits a.size=I:=by
 unfold SetTable.fits SetTable.fill
 have:=x.size
 simp[this,x.dm];exact j
def TTab.odd{P:Addr->Prop}{h:Heap}{S:Addr}{led:Bool}{o:Obj}{i:Array (Int×Value)}{f:Nat}{t:SetTable}{a:TU}(x:TTab prog w P h S led o i f t a):t.gaveWay=T:=by unfold SetTable.gaveWay;rcases x.mask with h|h | h<;>rw[h]<;>rfl
def DY(z:Heap.SameBut S h h')(u:h.get? S=J o)(j:o.ExactSet)(x:TK prog w h k a):TK prog w h' k a:=by
 obtain⟨r,items,n,f,l,hd,y⟩:=x;have i:a≠S:=by rintro rfl;obtain rfl:=Option.some.inj (f.symm.trans u);rw[j.1]at l;exact absurd l (by simp)
 exact⟨r,items,n,(z.2 a i).trans f,l,hd,y⟩
def qD(r:Heap.SameBut S h h')(l:h.get? S=J o)(j:o.ExactSet)(x:gL prog w P h es ks):gL prog w P h' es ks :=
 ⟨x.1,λi e k a b=>let⟨c,d,f,g⟩:=x.2 i e k a b;⟨c,d,DY r l j f,g⟩⟩
def qo{h:Heap}{S:Addr}{o:Obj}{l a:Array (Int×Value)}{i:Nat}{t f:SetTable}(j:h.get? S=J o)(hd:o.data=.set l i t):
  (h.update S (Obj.putSet a f)).get? S=J { o with data:=.set a (i+1) f}:=by
 have:=JY (Obj.putSet a f) j (by rw[putSet_of a f hd];rfl)
 rw[putSet_of a f hd]at this;exact this
def yi(x:gL prog w P h es ks)(f:Array Nat)(u:f.toList.Perm (List.range es.size)):
  gL prog w P h (f.filterMap (es[·]?)) (f.toList.filterMap (ks[·]?))/\(f.toList.filterMap (ks[·]?)).Perm ks:=by
 have l:∀i,i∈f.toList->i<es.size:=λi j=>by simpa using u.mem_iff.mp j
 have C:=λi j=>dE es i (l i j);have F:∀i,i∈f.toList->∃v,ks[i]?=J v:=λi j=>⟨_,BE (by rw[<-x.1];exact l i j)⟩;have e1:(f.filterMap (es[·]?)).toList=f.toList.filterMap (es[·]?):=by simp
 have B:(f.toList.filterMap (ks[·]?)).Perm ks:=by
  have a:=u.filterMap (ks[·]?);have b:(List.range es.size).filterMap (ks[·]?)=ks:=by
   have:=dS ks.toArray
   simp only[FX]at this;rw[x.1];exact this
  rw[b]at a;exact a
 have G:(f.toList.filterMap (es[·]?)).Perm es.toList:=by have a:=u.filterMap (es[·]?);rw[dS]at a;exact a
 refine⟨⟨?_,?_⟩,B⟩
 .rw[<-As,e1,G.length_eq,B.length_eq,As,x.1]
 .intro i e k r y;rw[<-v7,e1,eG _ _ C]at r;rw[eG _ _ F]at y
  cases z:f.toList[i]? with
  |none=>rw[z]at r;cases r
  |some q =>
   rw[z]at r y;exact x.2 q e k r y
def Mi:SetTable.sizeAbove (SetTable.grown 5)=32:=by decide
def Mj:SetTable.sizeAbove (SetTable.grown 19)=128:=by decide
def tQ{P:Addr->Prop}{S:Addr}{led:Bool}{o:Obj}{j:Array (Int×Value)}{W:Nat}{t:SetTable}{U:TU}{f M:Nat}{Q:Unit->Shared->Prop}(a:TTab prog w P s.heap S led o j W t U)(z:j.size<=t.mask)(O:SetTable.sizeAbove f=M+1)(l:M=7\/M=31\/M=127)(r:j.size*5<M*3)(h:∀B o' u C R y,Heap.SameBut S s.heap B->TTab prog w P B S led o' u C R y->lp R u.size->y.Perm U->Q () { s with heap:=B}):
  wpAny (model prog w) A (setRelay S f) Q E s:=by
 obtain⟨L,i,e1,Z,F,p1,X⟩:=DX M (vD l) (λe:Int×Value=>e.1) j ⋯ t.finger (t.movedTo M) t.led t.plain;have H:t.relaid (j.map (·.1)) f=J ({ mask:=M,place:=L,dummies:=#[],finger:=t.finger,led:=t.led,moves:=t.movedTo M,plain:=t.plain},i):=by unfold SetTable.relaid;rw[O];exact e1
 refine d_ (wpAny_setState_of a.get a.data (a.fits z) ?_);dsimp only;have G:¬SetTable.sizeAbove f>sizeLine:=by rw[O];rcases l with h|h | h<;>rw[h]<;>decide
 rw[e_ G,H];have hz:j.size<=sizeLine:=by rw[sizeLine_eq];rcases l with h|h | h<;>lia
 refine d_ (?_:wpAny _ _ (if((i.filterMap (j[·]?)).size != j.size)=I then _ else _) _ _ _);rw[e_ (by simp[F])];refine ii ?_;refine wpAny_storeSet_of a.get a.data ?_ (by rw[F];exact hz);have sb:=Heap.SameBut.update s.heap S (Obj.putSet (i.filterMap (j[·]?)) { mask:=M,place:=L,dummies:=#[],finger:=t.finger,led:=t.led,moves:=t.movedTo M,plain:=t.plain});obtain⟨n1,n2⟩:=yi a.ents i X;refine h _ _ _ _ _ _ sb ⟨qo a.get a.data,a.ex,rfl,rfl,l,a.plain,a.led',Z,qD sb a.get a.ex n1⟩ ?_ n2;rw[F];exact r
def zv(x:gL prog w P h es ks)(z:p<=es.size)(C:TK prog w h k a)(B:P a):
  gL prog w P h (insertAt es p (TH prog w k,.ref a)) (ks.take p++k::ks.drop p):=by
 have G:=x.1;refine⟨?_,?_⟩
 .rw[dv _ _ _ z];simp;lia
 .intro i e y j f;rw[cv _ _ _ z]at j;by_cases r:i<p
  .rw[b_ r]at j;rw[we (by simp;lia),NZ r]at f;exact x.2 i e y j f
  .rw[e_ r]at j;rw[Bq (by simp;lia)]at f;have l:(ks.take p).length=p:=by simp;lia
   rw[l]at f;by_cases u:i=p
   .rw[b_ u]at j
    have:i-p=0:=by lia
    rw[this]at f;simp at f;cases j;subst f;exact⟨a,rfl,C,rfl,B⟩
   .rw[e_ u]at j;obtain⟨q,F⟩:∃q,i-p=q+1:=⟨i-p-1,⋯⟩;rw[F,B2,N_]at f
    have:p+q=i-1:=by lia
    rw[this]at f;exact x.2 (i-1) e y j f
def zM(p:Nat)(k:TR):(ks.take p++k::ks.drop p).Perm (ks++[k]):=by have a:(ks.take p++k::ks.drop p).Perm (k::(ks.take p++ks.drop p)):=J7;rw[CF]at a;exact a.trans (R6 k ks).symm
def Ht{P:Addr->Prop}{S a:Addr}{led:Bool}{H:TU}{k:TR}{Q:Bool->Shared->Prop}(hu:A.units<cLine)(f:de prog w P s.heap S led H)(hk:TK prog w s.heap k a)(hP:P a)(a2:k∈H\/H.length<66)(h:∀b C,Heap.SameBut S s.heap C->de prog w P C S led (if k∈H then H else H++[k])->Q b { s with heap:=C}):
  wpAny (model prog w) A (setAddHashed S (.ref a) (TH prog w k)) Q E s:=by
 obtain⟨o,z,ep,t,G,f,hr,L,ap⟩:=f;unfold lp at hr;have Z:z.size<=t.mask:=by rcases f.mask with e|e | e<;>rw[e]at hr ⊢<;>lia
 have hf:=f.fits Z;have a0:t.place.size<=t.mask:=by rw[f.size];exact Z
 obtain⟨l,a5,an,X⟩:=wz t.place f.wf.rise t.mask (vD f.mask) a0 (TH prog w k);have ay:t.mask<=127:=by rcases f.mask with e|e | e<;>lia
 have a3:z.size=H.length:=by rw[f.ents.1,L.length_eq]
 refine wpAny_holding ?_;refine d_ (wpAny_setState_of f.get f.data hf ?_);dsimp only;have a1:byScan (.ref a) z=T:=rfl;rw[a1];unfold setSearch;refine d_ (x9 (n1:=l) (ks:=G) hu f.get f.data hf f.dm f.odd f.wf f.ents hk an X (by unfold turns;lia) ?_ ?_ 100000 0 Y rfl (t_ _) ⋯ (λm i hm=>absurd hm (Nat.not_lt_zero m)))
 .intro R;have r:k∈H:=L.mem_iff.mp R;dsimp only;refine ii ?_
  have:=h T s.heap (Heap.SameBut.refl _ _)
  rw[b_ r]at this;exact this ⟨o,z,ep,t,G,f,hr,L,ap⟩
 .intro R;have r:k∉H:=λx=>R (L.mem_iff.mpr x);have a4:H.length<66:=a2.resolve_left r;rw[e_ r]at h;dsimp only;refine d_ (wpAny_setState_of f.get f.data hf ?_);dsimp only;have as:t.put (sl t.mask (TH prog w k) l)=({ t with place:=insertAt t.place (below t.place (sl t.mask (TH prog w k) l)) (sl t.mask (TH prog w k) l)},below t.place (sl t.mask (TH prog w k) l)):=by
   unfold SetTable.put;simp only[f.dm,vm,pk,if_false]
  rw[as];dsimp only;rw[b_ f.plain];refine d_ (jf hk ?_);simp only[if_true];have hp:=(dR t.place (sl t.mask (TH prog w k) l) f.wf.rise).1;have ax:below t.place (sl t.mask (TH prog w k) l)<=z.size:=by rw[<-f.size];exact hp
  have F:=dv z (below t.place (sl t.mask (TH prog w k) l)) (TH prog w k,.ref a) ax;refine d_ (wpAny_storeSet_of f.get f.data ?_ (by rw[F,sizeLine_eq];lia))
  have sb:=Heap.SameBut.update s.heap S (Obj.putSet (insertAt z (below t.place (sl t.mask (TH prog w k) l)) (TH prog w k,.ref a))
   { t with place:=insertAt t.place (below t.place (sl t.mask (TH prog w k) l)) (sl t.mask (TH prog w k) l)})
  have T2:TTab prog w P (s.heap.update S (Obj.putSet (insertAt z (below t.place (sl t.mask (TH prog w k) l)) (TH prog w k,.ref a))
    { t with place:=insertAt t.place (below t.place (sl t.mask (TH prog w k) l)) (sl t.mask (TH prog w k) l)})) S led
    { o with data:=.set (insertAt z (below t.place (sl t.mask (TH prog w k) l)) (TH prog w k,.ref a)) (ep+1) { t with place:=insertAt t.place (below t.place (sl t.mask (TH prog w k) l)) (sl t.mask (TH prog w k) l)}}
    (insertAt z (below t.place (sl t.mask (TH prog w k) l)) (TH prog w k,.ref a)) (ep+1)
    { t with place:=insertAt t.place (below t.place (sl t.mask (TH prog w k) l)) (sl t.mask (TH prog w k) l)}
    (G.take (below t.place (sl t.mask (TH prog w k) l))++k::G.drop (below t.place (sl t.mask (TH prog w k) l))):=by
   refine⟨qo f.get f.data,f.ex,rfl,f.dm,f.mask,f.plain,f.led',?_,qD sb f.get f.ex (zv f.ents ax hk hP)⟩;rw[sP];exact Hr t.mask t.place (z.map (·.1)) f.wf (TH prog w k) l an X
  have O:(G.take (below t.place (sl t.mask (TH prog w k) l))++k::G.drop (below t.place (sl t.mask (TH prog w k) l))).Perm (H++[k]):=(zM _ k).trans (L.append_right [k]);have W:(H++[k]).Nodup:=by
   rw[Bg];refine⟨ap,by simp,λx hx y hy=>?_⟩
   have:y=k:=by simpa using hy
   subst this;rintro rfl;exact r hx
  have U:({ t with place:=insertAt t.place (below t.place (sl t.mask (TH prog w k) l)) (sl t.mask (TH prog w k) l)}:SetTable).fill=z.size+1:=by unfold SetTable.fill;rw[dv _ _ _ hp,f.size];simp[f.dm]
  by_cases j:({ t with place:=insertAt t.place (below t.place (sl t.mask (TH prog w k) l)) (sl t.mask (TH prog w k) l)}:SetTable).tooFull=I
  .have B:(z.size+1)*5>=t.mask*3:=by
    unfold SetTable.tooFull at j;rw[U]at j;simpa using j
   rw[b_ (by rw[j];rfl)];have am:(t.mask=7/\z.size=4)\/(t.mask=31/\z.size=18):=by rcases f.mask with e|e | e<;>rw[e]at hr B<;>lia
   refine d_ (wpAny_mono (Q:=λ_ s'=>∃C,s'={ s with heap:=C}/\Heap.SameBut S s.heap C/\de prog w P C S led (H++[k])) ?_ (λu s' hq=>?_) λ_ _ x=>x)
   .rcases am with⟨c1,c2⟩|⟨c1,c2⟩
    .have e5:z.size+1=5:=by lia
     rw[e5];refine tQ (M:=31) (s:={ s with heap:=_}) T2 (by rw[F];show z.size+1<=t.mask;lia) Mi (.inr (.inl rfl)) (by rw[F];lia) λC o' al aj t' ah ab T3 r3 p3=>?_;exact⟨C,rfl,sb.trans ab,o',al,aj,t',ah,T3,r3,p3.trans O,W⟩
    .have e5:z.size+1=19:=by lia
     rw[e5];refine tQ (M:=127) (s:={ s with heap:=_}) T2 (by rw[F];show z.size+1<=t.mask;lia) Mj (.inr (.inr rfl)) (by rw[F];lia) λC o' al aj t' ah ab T3 r3 p3=>?_;exact⟨C,rfl,sb.trans ab,o',al,aj,t',ah,T3,r3,p3.trans O,W⟩
   .obtain⟨C,rfl,q1,q2⟩:=hq;exact ii (h I C q1 q2)
  .have B:(z.size+1)*5<t.mask*3:=by
    unfold SetTable.tooFull at j;rw[U]at j;simpa using j
   rw[e_ (by simpa using j)];refine ii (h I _ sb ⟨_,_,_,_,_,T2,?_,O,W⟩);unfold lp;rw[F];exact B
end
end SetT
namespace SetT
open PySem.SetTable PyProof.Rows
def bh(a:TU)(k:TR):TU:=if k∈a then a else a++[k]
def oI(l:TU):TU:=l.foldl bh []
def zj(l:TU)(k:TR):oI (l++[k])=bh (oI l) k:=by unfold oI;rw[Pz];rfl
def xH(a:TU)(k:TR):a.length<=(bh a k).length:=by unfold bh;split<;>simp
def xG(l:TU):∀a:TU,a.length<=(l.foldl bh a).length:=by
 induction l with
 |nil=>intro a;exact ia _
 |cons k l f=>intro a;exact m_ (xH a k) (f _)
def sA(l:TU)(i:Nat):(oI (l.take i)).length<=(oI l).length:=by
 have h:oI l=(l.drop i).foldl bh (oI (l.take i)):=by unfold oI;rw[<-Pz,CF]
 rw[h];exact xG _ _
def rf{l:TU}{i:Nat}{k:TR}(h:l[i]?=J k):oI (l.take (i+1))=bh (oI (l.take i)) k:=by rw[B9,h];exact zj _ _
def qt(x:TR)(l:TU):∀f:TU,x∈l.foldl bh f↔x∈f\/x∈l:=by
 induction l with
 |nil=>simp
 |cons k l j =>
  intro f;rw[PM,j];unfold bh;split
  .rename_i h
   constructor
   .rintro (a|a)
    .exact .inl a
    .exact .inr (l7 _ a)
   .rintro (a|a)
    .exact .inl a
    .rcases l_.mp a with rfl|i
     .exact .inl h
     .exact .inr i
  .constructor
   .rintro (a|a)
    .rcases nt.mp a with i|i
     .exact .inl i
     .simp_all
    .exact .inr (l7 _ a)
   .rintro (a|a)
    .exact .inl (xn _ a)
    .rcases l_.mp a with rfl|i
     .exact .inl (q0 _ (by simp))
     .exact .inr i
def fY(x:TR)(l:TU):x∈oI l↔x∈l:=by unfold oI;rw[qt];simp
section
variable{prog:Program}{w:World}{A:Around}{E:T7}{s:Shared}
abbrev PB(H0:Heap)(R:Addr->Prop):Addr->Prop:=λa=>(∃o,H0.get? a=J o)/\R a
def A8(a h:Heap):Prop:=∀b o,a.get? b=J o->h.get? b=J o
def kR(x:A8 H0 h)(t:TK prog w H0 k a):TK prog w h k a:=by obtain⟨o,items,n,f,r⟩:=t;exact⟨o,items,n,x a o f,r⟩
def uZ{j h l:Heap}{C:Addr->Prop}{S:Addr}{led:Bool}{F:TU}(f:de prog w (PB j C) h S led F)(Q:∀o,h.get? S=J o->l.get? S=J o)(x:A8 j h)(L:A8 j l):de prog w (PB j C) l S led F:=by
 obtain⟨o,O,G,t,y,f,r,p,n⟩:=f;refine⟨o,O,G,t,y,⟨Q o f.get,f.ex,f.data,f.dm,f.mask,f.plain,f.led',f.wf,f.ents.1,λi e k a b=>?_⟩,r,p,n⟩;obtain⟨c,d,⟨B,z,m,H,q⟩,g,⟨P,u⟩,M⟩:=f.ents.2 i e k a b;have e1:=Option.some.inj (H.symm.trans (x c P u));subst e1;exact⟨c,d,⟨B,z,m,L c B u,q⟩,g,⟨B,u⟩,M⟩
def Cs(prog:Program)(w:World)(j:Heap)(items:Array Value)(f:TU):Prop :=
 items.size=f.length/\∀(i:Nat)(v:Value)(k:TR),items[i]?=J v->f[i]?=J k->∃a,v=.ref a/\TK prog w j k a
def wB{h:Heap}{S:Addr}{led:Bool}{P:Addr->Prop}{o:Obj}(l:h.get? S=J o)(j:o.ExactSet)(hd:o.data=.set #[] 0 (.fresh 0 0 led)):de prog w P h S led []:=by
 refine⟨o,#[],0,.fresh 0 0 led,[],⟨l,j,hd,rfl,.inl rfl,rfl,rfl,⟨?_,?_,by simp[SetTable.fresh],?_⟩,rfl,?_⟩,?_,List.Perm.nil,Oe⟩
 .intro a b u v _ f;simp[SetTable.fresh]at f
 .intro i v f;simp[SetTable.fresh]at f
 .intro i r v f;simp at f
 .intro i e k f;simp at f
 .show 0*5<7*3;decide
def ux{RR:Addr->Prop}{R:Result->Shared->Prop}{H:Addr}{fp z:TX}{G:Array GenState->Array GenState->Prop}{n:Nat}{P:Nat->Value->Prop}{St:Nat->Shared->Prop}(hu:A.units+1<cLine)(W:WalksS prog w A.in1 H fp z G n P St)(S:Addr)(al:S∉fp){H0:Heap}(a1:H0.get? S=Y)(an:∀b∈z,H0.get? b=Y){led:Bool}(u:TU)(hn:u.length=n)(Q:∀i v k,P i v->u[i]?=J k->∃a,v=.ref a/\TK prog w H0 k a/\RR a)(a3:(oI u).length<=66):
  ∀(c i:Nat)(s:Shared),n-i=c->i<=n->St i s->A8 H0 s.heap->de prog w (PB H0 RR) s.heap S led (oI (u.take i)) ->
   (∀f,Moved (S::z) G s f->A8 H0 f.heap->de prog w (PB H0 RR) f.heap S led (oI u)->R (.ok (.ret .none)) f) ->
   codeAny (model prog w) A (.builtin "set.update.loop" ⟨[.ref S,.ref H],[]⟩) R s:=by
 have Z:S∉z:=λh=>al (W.sub _ h);have y:∀b∈z,b∈S::z:=λb C=>l7 _ C;have l:∀{s f:Shared},Moved z G s f->A8 H0 s.heap->A8 H0 f.heap:=λ{s f} r x b o e =>
  r.heap b o (λC=>by rw[an b C]at e;cases e) (x b o e)
 intro c
 induction c with
 |zero =>
  intro i s hc hi L O hT B;have e:i=n:=by lia
  subst e;refine codeAny_builtin F.entry_set_update_loop ?_;refine d_ (W.done s _ _ L λf r=>?_);rw[<-hn,CZ]at hT;exact ii (B f (r.mono y) (l r O) (uZ hT (λo e=>r.heap S o Z e) O (l r O)))
 |succ c ih =>
  intro i s hc hi L O hT B;have X:i<n:=by lia
  refine codeAny_builtin F.entry_set_update_loop ?_;show wpAny _ A.in1 (pyNext (.ref H) >>= _) _ _ s;refine d_ (W.item i s _ _ X L λv f hP ab r=>?_);obtain⟨k,hk⟩:∃k,u[i]?=J k:=⟨_,BE ⋯⟩;obtain⟨a,rfl,ha,hR⟩:=Q i v k hP hk;have M:=l r O;have ap:=uZ hT (λo e=>r.heap S o Z e) O M;have U:=kR M ha;show wpAny _ A.in1 (holding [Value.ref a] (setAdd S (.ref a)) >>= _) _ _ f;refine d_ (wpAny_holding ?_);unfold setAdd;refine wpAny_holding ?_;refine d_ (wpAny_pyHash_tuple (by show A.units+1<cLine;exact hu) U ?_);have j:=rf hk;refine Ht (s:={ f with toks:=f.toks+(k.length+1)}) (by show A.units+1<cLine;exact hu) ap U ⟨let⟨o,_,_,ho,_⟩:=ha;⟨o,ho⟩,hR⟩ ?_ λb h' sb ay=>?_
  .have h1:=sA u (i+1);rw[j]at h1;unfold bh at h1;by_cases ah:k∈oI (u.take i)
   .exact .inl ah
   .rw[e_ ah]at h1;simp at h1;exact .inr ⋯
  .have a0:A8 H0 h':=λq o e=>by
    have hq:q≠S:=by rintro rfl;rw[a1]at e;cases e
    exact(sb.2 q hq).trans (M q o e)
   have am:de prog w (PB H0 RR) h' S led (oI (u.take (i+1))):=by rw[j];exact ay
   refine ii ⟨plainId_quiet F.plain_set_update_loop _,ih (i+1) _ ⋯ X (W.frame _ f _ _ ab (J8 _ _) λb C o e=>?_) a0 am λas aj a2 ax=>?_⟩
   .exact (sb.2 b (λq:b=S=>al (by rw[<-q];exact C))).trans e
   .refine B as (Moved.trans W.gtrans ((r.mono y).then_heap (J8 _ _) λb o C e=>?_) aj) a2 ax;exact(sb.2 b (λq:b=S=>C (by rw[q];exact pa))).trans e
abbrev gF(led:Bool):Obj:={ cls:=.type "set",dict:=Y,data:=.set #[] 0 (.fresh 0 0 led)}
abbrev bX(w:World):Bool:=!w.params.followText "set-order"
def A0(a:Value)(h:Q₁ (.ref s.heap.objs.size) { s with heap:=s.heap.push (gF (bX w))}):
  codeAny (model prog w) A (.call (.builtin "set.__new__") ⟨[.type "set",a],[]⟩) (wants Q₁ E) s:=by
 refine codeAny_of_tree ?_;refine d_ (wpAny_of_eq (PySem.F.newCall_set_1 a) (ii ⟨plainId_quiet PySem.F.plain_set_new _,codeAny_builtin PySem.F.entry_set_new ?_⟩));unfold Builtin.«set.__new__» Builtin.Frozenset.newClass;have f:=sub_set_self
 wp_walk
 refine wpAny_askSetting (ii ?_);dsimp only;simp only[newObj];exact d_ (wpAny_alloc (ii (ii h)))
set_option maxHeartbeats 3200000 in
theorem qN(hh:A.handled=Y)(hu:A.units+16<cLine)(hl:s.heap.IsList l items)(hk:Cs prog w s.heap items ks)(an:(oI ks).length<=66)(h:∀(u:Heap)(L:Nat),de prog w (PB s.heap λa=>Value.ref a∈items.toList) u s.heap.objs.size (bX w) (oI ks)->A8 s.heap u->s.toks<=L->Q (.ref s.heap.objs.size) { s with heap:=u,toks:=L}):
  wpAny (model prog w) A (call (.type "set") [.ref l]) Q E s:=by
 obtain⟨c,tl,a2⟩:=PySem.F.called_set.mro;have al:=PySem.F.called_set.made;have a1:=PySem.F.called_set.sub;refine wpAny_call (codeAny_of_tree ?_);show wpAny _ _ (callAny (.type "set") _) _ _ _;refine ii ⟨Code.quiet_builtin _ (by decide +kernel),codeAny_builtin PySem.F.entry_type_call ?_⟩;rw[Around.under_plain (weight_type_call_type "set" [.ref l] []) rfl];have h1:=PySem.F.called_set.notType;have h2:=PySem.F.called_set.canCreate;have a4:=PySem.F.typeCall_set_1 (.ref l)
 repeat (any_goals (first | assumption | wp_step))
 refine codeAny_mono (A0 (.ref l) (E:=E) (Q₁:=λobj B=>obj=.ref s.heap.objs.size/\B={ s with heap:=s.heap.push (gF (bX w))}) ⟨rfl,rfl⟩) λr B hr=>?_
 cases r with
 |error e=>exact hr
 |ok fl =>
  cases fl with
  |ret obj =>
   obtain⟨rfl,rfl⟩:=hr;have hS:(s.heap.push (gF (bX w))).get? s.heap.objs.size=J (gF (bX w)):=s_ _ rfl;have hT:Shared.TypeIs { s with heap:=s.heap.push (gF (bX w))} (.ref s.heap.objs.size) "set":=⟨_,hS,rfl⟩;have a6:=PySem.F.called_set.init.lookup;have a7:=PySem.F.called_set.init.bind (.ref s.heap.objs.size)
   repeat (any_goals (first | assumption | wp_step))
   refine codeAny_mono (codeAny_call_builtin (R:=wants (λr z=>r=.none/\∃u L,z={ s with heap:=u,toks:=L} /\
     de prog w (PB s.heap λa=>Value.ref a∈items.toList) u s.heap.objs.size (bX w) (oI ks)/\A8 s.heap u/\s.toks<=L) E) PySem.F.called_set.init.plain PySem.F.entry_set_init (check_set_init_1 hT ?_)) λU z f=>?_
   .have a8:=hl;obtain⟨ol,O,X,nl,W⟩:=hl;obtain⟨ay,H,am,y⟩:=ol;simp only at X W;subst X;subst W;have Z:(s.heap.push (gF (bX w))).get? l=J { cls:=.type "list",dict:=H,data:=.seq items nl,slots:=y}:=n7 _ O;have a0:=PySem.F.sub_list_set;have a3:=PySem.F.sub_list_frozenset;have a5:(Value.type "list" == Value.type "dict")=T:=by decide
    have ab:(s.heap.push (gF (bX w))).IsList l items:=⟨_,Z,rfl,nl,rfl⟩;unfold Builtin.«set.__init__» noKeywords Builtin.Frozenset.updateFrom;generalize as:pyIter=PI
    wp_walk
    subst as;refine wpAny_pyIter_list ab ?_;refine d_ (wpAny_runValue ?_);have P:l<s.heap.objs.size:=nw O;have ap:A.in1.in1.in1.handled=Y:=by simp[hh]
    have F:(s.heap.push (gF (bX w))).objs.size=s.heap.objs.size+1:=by rw[Fj]
    have M:l≠(s.heap.push (gF (bX w))).objs.size:=by rw[F];exact t3 (J0 P)
    have j:∀b,s.heap.objs.size<=b->s.heap.get? b=Y:=λb hb=>by
     cases e:s.heap.get? b with
     |none=>rfl
     |some o=>exact absurd (nw e) (Nat.not_lt.mpr hb)
    have ah:s.heap.objs.size∉[(s.heap.push (gF (bX w))).objs.size,l]:=by rw[F];simp only[l_,J6,or_false,not_or];exact⟨t3 (J5 _),C2 P⟩
    refine ux (RR:=λa=>Value.ref a∈items.toList) (H0:=s.heap) (led:=bX w) (by show A.units+1+1+1<cLine;lia) ((Walks.list ap _ l M items).toS) s.heap.objs.size ah (j _ (ia _)) ?_ ks hk.1.symm
     (λi v k hv aj=>let⟨a,e,t⟩:=hk.2 i v k hv aj;⟨a,e,t,by rw[<-e];exact zm.mpr ⟨i,by rw[v7];exact hv⟩⟩) an (items.size-0) 0 _ ⋯ (t_ _) ⟨⟨_,s_ _ rfl,rfl,rfl⟩,(ab.push _)⟩ ?_ ?_ ?_
    .intro b hb
     have:b=(s.heap.push (gF (bX w))).objs.size:=by simpa using hb
     rw[this,F];exact j _ (Fk _)
    .intro b o e;exact n7 _ (n7 _ e)
    .exact wB (o:=gF (bX w)) (n7 _ hS) ⟨rfl,rfl,rfl⟩ rfl
    .intro s' hm hx G;obtain⟨u,g',d',S,ax⟩:=s';have eg:g'=s.gens:=hm.gens;have ed:d'=s.drawn:=hm.drawn;have eo:ax=s.os:=hm.os;have et:s.toks<=S:=hm.toks;subst eg;subst ed;subst eo;show wpAny _ _ _ _ _ _;refine ii ?_;show wpAny _ _ (ret Value.none) _ _ _;exact ii ⟨rfl,u,S,rfl,G,hx,et⟩
   .cases U with
    |error e=>exact f
    |ok C =>
     cases C with
     |ret r =>
      obtain⟨rfl,u,L,rfl,G,hx,et⟩:=f
      repeat (any_goals (first | assumption | wp_step))
      exact h _ _ G hx et
     |_=>exact f.elim
  |_=>exact hr.elim
end
def cS:Slot "set_iterator" "__next__" "set_iterator.__next__" :=
 .of (owner:="set_iterator") (n:="__next__") (by kernel_rfl) (by decide +kernel) (by decide +kernel) (by decide +kernel) (.inl (by decide +kernel)) (by kernel_rfl)
def kv:Slot "set_iterator" "__iter__" "set_iterator.__iter__" :=
 .of (owner:="set_iterator") (n:="__iter__") (by kernel_rfl) (by decide +kernel) (by decide +kernel) (by decide +kernel) (.inl (by decide +kernel)) (by kernel_rfl)
def j7:entryFor table "set_iterator.__next__"=J Builtin.«set_iterator.__next__»:=entryFor_of_fast (by kernel_rfl)
def qU:entryFor table "set_iterator.__iter__"=J Builtin.«dict_keyiterator.__iter__» :=
 entryFor_alias (id':="dict_keyiterator.__iter__") (by kernel_rfl) rfl (by decide +kernel) (by kernel_rfl)
def kZ(a:Value):argsOk "set_iterator.__next__" ⟨[a],[]⟩:=by unfold argsOk;kernel_rfl
def t4(a:Value):argsOk "set_iterator.__iter__" ⟨[a],[]⟩:=by unfold argsOk;kernel_rfl
def tI:entryFor table "set.__iter__"=J Builtin.«frozenset.__iter__» :=
 entryFor_alias (id':="frozenset.__iter__") (by kernel_rfl) rfl (by decide +kernel) (by kernel_rfl)
def w5{α:Type}(l:List α)(i:Nat)(h:i<l.length):(l[i]::l.eraseIdx i).Perm l:=by
 rw[List.eraseIdx_eq_take_drop_succ];have e:l.take i++l[i]::l.drop (i+1)=l:=by rw[Sa h,CF]
 exact J7.symm.trans (List.Perm.of_eq e)
def DZ(next:Nat->Nat):∀(a k:Nat)(left:List α)(i:Array α),left.length<=a->(pickOrder.go next a k left i).toList.Perm (i.toList++left):=by
 intro a
 induction a with
 |zero =>
  intro k left i h
  have:left=[]:=CT.mp ⋯
  subst this;unfold pickOrder.go;simp
 |succ f u =>
  intro k left i h;unfold pickOrder.go
  cases left with
  |nil=>simp
  |cons x l =>
   have j:next k % (x::l).length<(x::l).length:=Nat.mod_lt _ (by simp)
   have z:=BE j;rw[z];have y:((x::l).eraseIdx (next k % (x::l).length)).length<=f:=by rw[List.length_eraseIdx_of_lt j];lia
   refine(u (k+1) _ _ y).trans ?_;rw[CW,B6];refine List.Perm.append_left _ ?_;have r:=(w5 _ _ j).symm;exact r.symm
def xM(next:Nat->Nat)(xs:Array α):(pickOrder next xs).toList.Perm xs.toList:=by
 unfold pickOrder
 have:=DZ next xs.size 0 xs.toList #[] (by simp)
 simpa using this
def wQ(xs:Array Nat)(f:eQ xs):below xs 0=0:=by
 obtain⟨i,a,_⟩:=dR xs 0 f;by_cases h:below xs 0=0
 .exact h
 .obtain⟨v,hv⟩:=dE xs 0 ⋯
  have:=a 0 v hv ⋯
  lia
def vX(xs:Array Nat)(f:eQ xs)(i j:Nat)(h:xs[i]?=J j):below xs (j+1)=i+1:=by
 obtain⟨z,l,r⟩:=dR xs (j+1) f;by_cases u:below xs (j+1)<=i
 .have:=r i j h u;lia
 .by_cases y:i+1<below xs (j+1)
  .obtain⟨v,hv⟩:=dE xs (i+1) ⋯;have a:=l (i+1) v hv y;have b:=f i (i+1) j v ⋯ h hv;lia
  .lia
section
variable{prog:Program}{w:World}{A:Around}{E:T7}{s:Shared}
def cc(w:World)(S:Addr)(f:Nat)(a:Array (Int×Value)):Array (Int×Value):=if w.params.followText "set-order" then pickOrder (w.params.setOrder S f) a else a
def iU(w:World)(S:Addr)(f:Nat)(a:Array (Int×Value)):(cc w S f a).toList.Perm a.toList:=by
 unfold cc;split
 .exact xM _ _
 .exact List.Perm.refl _
def Mk(w:World)(j S:Addr)(o:Obj)(f:Array (Int×Value))(a:Nat)(t:SetTable)(i:Nat)(h:Heap):Prop :=
 h.get? S=J o/\∃slot:Nat,h.get? j=J { cls:=.type "set_iterator",dict:=Y,data:=.fields #[.int slot 0,.int i 0,.ref S,.int f.size 0,.int a 0],slots:=#[]} /\
  (w.params.followText "set-order"=T->below t.place slot=i)
end
section
variable{prog:Program}{w:World}{A:Around}{E:T7}{s:Shared}{S it:Addr}{o:Obj}{es:Array (Int × Value)}{ep:Nat}{t:SetTable}{ks:TU}
def pi(a:Mk w it S o es ep t i s.heap):s.TypeIs (.ref it) "set_iterator":=let⟨_,_,h,_⟩:=a;⟨_,h,rfl⟩
def Wkd(prog:Program)(w:World)(S:Addr)(o:Obj)(es:Array (Int×Value))(ep:Nat)(t:SetTable):Prop :=
 o.ExactSet/\o.data=.set es ep t/\t.dummies=#[]/\t.plain=I/\t.led=bX w/\eQ t.place/\t.place.size=es.size/\es.size<=t.mask
def vK{i:Nat}{h:Heap}{slot:Nat}{Q:Option (Value×Nat)->Shared->Prop}(u:Wkd prog w S o es ep t)(H:s.heap.get? S=J o)(G:w.params.followText "set-order"=T->below t.place slot=i)(l:∀(x:Int×Value) a,(cc w S ep es)[i]?=J x->(w.params.followText "set-order"=T->below t.place a=i+1)->Q (J (x.2,a)) s)(r:(cc w S ep es)[i]?=Y->Q Y s):
  wpAny (model prog w) A (setNext S slot i ep) Q E s:=by
 obtain⟨Z,M,T3,X,U,R,O,W⟩:=u;have hf:t.fits es.size=I:=by unfold SetTable.fits SetTable.fill;simp[O,T3];exact W
 refine d_ (wpAny_setState_of H M hf ?_);unfold cc at l r
 cases f:w.params.followText "set-order" with
 |true =>
  rw[f]at l r;show wpAny _ _ (if w.params.followText "set-order"=I then _ else _) _ _ _;rw[f];simp only[bne_self_eq_false];refine d_ (d_ (wpAny_setState_of H M hf ?_));show wpAny _ _ (if w.params.followText "set-order"=I then _ else _) _ _ _;rw[f];refine d_ (wpAny_askSetting (ii ?_));refine ii ?_;show Q (((pickOrder (w.params.setOrder S ep) es)[i]?).map λe=>(e.2,slot)) s
  cases P:(pickOrder (w.params.setOrder S ep) es)[i]? with
  |none=>exact r P
  |some x=>exact l x slot P (λz=>nomatch z)
 |false =>
  rw[f]at l r;show wpAny _ _ (if w.params.followText "set-order"=I then _ else _) _ _ _;rw[f];have F:¬((!t.plain&&decide (es.size>1))=I):=by rw[X];simp
  refine(?_:wpAny _ _ (if(!t.plain&&decide (es.size>1))=I then _ else _) _ _ _);rw[e_ F];have C:¬((!t.led && !es.isEmpty)=I):=by rw[U];simp[f]
  refine d_ (?_:wpAny _ _ (if(!t.led && !es.isEmpty)=I then _ else _) _ _ _);rw[e_ C];refine ii ?_;refine ii ?_;have y:=G f;rw[y]
  cases B:es[i]? with
  |none=>exact r B
  |some x =>
   obtain⟨j,L⟩:=dE t.place i (by rw[O];exact d7 B);rw[L];exact l x (j+1) B (λ_=>vX _ R i j L)
def Wkd.fits(a:Wkd prog w S o es ep t):t.fits es.size=I:=by obtain⟨l,y,T3,j,u,r,i,f⟩:=a;unfold SetTable.fits SetTable.fill;simp[i,T3];exact f
def uo{i:Nat}{x:Int×Value}{Q:T1->Shared->Prop}(a:Wkd prog w S o es ep t)(z:S≠it)(r:Mk w it S o es ep t i s.heap)(G:(cc w S ep es)[i]?=J x)(O:∀y,Mk w it S o es ep t (i+1) y->Heap.SameBut it s.heap y->Q (J x.2) { s with heap:=y}):wpAny (model prog w) A (pyNext (.ref it)) Q E s:=by
 have F:=pi r;obtain⟨u,slot,C,B⟩:=r;refine d_ (wpAny_attempt (wpAny_callSpecial?_slot F cS (wpAny_call_entry cS F j7 ?_ (kZ _))));refine d_ (ii ?_);refine d_ (wpAny_fieldsOf C rfl ?_);refine d_ (wpAny_setEntries_of u a.2.1 a.fits ?_);rw[e_ (by simp)];refine d_ ?_;rw[xp,xp,xp];refine vK (h:=s.heap) a u B (λR f e1 e2=>?_) (λe1=>by rw[G]at e1;cases e1);rw[G]at e1;cases e1;refine d_ (wpAny_setField_rec C (by simp) λP H j=>?_);refine d_ (wpAny_setField_rec H (by simp) λL M l=>?_);refine ii ⟨_,rfl,ii (O L ⟨?_,f,?_,e2⟩ (j.trans l))⟩
 .rw[(j.trans l).2 S z];exact u
 .exact M
def wd{i:Nat}{Q:T1->Shared->Prop}(F:A.handled=Y)(f:Wkd prog w S o es ep t)(j:Mk w it S o es ep t i s.heap)(C:(cc w S ep es)[i]?=Y)(G:∀z,Heap.ExtBut it s.heap z->Q Y { s with heap:=z}):wpAny (model prog w) A (pyNext (.ref it)) Q E s:=by
 have u:=pi j;obtain⟨y,slot,B,l⟩:=j;refine d_ (wpAny_attempt (wpAny_callSpecial?_slot (name:=Str.ofString "__next__") u cS (wpAny_call_entry cS u j7 ?_ (kZ _))));refine d_ (m:=slotArgs "__next__" 0 _) (ii ?_);refine d_ (wpAny_fieldsOf B rfl ?_);refine d_ (wpAny_setEntries_of y f.2.1 f.fits ?_);rw[e_ (by simp)];refine d_ ?_;rw[xp,xp,xp];refine vK (h:=s.heap) f y l (λH r e1 e2=>by rw[C]at e1;cases e1) (λe1=>?_);refine d_ (wpAny_setField B rfl (by simp) ?_);refine d_ ?_;refine d_ (m:=firstArgMember _ _) (wpAny_of_eq (a:=Value.none) (by first | rfl | (simp only[firstArgMember])) ?_);refine wpAny_newObj_type ?_ (by size_fits);refine d_ (wpAny_handled ?_);rw[show A.in1.handled=Y from F];refine d_ (ii (wpAny_throw ?_));refine d_ (wpAny_isInstance (T:="StopIteration") (b:=I) ⟨_,s_ _ rfl,rfl⟩ isSubtype_stop ?_);exact ii (G _ (((Heap.SameBut.update ..).extBut.push _).push _))
def yq(F:A.handled=Y)(z:S≠it)(j:Wkd prog w S o es ep t):
  Walks prog w A it [it,S] [it] es.size (λi v=>∃x,(cc w S ep es)[i]?=J x/\v=x.2) (λi h=>Mk w it S o es ep t i h) where
 sub:=λb f=>by simp at f;simp[f]
 frame:=λ_ _ _ st C=>⟨C S (by simp) _ st.1,let⟨slot,a,b⟩:=st.2;⟨slot,C it (by simp) _ a,b⟩⟩
 item:=λi s Q E L st l=>by
  have G:(cc w S ep es).size=es.size:=by rw[<-As,(iU w S ep es).length_eq,As]
  obtain⟨x,B⟩:=dE (cc w S ep es) i ⋯;exact uo j z st B λr u sb=>l _ r s.toks ⟨x,B,rfl⟩ u λb o f e=>sb.extBut b o (λh=>f (by simp[h])) e
 done:=λs Q E st l=>by
  have G:(cc w S ep es).size=es.size:=by rw[<-As,(iU w S ep es).length_eq,As]
  exact wd F j st (Pu ⋯) λr H=>l r s.toks λb o f e=>H b o (λh=>f (by simp[h])) e
 self:=λ_ s Q E st l=>by
  have y:=pi st;refine wpAny_pyIter_slot y kv (wpAny_call_entry kv y qU ?_ (t4 _));exact ii ⟨_,rfl,"set_iterator",_,y,cS.lookup,l⟩
def wo(a:Wkd prog w S o es ep t)(f:s.heap.get? S=J o)(l:Q (.ref s.heap.objs.size) { s with heap:=s.heap.push { cls:=.type "set_iterator",data:=.fields #[.int 0 0,.int 0 0,.ref S,.int es.size 0,.int ep 0]}}):
  wpAny (model prog w) A (pyIter (.ref S)) Q E s:=by
 have j:s.TypeIs (.ref S) "set":=⟨o,f,a.1.1⟩;refine wpAny_pyIter_slot j PySem.F.slot_set_iter (wpAny_call_entry PySem.F.slot_set_iter j tI ?_ (PySem.F.args_set_iter_1 _));refine d_ (d_ (ii (ii ?_)));refine d_ (d_ (wpAny_setEntries_of f a.2.1 a.fits (ii ?_)));refine d_ (d_ (wpAny_setState_of f a.2.1 a.fits ?_));refine d_ (d_ (wpAny_askSetting (ii (ii ?_))));have i:(!w.params.followText "set-order" && (!t.plain&&decide (es.size>1)))=T:=by rw[a.2.2.2.1];simp
 refine(?_:wpAny _ _ (if(!w.params.followText "set-order" && (!t.plain&&decide (es.size>1)))=I then _ else _) _ _ _);rw[e_ (by rw[i];simp)];refine d_ (ii ?_);refine d_ (wpAny_setEpoch_of f a.2.1 a.fits ?_);exact d_ (wpAny_newObj_type (ii ⟨_,rfl,"set_iterator",_,⟨_,s_ _ rfl,rfl⟩,cS.lookup,l⟩))
end
section
variable{prog:Program}{w:World}{A:Around}{E:T7}{s:Shared}{S:Addr}{o:Obj}{es:Array (Int × Value)}{ep:Nat}{t:SetTable}
def zE(a:s.TypeIs (.ref S) "set")(f:Q T s):wpAny (model prog w) A (Builtin.List.listLengthHint (.ref S)) Q E s:=by refine d_ (wpAny_specialOf a PySem.F.slot_set_len.lookup ?_);dsimp only;refine d_ (wpAny_isInstance a sub_set_self ?_);refine d_ (wpAny_typeOf a ?_);exact ii f
def sN(hh:A.handled=Y)(j:Wkd prog w S o es ep t)(ho:s.heap.get? S=J o)(hn:es.size<=sizeLine)(hQ:∀M tk,A8 s.heap M->s.heap.objs.size<M.objs.size->s.toks<=tk->Q ((cc w S ep es).toList.map (·.2)) { s with heap:=M,toks:=tk}):
  wpAny (model prog w) A (collect (.ref S)) Q E s:=by
 have a:S<s.heap.objs.size:=nw ho;refine d_ (wpAny_runValue (codeAny_builtin PySem.F.entry_proto_collect ?_));refine d_ (wpAny_newObj_type ?_);refine ii ⟨plainId_quiet PySem.F.plain_list_iadd _,codeAny_builtin PySem.F.entry_list_iadd ?_⟩;generalize hL:({ cls:=.type "list",data:=.seq ([]:TZ).toArray}:Obj)=f;have F:(s.heap.push f).get? S=J o:=n7 _ ho;have al:(s.heap.push f).get? s.heap.objs.size=J f:=s_ _ (by rw[<-hL];rfl);have u:(s.heap.push f).objs.size=s.heap.objs.size+1:=by rw[Fj]
 show wpAny _ A.in1 (Builtin.List.listExtendWith (.ref s.heap.objs.size) (.ref S) (.ref s.heap.objs.size)) _ _ { s with heap:=s.heap.push f};have Z:Shared.TypeIs { s with heap:=s.heap.push f} (.ref S) "set":=⟨o,F,j.1.1⟩;refine d_ (wpAny_typeOf Z ?_);have h1:Builtin.List.listSameRef (.ref s.heap.objs.size) (.ref S)=T:=by simp only[Builtin.List.listSameRef,beq_eq_false_iff_ne];exact C2 a
 have h2:(Value.type "set" == Value.type "list")=T:=by decide
 have h3:(Value.type "set" == Value.type "tuple")=T:=by decide
 simp only[h1,h2,h3,Bool.or_false,pk,if_false];refine d_ (wo (s:={ s with heap:=s.heap.push f}) j F ?_);generalize hI:({ cls:=.type "set_iterator",data:=.fields #[.int 0 0,.int 0 0,.ref S,.int es.size 0,.int ep 0]}:Obj)=z;have U:((s.heap.push f).push z).get? S=J o:=n7 _ F;have X:((s.heap.push f).push z).get? s.heap.objs.size=J f:=n7 _ al;have am:((s.heap.push f).push z).get? (s.heap.push f).objs.size=J z:=s_ _ (by rw[<-hI];rfl);show wpAny _ A.in1 _ _ _ { s with heap:=(s.heap.push f).push z};have ab:Shared.TypeIs { s with heap:=(s.heap.push f).push z} (.ref S) "set":=⟨o,U,j.1.1⟩;refine d_ (wpAny_holding (zE ab ?_));rw[b_ (by decide +kernel)];refine d_ (wpAny_rule ?_);refine d_ ?_;show wpAny _ A.in1 (updateSeq s.heap.objs.size (·.push .none) >>= λ_=>updateSeq s.heap.objs.size (·.pop)) _ _ _;subst hL;refine d_ (wpAny_updateSeq X rfl ?_);have l:=JY (Obj.mapSeq (·.push Value.none)) X rfl;refine wpAny_updateSeq l rfl ?_;have C:=JY (Obj.mapSeq (·.pop)) l rfl;have Cy:∀b L,b≠s.heap.objs.size->((s.heap.push { cls:=.type "list",data:=.seq ([]:TZ).toArray}).push z).get? b=J L ->
   ((((s.heap.push { cls:=.type "list",data:=.seq ([]:TZ).toArray}).push z).update s.heap.objs.size (Obj.mapSeq (·.push Value.none))).update s.heap.objs.size (Obj.mapSeq (·.pop))).get? b=J L :=
  λb L H e=>(N1 _ _ (Ne.symm H)).trans ((N1 _ _ (Ne.symm H)).trans e)
 have y:s.heap.objs.size≠(s.heap.push { cls:=.type "list",data:=.seq ([]:TZ).toArray}).objs.size:=by rw[u];exact t3 (J5 _)
 have R:S≠(s.heap.push { cls:=.type "list",data:=.seq ([]:TZ).toArray}).objs.size:=by rw[u];exact t3 (J0 a)
 have hW:=(yq (A:=A.in1) (it:=(s.heap.push { cls:=.type "list",data:=.seq ([]:TZ).toArray}).objs.size) hh R j).toS;have ah:s.heap.objs.size∉[(s.heap.push { cls:=.type "list",data:=.seq ([]:TZ).toArray}).objs.size,S]:=by simp only[l_,J6,or_false,not_or];exact⟨y,C2 a⟩
 refine ii ⟨plainId_quiet PySem.F.plain_extend_loop _,codeAny_extend_loopS hW hn _ ah _ es.size 0 _ _ _ rfl (t_ _) ?_ C (ItemsOf.nil _) λs' B c' O P r=>?_⟩
 .refine⟨Cy S _ (t3 a) U,0,?_,λ_=>wQ _ j.2.2.2.2.2.1⟩;subst hI;exact Cy _ _ (Ne.symm y) am
 .show wpAny _ A (load s.heap.objs.size >>= _) _ _ s';refine d_ (wpAny_load P ?_);refine ii ?_;have G:B.toList=(cc w S ep es).toList.map (·.2):=by
   have hl:(cc w S ep es).size=es.size:=by rw[<-As,(iU w S ep es).length_eq,As]
   apply KI;intro i;by_cases hi:i<es.size
   .obtain⟨v,hv⟩:=dE B i (by rw[r.1];exact hi);obtain⟨x,hx,e⟩:=r.2 i v hv;rw[v7,hv,tx,v7,hx,e];rfl
   .rw[FW (by rw[As,r.1];lia),FW (by rw[mm,As,hl];lia)]
  rw[G];obtain⟨M,g',d',W,aj⟩:=s';have eg:g'=s.gens:=O.gens;have ed:d'=s.drawn:=O.drawn;have eo:aj=s.os:=O.os;have et:s.toks<=W:=O.toks;subst eg;subst ed;subst eo;refine hQ M W (λb L e=>?_) (nw P) et;have H:b<s.heap.objs.size:=nw e;refine O.heap b L ?_ (Cy b L (t3 H) (n7 _ (n7 _ e)));simp only[l_,J6,or_false,not_or];exact⟨t3 H,by rw[u];exact t3 (J0 H)⟩
def uA(hh:A.handled=Y)(f:de prog w (PB H0 R) s.heap S (bX w) ks)(hx:A8 H0 s.heap)(hQ:∀B M vs F,A8 s.heap B->s.heap.objs.size<B.objs.size->s.toks<=M->Cs prog w H0 (List.toArray vs) F->(∀v∈vs,∃a,v=.ref a/\R a)->F.Perm ks->Q vs { s with heap:=B,toks:=M}):
  wpAny (model prog w) A (collect (.ref S)) Q E s:=by
 obtain⟨o,es,ep,t,r,f,hr,O,aj⟩:=f;unfold lp at hr;have G:es.size<=t.mask:=by rcases f.mask with e|e | e<;>rw[e]at hr ⊢<;>lia
 have ah:t.mask<=127:=by rcases f.mask with e|e | e<;>lia
 refine sN hh ⟨f.ex,f.data,f.dm,f.plain,f.led',f.wf.rise,f.size,G⟩ f.get (by rw[sizeLine_eq];lia) λB M e1 e3 e2=>?_;have P:=iU w S ep es;have l:∀e∈es.toList,∃k a,e.2=.ref a/\TK prog w H0 k a/\R a:=by intro e y;obtain⟨i,j⟩:=zm.mp y;rw[v7]at j;obtain⟨k,u⟩:∃k,r[i]?=J k:=⟨_,BE (by rw[<-f.ents.1];exact d7 j)⟩;obtain⟨c,d,⟨oc,ab,m,U,q⟩,g,⟨Z,X⟩,hR⟩:=f.ents.2 i e k j u;have e3:oc=Z:=Option.some.inj (U.symm.trans (hx c Z X));subst e3;exact⟨k,c,d,⟨oc,ab,m,X,q⟩,hR⟩
 let L:Int×Value->TR:=λe=>Classical.epsilon λk=>∃a,e.2=.ref a/\TK prog w H0 k a
 have C:∀e∈es.toList,∃a,e.2=.ref a/\TK prog w H0 (L e) a:=by intro e y;obtain⟨k,a,z,W,_⟩:=l e y;exact Classical.epsilon_spec (p:=λk=>∃a,e.2=.ref a/\TK prog w H0 k a) ⟨k,a,z,W⟩
 have H:es.toList.map L=r:=by
  apply KI;intro i;rw[tx,v7]
  cases j:es[i]? with
  |none =>
   have:r.length<=i:=by
    rw[<-f.ents.1]
    have:=Po.mp j
    lia
   rw[FW this];rfl
  |some e =>
   obtain⟨k,u⟩:∃k,r[i]?=J k:=⟨_,BE (by rw[<-f.ents.1];exact d7 j)⟩;obtain⟨c,d,U,g,⟨Z,X⟩,_⟩:=f.ents.2 i e k j u;have y:e∈es.toList:=zm.mpr ⟨i,by rw[v7];exact j⟩;obtain⟨a,z,W⟩:=C e y;rw[d]at z;cases z;have h3:=kR hx W;rw[u];show J (L e)=J k;rw[IsTupleKey.inj h3 U]
 refine hQ B M _ ((cc w S ep es).toList.map L) e1 e3 e2 ⟨by simp,?_⟩ ?_ ?_
 .intro i v k hv u;rw[FX,tx]at hv;rw[tx]at u
  cases j:(cc w S ep es).toList[i]? with
  |none=>rw[j]at hv;cases hv
  |some e =>
   rw[j]at hv u;cases hv;cases u;exact C e (P.mem_iff.mp (Be j))
 .intro v hv;obtain⟨e,y,rfl⟩:=ml.mp hv;obtain⟨k,a,z,_,h3⟩:=l e (P.mem_iff.mp y);exact⟨a,z,h3⟩
 .have:=P.map L
  rw[H]at this;exact this.trans O
end
end SetT
namespace SortT
open PyProof.Rows
structure v3(prog:Program)(w:World)(A:Around)(E:T7)(s:Shared)(kd:SortKind)(O:KeyOrd) where
 key:Keyed->O.α
 dflt:O.α
 good:Keyed->Prop
 ask:∀(x y:Keyed)(st:SortSt)(Q:Option Bool->SortSt->Prop),good x->good y->kindOf st=kd->Q (J (O.blt (key x) (key y))) st->wpS (model prog w) A E s (lt' x y) Q st
section
variable{prog:Program}{w:World}{A:Around}{E:T7}{s:Shared}{kd:SortKind}{O:KeyOrd}(C:v3 prog w A E s kd O)
def kk(xs:Array Keyed)(i:Nat):O.α:=match xs[i]? with
 |some p=>C.key p
 |none=>C.dflt
def sh(xs:Array Keyed)(lo a:Nat):Prop:=∀i j,lo<=i->i<=j->j<a->O.kle (kk C xs i) (kk C xs j)
def Kh(xs:Array Keyed)(lo a:Nat):Prop:=∀i j,lo<=i->i<=j->j<a->O.kle (kk C xs j) (kk C xs i)
def cI(xs:Array Keyed):Prop:=∀p,p∈xs.toList->C.good p
structure SB(kd:SortKind)(a₀:Array Keyed)(st:SortSt):Prop where
 perm:(arrOf st).Perm a₀
 kind:kindOf st=kd
 failed:failedOf st=Y
def cL(lo:Nat)(xs ys:Array Keyed):Prop:=∀i,i<lo->ys[i]?=xs[i]?
def cL.rfl'{lo:Nat}{xs:Array Keyed}:cL lo xs xs:=λ_ _=>rfl
def cL.trans{lo:Nat}{xs ys a:Array Keyed}(h:cL lo xs ys)(g:cL lo ys a):cL lo xs a:=λi f=>(g i f).trans (h i f)
variable{C}{a₀:Array Keyed}{st:SortSt}
def SB.size(h:SB kd a₀ st):(arrOf st).size=a₀.size:=h.perm.size_eq
def SB.arr(h:SB kd a₀ st)(a:xs.Perm (arrOf st)):SB kd a₀ (setArr st xs):=⟨a.trans h.perm,h.kind,h.failed⟩
def SB.good(h:SB kd a₀ st)(a:cI C a₀):cI C (arrOf st):=λp f=>a p ((Pp.mp h.perm).mem_iff.mp f)
def eM(h:xs[i]?=ys[j]?):kk C xs i=kk C ys j:=by unfold kk;rw[h]
def aT(h:xs[i]?=J p):kk C xs i=C.key p:=by unfold kk;rw[h]
def bx{xs:Array Keyed}(g:cI C xs){i:Nat}{p:Keyed}(h:xs[i]?=J p):C.good p:=by refine g p (zm.mpr ⟨i,?_⟩);rw[v7];exact h
def aU(a:i<xs.size)(h:∀p,xs[i]?=J p->Q p st):wpS (model prog w) A E s (elem' xs i) Q st:=by rw[elem'_eq];have e:=getElem?_pos xs i a;rw[e];exact wpS_pure (h _ e)
def kQ{i j:Nat}{Q:Option Bool->SortSt->Prop}(a:SB kd a₀ st)(f:cI C a₀)(u:i<a₀.size)(z:j<a₀.size)(h:Q (J (O.blt (kk C (arrOf st) i) (kk C (arrOf st) j))) st):wpS (model prog w) A E s (ltAt' i j) Q st:=by
 refine wpS_bind (wpS_get ?_);refine wpS_bind (aU (by rw[a.size];exact u) λx l=>wpS_bind (aU (by rw[a.size];exact z) λy r=>?_));rw[aT l,aT r]at h;exact C.ask x y st Q (bx (a.good f) l) (bx (a.good f) r) a.kind h
def pT(j:src<xs.size)(hd:d<=src)(i:Nat):
  kk C (bubble xs src d) i=if i=src-d then kk C xs src else if src-d<i/\i<=src then kk C xs (i-1)else kk C xs i:=by
 have e:=getElem?_bubble j d hd i;split
 .next a=>rw[b_ a]at e;exact eM e
 .next a =>
  rw[e_ a]at e;split
  .next f=>rw[b_ f]at e;exact eM e
  .next f=>rw[e_ f]at e;exact eM e
def kX(f:j<=xs.size)(q:Nat):
  kk C (mirror xs i j ((j-i)/2)) q=if i<=q/\q<j then kk C xs (i+j-1-q)else kk C xs q:=by
 have e:=getElem?_mirror_all (i:=i) f q;split
 .next a=>rw[b_ a]at e;exact eM e
 .next a=>rw[e_ a]at e;exact eM e
def dD(f:j<=xs.size)(a:∀q,i<=q->q<j->kk C xs q=kk C xs (j-1))(q:Nat):
  kk C (mirror xs i j ((j-i)/2)) q=kk C xs q:=by
 rw[kX f];split
 .next h=>rw[a (i+j-1-q) ⋯ ⋯,a q h.1 h.2]
 .rfl
def gf{xs:Array Keyed}{lo i j:Nat}(a:j<=xs.size)(h:lo<=i):cL lo xs (mirror xs i j ((j-i)/2)):=λq f=>by
 rw[getElem?_mirror_all a,e_ ⋯]
def ut{xs:Array Keyed}{lo a d:Nat}(f:a<xs.size)(hd:d<=a)(h:lo<=a-d):cL lo xs (bubble xs a d):=λq i=>by
 rw[getElem?_bubble f d hd,e_ ⋯,e_ ⋯]
abbrev AS:=Option (UL)×Nat
abbrev DS:=Option (UL)×Nat×Nat
def kg(p a f:Nat):StateT SortSt Sem AS :=
 forIn [a:f] ((Y,a):AS) λ_ c=>do
  let q <-ltAt' (p+c.2) (p+c.2-1)
  match q with
  |some z=>if z=I then pure (ForInStep.done (Y,c.2))else pure (ForInStep.yield (Y,c.2+1))
  |_=>pure (ForInStep.done (J Y,c.2))
def Hu(p n a:Nat):StateT SortSt Sem (UL):=do
 reverseSlice' p (p+n)
 let c <-kg p n a
 match c.1 with
 |some r=>pure r
 |none=>pure (J c.2)
def D_(p n a:Nat):StateT SortSt Sem DS :=
 forIn [n:a] ((Y,n,0):DS) λ_ c=>do
  let q <-ltAt' (p+c.2.1) (p+c.2.1-1)
  match q with
  |some z =>
   if z=I then
    if c.2.2>0 then do
     reverseSlice' (p+c.2.1-(c.2.2+1)) (p+c.2.1)
     pure (ForInStep.yield (Y,c.2.1+1,0))
    else pure (ForInStep.yield (Y,c.2.1+1,0))
   else do
    let q <-ltAt' (p+c.2.1-1) (p+c.2.1)
    match q with
    |some z=>if z=I then pure (ForInStep.done (Y,c.2.1,c.2.2))else pure (ForInStep.yield (Y,c.2.1+1,c.2.2+1))
    |_=>pure (ForInStep.done (J Y,c.2.1,c.2.2))
  |_=>pure (ForInStep.done (J Y,c.2.1,c.2.2))
def Hv(p n a:Nat):StateT SortSt Sem (UL):=do
 liftM (rule "list.sort.descending-run")
 let c <-D_ p (n+1) a
 match c.1 with
 |some r=>pure r
 |none =>
  if c.2.2>0 then do
   reverseSlice' (p+c.2.1-(c.2.2+1)) (p+c.2.1)
   Hu p c.2.1 a
  else Hu p c.2.1 a
def Hw(p a:Nat):countRun' p a=(do
  let c <-kg p 1 a
  match c.1 with
  |some r=>pure r
  |none =>
   if(c.2==a)=I then pure (J c.2)
   else if c.2>1 then do
    let q <-ltAt' p (p+c.2-1)
    match q with
    |some z=>if z=I then pure (J c.2)else do
      reverseSlice' p (p+c.2)
      Hv p c.2 a
    |_=>pure Y
   else Hv p c.2 a):=by
 refine congrArg (λg=>kg p 1 a >>= g) (funext λc=>?_);obtain⟨r,n⟩:=c
 cases r with
 |some r=>rfl
 |none =>
  dsimp only;split
  .rfl
  .split
   .congr 1;funext x
    cases x with
    |none=>rfl
    |some z =>
     dsimp only;split
     .rfl
     .refine congrArg _ (funext λ_=>?_);refine congrArg _ (funext λ_=>?_);refine congrArg (λg=>D_ p (n+1) a >>= g) (funext λy=>?_);obtain⟨j,l,B⟩:=y
      cases j with
      |some j=>rfl
      |none =>
       dsimp only;split
       .refine congrArg _ (funext λ_=>?_);refine congrArg _ (funext λ_=>?_);refine congrArg (λg=>kg p l a >>= g) (funext λf=>?_);obtain⟨i,u⟩:=f;cases i<;>rfl
       .refine congrArg _ (funext λ_=>?_);refine congrArg (λg=>kg p l a >>= g) (funext λf=>?_);obtain⟨i,u⟩:=f;cases i<;>rfl
   .refine congrArg _ (funext λ_=>?_);refine congrArg (λg=>D_ p (n+1) a >>= g) (funext λy=>?_);obtain⟨j,l,B⟩:=y
    cases j with
    |some j=>rfl
    |none =>
     dsimp only;split
     .refine congrArg _ (funext λ_=>?_);refine congrArg _ (funext λ_=>?_);refine congrArg (λg=>kg p l a >>= g) (funext λf=>?_);obtain⟨i,u⟩:=f;cases i<;>rfl
     .refine congrArg _ (funext λ_=>?_);refine congrArg (λg=>kg p l a >>= g) (funext λf=>?_);obtain⟨i,u⟩:=f;cases i<;>rfl
def vj(H:cI C a₀)(U:p+nrem<=a₀.size)(R:1<=a)(G:a<=nrem)(M:SB kd a₀ st)(L:sh C (arrOf st) p (p+a))(h:∀n,a<=n->n<=nrem->sh C (arrOf st) p (p+n)->(n=nrem\/O.klt (kk C (arrOf st) (p+n)) (kk C (arrOf st) (p+n-1)))->Q (Y,n) st):
  wpS (model prog w) A E s (kg p a nrem) Q st:=by
 refine wpS_forRange (I:=λx c f=>f=st/\c=(Y,x)/\sh C (arrOf st) p (p+x)) ?_ ?_ ⟨rfl,rfl,L⟩
 .rintro x c f F S ⟨rfl,rfl,y⟩;refine wpS_bind (kQ M H ⋯ ⋯ ?_)
  cases B:O.blt (kk C (arrOf f) (p+x)) (kk C (arrOf f) (p+x-1)) with
  |true=>exact wpS_pure (h x F ⋯ y (.inr B))
  |false =>
   refine wpS_pure ⟨rfl,rfl,λi j z r P=>?_⟩;by_cases u:j<p+x
   .exact y i j z r u
   .have e:j=p+x:=by lia
    subst e;by_cases l:i=p+x
    .subst l;exact KeyOrd.kle_refl _
    .exact KeyOrd.kle_trans (y i (p+x-1) z ⋯ ⋯) B
 .simp_all
def lj(h:Q () (setArr st (mirror (arrOf st) i j ((j-i)/2)))):wpS (model prog w) A E s (reverseSlice' i j) Q st:=by exact wpS_modify h
def vg(F:cI C a₀)(L:p+nrem<=a₀.size)(y:1<=n)(r:n<=nrem)(u:SB kd a₀ st)(G:Kh C (arrOf st) p (p+n))(h:∀m a,SB kd a₀ a->cL p (arrOf st) (arrOf a)->pendingOf a=pendingOf st->1<=m->m<=nrem->sh C (arrOf a) p (p+m)->Q (J m) a):
  wpS (model prog w) A E s (Hu p n nrem) Q st:=by
 have f:p+n<=(arrOf st).size:=by rw[u.size];lia
 refine wpS_bind (lj ?_);have l:=u.arr (mirror_perm (arrOf st) p (p+n) ((p+n-p)/2));refine wpS_bind (vj F L y r l (λi j P H R=>?_) λm M z B _=>wpS_pure (h m _ l (gf f (ia _)) rfl ⋯ z B));rw[kX f,kX f,b_ ⋯,b_ ⋯];exact G _ _ ⋯ ⋯ ⋯
def Ea{p n l:Nat}{Q:DS->SortSt->Prop}(h0:cI C a₀)(hn:p+l<=a₀.size)(h1:1<=n)(W:n<=l)(hB:SB kd a₀ st)(hs:Kh C (arrOf st) p (p+n))(h:∀m q f,SB kd a₀ f->cL p (arrOf st) (arrOf f)->pendingOf f=pendingOf st->n<=m->m<=l->Kh C (arrOf f) p (p+m)->q+1<=m ->
   (∀i,p+m-(q+1)<=i->i<p+m->kk C (arrOf f) i=kk C (arrOf f) (p+m-1))->Q (Y,m,q) f):
  wpS (model prog w) A E s (D_ p n l) Q st:=by
 refine wpS_forRange (I:=λx c f=>∃q,c=(Y,x,q)/\SB kd a₀ f/\cL p (arrOf st) (arrOf f)/\pendingOf f=pendingOf st/\Kh C (arrOf f) p (p+x)/\q+1<=x /\
   ∀i,p+x-(q+1)<=i->i<p+x->kk C (arrOf f) i=kk C (arrOf f) (p+x-1)) ?_ ?_ ⟨0,rfl,hB,cL.rfl',rfl,hs,⋯,λi a b=>by congr 1;lia⟩
 .rintro x c f Z ab ⟨q,rfl,r,y,u,hf,L,B⟩;have H:p+x<=(arrOf f).size:=by rw[r.size];lia
  have z:∀xs:Array Keyed,(∀i,kk C xs i=kk C (arrOf f) i)->O.kle (kk C (arrOf f) (p+x)) (kk C (arrOf f) (p+x-1))->Kh C xs p (p+(x+1)):=by
   intro xs hk M i j hi U hj;rw[hk,hk];by_cases X:j<p+x
   .exact hf i j hi U X
   .have e:j=p+x:=by lia
    subst e;by_cases R:i=p+x
    .subst R;exact KeyOrd.kle_refl _
    .exact KeyOrd.kle_trans M (hf i (p+x-1) hi ⋯ ⋯)
  dsimp only;refine wpS_bind (kQ r h0 ⋯ ⋯ ?_)
  cases hz:O.blt (kk C (arrOf f) (p+x)) (kk C (arrOf f) (p+x-1)) with
  |true =>
   dsimp only;rw[b_ rfl];by_cases F:q>0
   .rw[b_ F];refine wpS_bind (lj (wpS_pure ⟨0,rfl,r.arr (mirror_perm _ _ _ _),y.trans (gf H ⋯),u,z _ (dD H B) (KeyOrd.kle_of_klt hz),⋯,λi a b=>by congr 1;lia⟩))
   .rw[e_ F];exact wpS_pure ⟨0,rfl,r,y,u,z _ (λ_=>rfl) (KeyOrd.kle_of_klt hz),⋯,λi a b=>by congr 1;lia⟩
  |false =>
   dsimp only;rw[e_ (by simp)];refine wpS_bind (kQ r h0 ⋯ ⋯ ?_)
   cases G:O.blt (kk C (arrOf f) (p+x-1)) (kk C (arrOf f) (p+x)) with
   |true =>
    dsimp only;rw[b_ rfl];exact wpS_pure (h x q f r y u Z ⋯ hf L B)
   |false =>
    dsimp only;rw[e_ (by simp)];have P:kk C (arrOf f) (p+x)=kk C (arrOf f) (p+x-1):=KeyOrd.kle_antisymm G hz;refine wpS_pure ⟨q+1,rfl,r,y,u,z _ (λ_=>rfl) G,⋯,λi a b=>?_⟩;have e1:p+(x+1)-1=p+x:=by lia
    rw[e1];by_cases S:i=p+x
    .subst S;rfl
    .rw[P];exact B i ⋯ ⋯
 .rintro c f ⟨q,rfl,r,y,u,hf,L,B⟩;have e:max n l=l:=by lia
  rw[e]at hf L B ⊢;exact h l q f r y u W (ia _) hf L B
def sQ{p n f:Nat}{Q:UL->SortSt->Prop}(H:cI C a₀)(U:p+f<=a₀.size)(P:n+1<=f)(hB:SB kd a₀ st)(hs:Kh C (arrOf st) p (p+(n+1)))(h:∀m a,SB kd a₀ a->cL p (arrOf st) (arrOf a)->pendingOf a=pendingOf st->1<=m->m<=f->sh C (arrOf a) p (p+m)->Q (J m) a):
  wpS (model prog w) A E s (Hv p n f) Q st:=by
 refine wpS_bind (wpS_lift (wpAny_rule ⟨rfl,?_⟩));refine wpS_bind (Ea H U ⋯ P hB hs λm q a l F B ab y hf hq W=>?_);dsimp only;have r:p+m<=(arrOf a).size:=by rw[l.size];lia
 by_cases z:q>0
 .rw[b_ z];refine wpS_bind (lj (vg H U ⋯ y (l.arr (mirror_perm _ _ _ _)) ?_ λG u L S R=>h G u L ((F.trans (gf r ⋯)).trans S) (R.trans B)));intro i j X M Z;rw[dD r W,dD r W];exact hf i j X M Z
 .rw[e_ z];exact vg H U ⋯ y l hf λG u L S R=>h G u L (F.trans S) (R.trans B)
def vb(L:cI C a₀)(W:p+nrem<=a₀.size)(h1:1<=nrem)(z:SB kd a₀ st)(h:∀m f,SB kd a₀ f->cL p (arrOf st) (arrOf f)->pendingOf f=pendingOf st->1<=m->m<=nrem->sh C (arrOf f) p (p+m)->Q (J m) f):
  wpS (model prog w) A E s (countRun' p nrem) Q st:=by
 rw[Hw];refine wpS_bind (vj L W (ia 1) h1 z (λi j H G Z=>by have e:i=j:=⋯;subst e;exact KeyOrd.kle_refl _) λn X a2 l R=>?_);by_cases u:n=nrem
 .rw[b_ (by simpa using u)];exact wpS_pure (h n st z cL.rfl' rfl X a2 l)
 .rw[e_ (by simpa using u)];have B:=R.resolve_left u;by_cases F:n>1
  .rw[b_ F];refine wpS_bind (kQ z L ⋯ ⋯ ?_)
   cases hz:O.blt (kk C (arrOf st) p) (kk C (arrOf st) (p+n-1)) with
   |true =>
    dsimp only;exact wpS_pure (h n st z cL.rfl' rfl X a2 l)
   |false =>
    dsimp only;have y:p+n<=(arrOf st).size:=by rw[z.size];lia
    have a:∀q,p<=q->q<p+n->kk C (arrOf st) q=kk C (arrOf st) (p+n-1):=λq M U =>
     KeyOrd.kle_antisymm (l q (p+n-1) M ⋯ ⋯) (KeyOrd.kle_trans hz (l p q (ia _) M U))
    refine wpS_bind (lj (sQ L W ⋯ (z.arr (mirror_perm _ _ _ _)) ?_ λm2 S M U b3=>h m2 S M ((gf y (ia _)).trans U) b3));intro i j H G Z;rw[dD y a,dD y a];by_cases P:j<p+n
    .rw[a i H ⋯,a j ⋯ P];exact KeyOrd.kle_refl _
    .have e:j=p+n:=by lia
     subst e;by_cases r:i=p+n
     .subst r;exact KeyOrd.kle_refl _
     .rw[a i H ⋯];exact KeyOrd.kle_of_klt B
  .rw[e_ F];have e:n=1:=by lia
   subst e;refine sQ L W ⋯ z ?_ h;intro i j H G Z;by_cases r:i=j
   .subst r;exact KeyOrd.kle_refl _
   .have e1:i=p:=by lia
    have e2:j=p+1:=by lia
    subst e1;subst e2;exact KeyOrd.kle_of_klt B
end
section
variable{prog:Program}{w:World}{A:Around}{E:T7}{s:Shared}{kd:SortKind}{O:KeyOrd}{C:v3 prog w A E s kd O}{a₀:Array Keyed}{st:SortSt}
def Sv{l m r k x:Nat}(a:l<=m)(b:m<r)(h:r-l<=k-x):m-l<=k-(x+1):=by rw[PQ];exact KA (rc (Nat.sub_lt_sub_right a b) h)
def Sw{l m r k x:Nat}(a:l<=m)(h:r-l<=k-x):r-(m+1)<=k-(x+1):=by rw[PQ,PQ];exact Nat.sub_le_sub_right (m_ (N8 a r) h) 1
def Sx{l r k:Nat}(a:l<=r)(h:r-l<=k-max 0 k):l=r:=Nat.le_antisymm a (Sb.1 (Nat.le_zero.1 (Nat.sub_eq_zero_of_le (Nat.le_max_right 0 k)▸h)))
def Tz{l r:Nat}(h:¬l>=r):l<=(l+r)/2/\(l+r)/2<r:=by lia
def Hx{l r:Nat}(h:¬l>=r):l<=l+(r-l)/2/\l+(r-l)/2<r:=by lia
def u5(h0:cI C a₀)(hn:p+n<=a₀.size)(hok:ok<=n)(hB:SB kd a₀ st)(hs:sh C (arrOf st) p (p+ok))(h:∀f,SB kd a₀ f->cL p (arrOf st) (arrOf f)->pendingOf f=pendingOf st->sh C (arrOf f) p (p+n)->Q I f):wpS (model prog w) A E s (binarySort' p n ok) Q st:=by
 rw[binarySort'_eq]
 refine wpS_bind (wpS_mono (wpS_forRange (I:=λk c f=>c=(Y,())/\SB kd a₀ f/\cL p (arrOf st) (arrOf f)/\pendingOf f=pendingOf st/\sh C (arrOf f) p (p+min k n))
  (Q:=λc f=>c=(Y,())/\SB kd a₀ f/\cL p (arrOf st) (arrOf f)/\pendingOf f=pendingOf st/\sh C (arrOf f) p (p+n)) ?_ ?_ ?_) ?_)
 .rintro k c f ab ah ⟨rfl,z,L,H,y⟩;have ek:min k n=k:=by lia
  rw[ek]at y
  refine wpS_bind (wpS_mono (wpS_forRange (I:=λx c u=>u=f/\∃l r,c=(Y,l,r)/\l<=r/\r<=k/\r-l<=k-x /\
    (∀i,p<=i->i<p+l->O.kle (kk C (arrOf f) i) (kk C (arrOf f) (p+k)))/\∀i,p+r<=i->i<p+k->O.klt (kk C (arrOf f) (p+k)) (kk C (arrOf f) i))
   (Q:=λc u=>u=f/\∃l r,c=(Y,l,r)/\l<=k /\
    (∀i,p<=i->i<p+l->O.kle (kk C (arrOf f) i) (kk C (arrOf f) (p+k)))/\∀i,p+l<=i->i<p+k->O.klt (kk C (arrOf f) (p+k)) (kk C (arrOf f) i)) ?_ ?_ ?_) ?_)
  .rintro x c u _ hx ⟨rfl,l,r,rfl,R,G,U,B,F⟩;by_cases M:l>=r
   .rw[b_ M];have e:l=r:=by lia
    subst e;exact wpS_pure ⟨rfl,l,l,rfl,G,B,F⟩
   .rw[e_ M];have⟨Z,W⟩:=Tz M;have m3:=rc W G;dsimp only;generalize (l+r)/2=m at *;refine wpS_bind (kQ z h0 ⋯ ⋯ ?_)
    cases hz:O.blt (kk C (arrOf u) (p+k)) (kk C (arrOf u) (p+m)) with
    |true =>
     simp only[if_true];exact wpS_pure ⟨rfl,l,m,rfl,Z,wh m3,Sv Z W U,B,λi a b=>KeyOrd.klt_of_klt_of_kle hz (y _ _ (J8 ..) a b)⟩
    |false =>
     simp only[pk,if_false];exact wpS_pure ⟨rfl,m+1,r,rfl,W,G,Sw Z U,λi a b=>KeyOrd.kle_trans (y i (p+m) a (F1 b) (N9 m3 p)) hz,F⟩
  .rintro c u ⟨rfl,l,r,rfl,R,G,U,B,F⟩;have e:=Sx R U;subst e;exact⟨rfl,l,l,rfl,G,B,F⟩
  .exact⟨rfl,0,k,rfl,⋯,⋯,⋯,λi a b=>by lia,λi a b=>by lia⟩
  .rintro c u ⟨rfl,l,r,rfl,X,B,F⟩;dsimp only;rw[moveDown'_eq];have P:p+k<(arrOf u).size:=by rw[z.size];lia
   have ed:p+k-(p+l)=k-l:=Nat.add_sub_add_left _ _ _;have kl:k-l<=p+k:=m_ (CM _ _) (Nat.le_add_left _ _);have e2:p+k-(k-l)=p+l:=by rw[Nat.add_sub_assoc (CM _ _),KL X]
   rw[ed];refine wpS_bind (wpS_modify (wpS_pure ⟨rfl,z.arr (bubble_perm _ _ _),L.trans (ut P kl (e2▸J8 _ _)),H,?_⟩));have e1:min (k+1) n=k+1:=by lia
   rw[e1];intro i j hi S hj;show O.kle (kk C (bubble (arrOf u) (p+k) (k-l)) i) (kk C (bubble (arrOf u) (p+k) (k-l)) j);rw[pT P kl,pT P kl,e2]
   repeat' split
   all_goals first
    |(exfalso;lia)
    |exact KeyOrd.kle_refl _
    |exact B _ ⋯ ⋯
    |exact KeyOrd.kle_of_klt (F _ ⋯ ⋯)
    |exact y _ _ ⋯ ⋯ ⋯
 .rintro c f ⟨hc,z,L,H,y⟩;refine⟨hc,z,L,H,?_⟩;have e:min (max (max ok 1) n) n=n:=KN (Nat.le_max_right ..)
  rwa [e]at y
 .refine⟨rfl,hB,cL.rfl',rfl,λi j hi S hj=>?_⟩;by_cases h1:ok=0
  .have e:i=j:=by lia
   subst e;exact KeyOrd.kle_refl _
  .exact hs i j hi S ⋯
 .rintro c f ⟨rfl,z,L,H,y⟩;exact wpS_pure (h f z L H y)
def gallop':Bool->Keyed->Array Keyed->Nat->Nat->Nat->StateT SortSt Sem (UL):=sortPriv% PySem.Builtin.gallop
def oQ(left:Bool)(key:Keyed)(arr:Array Keyed)(base i:Nat):StateT SortSt Sem (Option Bool):=do
 let x <-elem' arr (base+i)
 if left then lt' x key else return (<-lt' key x).map (!·)
def v8(left:Bool)(key:Keyed)(arr:Array Keyed)(base n a:Nat):gallop' left key arr base n a=(do
  let mut la:=0
  let mut of:=1
  let mut lo:=0
  let mut hi:=0
  let J rt <-oQ left key arr base a|return Y
  if rt then
   let f:=n-a
   for _ in [0:n] do
    if of>=f then break
    let J q <-oQ left key arr base (a+of)|return Y
    if !q then break
    la:=of
    of:=2*of+1
   lo:=a+la+1
   hi:=a+min of f
  else
   let f:=a+1
   for _ in [0:n] do
    if of>=f then break
    let J q <-oQ left key arr base (a-of)|return Y
    if q then break
    la:=of
    of:=2*of+1
   lo:=a+1-min of f
   hi:=a-la
  for _ in [0:n] do
   if lo>=hi then break
   let m:=lo+(hi-lo)/2
   let J q <-oQ left key arr base m|return Y
   if q then lo:=m+1 else hi:=m
  return J hi):=rfl
def h_(C:v3 prog w A E s kd O)(left:Bool)(key:Keyed)(arr:Array Keyed)(i:Nat):Bool:=if left then O.blt (kk C arr i) (C.key key)else !O.blt (C.key key) (kk C arr i)
def lJ(j:kindOf st=kd)(l:cI C arr)(a:C.good key)(r:base+i<arr.size)(h:Q (J (h_ C left key arr (base+i))) st):wpS (model prog w) A E s (oQ left key arr base i) Q st:=by
 refine wpS_bind (aU r λx f=>?_);unfold h_ at h;rw[aT f]at h
 cases left with
 |true =>
  exact C.ask x key st Q (bx l f) a j h
 |false =>
  exact wpS_bind (C.ask key x st _ a (bx l f) j (wpS_pure h))
def Ml(left:Bool)(key:Keyed)(arr:Array Keyed)(base n lo a:Nat):StateT SortSt Sem DS :=
 forIn [:n] ((Y,lo,a):DS) λ_ c =>
  if c.2.1>=c.2.2 then pure (ForInStep.done (Y,c.2.1,c.2.2))
  else do
   let q <-oQ left key arr base (c.2.1+(c.2.2-c.2.1)/2)
   match q with
   |some q=>if q=I then pure (ForInStep.yield (Y,c.2.1+(c.2.2-c.2.1)/2+1,c.2.2))else pure (ForInStep.yield (Y,c.2.1,c.2.1+(c.2.2-c.2.1)/2))
   |_=>pure (ForInStep.done (J Y,c.2.1,c.2.2))
section
variable{left:Bool}{key:Keyed}{arr:Array Keyed}{base n:Nat}
def gR(u:base+n<=arr.size)(f:sh C arr base (base+n)):∀i j,i<=j->j<n->h_ C left key arr (base+j)=I->h_ C left key arr (base+i)=I:=by
 intro i j l r;have a:=f (base+i) (base+j) ⋯ ⋯ ⋯;unfold h_
 cases left with
 |true=>exact λq=>KeyOrd.klt_of_kle_of_klt a q
 |false =>
  simp only[pk,if_false,F0];exact λq=>KeyOrd.kle_trans a q
def jM(y:base+n<=arr.size)(u:sh C arr base (base+n)):∀i j,i<=j->j<n->h_ C left key arr (base+i)=T->h_ C left key arr (base+j)=T:=by
 intro i j f r l
 cases a:h_ C left key arr (base+j) with
 |false=>rfl
 |true=>rw[gR y u i j f r a]at l;cases l
def t9{lo hi:Nat}{Q:DS->SortSt->Prop}(hk:kindOf st=kd)(hg:cI C arr)(z:C.good key)(M:base+n<=arr.size)(U:sh C arr base (base+n))(L:lo<=hi)(R:hi<=n)(X:∀i,i<lo->h_ C left key arr (base+i)=I)(Z:∀i,hi<=i->i<n->h_ C left key arr (base+i)=T)(h:∀k,k<=n->(∀i,i<k->h_ C left key arr (base+i)=I)->(∀i,k<=i->i<n->h_ C left key arr (base+i)=T)->Q (Y,k,k) st):
  wpS (model prog w) A E s (Ml left key arr base n lo hi) Q st:=by
 refine wpS_forRange (I:=λx c u=>u=st/\∃l r,c=(Y,l,r)/\l<=r/\r<=n/\r-l<=n-x/\(∀i,i<l->h_ C left key arr (base+i)=I)/\∀i,r<=i->i<n->h_ C left key arr (base+i)=T)
  ?_ ?_ ⟨rfl,lo,hi,rfl,L,R,⋯,X,Z⟩
 .rintro x c u _ hx ⟨rfl,l,r,rfl,y,f,F,B,G⟩;by_cases j:l>=r
  .rw[b_ j];have e:l=r:=by lia
   subst e;exact wpS_pure (h l f B G)
  .rw[e_ j];have⟨P,H⟩:=Hx j;have S:=rc H f;dsimp only;generalize l+(r-l)/2=m at *;refine wpS_bind (lJ hk hg z (rc (N9 S _) M) ?_)
   cases W:h_ C left key arr (base+m) with
   |true =>
    simp only[if_true];exact wpS_pure ⟨rfl,_,_,rfl,H,f,Sw P F,λi hi=>gR M U i m (F1 hi) S W,G⟩
   |false =>
    simp only[pk,if_false];exact wpS_pure ⟨rfl,_,_,rfl,P,wh S,Sv P H F,B,λi a b=>jM M U m i a b W⟩
 .rintro c u ⟨rfl,l,r,rfl,y,f,F,B,G⟩;have e:=Sx y F;subst e;exact h l f B G
def OT{x of:Nat}(h:x+1<=of):of<2*of+1/\x+1+1<=2*of+1:=by lia
def Sy{f of h n:Nat}(a:f<of)(b:h+f<n):h+f+1<=h+min of (n-h)/\h+min of (n-h)<=n :=
 ⟨Nat.add_le_add_left (Nat.le_min.2 ⟨a,Sf b⟩) h,m_ (Nat.add_le_add_left (Nat.min_le_right ..) h) (PZ (Ff (wh (Oa (J8 ..) b))))⟩
def Ki{f of h:Nat}(a:f<of)(b:f<=h):h+1-min of (h+1)<=h-f :=
 Nat.add_sub_add_right h 1 f▸N8 (Nat.le_min.2 ⟨a,F2 b⟩) (h+1)
def dY{f:Nat}{Q:UL->SortSt->Prop}(S:kindOf st=kd)(U:cI C arr)(u:C.good key)(G:base+n<=arr.size)(P:f<n)(M:sh C arr base (base+n))(h:∀k,k<=n->(∀i,i<k->h_ C left key arr (base+i)=I)->(∀i,k<=i->i<n->h_ C left key arr (base+i)=T)->Q (J k) st):
  wpS (model prog w) A E s (gallop' left key arr base n f) Q st:=by
 rw[v8];refine wpS_bind (lJ S U u ⋯ ?_)
 cases hz:h_ C left key arr (base+f) with
 |true =>
  refine wpS_bind (wpS_mono (wpS_forRange (I:=λx c l=>l=st/\∃j of,c=(Y,j,of)/\j<of/\x+1<=of/\f+j<n/\h_ C left key arr (base+(f+j))=I)
   (Q:=λc l=>l=st/\∃j of,c=(Y,j,of)/\j<of/\f+j<n/\h_ C left key arr (base+(f+j))=I/\(n-f<=of\/of<n-f/\h_ C left key arr (base+(f+of))=T)) ?_ ?_
    ⟨rfl,0,1,rfl,⋯,⋯,P,hz⟩) ?_)
  .rintro x c l _ hx ⟨rfl,j,of,rfl,z,H,y,B⟩;dsimp only;by_cases r:of>=n-f
   .rw[b_ r];exact wpS_pure ⟨rfl,j,of,rfl,z,y,B,.inl r⟩
   .rw[e_ r];have W:=Nat.add_lt_of_lt_sub' (PJ r);have⟨Z,X⟩:=OT H;refine wpS_bind (lJ S U u (rc (N9 W _) G) ?_)
    cases R:h_ C left key arr (base+(f+of)) with
    |true =>
     simp only[CK,pk,if_false];exact wpS_pure ⟨rfl,_,_,rfl,Z,X,W,R⟩
    |false =>
     simp only[Of,if_true];exact wpS_pure ⟨rfl,j,of,rfl,z,y,B,.inr ⟨PJ r,R⟩⟩
  .rintro c l ⟨rfl,j,of,rfl,z,H,y,B⟩;exact⟨rfl,j,of,rfl,z,y,B,.inl (m_ (CM ..) (J2 H))⟩
  .rintro c l ⟨rfl,j,of,rfl,z,y,B,F⟩;dsimp only;refine wpS_bind (t9 (lo:=f+j+1) (hi:=f+min of (n-f)) S U u G M (Sy z y).1 (Sy z y).2 (λi L=>gR G M i (f+j) (F1 L) y B) (λi a b=>?_) λk a b c=>wpS_pure (h k a b c));rcases F with F|⟨F,h6⟩
   .rw[KN F]at a;lia
   .rw[Fi (wh F)]at a;exact jM G M (f+of) i a b h6
 |false =>
  simp only[pk,if_false]
  refine wpS_bind (wpS_mono (wpS_forRange (I:=λx c l=>l=st/\∃j of,c=(Y,j,of)/\j<of/\x+1<=of/\j<=f/\h_ C left key arr (base+(f-j))=T)
   (Q:=λc l=>l=st/\∃j of,c=(Y,j,of)/\j<of/\j<=f/\h_ C left key arr (base+(f-j))=T/\(f+1<=of\/of<f+1/\h_ C left key arr (base+(f-of))=I)) ?_ ?_
    ⟨rfl,0,1,rfl,⋯,⋯,⋯,hz⟩) ?_)
  .rintro x c l _ hx ⟨rfl,j,of,rfl,z,H,y,B⟩;dsimp only;by_cases r:of>=f+1
   .rw[b_ r];exact wpS_pure ⟨rfl,j,of,rfl,z,y,B,.inl r⟩
   .rw[e_ r];have⟨Z,X⟩:=OT H;have W:=PJ r;refine wpS_bind (lJ S U u (rc (N9 (Oa (CM ..) P) _) G) ?_)
    cases R:h_ C left key arr (base+(f-of)) with
    |true =>
     simp only[if_true];exact wpS_pure ⟨rfl,j,of,rfl,z,y,B,.inr ⟨W,R⟩⟩
    |false =>
     simp only[pk,if_false];exact wpS_pure ⟨rfl,_,_,rfl,Z,X,F1 W,R⟩
  .rintro c l ⟨rfl,j,of,rfl,z,H,y,B⟩;exact⟨rfl,j,of,rfl,z,y,B,.inl (m_ (F2 (wh P)) H)⟩
  .rintro c l ⟨rfl,j,of,rfl,z,y,B,F⟩;dsimp only;refine wpS_bind (t9 (lo:=f+1-min of (f+1)) (hi:=f-j) S U u G M (Ki z y) (m_ (CM ..) (wh P)) (λi L=>?_) (λi a b=>jM G M (f-j) i a b B) λk a b c=>wpS_pure (h k a b c));rcases F with F|⟨F,h6⟩
   .rw[KN F,Nat.sub_self]at L
    nomatch L
   .rw[Fi (wh F),Nat.succ_sub (F1 F)]at L;exact gR G M i (f-of) (F1 L) (Oa (CM ..) P) h6
end
end
def mE:Array Keyed->Array Keyed->StateT SortSt Sem (Array Keyed):=sortPriv% PySem.Builtin.mergeLo
def Eb:Nat->StateT SortSt Sem Unit:=sortPriv% PySem.Builtin.setMinGallop
section
variable{prog:Program}{w:World}{A:Around}{E:T7}{s:Shared}{kd:SortKind}{O:KeyOrd}(C:v3 prog w A E s kd O)
def LS(l:List Keyed):Prop:=l.Pairwise λx y=>O.kle (C.key x) (C.key y)
def LB(l m:List Keyed):Prop:=∀x∈l,∀y∈m,O.kle (C.key x) (C.key y)
variable{C}
def cr(a:LS C l)(i:LS C m)(f:LB C l m):LS C (l++m):=by unfold LS;rw[Pw];exact⟨a,i,f⟩
def nB{xs:Array Keyed}{lo hi:Nat}(u:hi<=xs.size)(h:sh C xs lo hi):LS C (xs.extract lo hi).toList:=by
 unfold LS;rw[CQ];intro i j y a r;have f:(xs.extract lo hi).size=hi-lo:=by simp;lia
 have l:j<(xs.extract lo hi).size:=by exact a
 have e1:(xs.extract lo hi).toList[i]=xs[lo+i]'⋯:=by simp
 have e2:(xs.extract lo hi).toList[j]=xs[lo+j]'⋯:=by simp
 rw[e1,e2]
 have:=h (lo+i) (lo+j) ⋯ ⋯ ⋯
 rw[aT (getElem?_pos xs (lo+i) ⋯),aT (getElem?_pos xs (lo+j) ⋯)]at this;exact this
def kY(h:LS C xs.toList):sh C xs 0 xs.size:=by
 intro i j _ f a;rw[aT (getElem?_pos xs i ⋯),aT (getElem?_pos xs j a)];by_cases e:i=j
 .subst e;exact KeyOrd.kle_refl _
 .unfold LS at h;rw[CQ]at h
  have:=h i j (by simp;lia) (by simpa using a) ⋯
  simpa using this
structure MI(C:v3 prog w A E s kd O)(a b ou:Array Keyed)(i j:Nat):Prop where
 perm:(ou.toList++(a.toList.drop i++b.toList.drop j)).Perm (a.toList++b.toList)
 srt:LS C ou.toList
 low:LB C ou.toList (a.toList.drop i++b.toList.drop j)
variable{a b ou:Array Keyed}{i j:Nat}
def MI.size(m:MI C a b ou i j)(f:i<=a.size)(l:j<=b.size):ou.size+(a.size-i)+(b.size-j)=a.size+b.size:=by
 have:=m.perm.length_eq
 simp at this;lia
def jg{xs:Array Keyed}{i:Nat}{p:Keyed}(h:xs[i]?=J p):xs.toList.drop i=p::xs.toList.drop (i+1):=by
 have f:i<xs.toList.length:=by
  have:=(Kw.mp h).1
  simpa using this
 have e:xs.toList[i]=p:=by
  have:=(Kw.mp h).2
  simpa using this
 rw[<-e,Sa f]
def js{xs:Array Keyed}(h:LS C xs.toList)(i:Nat):LS C (xs.toList.drop i):=h.sublist (Ob i _)
def jl{xs:Array Keyed}(h:LS C xs.toList){i:Nat}{p:Keyed}(r:xs[i]?=J p):∀y∈xs.toList.drop i,O.kle (C.key p) (C.key y):=by
 have f:=js h i;rw[jg r]at f ⊢;unfold LS at f;rw[B5]at f;intro y l;rcases l_.mp l with rfl|l
 .exact KeyOrd.kle_refl _
 .exact f.1 y l
def MI.pushA(m:MI C a b ou i j)(F:LS C a.toList)(G:LS C b.toList){p:Keyed}(B:a[i]?=J p)(H:∀q,b[j]?=J q->O.kle (C.key p) (C.key q)):MI C a b (ou.push p) (i+1) j:=by
 have hd:=jg B;have z:∀y∈a.toList.drop i++b.toList.drop j,O.kle (C.key p) (C.key y):=by
  intro y f;rcases nt.mp f with f|f
  .exact jl F B y f
  .cases r:b[j]? with
   |none =>
    have:b.toList.drop j=[]:=FV (by have:=Po.mp r;simpa using this)
    rw[this]at f;cases f
   |some q=>exact KeyOrd.kle_trans (H q r) (jl G r y f)
 refine⟨?_,?_,?_⟩
 .have:=m.perm
  rw[hd]at this;rw[CW,B6];exact this
 .rw[CW];refine cr m.srt (by unfold LS;simp) λx l y f=>?_
  have:y=p:=by simpa using f
  subst this;exact m.low x l y (xn _ (by rw[hd];exact pa))
 .intro x l y f;rw[CW]at l;have u:y∈a.toList.drop i++b.toList.drop j:=by
   simp_all
  rcases nt.mp l with l|l
  .exact m.low x l y u
  .have:x=p:=by simpa using l
   subst this;exact z y u
def MI.pushB(m:MI C a b ou i j)(F:LS C a.toList)(G:LS C b.toList){p:Keyed}(B:b[j]?=J p)(H:∀q,a[i]?=J q->O.kle (C.key p) (C.key q)):MI C a b (ou.push p) i (j+1):=by
 have hd:=jg B;have z:∀y∈a.toList.drop i++b.toList.drop j,O.kle (C.key p) (C.key y):=by
  intro y f;rcases nt.mp f with f|f
  .cases r:a[i]? with
   |none =>
    have:a.toList.drop i=[]:=FV (by have:=Po.mp r;simpa using this)
    rw[this]at f;cases f
   |some q=>exact KeyOrd.kle_trans (H q r) (jl F r y f)
  .exact jl G B y f
 refine⟨?_,?_,?_⟩
 .have:=m.perm
  rw[hd]at this;rw[CW,B6];refine List.Perm.trans (List.Perm.append_left _ ?_) this;show(p::(a.toList.drop i++b.toList.drop (j+1))).Perm _;exact J7.symm
 .rw[CW];refine cr m.srt (by unfold LS;simp) λx l y f=>?_
  have:y=p:=by simpa using f
  subst this;exact m.low x l y (q0 _ (by rw[hd];exact pa))
 .intro x l y f;rw[CW]at l;have u:y∈a.toList.drop i++b.toList.drop j:=by
   rcases nt.mp f with f|f
   .exact xn _ f
   .exact q0 _ (by rw[hd];exact l7 _ f)
  rcases nt.mp l with l|l
  .exact m.low x l y u
  .have:x=p:=by simpa using l
   subst this;exact z y u
def kG{xs:Array Keyed}{i k:Nat}{p:Keyed}(h:xs[i+k]?=J p):xs.extract i (i+(k+1))=(xs.extract i (i+k)).push p:=by
 apply Fh.mp;simp only[N3,CW,Pr];have e1:i+(k+1)-i=k+1:=by lia
 have e2:i+k-i=k:=by lia
 rw[e1,e2,B9,N_,v7,h];rfl
def MI.moveA(m:MI C a b ou i j)(z:LS C a.toList)(F:LS C b.toList):∀k,i+k<=a.size->(∀r p q,r<k->a[i+r]?=J p->b[j]?=J q->O.kle (C.key p) (C.key q))->MI C a b (ou++a.extract i (i+k)) (i+k) j:=by
 intro k
 induction k with
 |zero =>
  intro _ _;have e:ou++a.extract i (i+0)=ou:=by apply Fh.mp;simp
  rw[e];exact m
 |succ k B =>
  intro G u;have f:=getElem?_pos a (i+k) ⋯;have y:=(B ⋯ λr p q H=>u r p q ⋯).pushA z F f (λq l=>u k _ q ⋯ f l);have e:ou++(a.extract i (i+k)).push (a[i+k]'⋯)=(ou++a.extract i (i+k)).push (a[i+k]'⋯):=by simp
  rw[kG f,e];exact y
def MI.moveB(m:MI C a b ou i j)(z:LS C a.toList)(F:LS C b.toList):∀k,j+k<=b.size->(∀r p q,r<k->b[j+r]?=J p->a[i]?=J q->O.kle (C.key p) (C.key q))->MI C a b (ou++b.extract j (j+k)) i (j+k):=by
 intro k
 induction k with
 |zero =>
  intro _ _;have e:ou++b.extract j (j+0)=ou:=by apply Fh.mp;simp
  rw[e];exact m
 |succ k B =>
  intro G u;have f:=getElem?_pos b (j+k) ⋯;have y:=(B ⋯ λr p q H=>u r p q ⋯).pushB z F f (λq l=>u k _ q ⋯ f l);have e:ou++(b.extract j (j+k)).push (b[j+k]'⋯)=(ou++b.extract j (j+k)).push (b[j+k]'⋯):=by simp
  rw[kG f,e];exact y
def MR(C:v3 prog w A E s kd O)(a b f:Array Keyed):Prop:=f.toList.Perm (a.toList++b.toList)/\LS C f.toList
def iC{xs:Array Keyed}{i:Nat}:(xs.extract i xs.size).toList=xs.toList.drop i:=by rw[N3];exact CD (by simp)
def MI.all(m:MI C a b ou i j)(f:LS C a.toList)(l:LS C b.toList)(h:a.size<=i\/b.size<=j):MR C a b (ou++a.extract i a.size++b.extract j b.size):=by
 have e:(ou++a.extract i a.size++b.extract j b.size).toList=ou.toList++(a.toList.drop i++b.toList.drop j):=by rw[FY,FY,iC,iC,B6]
 unfold MR;rw[e];refine⟨m.perm,cr m.srt ?_ m.low⟩;rcases h with h|h
 .have:a.toList.drop i=[]:=FV (by simpa using h)
  rw[this];exact js l j
 .have:b.toList.drop j=[]:=FV (by simpa using h)
  rw[this,F3];exact js f i
def MI.one(m:MI C a b ou i j)(z:LS C a.toList)(B:LS C b.toList)(h:i+1=a.size)(F:∀x q,x∈b.toList->a[i]?=J q->O.kle (C.key x) (C.key q)):MR C a b (ou++b.extract j b.size++a.extract i a.size):=by
 have e:(ou++b.extract j b.size++a.extract i a.size).toList=ou.toList++(b.toList.drop j++a.toList.drop i):=by rw[FY,FY,iC,iC,B6]
 unfold MR;rw[e];have u:=getElem?_pos a i ⋯;have hd:=jg u;have f:a.toList.drop (i+1)=[]:=FV (by simp;lia);rw[f]at hd;refine⟨(List.Perm.append_left _ Sg).trans m.perm,cr m.srt (cr (js B j) (js z i) ?_) ?_⟩
 .intro x r y l;rw[hd]at l
  have:y=a[i]'⋯:=by simpa using l
  subst this;exact F x _ (N4 r) u
 .intro x r y l;exact m.low x r y (nt.mpr (nt.mp l).symm)
end
structure Eqv(st st':SortSt):Prop where
 kind:kindOf st'=kindOf st
 arr:arrOf st'=arrOf st
 pend:pendingOf st'=pendingOf st
 failed:failedOf st'=failedOf st
def Eqv.rfl'{st:SortSt}:Eqv st st:=⟨rfl,rfl,rfl,rfl⟩
def Eqv.trans{st a f:SortSt}(x:Eqv st a)(y:Eqv a f):Eqv st f:=⟨y.kind.trans x.kind,y.arr.trans x.arr,y.pend.trans x.pend,y.failed.trans x.failed⟩
abbrev GS:=Option (Array Keyed)×Array Keyed×Nat×Nat×Nat×Nat×Nat
def Hy(a b f:Array Keyed)(i j g na nb:Nat):StateT SortSt Sem (ForInStep GS):=do
 let x <-elem' a i
 if(i+1+1==a.size)=I then pure (ForInStep.done (J (f.push x++b.extract j b.size++a.extract (i+1) a.size),f.push x,i+1,j,g,na,nb))
 else if(decide (na<7)&&decide (nb<7))=I then pure (ForInStep.done (Y,f.push x,i+1,j,g,na,nb))
 else pure (ForInStep.yield (Y,f.push x,i+1,j,g,na,nb))
def Hz(a b f:Array Keyed)(i j g na nb:Nat):StateT SortSt Sem (ForInStep GS):=do
 let x <-elem' b j
 if(j+1==b.size)=I then pure (ForInStep.done (J (f.push x++a.extract i a.size++b.extract (j+1) b.size),f.push x,i,j+1,g,na,nb))
 else do
  let y <-elem' a i
  let q <-gallop' I y b (j+1) (b.size-(j+1)) 0
  match q with
  |some k =>
   if k>0 then
    if(j+1+k==b.size)=I then
     pure (ForInStep.done (J (f.push x++b.extract (j+1) (j+1+k)++a.extract i a.size++b.extract (j+1+k) b.size),f.push x++b.extract (j+1) (j+1+k),i,j+1+k,g,na,k))
    else Hy a b (f.push x++b.extract (j+1) (j+1+k)) i (j+1+k) g na k
   else Hy a b (f.push x) i (j+1) g na k
  |_=>pure (ForInStep.done (J (f.push x++a.extract i a.size++b.extract (j+1) b.size),f.push x,i,j+1,g,na,nb))
def Ec(a b f:Array Keyed)(i j g na nb:Nat):StateT SortSt Sem (ForInStep GS):=do
 Eb g
 let x <-elem' b j
 let q <-gallop' T x a i (a.size-i) 0
 match q with
 |some k =>
  if k>0 then
   if(i+k+1==a.size)=I then
    pure (ForInStep.done (J (f++a.extract i (i+k)++b.extract j b.size++a.extract (i+k) a.size),f++a.extract i (i+k),i+k,j,g,k,nb))
   else if(i+k==a.size)=I then
    pure (ForInStep.done (J (f++a.extract i (i+k)++a.extract (i+k) a.size++b.extract j b.size),f++a.extract i (i+k),i+k,j,g,k,nb))
   else Hz a b (f++a.extract i (i+k)) (i+k) j g k nb
  else Hz a b f i j g k nb
 |_=>pure (ForInStep.done (J (f++a.extract i a.size++b.extract j b.size),f,i,j,g,na,nb))
abbrev Kj:=Option (Array Keyed)×Array Keyed×Nat×Nat×Nat×Nat
abbrev LCt:=Option (Array Keyed)×Array Keyed×Nat×Nat×Nat
def QN(a b:Array Keyed)(g:Nat)(c:Kj):StateT SortSt Sem (ForInStep Kj):=do
 let x <-elem' b c.2.2.2.1
 let y <-elem' a c.2.2.1
 let q <-lt' x y
 match q with
 |some q =>
  if q=I then do
   let z <-elem' b c.2.2.2.1
   if(c.2.2.2.1+1==b.size)=I then pure (ForInStep.done (J (c.2.1.push z++a.extract c.2.2.1 a.size++b.extract (c.2.2.2.1+1) b.size),c.2.1.push z,c.2.2.1,c.2.2.2.1+1,0,c.2.2.2.2.2+1))
   else if c.2.2.2.2.2+1>=g then pure (ForInStep.done (Y,c.2.1.push z,c.2.2.1,c.2.2.2.1+1,0,c.2.2.2.2.2+1))
   else pure (ForInStep.yield (Y,c.2.1.push z,c.2.2.1,c.2.2.2.1+1,0,c.2.2.2.2.2+1))
  else do
   let z <-elem' a c.2.2.1
   if(c.2.2.1+1+1==a.size)=I then pure (ForInStep.done (J (c.2.1.push z++b.extract c.2.2.2.1 b.size++a.extract (c.2.2.1+1) a.size),c.2.1.push z,c.2.2.1+1,c.2.2.2.1,c.2.2.2.2.1+1,0))
   else if c.2.2.2.2.1+1>=g then pure (ForInStep.done (Y,c.2.1.push z,c.2.2.1+1,c.2.2.2.1,c.2.2.2.2.1+1,0))
   else pure (ForInStep.yield (Y,c.2.1.push z,c.2.2.1+1,c.2.2.2.1,c.2.2.2.2.1+1,0))
 |_=>pure (ForInStep.done (J (c.2.1++a.extract c.2.2.1 a.size++b.extract c.2.2.2.1 b.size),c.2.1,c.2.2.1,c.2.2.2.1,c.2.2.2.2.1,c.2.2.2.2.2))
def QO(a b:Array Keyed)(c:GS):StateT SortSt Sem (ForInStep GS) :=
 if c.2.2.2.2.1>1 then Ec a b c.2.1 c.2.2.1 c.2.2.2.1 (c.2.2.2.2.1-1) c.2.2.2.2.2.1 c.2.2.2.2.2.2
 else Ec a b c.2.1 c.2.2.1 c.2.2.2.1 c.2.2.2.2.1 c.2.2.2.2.2.1 c.2.2.2.2.2.2
def Sz(c:GS):StateT SortSt Sem (ForInStep LCt) :=
 match c.1 with
 |some r=>pure (ForInStep.done (J r,c.2.1,c.2.2.1,c.2.2.2.1,c.2.2.2.2.1))
 |none=>do
  Eb (c.2.2.2.2.1+1)
  pure (ForInStep.yield (Y,c.2.1,c.2.2.1,c.2.2.2.1,c.2.2.2.2.1+1))
def SA(a b:Array Keyed)(g:Nat)(c:Kj):StateT SortSt Sem (ForInStep LCt) :=
 match c.1 with
 |some r=>pure (ForInStep.done (J r,c.2.1,c.2.2.1,c.2.2.2.1,g))
 |none=>do
  liftM (rule "list.sort.gallop")
  let e <-forIn [:a.size+b.size] ((Y,c.2.1,c.2.2.1,c.2.2.2.1,g+1,c.2.2.2.2.1,c.2.2.2.2.2):GS) λ_ e=>QO a b e
  Sz e
def SD(a b:Array Keyed)(c:LCt):StateT SortSt Sem (ForInStep LCt):=do
 let d <-forIn [:a.size+b.size] ((Y,c.2.1,c.2.2.1,c.2.2.2.1,0,0):Kj) λ_ d=>QN a b c.2.2.2.2 d
 SA a b c.2.2.2.2 d
def SF(a b:Array Keyed)(x:Keyed):StateT SortSt Sem (Array Keyed):=do
 let g <-get
 let r <-forIn [:a.size+b.size] ((Y,#[x],0,1,gallopOf g):LCt) λ_ c=>SD a b c
 match r.1 with
 |some r=>pure r
 |none=>liftM (unsupported "internal:list.sort.merge-bound":Sem (Array Keyed))
def QP(a b:Array Keyed):mE a b=(do
 liftM (rule "list.sort.merge-lo")
 let x <-elem' b 0
 if(1==b.size)=I then pure (#[x]++a.extract 0 a.size++b.extract 1 b.size)
 else if(0+1==a.size)=I then pure (#[x]++b.extract 1 b.size++a.extract 0 a.size)
 else SF a b x):=by
 refine congrArg (Bind.bind _) (funext λ_=>congrArg (Bind.bind _) (funext λx=>congrArg (λz=>ite _ _ (ite _ _ z)) ?_));have e:∀{α β:Type}{x y:StateT SortSt Sem α}{f h:α->StateT SortSt Sem β},x=y->(∀a,f a=h a)->(x >>= f)=(y >>= h):=λe f=>by rw[e,funext f]
 refine congrArg (Bind.bind _) (funext λg=>e (congrArg (forIn _ _) (funext λ_=>funext λc=>?_)) λ⟨r,_⟩=>by cases r<;>rfl);refine e rfl λd=>?_;obtain⟨i,j⟩:=d
 cases i with
 |some r=>rfl
 |none=>exact congrArg (Bind.bind _) (funext λ_=>e rfl λ⟨r,_⟩=>by cases r<;>rfl)
section
variable{prog:Program}{w:World}{A:Around}{E:T7}{s:Shared}{kd:SortKind}{O:KeyOrd}{C:v3 prog w A E s kd O}{st:SortSt}{a b:Array Keyed}
structure Ak(C:v3 prog w A E s kd O)(a b:Array Keyed):Prop where
 ga:cI C a
 gb:cI C b
 sa:LS C a.toList
 sb:LS C b.toList
 na:1<=a.size
 nb:1<=b.size
 fst:∀p q,b[0]?=J p->a[0]?=J q->O.kle (C.key p) (C.key q)
 lst:∀x q,x∈b.toList->a[a.size-1]?=J q->O.kle (C.key x) (C.key q)
def LI(C:v3 prog w A E s kd O)(a b:Array Keyed)(N:Nat)(c:GS):Prop:=c.1=Y/\MI C a b c.2.1 c.2.2.1 c.2.2.2.1/\c.2.2.1+1<a.size/\c.2.2.2.1<b.size/\N<=c.2.1.size
def kW(C:v3 prog w A E s kd O)(a b:Array Keyed)(N:Nat)(st:SortSt)(r:ForInStep GS)(f:SortSt):Prop:=Eqv st f/\match r with
 |.done c=>(∃x,c.1=J x/\MR C a b x)\/LI C a b N c
 |.yield c=>LI C a b N c
def uW(f:Ak C a b)(m:MI C a b ou i j)(M:i+1<a.size)(L:j<b.size)(hN:N<=ou.size)(r:∀p q,a[i]?=J p->b[j]?=J q->O.kle (C.key p) (C.key q)):
  wpS (model prog w) A E s (Hy a b ou i j g na nb) (kW C a b N st) st:=by
 refine wpS_bind (aU ⋯ λx z=>?_);have B:=m.pushA f.sa f.sb z (λq u=>r x q z u);have G:(ou.push x).size=ou.size+1:=C0 ..;by_cases l:i+1+1=a.size
 .rw[b_ (by simpa using l)];exact wpS_pure ⟨Eqv.rfl',.inl ⟨_,rfl,B.one f.sa f.sb l λy q H u=>f.lst y q H (by rw[<-l];exact u)⟩⟩
 .rw[e_ (by simpa using l)];have F:LI C a b N (Y,ou.push x,i+1,j,g,na,nb):=⟨rfl,B,⋯,L,⋯⟩;split
  .exact wpS_pure ⟨Eqv.rfl',.inr F⟩
  .exact wpS_pure ⟨Eqv.rfl',F⟩
def uT(f:Ak C a b)(hk:kindOf st=kd)(m:MI C a b ou i j)(R:i+1<a.size)(Z:j<b.size)(hN:N<=ou.size)(G:∀p q,b[j]?=J p->a[i]?=J q->O.kle (C.key p) (C.key q)):
  wpS (model prog w) A E s (Hz a b ou i j g na nb) (kW C a b N st) st:=by
 refine wpS_bind (aU Z λx X=>?_);have L:=m.pushB f.sa f.sb X (λq u=>G x q X u);have ah:(ou.push x).size=ou.size+1:=C0 ..;by_cases U:j+1=b.size
 .rw[b_ (by simpa using U)];exact wpS_pure ⟨Eqv.rfl',.inl ⟨_,rfl,L.all f.sa f.sb (.inr ⋯)⟩⟩
 .rw[e_ (by simpa using U)];refine wpS_bind (aU ⋯ λy H=>?_);refine wpS_bind (dY (C:=C) hk f.gb (bx f.ga H) ⋯ ⋯ ?_ λk aj M P=>?_)
  .intro p q z Q u;exact kY f.sb p q (t_ _) Q ⋯
  .have F:∀r p q,r<k->b[j+1+r]?=J p->a[i]?=J q->O.kle (C.key p) (C.key q):=λr p q hr z u=>by
    have:=M r hr
    unfold h_ at this;rw[aT z]at this;rw[H]at u;cases u;exact KeyOrd.kle_of_klt this
   have l:∀p q,a[i]?=J p->b[j+1+k]?=J q->O.kle (C.key p) (C.key q):=λp q z u=>by
    have ab:=(Kw.mp u).1
    have:=P k (ia _) ⋯
    unfold h_ at this;rw[aT u]at this;rw[H]at z;cases z;exact this
   dsimp only;by_cases B:k>0
   .rw[b_ B];have S:=L.moveB f.sa f.sb k ⋯ F;by_cases W:j+1+k=b.size
    .rw[b_ (by simpa using W)];exact wpS_pure ⟨Eqv.rfl',.inl ⟨_,rfl,S.all f.sa f.sb (.inr ⋯)⟩⟩
    .rw[e_ (by simpa using W)];exact uW f S R ⋯ (by rw[KH];lia) l
   .rw[e_ B];have e:k=0:=by lia
    subst e;exact uW f L R ⋯ ⋯ l
def uY(f:Ak C a b)(hk:kindOf st=kd)(m:MI C a b ou i j)(X:i+1<a.size)(L:j<b.size)(hN:N<=ou.size):
  wpS (model prog w) A E s (Ec a b ou i j g na nb) (kW C a b N st) st:=by
 unfold Ec;refine wpS_bind (wpS_modify ?_);have ev:Eqv st (SortSt.mk' (kindOf st) (arrOf st) (pendingOf st) g (failedOf st)):=⟨rfl,rfl,rfl,rfl⟩;refine wpS_mono (Q:=kW C a b N (SortSt.mk' (kindOf st) (arrOf st) (pendingOf st) g (failedOf st))) ?_ λr ah h=>⟨ev.trans h.1,h.2⟩;have z:kindOf (SortSt.mk' (kindOf st) (arrOf st) (pendingOf st) g (failedOf st))=kd:=hk;refine wpS_bind (aU L λx R=>?_);refine wpS_bind (dY (C:=C) z f.ga (bx f.gb R) ⋯ ⋯ ?_ λk aj P S=>?_)
 .intro p q B U u;exact kY f.sa p q (t_ _) U ⋯
 .have G:∀r p q,r<k->a[i+r]?=J p->b[j]?=J q->O.kle (C.key p) (C.key q):=λr p q hr B u=>by
   have:=P r hr
   unfold h_ at this;rw[aT B]at this;rw[R]at u;cases u;simp only[pk,if_false,F0]at this;exact this
  have l:∀p q,b[j]?=J p->a[i+k]?=J q->O.kle (C.key p) (C.key q):=λp q B u=>by
   have ab:=(Kw.mp u).1
   have:=S k (ia _) ⋯
   unfold h_ at this;rw[aT u]at this;rw[R]at B;cases B;simp only[pk,if_false,Px]at this;exact KeyOrd.kle_of_klt this
  dsimp only;by_cases F:k>0
  .rw[b_ F];have M:=m.moveA f.sa f.sb k ⋯ G;by_cases H:i+k+1=a.size
   .rw[b_ (by simpa using H)];exact wpS_pure ⟨Eqv.rfl',.inl ⟨_,rfl,M.one f.sa f.sb H λy q Z u=>f.lst y q Z (by rw[<-H];exact u)⟩⟩
   .rw[e_ (by simpa using H)];by_cases W:i+k=a.size
    .rw[b_ (by simpa using W)];exact wpS_pure ⟨Eqv.rfl',.inl ⟨_,rfl,M.all f.sa f.sb (.inl ⋯)⟩⟩
    .rw[e_ (by simpa using W)];exact uT f z M ⋯ L (by rw[KH];lia) l
  .rw[e_ F];have e:k=0:=by lia
   subst e;exact uT f z m X L hN l
def Mm(C:v3 prog w A E s kd O)(a b:Array Keyed)(N:Nat)(c:Kj):Prop:=c.1=Y/\MI C a b c.2.1 c.2.2.1 c.2.2.2.1/\c.2.2.1+1<a.size/\c.2.2.2.1<b.size/\N<=c.2.1.size
def QQ(C:v3 prog w A E s kd O)(a b:Array Keyed)(N:Nat)(c:LCt):Prop:=c.1=Y/\MI C a b c.2.1 c.2.2.1 c.2.2.2.1/\c.2.2.1+1<a.size/\c.2.2.2.1<b.size/\N<=c.2.1.size
def QR(C:v3 prog w A E s kd O)(a b:Array Keyed)(N:Nat)(st:SortSt)(r:ForInStep Kj)(f:SortSt):Prop:=match r with
 |.done c=>f=st/\((∃x,c.1=J x/\MR C a b x)\/Mm C a b N c)
 |.yield c=>f=st/\Mm C a b N c
def HA(C:v3 prog w A E s kd O)(a b:Array Keyed)(N:Nat)(st:SortSt)(r:ForInStep LCt)(f:SortSt):Prop:=match r with
 |.done c=>Eqv st f/\∃x,c.1=J x/\MR C a b x
 |.yield c=>Eqv st f/\QQ C a b N c
def HD(f:Ak C a b)(H:kindOf st=kd)(L:MI C a b ou' i' j')(F:i'+1<a.size)(r:j'<b.size)(hN:N<=ou'.size):
  wpS (model prog w) A E s (QN a b g (Y,ou',i',j',na,nb)) (QR C a b (N+1) st) st:=by
 unfold QN;dsimp only;refine wpS_bind (aU r λp G=>wpS_bind (aU ⋯ λq B=>?_));refine wpS_bind (C.ask p q st _ (bx f.gb G) (bx f.ga B) H ?_)
 cases M:O.blt (C.key p) (C.key q) with
 |true =>
  dsimp only;refine wpS_bind (aU r λQ l=>?_);rw[G]at l;cases l;have u:=L.pushB f.sa f.sb G (λR j=>by rw[B]at j;cases j;exact KeyOrd.kle_of_klt M);have i:(ou'.push p).size=ou'.size+1:=C0 ..;by_cases z:j'+1=b.size
  .rw[b_ (by simpa using z)];exact wpS_pure ⟨rfl,.inl ⟨_,rfl,u.all f.sa f.sb (.inr ⋯)⟩⟩
  .rw[e_ (by simpa using z)];split
   .exact wpS_pure ⟨rfl,.inr ⟨rfl,u,F,⋯,by rw[i];lia⟩⟩
   .exact wpS_pure ⟨rfl,rfl,u,F,⋯,by rw[i];lia⟩
 |false =>
  dsimp only;refine wpS_bind (aU ⋯ λR j=>?_);rw[B]at j;cases j;have u:=L.pushA f.sa f.sb B (λQ l=>by rw[G]at l;cases l;exact M);have i:(ou'.push q).size=ou'.size+1:=C0 ..;by_cases z:i'+1+1=a.size
  .rw[b_ (by simpa using z)];exact wpS_pure ⟨rfl,.inl ⟨_,rfl,u.one f.sa f.sb z λy q P B=>f.lst y q P (by rw[<-z];exact B)⟩⟩
  .rw[e_ (by simpa using z)];split
   .exact wpS_pure ⟨rfl,.inr ⟨rfl,u,⋯,r,by rw[i];lia⟩⟩
   .exact wpS_pure ⟨rfl,rfl,u,⋯,r,by rw[i];lia⟩
def HE(j:Eqv DO st)(f:(∃x,c.1=J x/\MR C a b x)\/LI C a b N c):wpS (model prog w) A E s (Sz c) (HA C a b N DO) st:=by
 obtain⟨F,u,H,G,B,z,l⟩:=c;rcases f with⟨r,i,y⟩|⟨f,i⟩
 .cases i;exact wpS_pure ⟨j,r,rfl,y⟩
 .cases f;exact wpS_bind (wpS_modify (wpS_pure ⟨j.trans ⟨rfl,rfl,rfl,rfl⟩,rfl,i⟩))
def HG(i:Ak C a b)(u:kindOf st=kd)(h:LI C a b N c):wpS (model prog w) A E s (QO a b c) (kW C a b N st) st:=by
 obtain⟨_,r,j,f,l⟩:=h;unfold QO;split
 .exact uY i u r j f l
 .exact uY i u r j f l
def HH(u:Ak C a b)(L:kindOf st=kd)(B:Eqv DO st)(l:(∃x,c.1=J x/\MR C a b x)\/Mm C a b N c):wpS (model prog w) A E s (SA a b g c) (HA C a b N DO) st:=by
 obtain⟨W,G,U,R,na,nb⟩:=c;rcases l with⟨r,j,F⟩|⟨l,j⟩
 .cases j;exact wpS_pure ⟨B,r,rfl,F⟩
 .cases l;refine wpS_bind (wpS_lift (wpAny_rule ⟨rfl,?_⟩));refine wpS_bind (wpS_mono (wpS_forRange (I:=λy c i=>Eqv st i/\LI C a b N c) (Q:=λc i=>Eqv st i/\((∃x,c.1=J x/\MR C a b x)\/LI C a b N c)) ?_ ?_ ⟨Eqv.rfl',rfl,j⟩) ?_)
  .rintro y c i _ S ⟨f,P⟩;refine wpS_mono (HG u (f.kind.trans L) P) λr M j=>?_
   cases r with
   |done H=>exact⟨f.trans j.1,j.2⟩
   |yield H=>exact⟨f.trans j.1,j.2⟩
  .rintro c i ⟨f,z⟩;exact⟨f,.inr z⟩
  .rintro c i ⟨f,l⟩;exact HE (B.trans f) l
def HJ(i:Ak C a b)(F:kindOf st=kd)(h:QQ C a b N c):wpS (model prog w) A E s (SD a b c) (HA C a b (N+1) st) st:=by
 obtain⟨z,H⟩:=h
 refine wpS_bind (wpS_mono (wpS_forRange (I:=λy c f=>f=st/\Mm C a b (N+y) c)
  (Q:=λc f=>f=st/\((∃x,c.1=J x/\MR C a b x)\/Mm C a b (N+1) c)) ?_ ?_ ⟨rfl,rfl,H⟩) ?_)
 .rintro y c f _ R ⟨rfl,L⟩;obtain⟨z,G,u,l,j⟩:=L;refine wpS_mono (HD i F G u l j) λr P B=>?_
  cases r with
  |done M=>exact⟨B.1,B.2.imp_right λh=>⟨h.1,h.2.1,h.2.2.1,h.2.2.2.1,m_ ⋯ h.2.2.2.2⟩⟩
  |yield M=>exact B
 .rintro c f ⟨rfl,h⟩;exact⟨rfl,.inr ⟨h.1,h.2.1,h.2.2.1,h.2.2.2.1,m_ ⋯ h.2.2.2.2⟩⟩
 .rintro c f ⟨rfl,z⟩;exact HH i F Eqv.rfl' z
def HK(u:Ak C a b)(H:kindOf st=kd)(y:MI C a b #[x0] 0 1)(z:0+1<a.size)(F:1<b.size)(h:∀x f,Eqv st f->MR C a b x->Q x f):wpS (model prog w) A E s (SF a b x0) Q st:=by
 refine wpS_bind (wpS_get ?_)
 refine wpS_bind (wpS_mono (wpS_forRange (I:=λx c f=>Eqv st f/\QQ C a b (x+1) c)
  (Q:=λc f=>Eqv st f/\∃x,c.1=J x/\MR C a b x) ?_ ?_ ⟨Eqv.rfl',rfl,y,z,F,ia _⟩) ?_)
 .rintro x c f _ R ⟨i,j⟩;refine wpS_mono (HJ u (i.kind.trans H) j) λr L l=>?_
  cases r with
  |done G=>exact⟨i.trans l.1,l.2⟩
  |yield G=>exact⟨i.trans l.1,l.2⟩
 .rintro c f ⟨i,j⟩;exfalso;have y:=j.2.2.1;have M:=j.2.2.2.1
  have:=j.2.1.size ⋯ ⋯
  have:=j.2.2.2.2
  lia
 .rintro c f ⟨i,r,l,B⟩;obtain⟨S,P⟩:=c;cases l;exact wpS_pure (h r f i B)
def HL(f:Ak C a b)(H:kindOf st=kd)(h:∀x j,Eqv st j->MR C a b x->Q x j):wpS (model prog w) A E s (mE a b) Q st:=by
 rw[QP];refine wpS_bind (wpS_lift (wpAny_rule ⟨rfl,?_⟩));have M:=f.na;have P:=f.nb;refine wpS_bind (aU ⋯ λz i=>?_);have L:MI C a b #[] 0 0:=⟨by simp,by unfold LS;simp,λx F=>by simp at F⟩;have r:MI C a b #[z] 0 1:=by
  have:=L.pushB f.sa f.sb i (λq u=>f.fst z q i u)
  simpa using this
 by_cases B:1=b.size
 .rw[b_ (by simpa using B)]
  have:=r.all f.sa f.sb (.inr ⋯)
  exact wpS_pure (h _ st Eqv.rfl' (by simpa using this))
 .rw[e_ (by simpa using B)];by_cases l:0+1=a.size
  .rw[b_ (by simpa using l)]
   have:=r.one f.sa f.sb l λy q G u=>f.lst y q G (by rw[<-l];exact u)
   exact wpS_pure (h _ st Eqv.rfl' (by simpa using this))
  .rw[e_ (by simpa using l)];exact HK f H r ⋯ ⋯ h
end
def Bj{m k:Nat}(a:1<=m)(b:m<=k):m-1<k:=rc (Fm a F5) b
def Bz{m k:Nat}(h:k<m):m-k=m-(k+1)+1:=(Nat.succ_pred_eq_of_pos (Nat.sub_pos_of_lt h)).symm
def OU{m k s:Nat}(h:k<m)(b:m<=s):m-(k+1)<s:=rc (Fm (Nat.zero_lt_of_lt h) (Nat.succ_pos k)) b
def mz:Array Keyed->Array Keyed->StateT SortSt Sem (Array Keyed):=sortPriv% PySem.Builtin.mergeHi
section
variable{prog:Program}{w:World}{A:Around}{E:T7}{s:Shared}{kd:SortKind}{O:KeyOrd}{C:v3 prog w A E s kd O}{a b ou:Array Keyed}{m n:Nat}{st:SortSt}
structure HI(C:v3 prog w A E s kd O)(a b ou:Array Keyed)(m n:Nat):Prop where
 perm:(a.toList.take m++b.toList.take n++ou.toList.reverse).Perm (a.toList++b.toList)
 srt:LS C ou.toList.reverse
 hgh:LB C (a.toList.take m++b.toList.take n) ou.toList.reverse
def HI.size(h:HI C a b ou m n)(f:m<=a.size)(i:n<=b.size):ou.size+m+n=a.size+b.size:=by
 have:=h.perm.length_eq
 simp at this;lia
def lD{xs:Array Keyed}{i:Nat}{p:Keyed}(h:xs[i]?=J p):xs.toList.take (i+1)=xs.toList.take i++[p]:=by rw[B9,v7,h];rfl
def ju{xs:Array Keyed}(h:LS C xs.toList)(i:Nat):LS C (xs.toList.take i):=h.sublist (Py i _)
def ln{xs:Array Keyed}(h:LS C xs.toList){i:Nat}{p:Keyed}(l:xs[i]?=J p):∀y∈xs.toList.take (i+1),O.kle (C.key y) (C.key p):=by
 have j:=ju h (i+1);rw[lD l]at j ⊢;unfold LS at j;rw[Pw]at j;intro y f;rcases nt.mp f with f|f
 .exact j.2.2 y f p (by simp)
 .have:y=p:=by simpa using f
  subst this;exact KeyOrd.kle_refl _
def iz(p:Keyed):(ou.push p).toList.reverse=p::ou.toList.reverse:=by simp
def HI.pushA(h:HI C a b ou (m+1) n)(B:LS C a.toList)(F:LS C b.toList){p:Keyed}(u:a[m]?=J p)(z:1<=n)(r:n<=b.size)(G:∀q,b[n-1]?=J q->O.kle (C.key q) (C.key p)):HI C a b (ou.push p) m n:=by
 have hd:=lD u;obtain⟨q,j⟩:∃q,b[n-1]?=J q:=⟨_,getElem?_pos b (n-1) (Bj z r)⟩;have l:∀y∈a.toList.take m++b.toList.take n,O.kle (C.key y) (C.key p):=by
  intro y f;rcases nt.mp f with f|f
  .exact ln B u y (by rw[hd];exact xn _ f)
  .refine KeyOrd.kle_trans (ln F j y ?_) (G q j);rw[FZ z];exact f
 refine⟨?_,?_,?_⟩
 .have:=h.perm
  rw[hd]at this;rw[iz];refine List.Perm.trans ?_ this;have e1:(a.toList.take m++b.toList.take n++p::ou.toList.reverse).Perm (p::(a.toList.take m++b.toList.take n++ou.toList.reverse)):=J7;have e2:(a.toList.take m++[p]++b.toList.take n++ou.toList.reverse).Perm (p::(a.toList.take m++b.toList.take n++ou.toList.reverse)):=by simp_all
  exact e1.trans e2.symm
 .rw[iz];unfold LS;rw[B5];refine⟨λy f=>h.hgh p (xn _ (by rw[hd];simp)) y f,h.srt⟩
 .rw[iz];intro x i y f;rcases l_.mp f with rfl|f
  .exact l x i
  .refine h.hgh x ?_ y f;rcases nt.mp i with i|i
   .exact xn _ (by rw[hd];exact xn _ i)
   .exact q0 _ i
def HI.pushB(h:HI C a b ou m (n+1))(B:LS C a.toList)(F:LS C b.toList){p:Keyed}(u:b[n]?=J p)(z:1<=m)(r:m<=a.size)(G:∀q,a[m-1]?=J q->O.kle (C.key q) (C.key p)):HI C a b (ou.push p) m n:=by
 have hd:=lD u;obtain⟨q,j⟩:∃q,a[m-1]?=J q:=⟨_,getElem?_pos a (m-1) (Bj z r)⟩;have l:∀y∈a.toList.take m++b.toList.take n,O.kle (C.key y) (C.key p):=by
  intro y f;rcases nt.mp f with f|f
  .refine KeyOrd.kle_trans (ln B j y ?_) (G q j);rw[FZ z];exact f
  .exact ln F u y (by rw[hd];exact xn _ f)
 refine⟨?_,?_,?_⟩
 .have:=h.perm
  simp_all
 .rw[iz];unfold LS;rw[B5];refine⟨λy f=>h.hgh p (q0 _ (by rw[hd];simp)) y f,h.srt⟩
 .rw[iz];intro x i y f;rcases l_.mp f with rfl|f
  .exact l x i
  .refine h.hgh x ?_ y f;rcases nt.mp i with i|i
   .exact xn _ i
   .exact q0 _ (by rw[hd];exact xn _ i)
def tf{xs:Array Keyed}{m k:Nat}{p:Keyed}(f:k<m)(i:m<=xs.size)(h:xs[m-(k+1)]?=J p):ou++(xs.extract (m-(k+1)) m).reverse=(ou++(xs.extract (m-k) m).reverse).push p:=by apply Fh.mp;simp only[FY,Array.toList_reverse,CW,N3,Pr];rw[KL f,KL (wh f),jg h,<-Bz f];simp
def HI.moveA(h:HI C a b ou m n)(G:LS C a.toList)(M:LS C b.toList)(y:m<=a.size)(L:1<=n)(u:n<=b.size):∀k,k<=m->(∀r p q,m-k<=r->r<m->a[r]?=J p->b[n-1]?=J q->O.kle (C.key q) (C.key p)) ->
  HI C a b (ou++(a.extract (m-k) m).reverse) (m-k) n:=by
 intro k
 induction k with
 |zero =>
  intro _ _;have e:ou++(a.extract (m-0) m).reverse=ou:=by apply Fh.mp;simp
  rw[e];exact h
 |succ k H =>
  intro f F;have i:=getElem?_pos a (m-(k+1)) (OU f y);have z:=H (wh f) λr p q l=>F r p q (m_ (N8 (Fk k) _) l);have e:=Bz f;rw[tf f y i];rw[e]at z;have B:=z.pushA G M i L u (λq j=>F _ _ q (ia _) (OU f (ia _)) i j);rw[<-e]at B;exact B
def HI.moveB(h:HI C a b ou m n)(G:LS C a.toList)(M:LS C b.toList)(B:n<=b.size)(L:1<=m)(u:m<=a.size):∀k,k<=n->(∀r p q,n-k<=r->r<n->b[r]?=J p->a[m-1]?=J q->O.kle (C.key q) (C.key p)) ->
  HI C a b (ou++(b.extract (n-k) n).reverse) m (n-k):=by
 intro k
 induction k with
 |zero =>
  intro _ _;have e:ou++(b.extract (n-0) n).reverse=ou:=by apply Fh.mp;simp
  rw[e];exact h
 |succ k H =>
  intro f F;have i:=getElem?_pos b (n-(k+1)) (OU f B);have y:=H (wh f) λr p q l=>F r p q (m_ (N8 (Fk k) _) l);have e:=Bz f;rw[tf f B i];rw[e]at y;have z:=y.pushB G M i L u (λq j=>F _ _ q (ia _) (OU f (ia _)) i j);rw[<-e]at z;exact z
def mQ{xs:Array Keyed}{i:Nat}:(xs.extract 0 i).toList=xs.toList.take i:=by rw[N3,Pr];simp
def HI.all(h:HI C a b ou m n)(f:LS C a.toList)(j:LS C b.toList)(i:m=0\/n=0):MR C a b (a.extract 0 m++b.extract 0 n++ou.reverse):=by
 have e:(a.extract 0 m++b.extract 0 n++ou.reverse).toList=a.toList.take m++b.toList.take n++ou.toList.reverse:=by simp_all
 unfold MR;rw[e];refine⟨h.perm,cr ?_ h.srt h.hgh⟩;rcases i with rfl|rfl
 .simpa using ju j n
 .simpa using ju f m
def HI.one(h:HI C a b ou m n)(f:Ak C a b)(z:n=1):MR C a b (b.extract 0 n++a.extract 0 m++ou.reverse):=by
 subst z;have e:(b.extract 0 1++a.extract 0 m++ou.reverse).toList=b.toList.take 1++a.toList.take m++ou.toList.reverse:=by rw[FY,FY,mQ,mQ,Array.toList_reverse]
 unfold MR;rw[e];have F:=f.nb;have B:=f.na;have r:=getElem?_pos b 0 ⋯;have u:=getElem?_pos a 0 ⋯;have hd:=lD r;refine⟨(List.Perm.append_right _ Sg).trans h.perm,cr (cr (ju f.sb 1) (ju f.sa m) ?_) h.srt ?_⟩
 .intro x i y j;have l:x=b[0]'⋯:=by
   have:=i
   rw[hd]at this;simpa using this
  subst l;refine KeyOrd.kle_trans (f.fst _ _ r u) (jl f.sa u y ?_);exact N5 j
 .intro x i y j;exact h.hgh x (nt.mpr (nt.mp i).symm) y j
end
abbrev HS:=Option (Array Keyed)×Nat×Nat×Array Keyed×Nat×Nat×Nat
def HM(a b j:Array Keyed)(m n g f i:Nat):StateT SortSt Sem (ForInStep HS):=do
 let x <-elem' a (m-1)
 if(m-1==0)=I then pure (ForInStep.done (J (a.extract 0 (m-1)++b.extract 0 n++(j.push x).reverse),m-1,n,j.push x,g,f,i))
 else if(decide (f<7)&&decide (i<7))=I then pure (ForInStep.done (Y,m-1,n,j.push x,g,f,i))
 else pure (ForInStep.yield (Y,m-1,n,j.push x,g,f,i))
def HN(a b f:Array Keyed)(m n g i j:Nat):StateT SortSt Sem (ForInStep HS):=do
 let x <-elem' b (n-1)
 if(n-1==1)=I then pure (ForInStep.done (J (b.extract 0 (n-1)++a.extract 0 m++(f.push x).reverse),m,n-1,f.push x,g,i,j))
 else do
  let y <-elem' a (m-1)
  let q <-gallop' I y b 0 (n-1) (n-1-1)
  match q with
  |some z =>
   if n-1-z>0 then
    if(z==1)=I then
     pure (ForInStep.done (J (b.extract 0 z++a.extract 0 m++(f.push x++(b.extract z (n-1)).reverse).reverse),m,z,f.push x++(b.extract z (n-1)).reverse,g,i,n-1-z))
    else if(z==0)=I then
     pure (ForInStep.done (J (a.extract 0 m++b.extract 0 z++(f.push x++(b.extract z (n-1)).reverse).reverse),m,z,f.push x++(b.extract z (n-1)).reverse,g,i,n-1-z))
    else HM a b (f.push x++(b.extract z (n-1)).reverse) m z g i (n-1-z)
   else HM a b (f.push x) m (n-1) g i (n-1-z)
  |_=>pure (ForInStep.done (J (a.extract 0 m++b.extract 0 (n-1)++(f.push x).reverse),m,n-1,f.push x,g,i,j))
def Ed(a b f:Array Keyed)(m n g j i:Nat):StateT SortSt Sem (ForInStep HS):=do
 Eb g
 let x <-elem' b (n-1)
 let q <-gallop' T x a 0 m (m-1)
 match q with
 |some z =>
  if m-z>0 then
   if(z==0)=I then
    pure (ForInStep.done (J (a.extract 0 z++b.extract 0 n++(f++(a.extract z m).reverse).reverse),z,n,f++(a.extract z m).reverse,g,m-z,i))
   else HN a b (f++(a.extract z m).reverse) z n g (m-z) i
  else HN a b f m n g (m-z) i
 |_=>pure (ForInStep.done (J (a.extract 0 m++b.extract 0 n++f.reverse),m,n,f,g,j,i))
abbrev HB:=Option (Array Keyed)×Nat×Nat×Array Keyed×Nat×Nat
abbrev HC:=Option (Array Keyed)×Nat×Nat×Array Keyed×Nat
def QS(a b:Array Keyed)(g:Nat)(c:HB):StateT SortSt Sem (ForInStep HB):=do
 let x <-elem' b (c.2.2.1-1)
 let y <-elem' a (c.2.1-1)
 let q <-lt' x y
 match q with
 |some q =>
  if q=I then do
   let z <-elem' a (c.2.1-1)
   if(c.2.1-1==0)=I then pure (ForInStep.done (J (a.extract 0 (c.2.1-1)++b.extract 0 c.2.2.1++(c.2.2.2.1.push z).reverse),c.2.1-1,c.2.2.1,c.2.2.2.1.push z,c.2.2.2.2.1+1,0))
   else if c.2.2.2.2.1+1>=g then pure (ForInStep.done (Y,c.2.1-1,c.2.2.1,c.2.2.2.1.push z,c.2.2.2.2.1+1,0))
   else pure (ForInStep.yield (Y,c.2.1-1,c.2.2.1,c.2.2.2.1.push z,c.2.2.2.2.1+1,0))
  else do
   let z <-elem' b (c.2.2.1-1)
   if(c.2.2.1-1==1)=I then pure (ForInStep.done (J (b.extract 0 (c.2.2.1-1)++a.extract 0 c.2.1++(c.2.2.2.1.push z).reverse),c.2.1,c.2.2.1-1,c.2.2.2.1.push z,0,c.2.2.2.2.2+1))
   else if c.2.2.2.2.2+1>=g then pure (ForInStep.done (Y,c.2.1,c.2.2.1-1,c.2.2.2.1.push z,0,c.2.2.2.2.2+1))
   else pure (ForInStep.yield (Y,c.2.1,c.2.2.1-1,c.2.2.2.1.push z,0,c.2.2.2.2.2+1))
 |_=>pure (ForInStep.done (J (a.extract 0 c.2.1++b.extract 0 c.2.2.1++c.2.2.2.1.reverse),c.2.1,c.2.2.1,c.2.2.2.1,c.2.2.2.2.1,c.2.2.2.2.2))
def QT(a b:Array Keyed)(c:HS):StateT SortSt Sem (ForInStep HS) :=
 if c.2.2.2.2.1>1 then Ed a b c.2.2.2.1 c.2.1 c.2.2.1 (c.2.2.2.2.1-1) c.2.2.2.2.2.1 c.2.2.2.2.2.2
 else Ed a b c.2.2.2.1 c.2.1 c.2.2.1 c.2.2.2.2.1 c.2.2.2.2.2.1 c.2.2.2.2.2.2
def SG(c:HS):StateT SortSt Sem (ForInStep HC) :=
 match c.1 with
 |some r=>pure (ForInStep.done (J r,c.2.1,c.2.2.1,c.2.2.2.1,c.2.2.2.2.1))
 |none=>do
  Eb (c.2.2.2.2.1+1)
  pure (ForInStep.yield (Y,c.2.1,c.2.2.1,c.2.2.2.1,c.2.2.2.2.1+1))
def SH(a b:Array Keyed)(g:Nat)(c:HB):StateT SortSt Sem (ForInStep HC) :=
 match c.1 with
 |some r=>pure (ForInStep.done (J r,c.2.1,c.2.2.1,c.2.2.2.1,g))
 |none=>do
  liftM (rule "list.sort.gallop")
  let e <-forIn [:a.size+b.size] ((Y,c.2.1,c.2.2.1,c.2.2.2.1,g+1,c.2.2.2.2.1,c.2.2.2.2.2):HS) λ_ e=>QT a b e
  SG e
def SI(a b:Array Keyed)(c:HC):StateT SortSt Sem (ForInStep HC):=do
 let d <-forIn [:a.size+b.size] ((Y,c.2.1,c.2.2.1,c.2.2.2.1,0,0):HB) λ_ d=>QS a b c.2.2.2.2 d
 SH a b c.2.2.2.2 d
def SJ(a b:Array Keyed)(x:Keyed):StateT SortSt Sem (Array Keyed):=do
 let g <-get
 let r <-forIn [:a.size+b.size] ((Y,a.size-1,b.size,#[x],gallopOf g):HC) λ_ c=>SI a b c
 match r.1 with
 |some r=>pure r
 |none=>liftM (unsupported "internal:list.sort.merge-bound":Sem (Array Keyed))
def QU(a b:Array Keyed):mz a b=(do
 liftM (rule "list.sort.merge-hi")
 let x <-elem' a (a.size-1)
 if(a.size-1==0)=I then pure (a.extract 0 (a.size-1)++b.extract++#[x].reverse)
 else if(b.size==1)=I then pure (b.extract++a.extract 0 (a.size-1)++#[x].reverse)
 else SJ a b x):=by
 refine congrArg (Bind.bind _) (funext λ_=>congrArg (Bind.bind _) (funext λx=>congrArg (λz=>ite _ _ (ite _ _ z)) ?_));have e:∀{α β:Type}{x y:StateT SortSt Sem α}{f h:α->StateT SortSt Sem β},x=y->(∀a,f a=h a)->(x >>= f)=(y >>= h):=λe f=>by rw[e,funext f]
 refine congrArg (Bind.bind _) (funext λg=>e (congrArg (forIn _ _) (funext λ_=>funext λc=>?_)) λ⟨r,_⟩=>by cases r<;>rfl);refine e rfl λd=>?_;obtain⟨i,j⟩:=d
 cases i with
 |some r=>rfl
 |none=>exact congrArg (Bind.bind _) (funext λ_=>e rfl λ⟨r,_⟩=>by cases r<;>rfl)
section
variable{prog:Program}{w:World}{A:Around}{E:T7}{s:Shared}{kd:SortKind}{O:KeyOrd}{C:v3 prog w A E s kd O}{st:SortSt}{a b:Array Keyed}
def HP(C:v3 prog w A E s kd O)(a b:Array Keyed)(N:Nat)(c:HS):Prop :=
 c.1=Y/\HI C a b c.2.2.2.1 c.2.1 c.2.2.1/\1<=c.2.1/\c.2.1<=a.size/\2<=c.2.2.1/\c.2.2.1<=b.size/\N<=c.2.2.2.1.size
def nE(C:v3 prog w A E s kd O)(a b:Array Keyed)(N:Nat)(st:SortSt)(r:ForInStep HS)(f:SortSt):Prop:=Eqv st f/\match r with
 |.done c=>(∃x,c.1=J x/\MR C a b x)\/HP C a b N c
 |.yield c=>HP C a b N c
def vz(f:Ak C a b)(h:HI C a b ou m n)(u:1<=m)(j:m<=a.size)(H:2<=n)(i:n<=b.size)(hN:N<=ou.size)(r:∀p q,b[n-1]?=J p->a[m-1]?=J q->O.kle (C.key p) (C.key q)):wpS (model prog w) A E s (HM a b ou m n g ca cb) (nE C a b N st) st:=by
 refine wpS_bind (aU (Bj u j) λx F=>?_);have e:=(FZ u).symm;have B:HI C a b (ou.push x) (m-1) n:=by have z:=h;rw[e]at z;exact z.pushA f.sa f.sb F (J2 H) i (λq L=>r q x L F)
 have y:(ou.push x).size=ou.size+1:=C0 ..;by_cases l:m-1=0
 .rw[b_ (by simpa using l)];exact wpS_pure ⟨Eqv.rfl',.inl ⟨_,rfl,B.all f.sa f.sb (.inl l)⟩⟩
 .rw[e_ (by simpa using l)];have G:HP C a b N (Y,m-1,n,ou.push x,g,ca,cb):=⟨rfl,B,KG l,wh (Bj u j),H,i,y▸Nat.le_succ_of_le hN⟩;split
  .exact wpS_pure ⟨Eqv.rfl',.inr G⟩
  .exact wpS_pure ⟨Eqv.rfl',G⟩
def vB(f:Ak C a b)(hk:kindOf st=kd)(h:HI C a b ou m n)(L:1<=m)(j:m<=a.size)(X:2<=n)(ah:n<=b.size)(hN:N<=ou.size)(S:∀p q,a[m-1]?=J p->b[n-1]?=J q->O.kle (C.key p) (C.key q)):wpS (model prog w) A E s (HN a b ou m n g ca cb) (nE C a b N st) st:=by
 have M:=J2 X;have B:=Bj M ah;refine wpS_bind (aU B λx hx=>?_);have e:=(FZ M).symm;have U:HI C a b (ou.push x) m (n-1):=by have h':=h;rw[e]at h';exact h'.pushB f.sa f.sb hx L j (λq i=>S q x i hx)
 have aj:(ou.push x).size=ou.size+1:=C0 ..;by_cases z1:n-1=1
 .rw[b_ (by simpa using z1)];exact wpS_pure ⟨Eqv.rfl',.inl ⟨_,rfl,U.one f z1⟩⟩
 .rw[e_ (by simpa using z1)];refine wpS_bind (aU (Bj L j) λy W=>?_);refine wpS_bind (dY (C:=C) hk f.gb (bx f.ga W) ⋯ (Fm (KA X) F5) ?_ λz hz Z ab=>?_)
  .intro p q l al i;exact kY f.sb p q (t_ _) al ⋯
  .have u:∀r p q,r<z->b[r]?=J p->a[m-1]?=J q->O.kle (C.key p) (C.key q):=λr p q hr l i=>by
    have:=Z r hr
    unfold h_ at this;rw[sf,aT l]at this;rw[W]at i;cases i;exact KeyOrd.kle_of_klt this
   have P:∀r p q,z<=r->r<n-1->b[r]?=J p->a[m-1]?=J q->O.kle (C.key q) (C.key p):=λr p q G H l i=>by
    have:=ab r G H
    unfold h_ at this;rw[sf,aT l]at this;rw[W]at i;cases i;exact this
   dsimp only;by_cases F:n-1-z>0
   .rw[b_ F];have ez:=KL hz;have R:=U.moveB f.sa f.sb (wh B) L j (n-1-z) (CM ..) (λr p q G H=>P r p q (ez▸G) H);rw[ez]at R;by_cases z2:z=1
    .rw[b_ (by simpa using z2)];exact wpS_pure ⟨Eqv.rfl',.inl ⟨_,rfl,R.one f z2⟩⟩
    .rw[e_ (by simpa using z2)];by_cases Q:z=0
     .rw[b_ (by simpa using Q)];exact wpS_pure ⟨Eqv.rfl',.inl ⟨_,rfl,R.all f.sa f.sb (.inr Q)⟩⟩
     .rw[e_ (by simpa using Q)];exact vz f R L j ⋯ ⋯ (by rw[KH];lia) (λp q l i=>u (z-1) p q (Nat.sub_one_lt Q) l i)
   .rw[e_ F];exact vz f U L j ⋯ (wh B) (aj▸Nat.le_succ_of_le hN) (λp q l i=>u (n-1-1) p q (rc (Fm (KA X) F5) (Sh (Sd F))) l i)
def u6(f:Ak C a b)(hk:kindOf st=kd)(h:HI C a b ou m n)(R:1<=m)(H:m<=a.size)(P:2<=n)(j:n<=b.size)(hN:N<=ou.size):
  wpS (model prog w) A E s (Ed a b ou m n g ca cb) (nE C a b N st) st:=by
 unfold Ed;refine wpS_bind (wpS_modify ?_);have ev:Eqv st (SortSt.mk' (kindOf st) (arrOf st) (pendingOf st) g (failedOf st)):=⟨rfl,rfl,rfl,rfl⟩;refine wpS_mono (Q:=nE C a b N (SortSt.mk' (kindOf st) (arrOf st) (pendingOf st) g (failedOf st))) ?_ λr ab h=>⟨ev.trans h.1,h.2⟩;have B:kindOf (SortSt.mk' (kindOf st) (arrOf st) (pendingOf st) g (failedOf st))=kd:=hk;refine wpS_bind (aU (Bj (J2 P) j) λx W=>?_);refine wpS_bind (dY (C:=C) B f.ga (bx f.gb W) ⋯ (Fm R F5) ?_ λz hz U X=>?_)
 .intro p q l Z i;exact kY f.sa p q (t_ _) Z ⋯
 .have u:∀r p q,r<z->a[r]?=J p->b[n-1]?=J q->O.kle (C.key p) (C.key q):=λr p q hr l i=>by
   have:=U r hr
   unfold h_ at this;rw[sf,aT l]at this;rw[W]at i;cases i;simp only[pk,if_false,F0]at this;exact this
  have M:∀r p q,z<=r->r<m->a[r]?=J p->b[n-1]?=J q->O.kle (C.key q) (C.key p):=λr p q F G l i=>by
   have:=X r F G
   unfold h_ at this;rw[sf,aT l]at this;rw[W]at i;cases i;simp only[pk,if_false,Px]at this;exact KeyOrd.kle_of_klt this
  dsimp only;by_cases y:m-z>0
  .rw[b_ y];have ez:=KL hz;have S:=h.moveA f.sa f.sb H (J2 P) j (m-z) (CM ..) (λr p q F G=>M r p q (ez▸F) G);rw[ez]at S;by_cases L:z=0
   .rw[b_ (by simpa using L)];exact wpS_pure ⟨Eqv.rfl',.inl ⟨_,rfl,S.all f.sa f.sb (.inl L)⟩⟩
   .rw[e_ (by simpa using L)];exact vB f B S (KG L) (m_ hz H) P j (by rw[KH];lia) (λp q l i=>u (z-1) p q (Nat.sub_one_lt L) l i)
  .rw[e_ y];exact vB f B h R H P j hN (λp q l i=>u (m-1) p q (Bj R (Sh (Sd y))) l i)
def Mn(C:v3 prog w A E s kd O)(a b:Array Keyed)(N:Nat)(c:HB):Prop :=
 c.1=Y/\HI C a b c.2.2.2.1 c.2.1 c.2.2.1/\1<=c.2.1/\c.2.1<=a.size/\2<=c.2.2.1/\c.2.2.1<=b.size/\N<=c.2.2.2.1.size
def QV(C:v3 prog w A E s kd O)(a b:Array Keyed)(N:Nat)(c:HC):Prop :=
 c.1=Y/\HI C a b c.2.2.2.1 c.2.1 c.2.2.1/\1<=c.2.1/\c.2.1<=a.size/\2<=c.2.2.1/\c.2.2.1<=b.size/\N<=c.2.2.2.1.size
def Mo(C:v3 prog w A E s kd O)(a b:Array Keyed)(N:Nat)(st:SortSt)(r:ForInStep HB)(f:SortSt):Prop:=match r with
 |.done c=>f=st/\((∃x,c.1=J x/\MR C a b x)\/Mn C a b N c)
 |.yield c=>f=st/\Mn C a b N c
def wV(C:v3 prog w A E s kd O)(a b:Array Keyed)(N:Nat)(st:SortSt)(r:ForInStep HC)(f:SortSt):Prop:=match r with
 |.done c=>Eqv st f/\∃x,c.1=J x/\MR C a b x
 |.yield c=>Eqv st f/\QV C a b N c
def HQ(f:Ak C a b)(Q:kindOf st=kd)(H:HI C a b ou' m' n')(u:1<=m')(i:m'<=a.size)(G:2<=n')(j:n'<=b.size)(hN:N<=ou'.size):
  wpS (model prog w) A E s (QS a b g (Y,m',n',ou',ca,cb)) (Mo C a b (N+1) st) st:=by
 unfold QS;dsimp only;have F:=J2 G;have na:=Bj u i;have nb:=Bj F j;refine wpS_bind (aU nb λp M=>wpS_bind (aU na λq P=>?_));refine wpS_bind (C.ask p q st _ (bx f.gb M) (bx f.ga P) Q ?_)
 cases R:O.blt (C.key p) (C.key q) with
 |true =>
  dsimp only;refine wpS_bind (aU na λU r=>?_);rw[P]at r;cases r;have em:=(FZ u).symm;have B:HI C a b (ou'.push q) (m'-1) n':=by have L:=H;rw[em]at L;exact L.pushA f.sa f.sb P F j (λS y=>by rw[M]at y;cases y;exact KeyOrd.kle_of_klt R)
  have l:(ou'.push q).size=ou'.size+1:=C0 ..;by_cases z:m'-1=0
  .rw[b_ (by simpa using z)];exact wpS_pure ⟨rfl,.inl ⟨_,rfl,B.all f.sa f.sb (.inl z)⟩⟩
  .rw[e_ (by simpa using z)];split
   .exact wpS_pure ⟨rfl,.inr ⟨rfl,B,KG z,wh na,G,j,l▸F2 hN⟩⟩
   .exact wpS_pure ⟨rfl,rfl,B,KG z,wh na,G,j,l▸F2 hN⟩
 |false =>
  dsimp only;rw[e_ (by simp)];refine wpS_bind (aU nb λS y=>?_);rw[M]at y;cases y;have W:=(FZ F).symm;have B:HI C a b (ou'.push p) m' (n'-1):=by have L:=H;rw[W]at L;exact L.pushB f.sa f.sb M u i (λU r=>by rw[P]at r;cases r;exact R)
  have l:(ou'.push p).size=ou'.size+1:=C0 ..;by_cases z:n'-1=1
  .rw[b_ (by simpa using z)];exact wpS_pure ⟨rfl,.inl ⟨_,rfl,B.one f z⟩⟩
  .rw[e_ (by simpa using z)];split
   .exact wpS_pure ⟨rfl,.inr ⟨rfl,B,u,i,⋯,wh nb,l▸F2 hN⟩⟩
   .exact wpS_pure ⟨rfl,rfl,B,u,i,⋯,wh nb,l▸F2 hN⟩
def HR(j:Eqv DO st)(i:(∃x,c.1=J x/\MR C a b x)\/HP C a b N c):wpS (model prog w) A E s (SG c) (wV C a b N DO) st:=by
 obtain⟨H,B,F,l,G,z,u⟩:=c;rcases i with⟨r,f,y⟩|⟨i,f⟩
 .cases f;exact wpS_pure ⟨j,r,rfl,y⟩
 .cases i;exact wpS_bind (wpS_modify (wpS_pure ⟨j.trans ⟨rfl,rfl,rfl,rfl⟩,rfl,f⟩))
def HU(j:Ak C a b)(y:kindOf st=kd)(h:HP C a b N c):wpS (model prog w) A E s (QT a b c) (nE C a b N st) st:=by
 obtain⟨_,z,l,f,r,i,u⟩:=h;unfold QT;split
 .exact u6 j y z l f r i u
 .exact u6 j y z l f r i u
def HV(u:Ak C a b)(L:kindOf st=kd)(B:Eqv DO st)(l:(∃x,c.1=J x/\MR C a b x)\/Mn C a b N c):wpS (model prog w) A E s (SH a b g c) (wV C a b N DO) st:=by
 obtain⟨X,S,Z,G,R,W⟩:=c;rcases l with⟨r,j,F⟩|⟨l,j⟩
 .cases j;exact wpS_pure ⟨B,r,rfl,F⟩
 .cases l;refine wpS_bind (wpS_lift (wpAny_rule ⟨rfl,?_⟩));refine wpS_bind (wpS_mono (wpS_forRange (I:=λy c i=>Eqv st i/\HP C a b N c) (Q:=λc i=>Eqv st i/\((∃x,c.1=J x/\MR C a b x)\/HP C a b N c)) ?_ ?_ ⟨Eqv.rfl',rfl,j⟩) ?_)
  .rintro y c i _ U ⟨f,P⟩;refine wpS_mono (HU u (f.kind.trans L) P) λr M j=>?_
   cases r with
   |done H=>exact⟨f.trans j.1,j.2⟩
   |yield H=>exact⟨f.trans j.1,j.2⟩
  .rintro c i ⟨f,z⟩;exact⟨f,.inr z⟩
  .rintro c i ⟨f,l⟩;exact HR (B.trans f) l
def HW(i:Ak C a b)(R:kindOf st=kd)(h:QV C a b N c):wpS (model prog w) A E s (SI a b c) (wV C a b (N+1) st) st:=by
 obtain⟨F,Z,S,M,hn,l,L⟩:=h
 refine wpS_bind (wpS_mono (wpS_forRange (I:=λy c f=>f=st/\Mn C a b (N+y) c)
  (Q:=λc f=>f=st/\((∃x,c.1=J x/\MR C a b x)\/Mn C a b (N+1) c)) ?_ ?_ ⟨rfl,rfl,Z,S,M,hn,l,L⟩) ?_)
 .rintro y c f _ hy ⟨rfl,U⟩;obtain⟨F,B,G,u,P,z,j⟩:=U;refine wpS_mono (HQ i R B G u P z j) λr X H=>?_
  cases r with
  |done W=>exact⟨H.1,H.2.imp_right λh=>⟨h.1,h.2.1,h.2.2.1,h.2.2.2.1,h.2.2.2.2.1,h.2.2.2.2.2.1,m_ ⋯ h.2.2.2.2.2.2⟩⟩
  |yield W=>exact H
 .rintro c f ⟨rfl,h⟩;exact⟨rfl,.inr ⟨h.1,h.2.1,h.2.2.1,h.2.2.2.1,h.2.2.2.2.1,h.2.2.2.2.2.1,m_ ⋯ h.2.2.2.2.2.2⟩⟩
 .rintro c f ⟨rfl,F⟩;exact HV i R Eqv.rfl' F
def HX(u:Ak C a b)(H:kindOf st=kd)(B:HI C a b #[x0] (a.size-1) b.size)(z:1<=a.size-1)(F:2<=b.size)(h:∀x f,Eqv st f->MR C a b x->Q x f):wpS (model prog w) A E s (SJ a b x0) Q st:=by
 refine wpS_bind (wpS_get ?_)
 refine wpS_bind (wpS_mono (wpS_forRange (I:=λx c f=>Eqv st f/\QV C a b (x+1) c)
  (Q:=λc f=>Eqv st f/\∃x,c.1=J x/\MR C a b x) ?_ ?_ ⟨Eqv.rfl',rfl,B,z,CM _ _,F,ia _,ia _⟩) ?_)
 .rintro x c f _ P ⟨i,j⟩;refine wpS_mono (HW u (i.kind.trans H) j) λr L l=>?_
  cases r with
  |done G=>exact⟨i.trans l.1,l.2⟩
  |yield G=>exact⟨i.trans l.1,l.2⟩
 .rintro c f ⟨i,j⟩;exfalso
  have:=j.2.1.size j.2.2.2.1 j.2.2.2.2.2.1
  have:=j.2.2.2.2.2.2
  lia
 .rintro c f ⟨i,r,l,y⟩;obtain⟨R,M⟩:=c;cases l;exact wpS_pure (h r f i y)
def HY(f:Ak C a b)(L:kindOf st=kd)(h:∀x j,Eqv st j->MR C a b x->Q x j):wpS (model prog w) A E s (mz a b) Q st:=by
 rw[QU];refine wpS_bind (wpS_lift (wpAny_rule ⟨rfl,?_⟩));have P:=f.na;have z:=f.nb;refine wpS_bind (aU ⋯ λB i=>?_)
 have H:HI C a b #[] a.size b.size:=⟨by
   have e1:a.toList.take a.size=a.toList:=CD (by simp);have e2:b.toList.take b.size=b.toList:=CD (by simp)
   rw[e1,e2];simp,by unfold LS;simp,λx _ y G=>by simp at G⟩
 have l:HI C a b #[B] (a.size-1) b.size:=by
  have e:a.size=a.size-1+1:=by lia
  have F:HI C a b #[] (a.size-1+1) b.size:=by rw[<-e];exact H
  have:=F.pushA f.sa f.sb i z (ia _) (λq M=>f.lst q B (zm.mpr ⟨_,by rw[v7];exact M⟩) i)
  simpa using this
 by_cases r:a.size-1=0
 .rw[b_ (by simpa using r)];exact wpS_pure (h _ st Eqv.rfl' (l.all f.sa f.sb (.inl r)))
 .rw[e_ (by simpa using r)];by_cases u:b.size=1
  .rw[b_ (by simpa using u)];exact wpS_pure (h _ st Eqv.rfl' (l.one f u))
  .rw[e_ (by simpa using u)];exact HX f L l ⋯ ⋯ h
end
def uB(i:Nat):mergeAt' i=(do
 let c <-get
 let(J (sa,na,pw),J (sb,nb,_)):=((pendingOf c)[i]?,(pendingOf c)[i+1]?)|unsupported "internal:list.sort.pending"
 set (setPending c (((pendingOf c).setIfInBounds i (sa,na+nb,pw)).eraseIdxIfInBounds (i+1)))
 let J k <-gallop' T (<-elem' (arrOf c) sb) (arrOf c) sa na 0|return T
 let(sa,na):=(sa+k,na-k)
 if na==0 then return I
 let J nb <-gallop' I (<-elem' (arrOf c) (sa+na-1)) (arrOf c) sb nb (nb-1)|return T
 if nb==0 then return I
 let x:=(arrOf c).extract sa sb
 let y:=(arrOf c).extract sb (sb+nb)
 let f <-if na<=nb then mE x y else mz x y
 modify λc=>setArr c (f.toList.zipIdx.foldl (λa (p,j)=>a.setIfInBounds (sa+j) p) (arrOf c))
 return (failedOf (<-get)).isNone):=rfl
def Ee(f:Nat):∀(l:List Keyed)(q:Nat)(xs:Array Keyed)(i:Nat),((l.zipIdx q).foldl (λa (p:Keyed×Nat)=>a.setIfInBounds (f+p.2) p.1) xs)[i]? =
  if f+q<=i/\i<f+q+l.length/\i<xs.size then l[i-(f+q)]? else xs[i]?:=by
 intro l
 induction l with
 |nil=>intro q xs i;rw[e_ (by simp;lia)];rfl
 |cons p l j =>
  intro q xs i;rw[List.zipIdx_cons,PM,j];simp only[Array.size_setIfInBounds]
  grind
def zt{xs ou:Array Keyed}{off:Nat}(h:off+ou.size<=xs.size):
  (ou.toList.zipIdx.foldl (λa (p:Keyed×Nat)=>a.setIfInBounds (off+p.2) p.1) xs).toList=xs.toList.take off++(ou.toList++xs.toList.drop (off+ou.size)):=by
 apply KI;intro i;rw[v7,Ee];have l:(xs.toList.take off).length=off:=by simp;lia
 by_cases f:i<off
 .rw[e_ ⋯,we ⋯,NZ f,v7]
 .rw[Bq ⋯,l];by_cases j:i<off+ou.size
  .rw[b_ ⟨⋯,by simpa using j,⋯⟩,we (by simp;lia)];congr 1
  .rw[e_ (by simp;lia),Bq (by simp;lia),N_,v7];congr 1;simp;lia
section
variable{prog:Program}{w:World}{A:Around}{E:T7}{s:Shared}{kd:SortKind}{O:KeyOrd}{C:v3 prog w A E s kd O}{a₀:Array Keyed}{st:SortSt}
def iu{xs:Array Keyed}{lo l i j:Nat}(h:sh C xs lo l)(f:lo<=i)(a:i<=j)(r:j<l){p q:Keyed}(u:xs[i]?=J p)(y:xs[j]?=J q):O.kle (C.key p) (C.key q):=by
 have:=h i j f a r
 rw[aT u,aT y]at this;exact this
def vC{xs:Array Keyed}{lo f:Nat}{p:Keyed}(j:f<=xs.size)(h:p∈(xs.extract lo f).toList):∃i,lo<=i/\i<f/\xs[i]?=J p:=by
 obtain⟨q,a⟩:=zm.mp h;rw[v7,Ky]at a
 split at a
 .exact⟨lo+q,⋯,⋯,a⟩
 .cases a
def HZ{xs:Array Keyed}{i j k:Nat}(a:i<=j)(r:j<=k)(u:k<=xs.size):xs.toList=xs.toList.take i++((xs.extract i j).toList++(xs.extract j k).toList++xs.toList.drop k):=by
 have e1:(xs.extract i j).toList=(xs.toList.drop i).take (j-i):=by simp
 have e2:(xs.extract j k).toList=(xs.toList.drop j).take (k-j):=by simp
 rw[e1,e2];have f:(xs.toList.drop j).take (k-j)++xs.toList.drop k=xs.toList.drop j:=by
  have:=CF (k-j) (xs.toList.drop j)
  simp_all
 have l:(xs.toList.drop i).take (j-i)++xs.toList.drop j=xs.toList.drop i:=by
  have:=CF (j-i) (xs.toList.drop i)
  rw[List.drop_drop]at this;rw[Ff a]at this;exact this
 rw[B6,f,l,CF]
def uD{n1 pw:Nat}{Q:Bool->SortSt->Prop}(h0:cI C a₀)(hB:SB kd a₀ st)(h1:1<=n1)(h2:n1<a₀.size)(hp:pendingOf st=#[(0,n1,pw),(n1,a₀.size-n1,0)])(G:sh C (arrOf st) 0 n1)(B:sh C (arrOf st) n1 a₀.size)(h:∀am,SB kd a₀ am->(pendingOf am).size=1->sh C (arrOf am) 0 a₀.size->Q I am):wpS (model prog w) A E s (mergeAt' 0) Q st:=by
 have ap:=hB.size;have hg:=hB.good h0;have an:=wh h2;rw[uB];refine wpS_bind (wpS_get ?_);rw[hp];have e0:(#[(0,n1,pw),(n1,a₀.size-n1,0)]:Array (Nat×Nat×Nat))[0]?=J (0,n1,pw):=rfl;have e1:(#[(0,n1,pw),(n1,a₀.size-n1,0)]:Array (Nat×Nat×Nat))[0+1]?=J (n1,a₀.size-n1,0):=rfl;rw[e0,e1];dsimp only;refine wpS_bind ?_;have bi:∀(c:SortSt)(Q':PUnit->SortSt->Prop),Q' ⟨⟩ c->wpS (model prog w) A E s (set c:StateT SortSt Sem PUnit) Q' st:=λc Q' hq=>by
  unfold wpS;rw[StateT.run_set];exact ii ⟨rfl,hq⟩
 refine bi _ _ ?_;obtain⟨M,H⟩:∃c,c=setPending st (((#[(0,n1,pw),(n1,a₀.size-n1,0)]:Array (Nat×Nat×Nat)).setIfInBounds 0 (0,n1+(a₀.size-n1),pw)).eraseIdxIfInBounds (0+1)):=⟨_,rfl⟩;rw[<-H];have F:SB kd a₀ M:=by rw[H];exact⟨hB.perm,hB.kind,hB.failed⟩
 have ay:(pendingOf M).size=1:=by rw[H];simp[pendingOf]
 have a7:arrOf M=arrOf st:=by rw[H]
 clear H;have ah:sh C (arrOf st) 0 n1->sh C (arrOf st) n1 a₀.size->(∀i j,i<n1->n1<=j->j<a₀.size->O.kle (kk C (arrOf st) i) (kk C (arrOf st) j))->sh C (arrOf M) 0 a₀.size:=by
  intro g1 g2 g3 i j _ be U;rw[a7];by_cases c1:j<n1
  .exact g1 i j (t_ _) be c1
  .by_cases c2:i<n1
   .exact g3 i j c2 ⋯ U
   .exact g2 i j ⋯ be U
 refine wpS_bind (aU ⋯ λb0 Z=>?_);refine wpS_bind (dY (C:=C) F.kind hg (bx hg Z) ⋯ ⋯ (by rw[sf];exact G) λk hk bt bj=>?_);have ab:∀r p,r<k->(arrOf st)[r]?=J p->O.kle (C.key p) (C.key b0):=λr p hr f=>by
  have:=bt r hr
  unfold h_ at this;rw[sf,aT f]at this;simp only[pk,if_false,F0]at this;exact this
 have a6:∀r p,k<=r->r<n1->(arrOf st)[r]?=J p->O.kle (C.key b0) (C.key p):=λr p L aj f=>by
  have:=bj r L aj
  unfold h_ at this;rw[sf,aT f]at this;simp only[pk,if_false,Px]at this;exact KeyOrd.kle_of_klt this
 dsimp only;rw[sf];have R:∀i,i<a₀.size->∃p,(arrOf st)[i]?=J p:=λi u=>⟨_,getElem?_pos _ i ⋯⟩;by_cases z1:n1-k=0
 .rw[b_ (by simpa using z1)];refine wpS_pure (h M F ay (ah G B λi j u a8 W=>?_));obtain⟨p,f⟩:=R i ⋯;obtain⟨q,z⟩:=R j W;rw[aT f,aT z];exact KeyOrd.kle_trans (ab i p (rc u (Sb.1 z1)) f) (iu B (ia _) a8 W Z z)
 .rw[e_ (by simpa using z1)];have ez:k+(n1-k)-1=n1-1:=by rw[Ff hk]
  rw[ez];refine wpS_bind (aU (ap▸Oa (CM ..) h2) λal as=>?_);refine wpS_bind (dY (C:=C) F.kind hg (bx hg as) (PZ ((Ff an).trans ap.symm)) (Fm (Nat.sub_pos_of_lt h2) F5) (by rw[Ff an];exact B) λm hm a9 a2=>?_);have a0:∀r p,n1<=r->r<n1+m->(arrOf st)[r]?=J p->O.kle (C.key p) (C.key al):=λr p L aj f=>by
   have:=a9 (r-n1) (Nat.sub_lt_left_of_lt_add L aj)
   unfold h_ at this;rw[Ff L,aT f]at this;exact KeyOrd.kle_of_klt this
  have X:∀r p,n1+m<=r->r<a₀.size->(arrOf st)[r]?=J p->O.kle (C.key al) (C.key p):=λr p L aj f=>by
   have a5:=Nat.le_of_add_right_le L
   have:=a2 (r-n1) (Sf L) (Nat.sub_lt_sub_right a5 aj)
   unfold h_ at this;rw[Ff a5,aT f]at this;exact this
  dsimp only;by_cases z2:m=0
  .rw[b_ (by simpa using z2)];refine wpS_pure (h M F ay (ah G B λi j u a8 W=>?_));obtain⟨p,f⟩:=R i ⋯;obtain⟨q,z⟩:=R j W;rw[aT f,aT z];exact KeyOrd.kle_trans (iu G (t_ _) (KA u) (Fm h1 F5) f as) (X j q ⋯ W z)
  .rw[e_ (by simpa using z2)];have mx:=Fi (ap.symm▸an:n1<=(arrOf st).size);have mg:n1+m<=(arrOf st).size:=ap.symm▸Nat.add_le_of_le_sub' an hm;have my:=Fi mg;have sx:((arrOf st).extract k n1).size=n1-k:=by rw[Array.size_extract,mx]
   have sy:((arrOf st).extract n1 (n1+m)).size=m:=by rw[Array.size_extract,my,R7]
   have gx:∀r,r<n1-k->((arrOf st).extract k n1)[r]?=(arrOf st)[k+r]?:=λr hr=>by rw[Ky,mx,b_ hr]
   have gy:∀r,r<m->((arrOf st).extract n1 (n1+m))[r]?=(arrOf st)[n1+r]?:=λr hr=>by rw[Ky,my,R7,b_ hr]
   have ax:∀p,p∈((arrOf st).extract k n1).toList->∃i,k<=i/\i<n1/\(arrOf st)[i]?=J p:=λp f=>vC ⋯ f;have S:∀p,p∈((arrOf st).extract n1 (n1+m)).toList->∃i,n1<=i/\i<n1+m/\(arrOf st)[i]?=J p:=λp f=>vC mg f;have a3:Ak C ((arrOf st).extract k n1) ((arrOf st).extract n1 (n1+m)):=by
    refine⟨λp f=>?_,λp f=>?_,nB ⋯ λi j a b c=>G i j (t_ _) b c,nB ⋯ λi j a b c=>B i j a b ⋯,⋯,⋯,?_,?_⟩
    .obtain⟨i,_,_,u⟩:=ax p f;exact bx hg u
    .obtain⟨i,_,_,u⟩:=S p f;exact bx hg u
    .intro p q f z;rw[gy 0 ⋯]at f;rw[gx 0 ⋯]at z;have e:(arrOf st)[n1+0]?=J b0:=Z;rw[e]at f;cases f;exact a6 (k+0) q ⋯ ⋯ z
    .intro x q hx z;obtain⟨i,i1,i2,u⟩:=S x hx;rw[sx,gx _ ⋯]at z;rw[<-Nat.add_sub_assoc (KG z1),ez,as]at z;cases z;exact a0 i x i1 i2 u
   have fin:∀P l,Eqv M l->MR C ((arrOf st).extract k n1) ((arrOf st).extract n1 (n1+m)) P ->
     wpS (model prog w) A E s (do
      modify λc=>setArr c (P.toList.zipIdx.foldl (λa (p:Keyed×Nat)=>a.setIfInBounds (k+p.2) p.1) (arrOf c))
      return (failedOf (<-get)).isNone) Q l:=by
    intro P l ev mr;refine wpS_bind (wpS_modify ?_);refine wpS_bind (wpS_get (wpS_pure ?_));have ea:arrOf l=arrOf st:=ev.arr.trans a7;have so:P.size=n1-k+m:=by
     have:=mr.1.length_eq
     rw[As,wO,As,As,sx,sy]at this;exact this
    have eo:k+P.size=n1+m:=by rw[so,<-Nat.add_assoc,Ff hk]
    have hl:=zt (xs:=arrOf l) (ou:=P) (off:=k) (by rw[ea,eo];exact mg);rw[eo,ea]at hl;have bm:=HZ (xs:=arrOf st) (i:=k) (j:=n1) (k:=n1+m) hk (J8 ..) mg;have Hx:(failedOf (setArr l (P.toList.zipIdx.foldl (λa (p:Keyed×Nat)=>a.setIfInBounds (k+p.2) p.1) (arrOf l)))).isNone=I:=by show(failedOf l).isNone=I;rw[ev.failed,F.failed];rfl
    rw[Hx];have b1:LS C (P.toList.zipIdx.foldl (λa (p:Keyed×Nat)=>a.setIfInBounds (k+p.2) p.1) (arrOf l)).toList:=by
     rw[ea,hl];have mo:∀p,p∈P.toList->(∃i,k<=i/\i<n1/\(arrOf st)[i]?=J p)\/(∃i,n1<=i/\i<n1+m/\(arrOf st)[i]?=J p):=λp f =>
      (nt.mp (mr.1.mem_iff.mp f)).imp (ax p) (S p)
     have mt:∀p,p∈(arrOf st).toList.take k->∃i,i<k/\(arrOf st)[i]?=J p:=λp f=>by
      obtain⟨i,u⟩:=zm.mp f;by_cases c:i<k
      .rw[NZ c,v7]at u;exact⟨i,c,u⟩
      .rw[FW (by simp;lia)]at u;cases u
     have md:∀p,p∈(arrOf st).toList.drop (n1+m)->∃i,n1+m<=i/\i<a₀.size/\(arrOf st)[i]?=J p:=λp f=>by
      obtain⟨i,u⟩:=zm.mp f;rw[N_,v7]at u
      have:=(Kw.mp u).1
      exact⟨n1+m+i,⋯,⋯,u⟩
     refine cr ?_ (cr mr.2 ?_ ?_) ?_
     .have:=nB (C:=C) (xs:=arrOf st) (lo:=0) (hi:=k) ⋯ λi j a b c=>G i j a b ⋯
      rw[mQ]at this;exact this
     .have:=nB (C:=C) (xs:=arrOf st) (lo:=n1+m) (hi:=(arrOf st).size) (ia _) λi j a b c=>B i j ⋯ b ⋯
      rw[iC]at this;exact this
     .intro x hx y hy;obtain⟨j,j1,j2,U⟩:=md y hy;rcases mo x hx with⟨i,i1,i2,u⟩|⟨i,i1,i2,u⟩
      .exact KeyOrd.kle_trans (iu G (t_ _) (KA i2) (Fm h1 F5) u as) (X j y j1 j2 U)
      .exact iu B i1 ⋯ j2 u U
     .intro x hx y hy;obtain⟨i,i1,u⟩:=mt x hx;rcases nt.mp hy with hy|hy
      .rcases mo y hy with⟨j,j1,j2,U⟩|⟨j,j1,j2,U⟩
       .exact iu G (t_ _) ⋯ j2 u U
       .exact KeyOrd.kle_trans (ab i x i1 u) (iu B (ia _) j1 ⋯ Z U)
      .obtain⟨j,j1,j2,U⟩:=md y hy;exact KeyOrd.kle_trans (ab i x i1 u) (iu B (ia _) ⋯ j2 Z U)
    have a1:(P.toList.zipIdx.foldl (λa (p:Keyed×Nat)=>a.setIfInBounds (k+p.2) p.1) (arrOf l)).Perm (arrOf st):=by rw[Pp,ea,hl];refine List.Perm.trans ?_ (List.Perm.of_eq bm.symm);exact List.Perm.append_left _ (List.Perm.append_right _ mr.1)
    refine h _ ⟨a1.trans hB.perm,ev.kind.trans F.kind,ev.failed.trans F.failed⟩ ?_ ?_
    .show (pendingOf l).size=1;rw[ev.pend];exact ay
    .have:=kY b1
     have e2:(P.toList.zipIdx.foldl (λa (p:Keyed×Nat)=>a.setIfInBounds (k+p.2) p.1) (arrOf l)).size=a₀.size:=(a1.trans hB.perm).size_eq;rw[e2]at this;exact this
   by_cases a4:n1-k<=m
   .rw[b_ a4];refine wpS_bind (HL a3 F.kind λP l ev mr=>?_);exact fin P l ev mr
   .rw[e_ a4];refine wpS_bind (HY a3 F.kind λP l ev mr=>?_);exact fin P l ev mr
end
def tV(a:2<=n)(h:n<64):minRun' n n 0=n:=by
 obtain⟨f,hf⟩:∃f,n=f+1:=⟨n-1,⋯⟩
 have:minRun' (f+1) n 0=n+0:=by rw[minRun'_succ,b_ h]
 rw[<-hf]at this;exact this
def xZ(a:2<=n)(h:n<=66):1<=minRun' n n 0/\minRun' n n 0<=n/\n<=2*minRun' n n 0:=by
 by_cases c:n<64
 .rw[tV a c];lia
 .have:n=64\/n=65\/n=66:=by lia
  rcases this with e|e | e<;>subst e
  .have:minRun' 64 64 0=32:=by decide
   rw[this];lia
  .have:minRun' 65 65 0=33:=by decide
   rw[this];lia
  .have:minRun' 66 66 0=33:=by decide
   rw[this];lia
section
variable{prog:Program}{w:World}{A:Around}{E:T7}{s:Shared}{kd:SortKind}{O:KeyOrd}{C:v3 prog w A E s kd O}{a₀:Array Keyed}{st:SortSt}
def One(C:v3 prog w A E s kd O)(a₀:Array Keyed)(f a:Nat)(st:SortSt):Prop:=SB kd a₀ st/\pendingOf st=#[(0,a,0)]/\f<=a/\a<=a₀.size/\sh C (arrOf st) 0 a
def Mp(C:v3 prog w A E s kd O)(a₀:Array Keyed)(a:Nat)(st:SortSt):Prop :=
 SB kd a₀ st/\1<=a/\a<a₀.size/\(∃f,pendingOf st=#[(0,a,f),(a,a₀.size-a,0)])/\sh C (arrOf st) 0 a/\sh C (arrOf st) a a₀.size
def sw{xs ys:Array Keyed}{p lo a:Nat}(h:cL p xs ys)(u:a<=p)(g:sh C xs lo a):sh C ys lo a:=by intro i j l f r;rw[eM (h i ⋯),eM (h j ⋯)];exact g i j l f r
def zr(h0:cI C a₀)(hB:SB kd a₀ st)(ay:pendingOf st=#[])(h2:2<=a₀.size)(a0:a₀.size<=66)(h:∀i,(arrOf i).Perm a₀->failedOf i=Y->sh C (arrOf i) 0 a₀.size->Q () i):wpS (model prog w) A E s sortRuns' Q st:=by
 obtain⟨m1,m2,m3⟩:=xZ h2 a0;rw[sortRuns'_eq];refine wpS_bind (wpS_get ?_);dsimp only;rw[hB.size];generalize minRun' a₀.size a₀.size 0=mr at m1 m2 m3 ⊢
 refine wpS_bind (wpS_mono (wpS_forRange
  (I:=λx c i=>(x=0/\c=(Y,0)/\SB kd a₀ i/\pendingOf i=#[])\/(x=1/\∃f,c=(Y,f)/\One C a₀ mr f i)\/(2<=x/\c=(Y,a₀.size)/\∃f,Mp C a₀ f i))
  (Q:=λc i=>c=(Y,a₀.size)/\(One C a₀ mr a₀.size i\/∃f,Mp C a₀ f i)) ?_ ?_ (.inl ⟨rfl,rfl,hB,ay⟩)) ?_)
 .rintro x c i _ hx (⟨rfl,rfl,u,j⟩|⟨rfl,f,rfl,u,j,ap,as,R⟩|⟨a2,rfl,f,P⟩)
  .rw[e_ ⋯];simp only[P0,sf];refine wpS_bind (vb (p:=0) h0 ⋯ ⋯ u λm G r _ H ax al B=>?_);rw[sf]at B;dsimp only;by_cases M:m<mr
   .rw[b_ M];refine wpS_bind (wpS_lift (wpAny_rule ⟨rfl,?_⟩));refine wpS_bind (u5 (p:=0) h0 ⋯ ⋯ r (by rw[sf];exact B) λz F _ L S=>?_);simp only[CK,pk,if_false];refine wpS_bind (wpS_get ?_);have P:(pendingOf z).back?=Y:=by rw[L,H,j];rfl
    rw[P];dsimp only;refine wpS_bind (wpS_modify (wpS_pure (.inr (.inl ⟨trivial,_,rfl,⟨F.perm,F.kind,F.failed⟩,?_,⋯,⋯,?_⟩))))
    .show (pendingOf z).push _=_;rw[L,H,j];rfl
    .rw[sf]at S;exact S
   .rw[e_ M];refine wpS_bind (wpS_get ?_);have P:(pendingOf G).back?=Y:=by rw[H,j];rfl
    rw[P];dsimp only;refine wpS_bind (wpS_modify (wpS_pure (.inr (.inl ⟨trivial,_,rfl,⟨r.perm,r.kind,r.failed⟩,?_,⋯,⋯,B⟩))));show(pendingOf G).push _=_;rw[H,j];rfl
  .dsimp only;by_cases U:f>=a₀.size
   .rw[b_ U];have e:f=a₀.size:=by lia
    subst e;exact wpS_pure ⟨rfl,.inl ⟨u,j,ap,as,R⟩⟩
   .rw[e_ U];have aj:a₀.size-f<=mr:=by lia
    refine wpS_bind (vb (p:=f) h0 ⋯ ⋯ u λm G r ah H ax al B=>?_);dsimp only;by_cases M:m<mr
    .rw[b_ M];refine wpS_bind (wpS_lift (wpAny_rule ⟨rfl,?_⟩));have em:min (a₀.size-f) mr=a₀.size-f:=by lia
     rw[em];refine wpS_bind (u5 (p:=f) h0 ⋯ ⋯ r B λz F ab L S=>?_);simp only[CK,pk,if_false];refine wpS_bind (wpS_get ?_);have W:pendingOf z=#[(0,f,0)]:=by rw[L,H,j]
     have P:(pendingOf z).back?=J (0,f,0):=by rw[W];rfl
     rw[P];dsimp only;refine wpS_bind (wpS_mono (wpS_forRange (I:=λ_ c l=>c=(Y,())/\l=z) (Q:=λc l=>c=(Y,())/\l=z) ?_ (λ_ _ hh=>hh) ⟨rfl,rfl⟩) ?_)
     .rintro y c l _ _ ⟨rfl,rfl⟩;refine wpS_bind (wpS_get ?_);rw[W];exact wpS_pure ⟨rfl,rfl⟩
     .rintro c l ⟨rfl,rfl⟩;dsimp only;refine wpS_bind (wpS_modify (wpS_bind (wpS_modify (wpS_pure (.inr (.inr ⟨⋯,?_,f,⟨F.perm,F.kind,F.failed⟩,⋯,⋯,⟨power' a₀.size (2*0+f) (2*0+f+f+(a₀.size-f)) a₀.size,?_⟩,(sw (ah.trans ab) (ia _) R),(by have e:f+(a₀.size-f)=a₀.size:=⋯;rw[e]at S;exact S)⟩))))))
      .have e:f+(a₀.size-f)=a₀.size:=by lia
       rw[e]
      .show ((pendingOf l).modify _ _).push _=_;rw[W];simp
    .rw[e_ M];have em:m=a₀.size-f:=by lia
     subst em;refine wpS_bind (wpS_get ?_);have Z:pendingOf G=#[(0,f,0)]:=by rw[H,j]
     have P:(pendingOf G).back?=J (0,f,0):=by rw[Z];rfl
     rw[P];dsimp only;refine wpS_bind (wpS_mono (wpS_forRange (I:=λ_ c l=>c=(Y,())/\l=G) (Q:=λc l=>c=(Y,())/\l=G) ?_ (λ_ _ hh=>hh) ⟨rfl,rfl⟩) ?_)
     .rintro y c l _ _ ⟨rfl,rfl⟩;refine wpS_bind (wpS_get ?_);rw[Z];exact wpS_pure ⟨rfl,rfl⟩
     .rintro c l ⟨rfl,rfl⟩;dsimp only;refine wpS_bind (wpS_modify (wpS_bind (wpS_modify (wpS_pure (.inr (.inr ⟨⋯,?_,f,⟨r.perm,r.kind,r.failed⟩,⋯,⋯,⟨power' a₀.size (2*0+f) (2*0+f+f+(a₀.size-f)) a₀.size,?_⟩,(sw ah (ia _) R),(by have e:f+(a₀.size-f)=a₀.size:=⋯;rw[e]at B;exact B)⟩))))))
      .have e:f+(a₀.size-f)=a₀.size:=by lia
       rw[e]
      .show ((pendingOf l).modify _ _).push _=_;rw[Z];simp
  .dsimp only;rw[b_ (ia _)];exact wpS_pure ⟨rfl,.inr ⟨f,P⟩⟩
 .rintro c i (⟨hx,_⟩|⟨hx,_⟩|⟨_,hc,P⟩)
  .lia
  .lia
  .exact⟨hc,.inr P⟩
 .rintro c i ⟨rfl,hc⟩;dsimp only;rcases hc with⟨u,j,_,_,R⟩|⟨f,u,a1,n12,⟨pw,j⟩,an,am⟩
  .refine wpS_bind (wpS_mono (wpS_forRange (I:=λ_ c a=>a=i/\c=(Y,())) (Q:=λc a=>a=i/\c=(Y,())) ?_ (λ_ _ hh=>hh) ⟨rfl,rfl⟩) ?_)
   .rintro x c a _ _ ⟨rfl,rfl⟩;refine wpS_bind (wpS_get ?_);rw[b_ (by rw[j];exact ia 1)];exact wpS_pure ⟨rfl,rfl⟩
   .rintro c a ⟨rfl,rfl⟩;exact wpS_pure (h _ u.perm u.failed R)
  .refine wpS_bind (wpS_mono (wpS_forRange (I:=λx c a=>c=(Y,())/\((x=0/\a=i)\/(1<=x/\SB kd a₀ a/\(pendingOf a).size=1/\sh C (arrOf a) 0 a₀.size)))
    (Q:=λc a=>c=(Y,())/\SB kd a₀ a/\sh C (arrOf a) 0 a₀.size) ?_ ?_ ⟨rfl,.inl ⟨rfl,rfl⟩⟩) ?_)
   .rintro x c a _ _ ⟨rfl,X⟩;rcases X with⟨rfl,rfl⟩|⟨a3,b1,b2,b3⟩
    .refine wpS_bind (wpS_get ?_);rw[e_ (by rw[j];simp)];rw[j];refine wpS_bind (uD (n1:=f) (pw:=pw) h0 u a1 n12 j an am λz c1 c2 c3=>?_);simp only[CK,pk,if_false];exact wpS_pure ⟨rfl,.inr ⟨⋯,c1,c2,c3⟩⟩
    .refine wpS_bind (wpS_get ?_);rw[b_ (by rw[b2];exact ia 1)];exact wpS_pure ⟨rfl,b1,b3⟩
   .rintro c a ⟨rfl,⟨hx,_⟩|⟨_,b1,_,b3⟩⟩
    .lia
    .exact⟨rfl,b1,b3⟩
   .rintro c a ⟨rfl,b1,b3⟩;exact wpS_pure (h _ b1.perm b1.failed b3)
end
end SortT
namespace SortT
open PyProof.Rows SetT PySem.W
def bV:TR->TR->Bool
 |[],[]=>T
 |[],_::_=>I
 |_::_,[]=>T
 |a::x,b::y=>if a=b then bV x y else decide (a<b)
def mn:∀x,bV x x=T
 |[]=>rfl
 |a::x=>by unfold bV;rw[b_ rfl];exact mn x
def n9:∀x y z,bV x y=I->bV y z=I->bV x z=I
 |[],_::_,_::_,_,_=>rfl
 |a::x,b::y,c::z,i,f=>by
  unfold bV at i f ⊢;by_cases e1:a=b
  .rw[b_ e1]at i;by_cases e2:b=c
   .rw[b_ e2]at f;rw[b_ (e1.trans e2)];exact n9 x y z i f
   .rw[e_ e2]at f;rw[e_ (λq=>e2 (e1.symm.trans q)),e1];exact f
  .grind
def sE:∀x y z,bV x z=I->bV x y=I\/bV y z=I
 |[],[],_::_,_=>.inr rfl
 |[],_::_,_,_=>.inl rfl
 |_::_,[],_::_,_=>.inr rfl
 |a::x,b::y,c::z,h=>by
  unfold bV at h ⊢;by_cases e1:a=b
  .rw[b_ e1];by_cases e2:b=c
   .rw[b_ e2];rw[b_ (e1.trans e2)]at h;exact sE x y z h
   .rw[e_ (λq=>e2 (e1.symm.trans q)),e1]at h;rw[e_ e2];exact .inr h
  .grind
def jY:∀x y,bV x y=T->bV y x=T->x=y
 |[],[],_,_=>rfl
 |a::x,b::y,f,i=>by
  unfold bV at f i;by_cases e:a=b
  .rw[b_ e]at f;rw[b_ e.symm]at i;rw[e,jY x y f i]
  .rw[e_ e]at f;rw[e_ (λq=>e q.symm)]at i
   grind
def Ef:KeyOrd:=⟨TR,bV,mn,n9,sE,jY⟩
def Eg(l:TU):Prop:=l.Pairwise λx y=>bV y x=T
section
variable{prog:Program}{w:World}{A:Around}{E:T7}{s:Shared}
def rl(prog:Program)(w:World)(h:Heap)(v:Value):TR:=Classical.epsilon λk=>∃a,v=.ref a/\TK prog w h k a
def ip(t:TK prog w h k a):rl prog w h (.ref a)=k:=by
 have:=Classical.epsilon_spec (p:=λk=>∃b,Value.ref a=.ref b/\TK prog w h k b) ⟨k,a,rfl,t⟩
 obtain⟨b,e,f⟩:=this;cases e;exact IsTupleKey.inj f t
def H_:∀(xs ys:TZ)(f j:TR)(i:Nat),ItemsAre (intKind prog w) f xs->ItemsAre (intKind prog w) j ys->fin=decide (xs.length<ys.length)->Q (bV f j) s ->
  KatLex prog w A b fin Q (xs.zip ys) i s:=by
 intro xs
 induction xs with
 |nil =>
  intro ys f j i B u hf a;cases B
  cases u with
  |nil=>rw[hf];exact a
  |cons L M=>rw[hf];exact a
 |cons x xs O =>
  intro ys f j i B u hf a
  cases B with
  |@cons r _ F _ L H =>
   cases u with
   |nil=>rw[hf];exact a
   |@cons l y G C M z =>
    obtain⟨P,rfl⟩:=Value.isInt_shape (k:=r) (v:=x) L;obtain⟨S,rfl⟩:=Value.isInt_shape (k:=l) (v:=y) M;refine kat_cons (wpAny_eqBool_int ?_);unfold bV at a;by_cases e:r=l
    .rw[b_ e]at a
     have:(r==l)=I:=by simpa using e
     rw[this];exact kat_yes (O C F G (i+1) H z (by rw[hf];simp) a)
    .rw[e_ e]at a
     have:(r==l)=T:=by simpa using e
     rw[this];refine kat_no ?_
     cases R:(b&&i==0) with
     |true=>exact oneLt_int a
     |false=>exact kat_one _ _ (wpAny_lt_int a)
def Mq(prog:Program)(w:World)(A:Around)(E:T7)(s:Shared)(b:Bool):v3 prog w A E s (tuples' b) Ef where
 key:=λp=>rl prog w s.heap p.1
 dflt:=([]:TR)
 good:=λp=>∃a k,p.1=.ref a/\TK prog w s.heap k a
 ask:=λx y st Q S M O P=>by
  obtain⟨x1,x2⟩:=x;obtain⟨X,y2⟩:=y;obtain⟨U,C,ex,z⟩:=S;obtain⟨L,F,B,ty⟩:=M;simp only at ex B;subst ex;subst B;have R:Q (J (bV C F)) st:=by
   have G:=ip z;have H:=ip ty;have e:Ef.blt (rl prog w s.heap (.ref U)) (rl prog w s.heap (.ref L))=bV C F:=by rw[G,H];rfl
   rw[<-e];exact P
  obtain⟨ox,ix,nx,r,_,u,j⟩:=z;obtain⟨Z,iy,W,l,_,f,i⟩:=ty;rw[lt'_eq];refine wpS_bind (wpS_get ?_);rw[O];refine wpS_bind (wpS_lift (wpAny_attempt (kat_lt r u l f (H_ _ _ _ _ _ j i (by simp) ⟨rfl,?_⟩))));exact wpS_pure R
def tP{B:TZ}{F:TU}{Q:SortKind->Shared->Prop}(U:Cs prog w s.heap B.toArray F)(M:∀k∈F,k≠[])(h1:0<B.length)(h:Q (tuples' I) s):
  wpAny (model prog w) A (keyKind' B.toArray) Q E s:=by
 have C:B.length=F.length:=by have:=U.1;simpa using this
 have key:∀(y:TZ)(r:TU),y.length=r.length->(∀(i:Nat)(v:Value)(k:TR),y[i]?=J v->r[i]?=J k->∃a,v=.ref a/\TK prog w s.heap k a)->(∀k∈r,k≠[]) ->
   ∃fs:TZ,fs.length=y.length/\KatTups s.heap y fs/\∀v∈fs,∃i t,v=.int i t:=by
  intro y
  induction y with
  |nil=>intro r _ _ _;exact⟨[],rfl,KatTups.nil,λv hv=>by cases hv⟩
  |cons u y ih =>
   intro r P j X
   cases r with
   |nil=>simp at P
   |cons k r =>
    obtain⟨a,rfl,o,items,n,Z,hc,hd,hi⟩:=j 0 u k rfl rfl;obtain⟨fs,W,O,G⟩:=ih r (by simpa using P) (λi v H hv f=>j (i+1) v H (by simpa using hv) (by simpa using f)) (λH f=>X H (l7 _ f))
    cases k with
    |nil=>exact absurd rfl (X [] pa)
    |cons R kr =>
     have z:=hi;generalize L:items.toList=l at z
     cases z with
     |@cons _ v0 _ vr h0 hr =>
      obtain⟨S,rfl⟩:=Value.isInt_shape h0;have hg:items[0]?=J (.int R S):=by rw[<-v7,L];rfl
      refine⟨.int R S::fs,by simp[W],KatTups.cons Z hc hd hg O,λv hv=>?_⟩;rcases l_.mp hv with rfl|hv
      .exact⟨_,_,rfl⟩
      .exact G v hv
 obtain⟨fs,W,O,G⟩:=key B F C (λi v k hv f=>U.2 i v k (by simpa using hv) f) M;refine kat_kind (T:=.type "int") O ⋯ (λv hv=>?_) (by decide) ?_
 .obtain⟨i,t,rfl⟩:=G v hv;exact .now
 .exact h
def yy(ho:s.heap.get? a=J (seqObj "list" vs.toArray n))(G:Cs prog w s.heap vs.toArray z)(an:∀k∈z,k≠[])(a0:vs.length<=66)(h:∀(R:TZ) (O:TU),Cs prog w s.heap R.toArray O->R.Perm vs->O.Perm z->Eg O->P (.done (.ret .none)) { s with heap:=sortedHeap s.heap a vs R.toArray}):
  wpAny (model prog w) A (Builtin.«list.sort» ⟨[.ref a],[]⟩) P E s:=by
 rw[list_sort_plain];have F:vs.length<=sizeLine:=by rw[sizeLine_eq];lia
 refine d_ (listItems_at ho rfl ?_);refine d_ (listUpdate_at ho rfl ?_ (by rw[pq];exact F) (t_ _));obtain⟨e1,U⟩:∃e1,(s.heap.update a (Obj.mapSeq λ_=>(#[]:Array Value))).get? a=J (seqObj "list" #[] e1):=⟨_,get?_update_seq ho λ_=>#[]⟩;refine d_ (seqEpoch_at U rfl ?_);refine d_ (wpAny_newTuple ?_ (by show vs.length<=_;exact F));refine d_ (wpAny_newList ?_ (t_ _));refine wpAny_holding ?_;have H:(((s.heap.update a (Obj.mapSeq λ_=>(#[]:Array Value))).push (seqObj "tuple" vs.toArray 0)).push (seqObj "list" #[] 0)).get? a=J (seqObj "list" #[] e1) :=
  n7 _ (n7 _ U)
 have Z:∀k b,TK prog w s.heap k b->TK prog w (((s.heap.update a (Obj.mapSeq λ_=>(#[]:Array Value))).push (seqObj "tuple" vs.toArray 0)).push (seqObj "list" #[] 0)) k b:=by
  rintro k b ⟨o,items,m,hb,hc,r⟩;have ab:b≠a:=by rintro rfl;rw[ho]at hb;cases hb;have ay:Value.type "list"=Value.type "tuple":=hc;exact absurd ay (by decide)
  exact⟨o,items,m,n7 _ (n7 _ ((KC _ _ _ _ ab).trans hb)),hc,r⟩
 show wpAny (model prog w) A _ P E { s with heap:=((s.heap.update a (Obj.mapSeq λ_=>(#[]:Array Value))).push (seqObj "tuple" vs.toArray 0)).push (seqObj "list" #[] 0)};have ah:Cs prog w (((s.heap.update a (Obj.mapSeq λ_=>(#[]:Array Value))).push (seqObj "tuple" vs.toArray 0)).push (seqObj "list" #[] 0)) vs.toArray z :=
  ⟨G.1,λi v k hv l=>let⟨b,e,t⟩:=G.2 i v k hv l;⟨b,e,Z k b t⟩⟩
 have as:vs.toArray.size=vs.length:=by simp
 dsimp only;by_cases h2:vs.toArray.size<2
 .rw[b_ h2,b_ h2];refine d_ (ii ?_);rw[StateT.run_pure];refine d_ (ii ?_);dsimp only;refine d_ (seqEpoch_at H rfl ?_);have hz:((vs.toArray.zip vs.toArray).map (·.2))=vs.toArray:=by
   apply Fh.mp;simp only[Array.toList_map,Array.toList_zip,List.toList_toArray];exact List.map_snd_zip (ia _)
  refine d_ (listUpdate_at H rfl ?_ (t_ _) (by show((vs.toArray.zip vs.toArray).map (·.2)).size<=_;rw[hz,as];lia));simp only[bne_self_eq_false,pk,if_false];refine ii ?_
  have:=h vs z G (List.Perm.refl _) (List.Perm.refl _) (by
   have X:z.length<2:=by have:=G.1;lia
   unfold Eg
   match z,X with
   |[],_=>simp
   |[x],_=>simp)
  have e:(arrOf (SortSt.mk' general' (vs.toArray.zip vs.toArray) #[] 7 Y)).map (·.2)=vs.toArray:=hz;rw[e];exact this
 .rw[e_ h2,e_ h2];refine d_ (tP (s:={ s with heap:=_}) ah an ⋯ ?_);have am:(pairsOf vs).size=vs.length:=pairsOf_size vs
  refine d_ (wpAny_mono (zr (C:=Mq prog w A E { s with heap:=((s.heap.update a (Obj.mapSeq λ_=>(#[]:Array Value))).push (seqObj "tuple" vs.toArray 0)).push (seqObj "list" #[] 0)} I)
   (a₀:=pairsOf vs) (st:=SortSt.mk' (tuples' I) (vs.toArray.zip vs.toArray) #[] 7 Y)
   (Q:=λ_ f=>(arrOf f).Perm (pairsOf vs)/\failedOf f=Y/\sh (Mq prog w A E { s with heap:=((s.heap.update a (Obj.mapSeq λ_=>(#[]:Array Value))).push (seqObj "tuple" vs.toArray 0)).push (seqObj "list" #[] 0)} I) (arrOf f) 0 (pairsOf vs).size)
   ?_ ⟨Array.Perm.refl _,rfl,rfl⟩ rfl ⋯ ⋯ λf a1 a2 a3=>⟨a1,a2,a3⟩) ?_ λ_ _ e=>e)
  .intro p S;rw[pairsOf_toList]at S;obtain⟨q1,q2⟩:=mem_zip_self S;obtain⟨i,y⟩:=zm.mp q2
   obtain⟨k,l⟩:∃k,z[i]?=J k:=⟨_,BE (by
    have h3:=(qp.mp y).1
    have:=G.1;lia)⟩
   obtain⟨b,e,t⟩:=ah.2 i p.1 k (by simpa using y) l;exact⟨b,k,e,t⟩
  .rintro⟨⟨⟩,f⟩ s' ⟨rfl,S,hf,hs⟩;dsimp only;refine d_ (seqEpoch_at H rfl ?_);have hz:((arrOf f).map (·.2)).size=vs.length:=by rw[Array.size_map,S.size_eq,am]
   refine d_ (listUpdate_at H rfl ?_ (t_ _) (by show((arrOf f).map (·.2)).size<=_;rw[hz];lia));rw[hf];simp only[bne_self_eq_false,pk,if_false];refine ii ?_;have X:(arrOf f).toList.Perm (vs.zip vs):=by rw[<-pairsOf_toList];exact Pp.mp S
   have B:∀p,p∈(arrOf f).toList->p.1=p.2/\p.1∈vs:=λp ax=>mem_zip_self (X.mem_iff.mp ax);have hv:∀v,v∈vs->∃k b,v=.ref b/\TK prog w s.heap k b/\k∈z:=λv hv=>by
    obtain⟨i,y⟩:=zm.mp hv
    obtain⟨k,l⟩:∃k,z[i]?=J k:=⟨_,BE (by
     have h3:=(qp.mp y).1
     have:=G.1;lia)⟩
    obtain⟨b,e,t⟩:=G.2 i v k (by simpa using y) l;exact⟨k,b,e,t,zm.mpr ⟨i,l⟩⟩
   have aj:vs.map (rl prog w s.heap)=z:=by
    apply KI;intro i;rw[tx]
    cases y:vs[i]? with
    |none =>
     have:=List.getElem?_eq_none_iff.mp y
     rw[FW (by have:=G.1;lia)];rfl
    |some v =>
     obtain⟨k,l⟩:∃k,z[i]?=J k:=⟨_,BE (by
      have h3:=(qp.mp y).1
      have:=G.1;lia)⟩
     obtain⟨b,e,t⟩:=G.2 i v k (by simpa using y) l;subst e;rw[l];show J (rl prog w s.heap (.ref b))=J k;rw[ip t]
   have M:∀v,v∈vs->rl prog w (((s.heap.update a (Obj.mapSeq λ_=>(#[]:Array Value))).push (seqObj "tuple" vs.toArray 0)).push (seqObj "list" #[] 0)) v=rl prog w s.heap v:=λv u=>by
    obtain⟨k,b,rfl,t,_⟩:=hv v u;rw[ip t,ip (Z k b t)]
   have L:=h ((arrOf f).toList.map (·.2)) ((arrOf f).toList.map λp=>rl prog w s.heap p.1) ?_ ?_ ?_ ?_
   .have e:((arrOf f).toList.map (·.2)).toArray=(arrOf f).map (·.2):=by apply Fh.mp;simp
    rw[e]at L;exact L
   .refine⟨by simp,λi v k u l=>?_⟩;rw[FX,tx]at u;rw[tx]at l
    cases y:(arrOf f).toList[i]? with
    |none=>rw[y]at u;cases u
    |some p =>
     rw[y]at u l;cases u;cases l;obtain⟨q1,q2⟩:=B p (Be y);obtain⟨k,b,e,t,_⟩:=hv p.1 q2;refine⟨b,by show p.2=_;rw[<-q1];exact e,?_⟩;show TK prog w s.heap (rl prog w s.heap p.1) b;rw[e,ip t];exact t
   .have q:=X.map (·.2);rw[List.map_snd_zip (ia _)]at q;exact q
   .have q:=X.map λp=>rl prog w s.heap p.1;have e2:(vs.zip vs).map (λp=>rl prog w s.heap p.1)=z:=by
     rw[<-aj]
     have:(vs.zip vs).map (λp=>rl prog w s.heap p.1)=((vs.zip vs).map Prod.fst).map (rl prog w s.heap):=by rw[AL];rfl
     rw[this,List.map_fst_zip (ia _)]
    rw[e2]at q;exact q
   .unfold Eg;rw[J1,CQ];intro i j y hj ap;have al:i<(arrOf f).size:=by simpa using y
    have W:j<(arrOf f).size:=by simpa using hj
    have q:=hs i j (t_ _) (wh ap) (by rw[<-S.size_eq];exact W);rw[aT (getElem?_pos _ i al),aT (getElem?_pos _ j W)]at q;have m1:=(B (arrOf f)[i] (by simp)).2;have m2:=(B (arrOf f)[j] (by simp)).2;have q':bV (rl prog w (((s.heap.update a (Obj.mapSeq λ_=>(#[]:Array Value))).push (seqObj "tuple" vs.toArray 0)).push (seqObj "list" #[] 0)) (arrOf f)[j].1)
     (rl prog w (((s.heap.update a (Obj.mapSeq λ_=>(#[]:Array Value))).push (seqObj "tuple" vs.toArray 0)).push (seqObj "list" #[] 0)) (arrOf f)[i].1)=T:=q
    rw[M _ m1,M _ m2]at q';simpa using q'
def i0(j:h.get? a=J (seqObj "list" vs.toArray n))(f:Array Value):∃c,(sortedHeap h a vs f).get? a=J (seqObj "list" f c):=by obtain⟨e1,i⟩:∃e1,(h.update a (Obj.mapSeq λ_=>(#[]:Array Value))).get? a=J (seqObj "list" #[] e1):=⟨_,get?_update_seq j λ_=>#[]⟩;exact⟨_,get?_update_seq (n7 _ (n7 _ i)) λ_=>f⟩
def iP(i:b≠a)(j:h.get? b=J o)(f:Array Value):(sortedHeap h a vs f).get? b=J o:=by unfold sortedHeap;rw[KC _ _ _ _ i];exact n7 _ (n7 _ ((KC _ _ _ _ i).trans j))
structure Told(prog:Program)(w:World)(R:Value->Prop)(H0 h h':Heap)(l:Addr)(ks:TU)(out:TZ)(ks':TU):Prop where
 ext:A8 h h'
 fresh:h.get? l=Y
 size:h.objs.size<=l
 at':∃c,h'.get? l=J (seqObj "list" out.toArray c)
 lie:Cs prog w H0 out.toArray ks'
 perm:ks'.Perm ks
 ris:Eg ks'
 mem:∀v∈out,R v
def qh(hx:A8 H0 s.heap)(ah:∀k∈ks,k≠[])(aj:ks.length<=66)(hc:wpAny (model prog w) A.in1 (collect v) (λj s1=>∃G C f,s1={ s with heap:=G,toks:=C}/\A8 s.heap G/\s.heap.objs.size<G.objs.size/\s.toks<=C/\Cs prog w H0 (List.toArray j) f/\f.Perm ks/\∀v∈j,R v) E s)(h:∀G C l y B,Told prog w R H0 s.heap G l ks y B->s.toks<=C->Q (.ref l) { s with heap:=G,toks:=C}):
  wpAny (model prog w) A (call (.builtin "sorted") [v]) Q E s:=by
 refine Calls.call_function_entry kind_sorted plain_sorted entry_sorted (args_sorted1 _) ?_;refine d_ (ii ?_);refine d_ (wpAny_mono hc (λj s1 X=>?_) λ_ _ e=>e);obtain⟨z,C,f,rfl,U,P,ab,a,p1,hR⟩:=X;have S:j.length=f.length:=by have:=a.1;simpa using this
 have M:j.length<=66:=by rw[S,p1.length_eq];exact aj
 refine d_ (wpAny_newList ?_ (by rw[sizeLine_eq];lia));have F:(z.push (seqObj "list" j.toArray 0)).get? z.objs.size=J (seqObj "list" j.toArray 0):=s_ _ rfl;have up:∀b o,z.get? b=J o->(z.push (seqObj "list" j.toArray 0)).get? b=J o:=λb o e=>n7 _ e;have O:Cs prog w (z.push (seqObj "list" j.toArray 0)) j.toArray f:=⟨a.1,λi u k W L=>let⟨b,e,t⟩:=a.2 i u k W L;⟨b,e,kR (λc o Z=>up c o (U c o (hx c o Z))) t⟩⟩
 refine d_ (wpAny_holding (wpAny_call_entry slot_list_sort ⟨_,F,rfl⟩ entry_list_sort
  (yy F O (λk L=>ah k (p1.mem_iff.mp L)) M λy B l2 pv p2 r2=>⟨_,rfl,?_⟩) (args_list_sort _)))
 refine ii ⟨_,rfl,?_⟩;have r:s.heap.get? z.objs.size=Y:=by
  cases e:s.heap.get? z.objs.size with
  |none=>rfl
  |some o=>exact absurd (nw (U _ _ e)) (Bt _)
 refine h _ C z.objs.size y B ⟨λb o e=>?_,r,wh P,i0 F _,⟨l2.1,λi u k W L=>?_⟩,p2.trans p1,r2,λv hv=>hR v (pv.mem_iff.mp hv)⟩ ab
 .have hb:=t3 (nw (U b o e));exact iP hb (up b o (U b o e)) _
 .obtain⟨b,e,t⟩:=l2.2 i u k W L;have al:y[i]?=J u:=by simpa using W
  have H:=pv.mem_iff.mp (Be al);obtain⟨q,X⟩:=zm.mp H;obtain⟨k1,am⟩:∃k1,f[q]?=J k1:=⟨_,BE (by have:=(qp.mp X).1;lia)⟩;obtain⟨b1,e1,t1⟩:=a.2 q u k1 (by simpa using X) am;rw[e]at e1;cases e1;have t2:=kR (λc o Z=>up c o (U c o (hx c o Z))) t1
  have:=IsTupleKey.inj t t2
  subst this;exact⟨b,e,t1⟩
def vY(G:A.handled=Y)(r:de prog w (PB H0 R) s.heap S (bX w) B)(F:A8 H0 s.heap)(u:∀k∈B,k≠[])(C:B.length<=66)(h:∀i j l y f,Told prog w (λv=>∃a,v=.ref a/\R a) H0 s.heap i l B y f->s.toks<=j->Q (.ref l) { s with heap:=i,toks:=j}):
  wpAny (model prog w) A (call (.builtin "sorted") [.ref S]) Q E s :=
 qh F u C (uA (by simpa using G) r F λi j H f a z b c e d=>⟨i,j,f,rfl,a,z,b,c,d,e⟩) h
def uz{l:Addr}{f:TZ}{a:TU}{Q:T7}(G:s.heap.IsList l f.toArray)(B:Cs prog w s.heap f.toArray a)(j:∀k∈a,k≠[])(y:a.length<=66)(h:∀z C l u r,Told prog w (·∈f) s.heap s.heap z l a u r->s.toks<=C->Q (.ref l) { s with heap:=z,toks:=C}):
  wpAny (model prog w) A (call (.builtin "sorted") [.ref l]) Q E s:=by
 have F:f.length=a.length:=by have:=B.1;simpa using this
 refine qh (λb o e=>e) j y (collect_list G ⟨_,s.toks,a,rfl,λb o e=>?_,by rw[Heap.size_update,size_push'];exact J5 _,ia _,B,List.Perm.refl _,λv hv=>hv⟩ (by rw[sizeLine_eq];lia)) h;have i:=nw e;rw[KC _ _ _ _ (t3 i)];exact n7 _ e
end
end SortT
namespace SortT
open PyProof.Rows PySem.W
section
variable{prog:Program}{w:World}{A:Around}{E:T7}{s:Shared}{rk:Value->Int}{vs:TZ}
end
end SortT
namespace MM
open PySem.Spec PyProof.Rows L2 SetT SortT
def iX:TN->Option (TR)
 |[]=>J []
 |.int i::r=>(iX r).map (i::·)
 |_=>Y
def OV:PV->Option (TR)
 |.tup xs=>iX xs
 |_=>Y
def iD:TN->Option (TU)
 |[]=>J []
 |x::r=>(match OV x,iD r with
  |some k,J a=>J (k::a)
  |_,_=>Y)
def kP(k:TR):PV:=.tup (k.map .int)
def bL(l:TU):TU:=l.mergeSort λx y=>!bV y x
def bP(l:TU):(bL l).Perm l:=List.mergeSort_perm _ _
def jT(l:TU):Eg (bL l):=by
 have:=R8 (le:=λx y=>!bV y x) (λa b c f i=>by
   simp only[F0]at f i ⊢
   exact KeyOrd.kle_trans (O:=Ef) f i) (λa b=>by
   cases h:bV b a with
   |false=>simp
   |true =>
    have:bV a b=T:=KeyOrd.klt_asymm (O:=Ef) h
    simp[this])
 unfold Eg bL
 simp_all
def nj(f:Eg l)(i:Eg m)(p:l.Perm m):l=m :=
 List.Perm.eq_of_pairwise (λa b _ _ x y=>jY a b y x) f i p
def tW:∀{xs:TN}{k:TR},iX xs=J k->xs=k.map .int
 |[],k,h=>by cases h;rfl
 |x::r,k,h=>by
  cases x with
  |int i =>
   unfold iX at h
   cases a:iX r with
   |none=>rw[a]at h;cases h
   |some f =>
    rw[a]at h;cases h;rw[tW a];rfl
  |_=>cases h
def Ia(h:OV x=J k):x=kP k:=by
 cases x with
 |tup xs=>unfold kP;rw[tW (show iX xs=J k from h)]
 |_=>cases h
def o5:∀{xs:TN}{a:TU},iD xs=J a->xs=a.map kP
 |[],a,h=>by cases h;rfl
 |x::r,a,h=>by
  unfold iD at h
  cases f:OV x with
  |none=>rw[f]at h;cases h
  |some k =>
   cases i:iD r with
   |none=>rw[f,i]at h;cases h
   |some j =>
    rw[f,i]at h;cases h;rw[Ia f,o5 i];rfl
def Eh(K:hU)(H:Hp)(ys:List V)(f:TU):Prop :=
 ys.length=f.length/\∀(i:Nat)(y:V)(k:TR),ys[i]?=J y->f[i]?=J k->∃a,y=.ref a/\SqT K H a (k.map V.int)
def BP{K:hU}{U:TX}{H:Hp}:∀{k:TR}{ys:List V},RPs K U H (k.map PV.int) ys->ys=k.map V.int
 |[],ys,h=>by cases h;rfl
 |i::k,ys,h=>by
  cases h with
  |cons r t =>
   cases r;rw[BP t];rfl
def pG{K:hU}{U:TX}{H:Hp}:∀{a:TU}{ys:List V},RPs K U H (a.map kP) ys->Eh K H ys a
 |[],ys,h=>by cases h;exact⟨rfl,λi y k e=>by simp at e⟩
 |k::a,ys,h=>by
  cases h with
  |cons r t =>
   obtain⟨l,g⟩:=pG t;refine⟨by simp[l],λi y j e1 e2=>?_⟩
   cases i with
   |zero =>
    simp at e1 e2;subst e1;subst e2
    cases r with
    |tup f u =>
     rw[BP u]at f;exact⟨_,rfl,f⟩
   |succ i=>exact g i y j (by simpa using e1) (by simpa using e2)
def pF{K:hU}{U:TX}{H:Hp}:∀{f:TU}{ys:List V},Eh K H ys f->RPs K U H (f.map kP) ys
 |[],ys,h=>by
  have:=CT.mp (by have:=h.1;simpa using this)
  subst this;exact .nil
 |k::f,ys,h=>by
  cases ys with
  |nil=>have:=h.1;simp at this
  |cons y ys =>
   obtain⟨a,rfl,j⟩:=h.2 0 y k rfl rfl;refine .cons (.tup j (RPs.ints k)) (pF ⟨by have:=h.1;simpa using this,λi l r e1 e2=>h.2 (i+1) l r (by simpa using e1) (by simpa using e2)⟩)
def oz:∀{k:TR}{a:TZ},aD (k.map V.int) a->ItemsAre (intKind prog w) k a
 |[],_,h=>by cases h;exact .nil
 |i::k,_,h=>by
  cases h with
  |cons r t =>
   obtain⟨f,rfl⟩:=r;exact .cons (intKind_is _ _ _ _) (oz t)
section
variable{X:Cx}{Lo:List (Addr × Obj)}{Z:L2.St}{H:Hp}{s:Shared}
def gA(i:Inv X Lo Z H s)(h:SqT X.K H a (k.map V.int)):TK X.prog X.w s.heap k a:=by obtain⟨f,j,⟨o,l,r,n,hd⟩,_⟩:=i.tuple h;exact⟨o,f.toArray,n,l,r,hd,by simpa using oz j⟩
def vG(f:Inv X Lo Z H s)(h:Eh X.K H ys ks)(l:aD ys its):Cs X.prog X.w s.heap its.toArray ks:=by
 refine⟨by simp[<-l.length,h.1],λi v k hv r=>?_⟩;have B:i<ys.length:=by rw[h.1];exact(qp.mp r).1
 obtain⟨a,e,y⟩:=h.2 i ys[i] k (by simp) r;obtain⟨u,z,j⟩:=l.get (show ys[i]?=J ys[i] by simp)
 have:v=u:=by simp_all
 subst this;rw[e]at j;exact⟨a,j,gA f y⟩
end
def FF(prog:Program)(w:World)(S:Addr)(i:List (TR×Addr))(h:Heap):Prop :=
 ∃o a f t,h.get? S=J o/\o.ExactSet/\o.data=.set a f t/\t.dummies=#[]/\(t.mask=7\/t.mask=31\/t.mask=127)/\t.plain=I/\t.led=bX w /\
  WF t.mask t.place (a.map (·.1))/\lp t a.size/\a.toList=i.map λp=>(TH prog w p.1,Value.ref p.2)
def Ib(f:de prog w P h S (bX w) ks):
  ∃j,FF prog w S j h/\(j.map (·.1)).Perm ks/\∀p∈j,TK prog w h p.1 p.2/\P p.2:=by
 obtain⟨o,L,M,t,G,f,W,z,U⟩:=f;have key:∀(l:List (Int×Value))(r:TU),l.length=r.length->(∀(i:Nat)(e:Int×Value)(k:TR),l[i]?=J e->r[i]?=J k->∃a,e.2=.ref a/\TK prog w h k a/\e.1=TH prog w k/\P a) ->
   ∃j:List (TR×Addr),l=j.map (λp=>(TH prog w p.1,Value.ref p.2))/\j.map (·.1)=r/\∀p∈j,TK prog w h p.1 p.2/\P p.2:=by
  intro l
  induction l with
  |nil =>
   intro r y _
   have:=CT.mp (by simpa using y.symm)
   subst this;exact⟨[],rfl,rfl,λp u=>by cases u⟩
  |cons e l Q =>
   intro r y g
   cases r with
   |nil=>simp at y
   |cons k r =>
    obtain⟨a,e1,e2,e3,e4⟩:=g 0 e k rfl rfl;obtain⟨j,H,E,F⟩:=Q r (by simpa using y) λi O R B C=>g (i+1) O R (by simpa using B) (by simpa using C);refine⟨(k,a)::j,?_,by simp[E],λp u=>?_⟩
    .congr 1;obtain⟨Z,X⟩:=e;simp only at e1 e3;rw[e1,e3]
    .rcases l_.mp u with rfl|u
     .exact⟨e2,e4⟩
     .exact F p u
 obtain⟨j,H,E,F⟩:=key L.toList G (by exact f.ents.1) λi e k B C=>f.ents.2 i e k (by rw[<-v7];exact B) C;exact⟨j,⟨o,L,M,t,f.get,f.ex,f.data,f.dm,f.mask,f.plain,f.led',f.wf,W,H⟩,by rw[E];exact z,F⟩
def Ei(p:FF prog w S f h)(O:∀q∈f,TK prog w h q.1 q.2)(y:(f.map (·.1)).Nodup):
  de prog w (PB h λa=>∃k,(k,a)∈f) h S (bX w) (f.map (·.1)):=by
 obtain⟨o,Q,E,t,M,G,F,U,H,W,R,P,X,j⟩:=p;refine⟨o,Q,E,t,f.map (·.1),⟨M,G,F,U,H,W,R,P,?_,λi e k l u=>?_⟩,X,List.Perm.refl _,y⟩
 .rw[<-As,j];simp
 .rw[<-v7,j,tx]at l;rw[tx]at u
  cases r:f[i]? with
  |none=>rw[r]at l;cases l
  |some q =>
   rw[r]at l u;cases l;cases u;have C:=Be r;have B:=O q C;exact⟨q.2,rfl,B,rfl,let⟨L,_,_,z,_⟩:=B;⟨L,z⟩,q.1,C⟩
def ww(p:FF prog w S al h1)(k:∀o,h1.get? S=J o->h2.get? S=J o):FF prog w S al h2:=by obtain⟨o,i,f,t,a,r⟩:=p;exact⟨o,i,f,t,k o a,r⟩
section
variable{X:Cx}{N W G:TQ}{k:Nat}
def x4(hh:X.calm=I)(hr:Room k X.A):ci X (.type "set") (λxs H Q=>∃l ys y,xs=[.ref l]/\SqL X.K H l ys/\Eh X.K H ys y/\(oI y).length<=66 /\
  ∀S j,H S=Y->(j.map (·.1)).Perm (oI y)->(∀p∈j,SqT X.K H p.2 (p.1.map V.int))->Q (.ref S) (lf H S (.ext (FF X.prog X.w S j)))):=by
 intro Lo s Z H xs us Q f r ⟨l,ys,y,e,hq,O,R,q⟩;subst e;obtain⟨u,rfl,rx⟩:=fj r;cases rx;obtain⟨P,M,pl,hz⟩:=f.list hq;have lie:=vG f O M;refine qN (f.ok.hd hh) (by have:=hr.units;lia) pl.isList lie R λh' tk C x aj=>?_;obtain⟨j,U,pm,F⟩:=Ib C;have E:=f.hok.fresh (ia s.heap.objs.size);obtain⟨o,es,ep,t,ho,ah⟩:=id U;refine⟨.ref s.heap.objs.size,_,f.laid (o:=.ext (FF X.prog X.w s.heap.objs.size j)) x (ia _) ⟨U,⟨o,ho⟩,λh1 h2 a b=>ww a b⟩,rfl,q _ j E pm λp hp=>?_⟩;obtain⟨t1,⟨_,hm⟩⟩:=F p hp;obtain⟨i,hi⟩:=zm.mp hm;have z:P[i]?=J (.ref p.2):=by simpa using hi
 have L:=(qp.mp z).1;have B:i<ys.length:=by rw[M.length];exact L
 have ab:i<y.length:=by rw[<-O.1];exact B
 obtain⟨a,e,s1⟩:=O.2 i ys[i] y[i] (by simp) (by simp);obtain⟨u,eu,ru⟩:=M.get (show ys[i]?=J ys[i] by simp);rw[z]at eu;cases eu;rw[e]at ru;have ea:p.2=a:=by cases ru;rfl
 have t2:=kR x (gA f s1);rw[<-ea]at t2
 have:=IsTupleKey.inj t1 t2
 rw[this,ea];exact s1
def uG{Lo:T0}{s:Shared}{Z:L2.St}{H:Hp}{Q:VK}{R:Value->Prop}{h':Heap}{tk:Nat}{l:Addr}{S E:TU}{j:TZ}(F:Inv X Lo Z H s)(f:Told X.prog X.w R s.heap s.heap h' l S j E)(hR:∀v,R v->∃(a:Addr)(k:TR),v=.ref a/\SqT X.K H a (k.map V.int))(hz:S.length<=66)(q:∀l ys,H l=Y->Eh X.K H ys (bL S)->Q (.ref l) (lf H l (.lst ys))):EP X Lo Z Q (.ref l) { s with heap:=h',toks:=tk}:=by
 have M:=f.size;have P:=nj f.ris (jT S) (f.perm.trans (bP S).symm);obtain⟨c,hc⟩:=f.at';have z:j.length=E.length:=by have:=f.lie.1;simpa using this
 have B:∀v∈j,∃a,v=.ref a:=λv hv=>let⟨a,_,e,_⟩:=hR v (f.mem v hv);⟨a,e⟩;obtain⟨ys,U,C⟩:∃ys:List V,aD ys j/\∀y∈ys,∃a,y=.ref a/\Value.ref a∈j:=by
  clear z f hR P hc
  induction j with
  |nil=>exact⟨[],.nil,λy C=>by cases C⟩
  |cons v j ih =>
   obtain⟨a,rfl⟩:=B v pa;obtain⟨ys,r,g⟩:=ih (λu hu=>B u (l7 _ hu));refine⟨.ref a::ys,.cons rfl r,λy C=>?_⟩;rcases l_.mp C with rfl|C
   .exact⟨a,rfl,pa⟩
   .obtain⟨b,e,m⟩:=g y C;exact⟨b,e,l7 _ m⟩
 have L:Eh X.K H ys E:=by
  refine⟨by rw[U.length,z],λi y k O hk=>?_⟩;obtain⟨u,eu,ru⟩:=U.get O;obtain⟨a,e,m⟩:=C y (Be O);subst e;cases ru;obtain⟨b,k2,e2,s1⟩:=hR _ (f.mem _ m);cases e2;obtain⟨b2,e3,t⟩:=f.lie.2 i (.ref a) k (by simpa using eu) hk;cases e3
  have:=IsTupleKey.inj t (gA F s1)
  subst this;exact⟨a,rfl,s1⟩
 have ab:=F.hok.fresh M;refine⟨.ref l,_,F.laid (o:=.lst ys) f.ext M (⟨?_,j,c,U,hc⟩),rfl,q l ys ab (by rw[<-P];exact L)⟩;rw[U.length,z,f.perm.length_eq,sizeLine_eq];lia
def uc(F:X.calm=I):ci X (.builtin "sorted") (λxs H Q=>∃S i,xs=[.ref S]/\H S=J (.ext (FF X.prog X.w S i))/\(∀p∈i,SqT X.K H p.2 (p.1.map V.int))/\(i.map (·.1)).Nodup/\(∀p∈i,p.1≠[])/\i.length<=66 /\
  ∀l ys,H l=Y->Eh X.K H ys (bL (i.map (·.1)))->Q (.ref l) (lf H l (.lst ys))):=by
 intro Lo s Z H xs us Q f r ⟨S,i,e,U,j,B,C,E,q⟩;subst e;obtain⟨u,rfl,rx⟩:=fj r;cases rx;obtain⟨L,_,_⟩:=(f.hok S _ U);have y:=Ei L (λp z=>gA f (j p z)) B;refine vY (f.ok.hd F) y (λb o e=>e) (λk P=>?_) (by simpa using E) λh' tk l ab R td M=>?_
 .obtain⟨p,z,rfl⟩:=ml.mp P;exact C p z
 .refine uG f td (λv ⟨a,e,k,O⟩=>⟨a,k,e,j (k,a) O⟩) (by simpa using E) q
def sg:ci X (.builtin "sorted") (λxs H Q=>∃l ys j,xs=[.ref l]/\SqL X.K H l ys/\Eh X.K H ys j/\(∀k∈j,k≠[])/\j.length<=66 /\
  ∀B z,H B=Y->Eh X.K H z (bL j)->Q (.ref B) (lf H B (.lst z))):=by
 intro Lo s Z H xs us Q f r ⟨l,ys,j,e,hq,L,E,S,q⟩;subst e;obtain⟨u,rfl,rx⟩:=fj r;cases rx;obtain⟨al,F,pl,ah⟩:=f.list hq;refine uz pl.isList (vG f L F) E S λh' tk B aj ab td U=>?_;refine uG f td (λv hv=>?_) S q;obtain⟨i,M⟩:=zm.mp hv;have C:=(qp.mp M).1;have y:i<ys.length:=by rw[F.length];exact C
 have O:i<j.length:=by rw[<-L.1];exact y
 obtain⟨a,e,s1⟩:=L.2 i ys[i] j[i] (by simp) (by simp);obtain⟨u,P,R⟩:=F.get (show ys[i]?=J ys[i] by simp);rw[M]at P;cases P;rw[e]at R;exact⟨a,_,R,s1⟩
def cO(h:MH):PV->Option (TN)
 |.frl xs=>J xs
 |.loc n=>(match h[n]? with
  |some (.lst xs)=>J xs
  |_=>Y)
 |_=>Y
def pr{U:TX}{H:Hp}{h:MH}{x:PV}{y:V}{xs:TN}{K:hU}{mg:Ca}(l:RH K mg U H h)(r:RP K U H x y)(e:cO h x=J xs):∃a f,y=.ref a/\SqL K H a f/\RPs K U H xs f:=by
 cases r with
 |frl s r=>cases e;exact⟨_,_,rfl,s.sq,r⟩
 |@loc n a z =>
  obtain⟨o,u,B⟩:=l.obj z;unfold cO at e;dsimp only at e;rw[u]at e
  cases o with
  |lst f =>
   cases e;obtain⟨ys,i,j⟩:=B;exact⟨a,ys,rfl,SqL.of i,j⟩
  |_=>cases e
 |_=>cases e
def TB(m:Mx (TN)):Mx PV:=λZ h=>(m Z h).bind λi a=>match i with
 |[x]=>(match (cO a x).bind iD with
  |some f=>if(∀k∈f,k≠[])/\(oI f).length<=66 then .ok (.loc a.length) (a++[.lst ((bL (oI f)).map kP)])else .bad
  |none=>.bad)
 |_=>.bad
def gB(l:TU):(oI l).Nodup:=by
 have key:∀(m:TU)(a:TU),a.Nodup->(m.foldl SetT.bh a).Nodup:=by
  intro m
  induction m with
  |nil=>intro a h;exact h
  |cons k m r =>
   intro a h;refine r _ ?_;unfold SetT.bh;split
   .exact h
   .rename_i j
    rw[Bg];refine⟨h,by simp,λx f y i=>?_⟩
    have:y=k:=by simpa using i
    subst this;rintro rfl;exact j f
 exact key l [] Oe
def oC(p:l.Perm m):bL l=bL m:=nj (jT l) (jT m) ((bP l).trans (p.trans (bP m).symm))
def sC(g:Good X N W G k){a:Expr}{m:Mx (TN)}{i j:Nat}{p p' R r:Pos}(hi:G[i]?=J "sorted")(hm:X.mg "sorted"=Y)(hj:G[j]?=J "set")(ah:X.mg "set"=Y)(ha:MA X [a] m)(hs:starEach [a] X.env=[(T,eval a X.env)]:=by rfl)(he:starEach [.Call (.Name "set" p') [a] [] r] X.env=[(T,eval (.Call (.Name "set" p') [a] [] r) X.env)]:=by rfl):
  ME X (.Call (.Name "sorted" p) [.Call (.Name "set" p') [a] [] r] [] R) (TB m):=by
 have d:=g.dbg _ (q0 _ (aN hi));have d':=g.dbg _ (q0 _ (aN hj));refine PE.imp (jA (uc g.calm) (g.gl _ (aN hi)) hm PyProof.Rows.Boot.«sorted» (fJ (gE (x4 g.calm g.room) (g.gl _ (aN hj)) ah PyProof.Rows.Boot.«set» ha d'.2.2 d'.1 hs rfl) jh he) d.2.2 d.1 he rfl) λZ H Q ⟨U,ab,h,rs,rh,q⟩=>?_;refine⟨U,ab,h,rs,rh,Ful.bind q λU1 H1 x x' h1 ex l1 u rx f=>?_⟩
 cases rx with
 |nil=>exact f.elim
 |@cons y y' _ _ r1 t1 =>
  cases t1 with
  |cons _ _=>exact f.elim
  |nil =>
   dsimp only at f
   cases F:cO h1 y with
   |none=>rw[F]at f;exact f.elim
   |some xs =>
    rw[F]at f
    cases hk:iD xs with
    |none=>simp only[A4,hk]at f;exact f.elim
    |some B =>
     simp only[A4,hk]at f;by_cases z:(∀k∈B,k≠[])/\(oI B).length<=66
     .rw[b_ z]at f;obtain⟨la,zs,rfl,aj,C⟩:=pr u r1 F;rw[o5 hk]at C;refine⟨la,zs,B,rfl,aj,pG C,z.2,λS al hS pm O=>?_⟩;obtain⟨L,l2⟩:=u.loose hS (.ext (FF X.prog X.w S al));refine⟨S,al,rfl,bU,λp E=>l2.sqt (O p E),pm.nodup_iff.mpr (gB B),λp E=>?_,?_,λl ys P tk=>?_⟩
      .have:p.1∈oI B:=pm.mem_iff.mp (ml.mpr ⟨p,E,rfl⟩)
       exact z.1 p.1 ((fY _ _).mp this)
      .have:=pm.length_eq
       rw[mm]at this;rw[this];exact z.2
      .rw[oC pm]at tk;obtain⟨M,l3⟩:=L.new P (o:=.lst ((bL (oI B)).map kP)) (ho:=.lst ys) ⟨_,rfl,pF tk⟩;exact f _ _ _ (l2.trans l3) M (.loc (by rw[<-u.len];simp))
     .rw[e_ z]at f;exact f.elim
end
end MM
namespace SeqT
abbrev Ic(tp:Bool):String:=if tp then "tuple_iterator" else "list_iterator"
abbrev SK(tp:Bool):String:=if tp then "tuple" else "list"
def SqI(j:Bool)(h:Heap)(f a:Addr)(i:Nat):Prop:=∃o,h.get? f=J o/\o.cls=.type (Ic j)/\o.data=.fields #[.ref a,.int i 0]
def SqO(f:Bool)(h:Heap)(a:Addr)(xs:Array Value):Prop:=∃o,h.get? a=J o/\o.cls=.type (SK f)/\∃n,o.data=.seq xs n
def SqI.at'(x:SqI tp h it a i)(k:∀o,h.get? it=J o->h'.get? it=J o):SqI tp h' it a i:=let⟨o,e,r⟩:=x;⟨o,k o e,r⟩
def SqO.at'(x:SqO tp h a xs)(k:∀o,h.get? a=J o->h'.get? a=J o):SqO tp h' a xs:=let⟨o,e,r⟩:=x;⟨o,k o e,r⟩
def SqI.lt(x:SqI tp h it a i):it<h.objs.size:=let⟨_,e,_⟩:=x;nw e
section
variable{prog:Program}{w:World}{A:Around}{E:T7}{s:Shared}
def zf(B:SqI tp s.heap it a i)(z:SqO tp s.heap a xs)(u:xs[i]?=J x)(y:∀j,SqI tp j it a (i+1)->Heap.SameBut it s.heap j->Q x { s with heap:=j}):wpAny (model prog w) A (Builtin.SmallTypes.nextOf (.ref it)) Q E s:=by
 cases tp with
 |false=>exact wpAny_nextOf_list_item (B) (z) u y
 |true =>
  obtain⟨o,e,C,hd⟩:=id B;obtain⟨G,l,_,H,f⟩:=z;have r:s.TypeIs (.ref it) "tuple_iterator":=⟨o,e,C⟩;refine d_ (wpAny_callSpecial?_slot r F.slot_tuple_iterator_next (wpAny_call_entry F.slot_tuple_iterator_next r F.entry_tuple_iterator_next ?_ (F.args_tuple_iterator_next_1 _)));show wpAny _ _ (field (.ref it) 0 >>= _) _ _ s;refine d_ (wpAny_field e hd rfl ?_);refine d_ (wpAny_field e hd rfl ?_);refine d_ (wpAny_seqItems l f ?_);simp only[xp,u];refine d_ (wpAny_setField e hd (by simp) (ii ⟨x,rfl,ii (y _ ?_ (Heap.SameBut.update ..))⟩));exact⟨_,JY _ e (Obj.isFreed_of_fields (Obj.data_mapFields hd _)),(Obj.cls_mapFields ..).trans C,by rw[Obj.data_mapFields hd];simp[rawInt]⟩
def ug(z:A.handled=Y)(B:SqI tp s.heap it a i)(y:SqO tp s.heap a xs)(u:xs[i]?=Y)(C:∀j e,Heap.ExtBut it s.heap j->(∃o,j.get? e=J o/\o.cls=.type "StopIteration")->E (.ref e) { s with heap:=j}):wpAny (model prog w) A (Builtin.SmallTypes.nextOf (.ref it)) Q E s:=by
 cases tp with
 |false=>exact wpAny_nextOf_list_end z (B) (y) u C
 |true =>
  obtain⟨o,e,G,hd⟩:=id B;obtain⟨H,l,_,L,f⟩:=y;have r:s.TypeIs (.ref it) "tuple_iterator":=⟨o,e,G⟩;refine d_ (wpAny_callSpecial?_slot r F.slot_tuple_iterator_next (wpAny_call_entry F.slot_tuple_iterator_next r F.entry_tuple_iterator_next ?_ (F.args_tuple_iterator_next_1 _)));show wpAny _ _ (field (.ref it) 0 >>= _) _ _ s;refine d_ (wpAny_field e hd rfl ?_);refine d_ (wpAny_field e hd rfl ?_);refine d_ (wpAny_seqItems l f ?_);simp only[xp,u];refine d_ (wpAny_rule (d_ (wpAny_setField e hd (by simp) ?_)));refine d_ ?_;refine d_ (m:=firstArgMember _ _) (wpAny_of_eq (by first | rfl | (simp only)) ?_);refine wpAny_newObj_type ?_ (by size_fits);refine d_ (wpAny_handled ?_);rw[show A.in1.handled=Y from z];refine d_ (ii (wpAny_throw ?_));exact C _ _ (((Heap.SameBut.update ..).extBut.push _).push _) ⟨_,s_ _ rfl,rfl⟩
def oU(i:SqO tp s.heap a xs)(f:Q (.ref s.heap.objs.size) { s with heap:=s.heap.push { cls:=.type (Ic tp),data:=.fields #[.ref a,.int 0 0]}}):wpAny (model prog w) A (pyIter (.ref a)) Q E s:=by
 cases tp with
 |false=>exact wpAny_pyIter_list (i) f
 |true=>exact wpAny_pyIter_tuple (i) f
end
def Mr(B:A.handled=Y)(y:Bool)(l a:Addr)(r:a≠l)(xs:Array Value):
  Draws prog w A l [l,a] xs.size (λi v=>xs[i]?=J v) (λi h=>SqI y h l a i/\SqO y h a xs) where
 live:=λ_ _ st=>let⟨o,z,_⟩:=st.1;⟨o,z⟩
 frame:=λ_ _ _ st u=>⟨st.1.at' λo e=>u l (by simp) o e,st.2.at' λo e=>u a (by simp) o e⟩
 item:=λi s Q E H st G=>by
  refine zf st.1 st.2 (x:=xs[i]) (by simp) λC f j=>?_;exact G _ C s.toks (by simp) ⟨f,st.2.at' λo e=>(j.2 a r).trans e⟩ j
 done:=λs Q E st F=>ug B st.1 st.2 (by simp) F
def Aq(i:Bool)(a:Addr)(xs:Array Value)(n:Nat)(j:Option Addr)(sl:Array (T1)):
  Meets (Builtin.«enumerate.__new__» ⟨[.type "enumerate",.ref a],[]⟩) (λ_ R s=>s.heap.get? a=J { cls:=.type (SK i),dict:=j,data:=.seq xs n,slots:=sl} /\
   R (.ok (.ret (.ref (s.heap.push { cls:=.type (Ic i),data:=.fields #[.ref a,.int 0 0]}).objs.size)))
    { s with heap:=(s.heap.push { cls:=.type (Ic i),data:=.fields #[.ref a,.int 0 0]}).push { cls:=.type "enumerate",data:=.fields #[.none,.bool T,.ref s.heap.objs.size,rawInt 0,.none,.none]}}) :=
 .of_wp λprog w A R s h=>by
  obtain⟨r,g,d,u,os⟩:=s;obtain⟨f,h⟩:=h;have l:=sub_enumerate;have hL:SqO i (Shared.heap ⟨r,g,d,u,os⟩) a xs:=⟨_,f,rfl,n,rfl⟩
  wp_walk using AutoSeq1.wpAny_loadPart' f
  refine wpAny_stack_any λst=>ii ?_;split
  .rename_i c _ _ _ _ _
   cases(c==Value.type "enumerate")
   .wp_walk using AutoSeq1.wpAny_loadPart' f,oU hL
    exact⟨_,rfl,h⟩
   .wp_walk using AutoSeq1.wpAny_loadPart' f,oU hL
    exact⟨_,rfl,h⟩
  .wp_walk using AutoSeq1.wpAny_loadPart' f,oU hL
   exact⟨_,rfl,h⟩
section
variable{prog:Program}{w:World}{A:Around}{E:T7}{s:Shared}
def yR(hL:SqO tp s.heap a xs)(h:∀f,IsEnum f (s.heap.objs.size+1) s.heap.objs.size 0 .none->SqI tp f s.heap.objs.size a 0->f.objs.size=s.heap.objs.size+2 ->
   (∀b o,s.heap.get? b=J o->f.get? b=J o)->Q (.ref (s.heap.objs.size+1)) { s with heap:=f}):
  wpAny (model prog w) A (call (.type "enumerate") [.ref a]) Q E s:=by
 obtain⟨⟨c,j,y,sl⟩,r,u,n,hd⟩:=hL;subst u hd;refine callType_new F.called_enumerate (by decide) (F.typeCall_enumerate_1 _) (F.newCall_enumerate_1 _) (λobj=>F.args_object_init_2 obj _) F.entry_enumerate_new (Aq tp a xs n j sl) ⟨r,?_⟩;have i:(s.heap.push { cls:=.type (Ic tp),data:=.fields #[.ref a,.int 0 0]}).objs.size=s.heap.objs.size+1:=Fj ..;rw[i]
 have l:IsEnum ((s.heap.push { cls:=.type (Ic tp),data:=.fields #[.ref a,.int 0 0]}).push
   { cls:=.type "enumerate",data:=.fields #[.none,.bool T,.ref s.heap.objs.size,rawInt 0,.none,.none]}) (s.heap.objs.size+1) s.heap.objs.size 0 .none:=by
  have:=s_ (s.heap.push { cls:=.type (Ic tp),data:=.fields #[.ref a,.int 0 0]})
   (o:={ cls:=.type "enumerate",data:=.fields #[.none,.bool T,.ref s.heap.objs.size,rawInt 0,.none,.none]}) rfl
  rw[i]at this;exact this
 exact⟨⟨_,l,rfl⟩,h _ l ⟨_,n7 _ (s_ _ rfl),rfl,rfl⟩ (by rw[Fj,i]) λb o x=>n7 _ (n7 _ x)⟩
end
section
variable{prog:Program}{w:World}{A:Around}{E:T7}{s:Shared}{z TI TO i1 i2 l1 l2:Addr}{t1 t2:Bool}{k1 k2:Nat}{xs ys:Array Value}
end
section
variable{prog:Program}{w:World}{A:Around}{E:T7}{s:Shared}
end
end SeqT
namespace MM
open PySem.Spec PyProof.Rows L2 SeqT
def FG(f:Bool)(K:hU)(H:Hp)(a:Addr)(ys:List V):Prop:=match f with
 |true=>SqT K H a ys
 |false=>SqL K H a ys
section
variable{X:Cx}{Lo:List (Addr × Obj)}{Z:L2.St}{H:Hp}{s:Shared}
def sd(i:Inv X Lo Z H s)(h:FG tp X.K H a ys):∃f:TZ,aD ys f/\SqO tp s.heap a f.toArray/\ys.length<=sizeLine:=by
 cases tp with
 |true =>
  obtain⟨f,j,l,r⟩:=i.tuple h;exact⟨f,j,l,r⟩
 |false =>
  obtain⟨f,j,l,r⟩:=i.list h;exact⟨f,j,l.isList,r⟩
def Ej(f:Inv X Lo Z H s)(h:FG tp X.K H a xs)(i:FG tp X.K H a ys):xs=ys:=by
 cases tp with
 |true=>exact f.tuple_inj h i
 |false=>exact f.list_inj h i
def nZ(f:Inv X Lo Z H s){l:Heap}{t':Nat}{j:TX}(hf:∀b∈j,jb X Lo H b)(k:∀b o,b∉j->s.heap.get? b=J o->l.get? b=J o):
  Inv X Lo Z H { s with heap:=l,toks:=t'}:=by
 have i:∀b u,H b=J u->b∉j:=λb u e z=>by rw[(hf b z).1]at e;cases e
 refine f.step (g':=s.gens) (d':=s.drawn) (λb F=>?_) (λb o _ _ a e _=>k b o a e) (λb o _ _ a e _=>⟨o.slots,k b o a e⟩) (λ_ _ _ _ n=>n)
  (λb o a e=>⟨o,k b o a e⟩) (λ_ _ e=>e) (λ_ _ _ e=>e) (λb P e=>⟨#[],by rw[e];simp⟩) (λm E=>?_) (λb u e=>?_) f.bare
 .obtain⟨Q,O,R,C,M,G⟩:=hf b F;exact⟨C,O,M,G⟩
 .obtain⟨o,L,y,B,r⟩:=E;exact⟨o,L,y,k _ o (λz=>(hf _ z).2.1 rfl) B,r⟩
 .refine (f.hok b u e).stay (λc v a q=>k c v ?_ q) (λ_ q=>q) λ_ _ q=>q;rcases a with z|z
  .rw[z];exact i b u e
  .exact i c _ z
def Ek(i:Inv X Lo Z H s){h':Heap}{t':Nat}{ch:TX}{ys:List V}{its:TZ}(hf:∀b∈ch,jb X Lo H b)(B:aD ys its)(C:ys.length<=sizeLine)(j:s.heap.objs.size∉ch)(F:h'.get? s.heap.objs.size=J { cls:=.type "tuple",data:=.seq its.toArray})(k:∀b o,b∉ch->s.heap.get? b=J o->h'.get? b=J o):
  Inv X Lo Z (lf H s.heap.objs.size (.tup ys)) { s with heap:=h',toks:=t'}/\(∀b∈ch,(lf H s.heap.objs.size (.tup ys)) b=Y)/\H s.heap.objs.size=Y:=by
 have r:=i.hok.fresh (ia s.heap.objs.size);have y:∀b∈ch,b≠s.heap.objs.size:=λb a z=>j (by rw[<-z];exact a);have E:Inv X Lo Z (lf H s.heap.objs.size (.tup ys)) { s with heap:=s.heap.push { cls:=.type "tuple",data:=.seq its.toArray},toks:=s.toks} :=
  i.laid (λb u q=>n7 _ q) (ia _) ⟨C,its,B,_,s_ _ rfl,rfl,⟨_,rfl⟩,rfl⟩
 have f:∀b∈ch,(lf H s.heap.objs.size (.tup ys)) b=Y:=λb a=>by rw[aY (y b a)];exact(hf b a).1
 refine⟨?_,f,r⟩;refine nZ (t':=t') E (λb a=>⟨f b a,(hf b a).2⟩) λb o a e=>?_;by_cases z:b=s.heap.objs.size
 .have l:(s.heap.push { cls:=.type "tuple",data:=.seq its.toArray}).get? s.heap.objs.size=J { cls:=.type "tuple",data:=.seq its.toArray}:=s_ _ rfl
  grind
 .have l:=e;rw[Heap.get?_push_ne _ _ _ z]at l;exact k b o a l
end
def TC(K:hU)(f:Bool)(a:Addr):It :=
 ⟨λi H=>∃ys y,FG f K H a ys/\ys[i]?=J y,λi H x j=>∃p y,H p=Y/\x=.ref p/\j=lf H p (.tup [.int i,y])/\∀ys,FG f K H a ys->ys[i]?=J y,λi H=>∃ys,FG f K H a ys/\ys.length<=i⟩
def xE{P:Program}{w:World}{K:hU}{O:T5}{x1:Nat}{ap:Pos}(tp:Bool)(a e j:Addr)(L:e≠j)(as:a≠e)(ay:a≠j):
  Ci P w K (.Tuple O x1 ap) (TC K tp a) [e,j] e (λi h=>(∃old,IsEnum h e j i old)/\SqI tp h j a i) where
 mem:=by simp
 obj:=λi h st b M=>by
  obtain⟨⟨old,l⟩,C⟩:=st
  have:b=e\/b=j:=by simpa using M
  rcases this with rfl|rfl
  .exact⟨_,l,λv z=>nomatch z⟩
  .obtain⟨o,ho,U,hd⟩:=C;exact⟨o,ho,λv z=>by rw[hd]at z;cases z⟩
 keep:=λi h h' st k=>let⟨⟨old,l⟩,C⟩:=st;⟨⟨old,k e (by simp) _ l⟩,C.at' λo q=>k j (by simp) o q⟩
 item:=by
  intro X hP hw hK U i Lo s Z H E f hf st hg;subst hP hw hK;obtain⟨⟨old,l⟩,C⟩:=st;obtain⟨ys,y,hq,hy⟩:=hg;obtain⟨r,rv,so,hz⟩:=sd f hq;obtain⟨u,hu,ru⟩:=rv.get hy;have al:i<r.toArray.size:=by
   have:=(qp.mp hu).1
   simpa using this
  have F:(X.A.in1).handled=Y:=by have:=f.ok.hd U;simpa using this
  refine wpAny_pyNext_enum_itemD (Mr F tp j a ay r.toArray) l ⟨C,so⟩ al L (by simp[L,Ne.symm as]) λx h1 W hx a0 a1 a4 a8 a6=>⟨_,rfl,?_⟩;have a3:x=u:=by
   have:r.toArray[i]?=J u:=by simpa using hu
   rw[this]at hx;exact(Option.some.inj hx).symm
  subst a3;refine wpAny_letOwnedTupleGo_enum (s:={ s with heap:=h1,toks:=W+1}) a0 λh2 a2 G=>?_;have B:e<s.heap.objs.size:=nw l;have R:j<s.heap.objs.size:=C.lt;obtain⟨I2,an,aj⟩:=Ek (t':=W+1) (h':=h2) f (ch:=[e,j]) (ys:=[.int i,y]) (its:=[.int i W,x]) hf (.cons ⟨W,rfl⟩ (.cons ru .nil)) (by rw[sizeLine_eq];show 2<=_;decide)
   (by simp only[l_,J6,or_false,not_or];exact⟨C2 B,C2 R⟩)
   ((G.2 _ (C2 B)).trans a4)
   (λb o M q=>by
    have S:b≠e:=λz=>M (by simp[z]);have ab:b≠j:=λz=>M (by simp[z])
    exact(G.2 b S).trans (a6 b o S ab q))
  refine⟨.ref s.heap.objs.size,_,I2,rfl,⟨_,y,aj,rfl,rfl,λzs am=>by rw[Ej f am hq];exact hy⟩,⟨⟨x,by simpa using a2⟩,?_⟩,an⟩;exact a1.1.at' λo q=>(G.2 j (Ne.symm L)).trans q
 done:=by
  intro X hP hw hK U i Lo s Z H E f hf st hg;subst hP hw hK;obtain⟨⟨old,l⟩,C⟩:=st;obtain⟨ys,hq,hy⟩:=hg;obtain⟨r,rv,so,hz⟩:=sd f hq;have F:(X.A.in1).handled=Y:=by have:=f.ok.hd U;simpa using this
  have a7:=rv.length;have hT:s.TypeIs (.ref e) "enumerate":=⟨_,l,rfl⟩;unfold pyNext;refine d_ (wpAny_attempt (wpAny_callSpecial?_slot (name:=Str.ofString "__next__") hT PySem.F.slot_enumerate_next (wpAny_call_entry PySem.F.slot_enumerate_next hT PySem.F.entry_enumerate_next ?_ (PySem.F.args_enumerate_next_1 _))));show wpAny _ _ (field (.ref e) 2 >>= _) _ _ _;refine d_ (wpAny_field l rfl (x:=.ref j) rfl ?_);refine d_ (ug F C so (by simp;ext) λh1 x ax ah=>?_);obtain⟨o,ho,a5⟩:=ah;refine d_ (wpAny_isInstance (T:="StopIteration") (b:=I) ⟨o,ho,a5⟩ isSubtype_stop ?_);refine ii ⟨rfl,nZ (t':=s.toks) f hf λb o M q=>ax b o (λz=>M (by simp[z])) q⟩
 self:=λA i s Q E st h=>let⟨⟨old,l⟩,_⟩:=st;wpAny_pyIter_enum l h
def f9(v:PV)(h:MH):Option (Bool×TN×List (Nat×TN)):=match v with
 |.loc n=>(match h[n]? with
  |some (.lst xs)=>J (T,xs,[(n,xs)])
  |_=>Y)
 |.frl xs=>J (T,xs,[])
 |.tup xs=>J (I,xs,[])
 |_=>Y
def Ie{X:Cx}{U:TX}{H:Hp}{h:MH}{x:PV}{y:V}{E:Bool}{xs:TN}{gd:List (Nat×TN)}(L:RH X.K X.mg U H h)(r:RP X.K U H x y)(e:f9 x h=J (E,xs,gd)):
  ∃a,y=.ref a/\(∃ys,FG E X.K H a ys)/\∀i f j,Le U H i f->RH X.K X.mg i f j->(∀p∈gd,j[p.1]?=J (.lst p.2))->∃ys,FG E X.K f a ys/\RPs X.K i f xs ys:=by
 cases r with
 |frl s r=>cases e;exact⟨_,rfl,⟨_,s.sq⟩,λi f j l _ _=>⟨_,(l.sqf s).sq,r.le l⟩⟩
 |tup s r=>cases e;exact⟨_,rfl,⟨_,s⟩,λi f j l _ _=>⟨_,l.sqt s,r.le l⟩⟩
 |@loc n a F =>
  obtain⟨o,M,O⟩:=L.obj F;unfold f9 at e;dsimp only at e;rw[M]at e
  cases o with
  |lst P =>
   cases e;obtain⟨ys,G,Q⟩:=O;refine⟨a,rfl,⟨ys,SqL.of G⟩,λi f j l C ok=>?_⟩;obtain⟨B,u,z⟩:=C.at' n a _ (l.get F) (ok (n,xs) (by simp));exact⟨B,SqL.of u,z⟩
  |_=>cases e
 |_=>cases e
def iY(xs:TN):TN:=xs.zipIdx.map λp=>.tup [.int (p.2:Int),p.1]
def xy{xs:TN}{i:Nat}{x:PV}(h:xs[i]?=J x):(iY xs)[i]?=J (.tup [.int (i:Int),x]):=by unfold iY;rw[tx,List.getElem?_zipIdx,h];simp
def qf(xs:TN):(iY xs).length=xs.length:=by simp[iY]
def QW(m:Mx (TN)):Mx MIt:=λZ h=>(m Z h).bind λf a=>match f with
 |[x]=>(match f9 x a with
  |some (_,xs,gd)=>.ok ⟨iY xs,gd⟩ a
  |none=>.bad)
 |_=>.bad
section
variable{X:Cx}{N W G:TQ}{k:Nat}
def El(g:Good X N W G k){ap:T5}{x1:Nat}{tp:Pos}{a:Expr}{m:Mx (TN)}{p an:Pos}{j:Nat}(hj:G[j]?=J "enumerate")(hm:X.mg "enumerate"=Y)(ha:MA X [a] m)(hs:starEach [a] X.env=[(T,eval a X.env)]:=by rfl):MI X (.Tuple ap x1 tp) (.Call (.Name "enumerate" p) [a] [] an) (QW m):=by
 have d:=g.dbg _ (q0 _ (aN hj));intro Lo s Z H R ax ⟨U,as,h,rs,rh,q⟩;refine wpAny_Call_Name_kw (iN ax (g.gl _ (aN hj)) hm PyProof.Rows.Boot.«enumerate» ?_ d.2.2 d.1)
 refine PyProof.Rows.callWith_type1 (k_ (ha an Lo s Z H (λvs B=>∃M Q xs,Le U H M B/\RH X.K X.mg M B Q/\RPs X.K M B xs vs/\Ful X (rM X) as M B ((match xs with
   |[x]=>(match f9 x Q with|some (_,xs,gd)=>.ok ⟨iY xs,gd⟩ Q|none=>.bad)
   |_=>.bad:Out MIt)) R) ax ⟨U,as,h,rs,rh,Ful.bind q λM B v v' Q _ l1 E rv L=>⟨M,Q,v,l1,E,rv,L⟩⟩) λus C ⟨vs,B,S,r1,M,Q,xs,l1,E,rv,L⟩=>?_) hs rfl
 cases rv with
 |nil=>exact L.elim
 |@cons y y' ys a9 ry t1 =>
  cases t1 with
  |cons _ _=>exact L.elim
  |nil =>
   dsimp only at L
   cases O:f9 y Q with
   |none=>rw[O]at L;exact L.elim
   |some z =>
    obtain⟨b,zs,gd⟩:=z;rw[O]at L;obtain⟨ad,rfl,⟨ws,a4⟩,a3⟩:=Ie E ry O;obtain⟨u,rfl,rx⟩:=fj r1;cases rx;obtain⟨a7,a8,so,hz⟩:=sd S a4;refine yR so λh' he hi a6 hk=>?_;refine wpAny_pyIter_enum he ?_;have I2:Inv X Lo Z B { C with heap:=h',toks:=C.toks}:=S.kept hk;obtain⟨oa,a0,a5,_⟩:=id so;have aj:ad<C.heap.objs.size:=nw a0;have ah:=S.hok.fresh (ia C.heap.objs.size);have am:=S.hok.fresh (Fk C.heap.objs.size);refine⟨C.heap.objs.size+1,_,_,_,B,rfl,I2,xE b ad _ C.heap.objs.size (C2 (J5 _)) (t3 (J0 aj)) (t3 aj),⟨⟨_,he⟩,hi⟩,λc hc=>?_,?_⟩
    .have:c=C.heap.objs.size+1\/c=C.heap.objs.size:=by simpa using hc
     rcases this with rfl|rfl
     .have F:=Inv.fpOk S (H':=B) (b:=C.heap.objs.size+1) (Fk _) am;exact F
     .exact Inv.fpOk S (H':=B) (ia _) ah
    .refine L M B _ (Le.refl _ _) E ?_;intro U' H' h2 i l al ok;obtain⟨P,r,ay⟩:=a3 U' H' h2 l al ok;refine⟨λf=>?_,λf=>⟨P,r,by rw[<-ay.length];rw[qf]at f;exact f⟩⟩;rw[qf]at f;have hx:zs[i]?=J (zs[i]'f):=BE f;obtain⟨w',ew,a2⟩:=ay.get hx;refine⟨⟨P,w',r,ew⟩,λx' H3 ⟨pp,y2,hp,e1,e2,ab⟩=>?_⟩;subst e1;subst e2;have ey:y2=w':=by
      have:=ab P r
      rw[ew]at this;exact(Option.some.inj this).symm
     subst ey;obtain⟨a1,l3⟩:=al.tup hp [.int i,y2];exact⟨U',_,l3,a1,xy hx,.tup (SqT.of bU) (.cons (.int _) (.cons (a2.le l3) .nil))⟩
end
end MM
namespace MM
open PySem.Spec PyProof.Rows L2 SetT SortT
def eN:TN->Option (TR)
 |[]=>J []
 |.int i::r=>(eN r).map (i::·)
 |_=>Y
def fx(l:TR):TR:=l.mergeSort λa b=>decide (a<=b)
def cY(l:TR):(fx l).Perm l:=List.mergeSort_perm _ _
def sW(l:TR):(fx l).Pairwise (·<=·):=by
 have:=R8 (le:=λa b:Int=>decide (a<=b)) (λa b c f i=>by
   simp only[decide_eq_true_eq]at f i ⊢;lia) (λa b=>by
   lia)
 unfold fx
 simp_all
def lY{l m:TR}(f:l.Pairwise (·<=·))(i:m.Pairwise (·<=·))(p:l.Perm m):l=m :=
 List.Perm.eq_of_pairwise (λa b _ _ x y=>by lia) f i p
def lz:∀{xs:TN}{k:TR},eN xs=J k->xs=k.map .int
 |[],k,h=>by cases h;rfl
 |x::r,k,h=>by
  cases x with
  |int i =>
   unfold eN at h
   cases a:eN r with
   |none=>rw[a]at h;cases h
   |some f =>
    rw[a]at h;cases h;rw[lz a];rfl
  |_=>cases h
def rP:∀(k:TR),eN (k.map .int)=J k
 |[]=>rfl
 |i::k=>by show(eN (k.map .int)).map (i::·)=_;rw[rP k];rfl
def ny(xs:TN)(h:MH):T6:=match xs with
 |[x]=>(match cO h x with
  |some ys=>(match eN ys with
   |some ns=>if ns.length<64 then .ok (.loc h.length) (h++[.lst ((fx ns).map .int)])else .bad
   |none=>(match iD ys with
    |some a=>if(∀k∈a,k≠[])/\a.length<=66 then .ok (.loc h.length) (h++[.lst ((bL a).map kP)])else .bad
    |none=>.bad))
  |none=>.bad)
 |_=>.bad
def tH:∀{ns:TR}{a:TZ},aD (ns.map V.int) a->IntsAre a ns
 |[],_,h=>by cases h;exact .nil
 |i::k,_,h=>by
  cases h with
  |cons r t =>
   obtain⟨f,rfl⟩:=r;exact .cons i f (tH t)
def tU:∀{ns:TR}{a:TZ},IntsAre a ns->aD (ns.map V.int) a
 |_,_,.nil=>.nil
 |_,_,.cons n t h=>.cons ⟨t,rfl⟩ (tU h)
section
variable{X:Cx}{N W G:TQ}{k:Nat}
def tX:ci X (.builtin "sorted") (λxs H Q=>∃l ns,xs=[.ref l]/\SqL X.K H l (ns.map V.int)/\ns.length<64/\∀z,H z=Y->Q (.ref z) (lf H z (.lst ((fx ns).map V.int)))):=by
 intro Lo s Z H xs us Q f r ⟨l,ns,e,S,hz,q⟩;subst e;obtain⟨u,rfl,rx⟩:=fj r;cases rx;obtain⟨a,F,P,U⟩:=f.list S;have y:=F.length;rw[mm]at y;refine sorted_ints P.isList (tH F) ⋯ λj R M O h3=>?_;have e:=lY h3 (sW ns) (O.trans (cY ns).symm);subst e;have B:((s.heap.push (seqObj "list" #[] 0)).update s.heap.objs.size (Obj.mapSeq (·++a.toArray))).objs.size=s.heap.objs.size+1:=by rw[Heap.size_update,size_push']
 have C:(((s.heap.push (seqObj "list" #[] 0)).update s.heap.objs.size (Obj.mapSeq (·++a.toArray))).push (seqObj "list" a.toArray 0)).get? (s.heap.objs.size+1)=J (seqObj "list" a.toArray 0):=by rw[<-B];exact s_ _ rfl
 obtain⟨c,L⟩:=i0 C j;refine⟨.ref (s.heap.objs.size+1),_,f.laid (o:=.lst ((fx ns).map V.int)) (t':=s.toks) (λb o E=>?_) (Fk _) (⟨?_,j.toList,c,tU M,?_⟩),rfl,q _ (f.hok.fresh (Fk _))⟩
 .have i:=nw E;refine iP (t3 (J0 i)) ?_ _;refine n7 _ ?_;rw[KC _ _ _ _ (t3 i)];exact n7 _ E
 .rw[mm,(cY ns).length_eq,sizeLine_eq];lia
 .unfold sortedAll;rw[L]
def yX:cg X (.builtin "sorted") ny:=by
 intro R s Z H xs O Q B r ⟨U,h,ps,u,rp,q⟩
 cases rp with
 |nil=>exact q.elim
 |@cons x y _ _ r1 S =>
  cases S with
  |cons _ _=>exact q.elim
  |nil =>
   unfold ny at q;dsimp only at q
   cases F:cO h x with
   |none=>rw[F]at q;exact q.elim
   |some P =>
    rw[F]at q;dsimp only at q;obtain⟨M,ys,rfl,j,a⟩:=pr u r1 F
    cases E:eN P with
    |some ns =>
     rw[E]at q;dsimp only at q;by_cases z:ns.length<64
     .rw[b_ z]at q;rw[lz E]at a;rw[BP a]at j;refine tX R s Z H _ O Q B r ⟨M,ns,rfl,j,z,λl i=>?_⟩;obtain⟨f,l3⟩:=u.new i (o:=.lst ((fx ns).map .int)) ⟨_,rfl,RPs.ints _⟩;exact q _ _ _ l3 f (.loc (by rw[<-u.len];simp))
     .rw[e_ z]at q;exact q.elim
    |none =>
     rw[E]at q
     cases L:iD P with
     |none=>rw[L]at q;exact q.elim
     |some C =>
      rw[L]at q;dsimp only at q;by_cases z:(∀k∈C,k≠[])/\C.length<=66
      .rw[b_ z]at q;rw[o5 L]at a;refine sg R s Z H _ O Q B r ⟨M,ys,C,rfl,j,pG a,z.1,z.2,λl ab i tk=>?_⟩;obtain⟨f,l3⟩:=u.new i (o:=.lst ((bL C).map kP)) ⟨_,rfl,pF tk⟩;exact q _ _ _ l3 f (.loc (by rw[<-u.len];simp))
      .rw[e_ z]at q;exact q.elim
end
end MM
namespace MM
open PySem.Spec PyProof.Rows L2
def vo(a:Nat->ls->MH->Prop):∀(xs:TN)(j:Nat)(Z:ls)(h:MH),a j Z h->(∀j Z h,a j Z h->it.ok h) ->
  (∀m Z h x,a (j+m) Z h->xs[m]?=J x->∃B u i f,g x Z h=.nx B u/\b B u=.nx i f/\a (j+m+1) i f) ->
  ∃i f,v9 it g b xs Z h=.nx i f/\a (j+xs.length) i f
 |[],j,Z,h,l,hok,_=>⟨Z,h,DD (hok _ _ _ l),l⟩
 |x::r,j,Z,h,l,hok,st=>by
  obtain⟨B,u,G,C,e1,e2,L⟩:=st 0 Z h x l rfl;obtain⟨E,H,e3,F⟩:=vo a r (j+1) G C L hok λm i f y q z=>by
   have:=st (m+1) i f y (by rw[show j+(m+1)=j+1+m by lia];exact q) (by simpa using z)
   rw[show j+(m+1)+1=j+1+m+1 by lia]at this;exact this
  refine⟨E,H,?_,by rw[BH,show j+(r.length+1)=j+1+r.length by lia];exact F⟩;rw[Ad (hok _ _ _ l) e1,e2];exact e3
end MM
namespace MM
open PySem.Spec PyProof.Rows L2 SetT SortT
section
variable{h:MH}{i:Int}{xs:TN}{n:Nat}
end
def fW:∀(k:TR),PyData.canLayAll0 (k.map .int)=I/\PyData.depthAll (k.map .int)<=1
 |[]=>⟨rfl,by simp[PyData.depthAll]⟩
 |i::k=>by
  obtain⟨a,b⟩:=fW k;constructor
  .simp[PyData.canLayAll0,PyData.canLay0,a]
  .simp only[n8,PyData.depthAll,PyData.depth];lia
def mw:∀(f:TU),PyData.canLayAll0 (f.map λk=>.tuple (k.map .int))=I/\PyData.depthAll (f.map λk=>.tuple (k.map .int))<=2
 |[]=>⟨rfl,by simp[PyData.depthAll]⟩
 |k::f=>by
  obtain⟨a,b⟩:=mw f;obtain⟨c,d⟩:=fW k;constructor
  .simp[PyData.canLayAll0,PyData.canLay0,a,c]
  .simp only[n8,PyData.depthAll,PyData.depth];lia
end MM
namespace MM
open PySem.Spec PyProof.Rows L2
def m5(h:MH):PV->Option Bool
 |.non=>J T
 |.bl b=>J b
 |.int i=>J (i != 0)
 |.str _=>Y
 |.tup xs=>J (!xs.isEmpty)
 |.frl xs=>J (!xs.isEmpty)
 |.loc n=>match h[n]? with
  |some (.lst xs)=>J (!xs.isEmpty)
  |_=>Y
def SM(m:Mx PV):Mx Bool:=λZ h=>(m Z h).bind λv a=>match m5 a v with
 |some b=>.ok b a
 |none=>.bad
section
variable{X:Cx}{N W G:TQ}{k:Nat}
def kC{K:hU}{U:TX}{H:Hp}{xs:TN}{ys:List V}(r:RPs K U H xs ys):(!xs.isEmpty)=!ys.isEmpty:=by cases r<;>rfl
def Ig{e:Expr}{m:Mx PV}(h:ME X e m)(M:∀l,isTrue e X.env l=(do let v <-l;standAt e.pos;holding [v] (truthy v)):=by intro _;rfl):MT X e (SM m):=by
 refine PT.imp (zO h M) λZ H Q ⟨U,C,h,P,L,q⟩=>⟨U,C,h,P,L,Ful.bind q λu y x x' S _ l1 f R j=>?_⟩
 cases R with
 |non=>exact⟨T,rfl,j u y _ (Le.refl _ _) f rfl⟩
 |bl b=>exact⟨b,rfl,j u y _ (Le.refl _ _) f rfl⟩
 |int i=>exact⟨_,rfl,j u y _ (Le.refl _ _) f rfl⟩
 |str i=>exact j.elim
 |@tup xs a ys s r=>exact⟨_,.inr (.inl ⟨ys,s,rfl⟩),by rw[<-kC r];exact j u y _ (Le.refl _ _) f rfl⟩
 |@frl xs a ys s r=>exact⟨_,.inl ⟨ys,s.sq,rfl⟩,by rw[<-kC r];exact j u y _ (Le.refl _ _) f rfl⟩
 |@loc n a e =>
  obtain⟨o,B,O⟩:=f.obj e
  cases o with
  |lst xs =>
   obtain⟨ys,E,F⟩:=O;simp only[m5,B]at j;exact⟨_,.inl ⟨ys,.inl (.inl E),rfl⟩,by rw[<-kC F];exact j u y _ (Le.refl _ _) f rfl⟩
  |dic ks xs=>simp only[m5,B]at j;exact j.elim
  |exc z=>simp only[m5,B]at j;exact j.elim
end
end MM
namespace MM
open PySem.Spec PyProof.Rows L2 PySem.W
section
variable{X:Cx}
end
end MM
namespace MM
open PySem.Spec PyProof.Rows L2
section
variable{X:Cx}{o e:Expr}{es:T5}{name:Str}{apos cpos:Pos}{id:String}{f:Str->TN->MH->T6}{m:Mx PV}{ma:Mx (TN)}
end
end MM
namespace L2
open PySem.Spec PyProof.Rows
def cy{α:Type}(xs:List α)(a:T4):List α:=match a with
 |none=>xs.reverse
 |some k=>(xs.drop (k.toNat+1)).reverse
def dS{α:Type}(m:List α):∀c,(List.range c).filterMap (λk=>m[k]?)=m.take c
 |0=>by simp
 |c+1=>by
  rw[PN,List.filterMap_append,dS m c,B9];congr 1
def tR{α β:Type}{f g:α->Option β}:∀{l:List α},(∀x∈l,f x=g x)->l.filterMap f=l.filterMap g
 |[],_=>rfl
 |x::l,h=>by rw[JZ,JZ,h x (by simp),tR λy a=>h y (l7 _ a)]
def nQ{α:Type}(l:List α){c:Nat}(f:c<=l.length):((List.range c).map λ(k:Nat)=>(((l.length:Int)-1)+(-1)*(k:Int)).toNat).filterMap (λi=>l[i]?)=(l.drop (l.length-c)).reverse:=by
 rw[List.filterMap_map]
 have:(List.range c).filterMap ((λi=>l[i]?)∘λ(k:Nat)=>(((l.length:Int)-1)+(-1)*(k:Int)).toNat)=(List.range c).filterMap (λk=>l.reverse[k]?):=by refine tR λk a=>?_;rw[C1]at a;rw[List.getElem?_reverse (by ext)];show l[(((l.length:Int)-1)+(-1)*(k:Int)).toNat]?=_;congr 1;ext
 rw[this,dS,List.take_reverse]
def qL(a:TZ){f:T4}(h:∀k,f=J k->0<=k):slicePick a.toArray Y f (J (-1))=(cy a f).toArray:=by
 unfold slicePick sliceBounds sliceRange;simp only[BG,pq,show ¬((-1:Int)>0) by decide,if_false,FX];congr 1
 cases f with
 |none =>
  dsimp only;have e:(if(a.length:Int)-1 > -1 then((a.length:Int)-1 - -1 - -1-1)/(- -1)else 0)=(a.length:Int):=by
   split
   .rw[show -(-1:Int)=1 by decide,PY];ext
   .ext
  rw[e,xp,nQ a (ia _)];simp[cy]
 |some k =>
  have i:=h k rfl;dsimp only;simp only[show ¬k<0 by ext,if_false];have e:(if(a.length:Int)-1>max (-1) (min k ((a.length:Int)-1))then((a.length:Int)-1-max (-1) (min k ((a.length:Int)-1)) - -1-1)/(- -1)else 0).toNat=a.length-(k.toNat+1):=by
   rw[show -(-1:Int)=1 by decide];split
   .rw[PY];ext
   .ext
  rw[e,nQ a (by ext)];show _=(a.drop (k.toNat+1)).reverse;by_cases z:k.toNat+1<=a.length
  .rw[show a.length-(a.length-(k.toNat+1))=k.toNat+1 by ext]
  .rw[FV (by ext),FV (by ext)]
def aD.reverse':∀{xs:List V}{a:TZ},aD xs a->aD xs.reverse a.reverse:=by
 have app:∀{xs:List V}{a:TZ}{y:V}{v:Value},aD xs a->aS y v->aD (xs++[y]) (a++[v]):=by
  intro xs
  induction xs with
  |nil=>intro a y v r i;cases r;exact .cons i .nil
  |cons x xs l=>intro a y v r i;cases r with|cons j f=>exact .cons j (l f i)
 intro xs
 induction xs with
 |nil=>intro a r;cases r;exact .nil
 |cons x xs l=>intro a r;cases r with|cons j f=>rw[J3,J3];exact app (l f) j
def yo{xs:List V}{f:TZ}(r:aD xs f)(a:T4):aD (cy xs a) (cy f a):=by
 cases a with
 |none=>exact r.reverse'
 |some k=>exact(r.drop _).reverse'
def uq{α:Type}(xs:List α)(a:T4):(cy xs a).length<=xs.length:=by cases a<;>simp[cy]
section
variable{X:Cx}{e st:Expr}{te:TE}{hi:Option Expr}{th ts:TO}{pos p2:Pos}
def TD(K:hU)(x:V)(u w:T4)(H:Hp)(Q:VK):Prop:=∃a xs,x=.ref a/\SqL K H a xs/\(∀k,u=J k->0<=k)/\w=J (-1)/\∀p,H p=Y->Q (.ref p) (lf H p (.lst (cy xs u)))
def Ih(O:PE X e te)(W:PO X hi th)(hs:PO X (J st) ts):PE X (.Subscript e (.Slice Y hi (J st) p2) pos) (λZ H Q=>te Z H λx C=>th Z C λu j=>ts Z j λw y=>TD X.K x u w y Q):=by intro i s Z H Q l h;refine Subscript_ (k_ (O i s Z H _ l h) λv M ⟨x,C,I1,r1,R⟩=>?_);refine wpAny_Slice ?_;rw[evalPart_none];refine ii ?_;refine k_ (W i M Z C _ I1 R) λE s2 ⟨u,j,I2,pu,q2⟩=>k_ (hs i s2 Z j _ I2 q2) λG f ⟨w,y,P,pw,q3⟩=>?_;obtain⟨a,xs,rfl,S,U,rfl,q⟩:=q3;cases r1;have B:Inv X i Z y { f with heap:=f.heap.push { cls:=.type "slice",data:=.fields #[.none,E,G]}}:=P.kept (t':=f.toks) λb ob q=>n7 _ q;obtain⟨z,r,F,hz⟩:=B.list S;have L:=r.length;show wpAny (model X.prog X.w) X.A (subscriptTail e (.Slice Y hi (J st) p2) (.ref a) (.ref f.heap.objs.size)) (EP X i Z Q) X.xe { f with heap:=f.heap.push { cls:=.type "slice",data:=.fields #[.none,E,G]}};refine tail_any (ops:=[.ref a,.ref f.heap.objs.size]) F.isList.typeIs slot_list_getitem.lookup ?_ (by with_unfolding_all rfl);refine wpAny_getItem_list_slice F.isList (Heap.IsSliceOf.new ..) .none pu pw (by decide) ?_ (by rw[pq]<;>ext);rw[qL z U];refine⟨.ref _,_,B.laid (t':=f.toks) (o:=.lst (cy xs u)) (λb ob q=>n7 _ q) (ia _) ?_,rfl,q _ (B.hok.fresh (ia _))⟩;exact⟨m_ (uq xs u) hz,_,0,yo r u,s_ _ rfl⟩
end
end L2
namespace MM
open PySem.Spec PyProof.Rows L2
def OW(x:PV)(a st:T4)(h:MH):T6:=match x with
 |.frl xs=>if(∀k,a=J k->0<=k)/\st=J (-1)then .ok (.loc h.length) (h++[.lst (cy xs a)])else .bad
 |.loc n=>(match h[n]? with
  |some (.lst xs)=>if(∀k,a=J k->0<=k)/\st=J (-1)then .ok (.loc h.length) (h++[.lst (cy xs a)])else .bad
  |_=>.bad)
 |_=>.bad
def QX(m:Mx PV)(j r:Mx (T4)):Mx PV:=λZ h=>(m Z h).bind λx a=>(j Z a).bind λi f=>(r Z f).bind λst l=>(OW x i st l).ne
def RPs.rev'{K:hU}{U:TX}{H:Hp}:∀{xs:TN}{a:List V},RPs K U H xs a->RPs K U H xs.reverse a.reverse:=by
 have app:∀{xs:TN}{a:List V}{y:PV}{v:V},RPs K U H xs a->RP K U H y v->RPs K U H (xs++[y]) (a++[v]):=by
  intro xs
  induction xs with
  |nil=>intro i y v r j;cases r;exact .cons j .nil
  |cons x xs u=>intro i y v r j;cases r with|cons l f=>exact .cons l (u f j)
 intro xs
 induction xs with
 |nil=>intro i r;cases r;exact .nil
 |cons x xs u=>intro i r;cases r with|cons l f=>rw[J3,J3];exact app (u f) l
def uM{K:hU}{U:TX}{H:Hp}{xs:TN}{f:List V}(r:RPs K U H xs f)(a:T4):RPs K U H (cy xs a) (cy f a):=by
 cases a with
 |none=>exact r.rev'
 |some k=>exact(r.drop _).rev'
section
variable{X:Cx}{pos p2:Pos}
def Ii{e st:Expr}{i:Option Expr}{m:Mx PV}{O G:Mx (T4)}(he:ME X e m)(hu:MO' X i O)(hs:MO' X (J st) G):ME X (.Subscript e (.Slice Y i (J st) p2) pos) (QX m O G) :=
 PE.imp (Ih he hu hs) λZ H Q ⟨U,l,h,E,W,q⟩=>⟨U,l,h,E,W,Ful.bind q λU1 H1 x x' h1 _ L C rx q1=>⟨U1,l,h1,E.le L,C,Ful.bind q1 λR H2 i ab h2 _ M y eh q2=>by
  subst eh;refine⟨R,l,h2,E.le (L.trans M),y,Ful.bind q2 λU3 H3 w w' h3 _ l3 j ew q3=>?_⟩;subst ew;have f:=q3.zero;have F:=(rx.le M).le l3;unfold OW at f
  cases F with
  |@frl xs a ys s1 r1 =>
   dsimp only at f;by_cases z:(∀k,i=J k->0<=k)/\w=J (-1)
   .rw[b_ z]at f;refine⟨a,ys,rfl,s1.sq,z.1,z.2,λp r=>?_⟩;obtain⟨B,u⟩:=j.new r (o:=.lst (cy xs i)) (ho:=.lst (cy ys i)) ⟨_,rfl,uM r1 i⟩;exact f _ _ _ u B (.loc (by rw[<-j.len];simp))
   .rw[e_ z]at f;exact f.elim
  |@loc n a en =>
   obtain⟨o,eo,ro⟩:=j.obj en;dsimp only at f;rw[eo]at f
   cases o with
   |lst xs =>
    obtain⟨ys,P,S⟩:=ro;dsimp only at f;by_cases z:(∀k,i=J k->0<=k)/\w=J (-1)
    .rw[b_ z]at f;refine⟨a,ys,rfl,SqL.of P,z.1,z.2,λp r=>?_⟩;obtain⟨B,u⟩:=j.new r (o:=.lst (cy xs i)) (ho:=.lst (cy ys i)) ⟨_,rfl,uM S i⟩;exact f _ _ _ u B (.loc (by rw[<-j.len];simp))
    .rw[e_ z]at f;exact f.elim
   |_=>exact f.elim
  |_=>exact f.elim⟩⟩
end
def Em(h:MH):PV->Option (TN)
 |.frl xs=>J xs
 |.loc n=>(match h[n]? with
  |some (.lst xs)=>J xs
  |_=>Y)
 |_=>Y
def q_(x y:PV)(h:MH):T6:=match Em h x,Em h y with
 |some xs,J ys=>if xs.length≠ys.length then .ok (.bl T) h else u0 x y h
 |_,_=>u0 x y h
section
variable{X:Cx}{k:Nat}
def SO{U:TX}{H:Hp}{h:MH}{x:PV}{f:V}{xs:TN}(l:RH X.K X.mg U H h)(B:RP X.K U H x f)(e:Em h x=J xs):∃a ys,f=.ref a/\SqL X.K H a ys/\RPs X.K U H xs ys:=by
 cases B with
 |frl s r=>cases e;exact⟨_,_,rfl,s.sq,r⟩
 |@loc n a y =>
  obtain⟨o,u,z⟩:=l.obj y;simp only[Em,u]at e
  cases o with
  |lst ys =>
   cases e;obtain⟨i,j,C⟩:=z;exact⟨a,i,rfl,SqL.of j,C⟩
  |_=>cases e
 |_=>cases e
def Ij(B:Room k X.A):w6 X (compareOp .Eq) q_:=by
 intro M s Z H F G u v Q f j i ⟨U,h,x,y,l,C,r,q⟩;unfold q_ at q
 split at q
 .rename_i xs ys ex O
  by_cases z:xs.length≠ys.length
  .rw[b_ z]at q;obtain⟨a,zs,rfl,R,rz⟩:=SO l C ex;obtain⟨b,ws,rfl,S,E⟩:=SO l r O;cases j;cases i;obtain⟨ab,r1,W,_⟩:=f.list R;obtain⟨L,r2,P,_⟩:=f.list S;refine SeqAt.eq_list_lengthsAt W.isList P.isList ?_ (by have:=B.units;lia) ⟨.bl _,H,f,rfl,q U H _ (Le.refl _ _) l (.bl _)⟩;rw[pq,pq,<-r1.length,<-r2.length,<-rz.length,<-E.length];simpa using z
  .rw[e_ z]at q;exact rE B M s Z H F G u v Q f j i ⟨U,h,x,y,l,C,r,q⟩
 .exact rE B M s Z H F G u v Q f j i ⟨U,h,x,y,l,C,r,q⟩
end
end MM
namespace MM
open PySem.Spec PyProof.Rows L2 SetT SortT
def yv(ns:TR):Nat:=(firstMet (λi=>ns.getD i 0) ns.length).length
def En(ns:TR):yv ns<=ns.length:=firstMet_length_le _ _
def Ik(prog:Program)(w:World)(S:Addr)(n:Nat)(h:Heap):Prop:=∃f,h.SetOf (intKind prog w) S f n
def xc{prog:Program}{w:World}{S:Addr}{n:Nat}{a i:Heap}(p:Ik prog w S n a)(k:∀o,a.get? S=J o->i.get? S=J o):Ik prog w S n i:=by obtain⟨f,o,u,l,t,j,r⟩:=p;exact⟨f,o,u,l,t,k o j,r⟩
section
variable{X:Cx}{N W G:TQ}{k:Nat}
def yd(O:X.calm=I):ci X (.type "set") (λxs H Q=>∃l ns,xs=[.ref l]/\SqL X.K H l (ns.map V.int)/\ns.length<=1000/\∀S,H S=Y->Q (.ref S) (lf H S (.ext (Ik X.prog X.w S (yv ns))))):=by
 intro Lo s Z H xs us Q i r ⟨l,ns,e,hq,hl,q⟩;subst e;obtain⟨u,rfl,rx⟩:=fj r;cases rx;obtain⟨y,F,U,hz⟩:=i.list hq;have z:y.length=ns.length:=by have:=F.length;rw[mm]at this;exact this.symm
 have R:=vO F;have B:=i.hok.fresh (ia s.heap.objs.size);refine call_set_list (i.ok.hd O) U.isList R (by rw[pq];unfold scanBound;ext) λP tk j x=>?_;have C:y.toArray.size=ns.length:=by rw[pq,z]
 rw[C]at j;have E:Ik X.prog X.w s.heap.objs.size (yv ns) P:=⟨_,j⟩;obtain⟨f,o,es,ep,t,M,L⟩:=id E;exact⟨.ref s.heap.objs.size,_,i.laid (o:=.ext (Ik X.prog X.w s.heap.objs.size (yv ns))) (λb o e=>x b o (nw e) e) (ia _) ⟨E,⟨o,M⟩,λh1 h2 a b=>xc a b⟩,rfl,q _ B⟩
def yc:ci X (.builtin "len") (λxs H Q=>∃S n,xs=[.ref S]/\H S=J (.ext (Ik X.prog X.w S n))/\n<=1000/\Q (.int n) H):=by intro U s Z H xs L Q a r ⟨S,n,e,B,hn,q⟩;subst e;obtain⟨u,rfl,E⟩:=fj r;cases E;obtain⟨l,_,_⟩:=(a.hok S _ B);obtain⟨f,o,P,F,t,y,j,i,R,M,p6,C,z⟩:=l;refine call_len_set y j i C (by ext) ?_;rw[z];exact⟨.int n,H,a.kept λb O q=>q,⟨_,rfl⟩,q⟩
def TF(m:Mx (TN)):Mx PV:=λZ h=>(m Z h).bind λxs a=>match xs with
 |[x]=>(match (cO a x).bind eN with
  |some ns=>if ns.length<=1000 then .ok (.int (yv ns)) a else .bad
  |none=>.bad)
 |_=>.bad
def yI(g:Good X N W G k){a:Expr}{m:Mx (TN)}{p M F l:Pos}(i j:Nat)(hm:X.mg "len"=Y)(P:X.mg "set"=Y)(ha:MA X [a] m)(R:G[i]?=J "len":=by rfl)(hj:G[j]?=J "set":=by rfl)(hs:starEach [a] X.env=[(T,eval a X.env)]:=by rfl)(he:starEach [.Call (.Name "set" M) [a] [] l] X.env=[(T,eval (.Call (.Name "set" M) [a] [] l) X.env)]:=by rfl):
  ME X (.Call (.Name "len" p) [.Call (.Name "set" M) [a] [] l] [] F) (TF m):=by
 have d:=g.dbg _ (q0 _ (aN R));have d':=g.dbg _ (q0 _ (aN hj));refine PE.imp (jA yc (g.gl _ (aN R)) hm PyProof.Rows.Boot.«len» (fJ (gE (yd g.calm) (g.gl _ (aN hj)) P PyProof.Rows.Boot.«set» ha d'.2.2 d'.1 hs rfl) jh he) d.2.2 d.1 he rfl) λZ H Q ⟨U,L,h,rs,rh,q⟩=>?_;refine⟨U,L,h,rs,rh,Ful.bind q λU1 H1 x x' h1 ex l1 B rx f=>?_⟩
 cases rx with
 |nil=>exact f.elim
 |@cons y y' _ _ r1 t1 =>
  cases t1 with
  |cons _ _=>exact f.elim
  |nil =>
   dsimp only at f
   cases C:cO h1 y with
   |none=>rw[C]at f;exact f.elim
   |some xs =>
    rw[C]at f
    cases O:eN xs with
    |none=>simp only[A4,O]at f;exact f.elim
    |some ns =>
     simp only[A4,O]at f;by_cases z:ns.length<=1000
     .rw[b_ z]at f;obtain⟨la,zs,rfl,u,r⟩:=pr B r1 C;rw[lz O]at r;rw[BP r]at u;refine⟨la,ns,rfl,u,z,λS hS=>?_⟩;obtain⟨E,l2⟩:=B.loose hS (.ext (Ik X.prog X.w S (yv ns)));exact⟨S,yv ns,rfl,bU,m_ (En ns) z,f U1 _ _ l2 E (.int _)⟩
     .rw[e_ z]at f;exact f.elim
end
end MM
namespace L2
open PySem.Spec PyProof.Rows
section
variable{X:Cx}{a:Expr}{ta:TE}{pos:Pos}
end
end L2
namespace MM
open PySem.Spec PyProof.Rows L2
section
variable{X:Cx}{pos:Pos}
end
def rF(n:Nat)(a:TN)(h:MH):T6:=match a,h[n]? with
 |[.int 0],J (.lst (y::r))=>.ok y (h.set n (.lst r))
 |_,_=>.bad
section
variable{X:Cx}
def Eo:GH X "list.pop" (Hk X rF):=by
 intro S s Z H x vs v F Q l rx P ⟨U,h,n,a,ps,e,E,C,rp,q⟩;subst e;obtain⟨o,O,W⟩:=C.obj E;unfold rF at q;rw[O]at q
 split at q
 .rename_i y r e
  injection e with e
  subst e
  cases rp with
  |cons R L =>
   cases L;cases R;obtain⟨ys,G,M⟩:=W
   cases M with
   |@cons _ i _ f j z =>
    obtain⟨u,B⟩:=C.put E (o:=.lst r) (ho:=.lst f) ⟨_,rfl,z⟩;exact zF S s Z H _ _ v F Q l rx P ⟨a,i::f,0,0,i,rfl,rfl,G,by decide,by decide,by simp[seqIndex?],rfl,q U _ i B u (j.le B)⟩
 .exact q.elim
end
section
variable{X:Cx}{k:Nat}
end
end MM
namespace HT
open PyProof.Rows
section
open PySem.SeqAt
open PySem.AutoSeq1 (wpAny_loadPart')
open PySem.MeetsSeq PySem.MeetsSeq2 PySem.MeetsSeq3
end
section
variable{prog:Program}{w:World}{A:Around}{E:T7}{s:Shared}
end
end HT
namespace L2
open PySem.Spec PyProof.Rows
section
variable{X:Cx}{e st:Expr}{te:TE}{ts:TO}{pos p2:Pos}
end
end L2
namespace MM
open PySem.Spec PyProof.Rows L2
section
variable{X:Cx}{k:Nat}{pos:Pos}
end
end MM
namespace L2
open PySem.Spec PyProof.Rows
section
variable{X:Cx}{a b c d:Expr}{ta tb tc td:TE}{r r' r2:R2}{op op' op2:CmpOp}{pos:Pos}
end
end L2
namespace MM
open PySem.Spec PyProof.Rows L2
section
variable{X:Cx}{a b c d:Expr}{ma mb mc md:Mx PV}{f g' g2:PV->PV->MH->T6}{op op' op2:CmpOp}{pos:Pos}{k:Nat}
def bp:Expr->Bool
 |.Starred _ _=>T
 |_=>I
def aQ(h:bp e=I):starEach (e::es) env=(T,eval e env)::starEach es env:=by cases e<;>first | rfl | cases h
def Il(l:ME X e m)(i:MA X es ms)(j:bp e=I:=by rfl):MA X (e::es) (ao m ms):=aE l i (aQ j)
structure lb(X:Cx)(e:Expr)(m:Mx PV):Prop where
 h:ME X e m
structure zx(X:Cx)(es:T5)(ms:Mx (TN)):Prop where
 h:MA X es ms
structure z_(X:Cx)(st:Stmt)(m:mh):Prop where
 h:MS X st m
structure mj(X:Cx)(st:List Stmt)(m:mh):Prop where
 h:Bw X st m
section
variable{e:Expr}{es:T5}{m ma mb:Mx PV}{ms:Mx (TN)}{st:Stmt}{rest:List Stmt}{u v:mh}{f:PV->PV->MH->T6}{N W G:TQ}{x:Str}
def nW:zx X [] h8:=⟨aP⟩
def fg(l:lb X e m)(i:zx X es ms)(j:bp e=I:=by rfl):zx X (e::es) (ao m ms):=⟨Il l.h i.h j⟩
def u_(h:ME X e m):lb X e m:=⟨h⟩
def OX(h:zx X es ms):lb X (.List es pos) (d6 ms):=⟨om h.h⟩
def TJ(h:zx X es ms):lb X (.Tuple es j pos) (Dr ms):=⟨G6 h.h⟩
def A9(h:MS X st u):z_ X st u:=⟨h⟩
def BQ(g:Good X N W G k)(i:Nat){j:Pos}(y:lb X e m)(l:N[i]?=J x:=by rfl)(z:W[i]?=J x:=by rfl)(r:swapsWith e (J (.Name x j)) pos.line X.env=pure T:=by rfl):
  z_ X (.Assign [.Name x j] e pos) (aZ i m):=⟨nD g i l z y.h r⟩
def Ct(i:lb X e m):z_ X (.Return (J e) pos) (b8 m):=⟨G7 i.h⟩
def A_(h:z_ X st u):mj X [st] u:=⟨Ds h.h⟩
def wm(i:z_ X st u)(j:mj X rest v):mj X (st::rest) (aO u v):=⟨Ah i.h j.h⟩
end
end
section
variable{α β:Type}
end
inductive T3(K:hU)(U:TX)(H:Hp):TN->List V->TZ->List (PV×V×Value)->Prop
 |nil:T3 K U H [] [] [] []
 |cons{x:PV}{y:V}{u:Value}{xs:TN}{ys:List V}{us:TZ}{ts:List (PV×V×Value)}(r:RP K U H x y)(v:aS y u)(t:T3 K U H xs ys us ts):T3 K U H (x::xs) (y::ys) (u::us) ((x,y,u)::ts)
section
variable{K:hU}{U:TX}{H:Hp}
end
section
variable{X:Cx}
end
end MM
namespace SortT
open PySem.SeqAt PySem.MeetsSeq PySem.MeetsSeq2 PySem.MeetsSeq3 PySem.SeqRoads2 PyProof.Rows PySem.W
section
variable{prog:Program}{w:World}{A:Around}{E:T7}{s:Shared}{rk:Value->Int}{vs:TZ}
end
end SortT
namespace MM
open PySem.Spec PyProof.Rows L2
section
variable{X:Cx}{N W G:TQ}{k:Nat}{a b:Expr}{p p' pos pos':Pos}
def Ms(l:TA):TE:=λZ H Q=>l Z H λr f=>∃i j:Int,r=[.int i,.int j]/\∀p,f p=Y->Q (.ref p) (lf f p (.rng i j))
def yG(O:Gl X "range")(C:X.mg "range"=Y)(B:PA X [a,b] ta)(M:starEach [a,b] X.env=[(T,eval a X.env),(T,eval b X.env)]:=by rfl)(f:starEach [b] X.env=[(T,eval b X.env)]:=by rfl):PE X (.Call (.Name "range" p) [a,b] [] pos) (Ms ta):=by
 intro Q s Z H R l h;refine Call_ (iN l O C boot_range (PyProof.Rows.callWith_type1 (k_ (B pos Q s Z H _ l h) λS E ⟨U,H1,z,P,F⟩=>?_) (M.trans (by rw[f])) (by rw[f];rfl)));obtain⟨i,j,e,q⟩:=F;subst e
 cases P with
 |cons r y =>
  cases y with
  |cons L y =>
   cases y;obtain⟨t,rfl⟩:=r;obtain⟨u,rfl⟩:=L;refine call_range_2 ⟨.ref E.heap.objs.size,_,z.laid (λb o e=>n7 _ e) (ia _) ?_,rfl,q _ (z.hok.fresh (ia _))⟩;exact⟨_,_,_,s_ _ rfl⟩
def qM(F:X.calm=I):ci X (.type "list") (λxs H Q=>∃r i j,xs=[.ref r]/\H r=J (.rng i j) /\ -(2^62)<=i/\i<2^62 /\ -(2^62)<=j/\j<2^62/\(j-i).toNat<=sizeLine/\∀l,H l=Y->Q (.ref l) (lf H l (.lst ((List.range (j-i).toNat).map λn=>V.int (i+(n:Nat)))))):=by
 intro Lo s Z H xs us Q f r ⟨ra,i,j,e,R,C,S,M,O,z,q⟩;subst e
 cases r with
 |cons U L =>
  cases L;cases U;obtain⟨t,u,v,E⟩:=(f.hok ra _ R);refine call_list_range (f.ok.hd F) E (small_one C S M O) (by rw[rangeSize_one];split<;>ext) z λh' tk y P kp e B=>?_;have va:=jI _ i _ (by exact B.1) λi v hv=>by
   obtain⟨t,e⟩:=B.2 i v (by rw[<-v7];exact hv)
   grind
  refine⟨.ref s.heap.objs.size,_,f.laid (o:=.lst _) kp (ia _) (⟨by simpa using z,y.toList,P,va,by simpa using e⟩),rfl,q _ (f.hok.fresh (ia _))⟩
def QY(m:Mx (TN)):Mx PV:=λZ h=>(m Z h).bind λl f=>match l with
 |[.int i,.int j]=>if(-(2^62)<=i/\i<2^62) /\ -(2^62)<=j/\j<2^62/\(j-i).toNat<=sizeLine then .ok (.loc f.length) (f++[.lst (bG i (j-i).toNat)])else .bad
 |_=>.bad
def yO(g:Good X N W G k){m:Mx (TN)}{i j:Nat}(P:G[i]?=J "list")(hm:X.mg "list"=Y)(hj:G[j]?=J "range")(M:X.mg "range"=Y)(ha:MA X [a,b] m)(hs:starEach [a,b] X.env=[(T,eval a X.env),(T,eval b X.env)]:=by rfl)(C:starEach [b] X.env=[(T,eval b X.env)]:=by rfl)(R:starEach [.Call (.Name "range" p') [a,b] [] pos'] X.env=[(T,eval (.Call (.Name "range" p') [a,b] [] pos') X.env)]:=by rfl):ME X (.Call (.Name "list" p) [.Call (.Name "range" p') [a,b] [] pos'] [] pos) (QY m):=by
 have d:=g.dbg _ (q0 _ (aN P));refine PE.imp (gE (qM g.calm) (g.gl _ (aN P)) hm PyProof.Rows.Boot.«list» (fJ (yG (g.gl _ (aN hj)) M ha hs C) jh R) d.2.2 d.1 R rfl) λZ H Q ⟨U,L,h,rs,rh,q⟩=>?_;refine⟨U,L,h,rs,rh,Ful.bind q λU1 H1 x x' h1 _ l1 B rx f=>?_⟩;rcases rx with _|⟨O,_|⟨S,_|_⟩⟩
 .exact f.elim
 .cases O<;>exact f.elim
 .cases O with
  |int u =>
   cases S with
   |int y =>
    dsimp only at f;by_cases z:(-(2^62)<=u/\u<2^62) /\ -(2^62)<=y/\y<2^62/\(y-u).toNat<=sizeLine
    .rw[b_ z]at f;refine⟨u,y,rfl,λr hr=>?_⟩;obtain⟨E,l2⟩:=B.loose hr (.rng u y);refine⟨r,u,y,rfl,bU,z.1.1,z.1.2,z.2.1,z.2.2.1,z.2.2.2,λl hl=>?_⟩;obtain⟨F,l3⟩:=E.new hl (o:=.lst (bG u (y-u).toNat)) ⟨_,rfl,kz _⟩;exact f _ _ _ (l2.trans l3) F (.loc (by rw[<-B.len];simp))
    .rw[e_ z]at f;exact f.elim
   |_=>exact f.elim
  |_=>exact f.elim
 .cases O<;>(first | exact f.elim | (cases S<;>exact f.elim))
end
section
variable{X:Cx}
end
end MM
namespace SetT
open PySem.SetTable PyProof.Rows
section
variable{prog:Program}{w:World}{A:Around}{E:T7}{s:Shared}
end
end SetT
namespace MM
open PySem.Spec PyProof.Rows L2 SetT SortT
section
variable{X:Cx}{N W G:TQ}{k:Nat}
end
end MM
namespace MM
open PySem.Spec PyProof.Rows L2 SetT
def Bk{κ α:Type}[DecidableEq κ](a:List κ)(xs:List α)(i:κ):Option α:=match a,xs with
 |k::a,x::xs=>if k=i then J x else Bk a xs i
 |_,_=>Y
def j_{κ α:Type}[DecidableEq κ](a:List κ)(xs:List α)(i:κ)(v:α):List κ×List α:=match a,xs with
 |k::a,x::xs=>if k=i then(k::a,v::xs)else(k::(j_ a xs i v).1,x::(j_ a xs i v).2)
 |_,_=>([i],[v])
abbrev CN:=TR×Addr×Value
def Im{bs:List CN}{k:TR}:Bk (bs.map (·.1)) (bs.map (·.2.2)) k=(atKey bs k).map (·.2):=by
 induction bs with
 |nil=>rfl
 |cons b bs a =>
  simp only[n8,Bk,atKey,List.find?_cons];by_cases e:b.1=k
  .simp[e]
  .simp only[e_ e,e,decide_false];exact a
def yC{ks:TU}{ys:List V}{f:TZ}{v:V}{u:Value}(j:f.length=ks.length)(r:aD ys f)(i:aS v u)(k:TR):(j_ ks ys k v).1=(j_ ks f k u).1/\aD (j_ ks ys k v).2 (j_ ks f k u).2:=by
 induction r generalizing ks with
 |nil=>cases ks<;>exact⟨rfl,.cons i .nil⟩
 |cons a t z =>
  cases ks with
  |nil=>cases j
  |cons q ks =>
   unfold j_;by_cases e:q=k
   .simp only[b_ e];exact⟨trivial,.cons i t⟩
   .simp only[e_ e];obtain⟨y,l⟩:=z (by simpa using j);exact⟨by rw[y],.cons a l⟩
section
variable{K:hU}{U:TX}{H:Hp}
def zL{ks:TU}(r:RPs K U H xs ys)(q:RP K U H v y)(i:TR):(j_ ks xs i v).1=(j_ ks ys i y).1/\RPs K U H (j_ ks xs i v).2 (j_ ks ys i y).2:=by
 induction ks generalizing xs ys with
 |nil=>cases xs<;>cases ys<;>exact⟨rfl,.cons q .nil⟩
 |cons k ks l =>
  cases r with
  |nil=>exact⟨rfl,.cons q .nil⟩
  |cons a t =>
   unfold j_;by_cases e:k=i
   .simp only[b_ e];exact⟨trivial,.cons q t⟩
   .simp only[e_ e];obtain⟨j,f⟩:=l t;exact⟨by rw[j],.cons a f⟩
end
def sY{x:CN}{bs:List CN}{k:TR}{b:Addr}{u:Value}(e:¬x.1=k):storedH (x::bs) k b u=x::storedH bs k b u:=by
 unfold storedH;have e1:atKey (x::bs) k=atKey bs k:=by simp[atKey,List.find?_cons,e]
 rw[e1];by_cases h:(atKey bs k).isSome=I
 .rw[b_ h,b_ h,n8,putAt,e_ e]
 .rw[e_ h,e_ h];rfl
def uC{x:CN}{bs:List CN}{b:Addr}{u:Value}(nd:x.1∉bs.map (·.1)):storedH (x::bs) x.1 b u=(x.1,x.2.1,u)::bs:=by unfold storedH;rw[b_ (by simp[atKey]),n8,putAt,b_ rfl,map_putAt_of_not_mem bs _ _ nd]
def kI{bs:List CN}{k:TR}{b:Addr}{u:Value}(nd:(bs.map (·.1)).Nodup):(storedH bs k b u).map (·.1)=(j_ (bs.map (·.1)) (bs.map (·.2.2)) k u).1/\(storedH bs k b u).map (·.2.2)=(j_ (bs.map (·.1)) (bs.map (·.2.2)) k u).2/\(storedH bs k b u).length<=bs.length+1 /\
  ∀x∈storedH bs k b u,(∃y∈bs,x.1=y.1/\x.2.1=y.2.1)\/x=(k,b,u):=by
 induction bs with
 |nil=>refine⟨rfl,rfl,ia _,λx B=>.inr ?_⟩;simpa [storedH,atKey]using B
 |cons x bs i =>
  rw[n8,F4]at nd;by_cases e:x.1=k
  .subst e;rw[uC nd.1];refine⟨by simp[j_],by simp[j_],by simp,λy a=>.inl ?_⟩;rcases l_.mp a with z|z
   .subst z;exact⟨x,by simp,rfl,rfl⟩
   .exact⟨y,l7 _ z,rfl,rfl⟩
  .obtain⟨f,C,l,j⟩:=i nd.2;rw[sY e];refine⟨by simp[j_,e,f],by simp[j_,e,C],by simpa using l,λy a=>?_⟩;rcases l_.mp a with z|z
   .subst z;exact .inl ⟨y,by simp,rfl,rfl⟩
   .rcases j y z with⟨w,E,r⟩|r
    .exact .inl ⟨w,l7 _ E,r⟩
    .exact .inr r
def l0{K:hU}{U:TX}{H:Hp}:∀{k:TR}{ys:List V},RPs K U H (k.map PV.int) ys->ys=k.map V.int
 |[],_,r=>by cases r;rfl
 |i::k,_,r=>by
  cases r with
  |cons a t=>cases a;rw[l0 t];rfl
def g7(h:MH)(y:PV):Option (TU×TN):=match y with
 |.loc n=>(match h[n]? with
  |some (.dic a xs)=>J (a,xs)
  |_=>Y)
 |_=>Y
def Ep:PV->Option (TR)
 |.tup xs=>eN xs
 |_=>Y
section
variable{X:Cx}{Lo:List (Addr × Obj)}{Z:L2.St}{H:Hp}{s:Shared}{U:TX}{h:MH}
def pA{x:PV}{y:V}{f:TU}{xs:TN}(u:RH X.K X.mg U H h)(r:RP X.K U H x y)(e:g7 h x=J (f,xs)):
  ∃n a,x=.loc n/\U[n]?=J a/\y=.ref a/\h[n]?=J (.dic f xs)/\DR X.K U H a f xs (H a):=by
 cases r with
 |@loc n a i =>
  obtain⟨o,j,l⟩:=u.obj i;unfold g7 at e;dsimp only at e;rw[j]at e
  cases o with
  |dic k z=>cases e;exact⟨n,a,rfl,i,rfl,j,l⟩
  |_=>cases e
 |_=>cases e
def zd{x:PV}{y:V}{k:TR}(r:RP X.K U H x y)(e:Ep x=J k):∃b,y=.ref b/\SqT X.K H b (k.map V.int):=by
 cases r with
 |@tup xs a ys f i =>
  have e1:=lz e;subst e1
  have:ys=k.map V.int:=by have z:=RPs.ints (K:=X.K) (U:=U) (H:=H) k;exact l0 i
  subst this;exact⟨a,rfl,f⟩
 |_=>cases e
def u8{a:Addr}{bs:List CN}(f:Inv X Lo Z H s)(F:∀x∈bs,SqT X.K H x.2.1 (x.1.map V.int))(G:H a=J (.ext (DT a bs))):
  (a==sysModules)=T/\bs.length<=sizeLine/\(bs.map (·.1)).Nodup/\s.heap.DictOfH (tupleKind (intKind X.prog X.w)) a bs:=by
 obtain⟨⟨o,B,u,j,y,C,E,i,z,l⟩,_⟩:=(show ObjOk X.prog X.w H s.heap a (.ext (DT a bs))from f.hok a _ G);exact⟨z,l,i,o,B,u,j,y,C,E,λx r=>gA f (F x r),i⟩
end
def j6{prog:Program}{w:World}{A:Around}{E:T7}{s:Shared}{d a:Addr}{k:TR}{xs:List CN}{Q:Bool->Shared->Prop}(j:A.units+1<cLine)(f:TK prog w s.heap k a)(hd:(d==sysModules)=T)(i:s.heap.DictOfH (tupleKind (intKind prog w)) d xs)(h:Q (atKey xs k).isSome { s with toks:=s.toks+(k.length+1)}):wpAny (model prog w) A (contains (.ref d) (.ref a)) Q E s:=by
 unfold contains;refine wpAny_holding ?_;refine d_ (wpAny_specialOf i.typeIs slot_dict_contains.lookup ?_);show wpAny _ _ (if(J (Value.builtin "dict.__contains__")==J Value.none)=I then _ else _) _ E s;rw[e_ (by rw[beq_builtin_none];exact CV)];refine d_ (wpAny_callSpecialUnlessNone?_slot (name:=Str.ofString "__contains__") i.typeIs slot_dict_contains (wpAny_call_entry slot_dict_contains i.typeIs entry_dict_contains ?_ (args_dict_contains _ _)));show wpAny _ _ (dictGet d (.ref a) >>= _) _ _ s;refine d_ (wpAny_dictGet_heap (knd:=tupleKind (intKind prog w)) j f i ?_)
 cases hf:atKey xs k with
 |some p =>
  rw[hf]at h;show wpAny _ _ (ret (.bool I)) _ _ _;exact ii ⟨_,rfl,wpAny_truthy_bool h⟩
 |none =>
  rw[hf]at h;show wpAny _ _ (Builtin.Dict.pendingKey? d (.ref a) >>= _) _ _ _;exact d_ (wpAny_pendingKey_other hd (ii ⟨_,rfl,wpAny_truthy_bool h⟩))
def oj(a:Bool)(x y:PV)(h:MH):T6:=match Ep x,g7 h y with
 |some i,J (f,xs)=>.ok (.bl (if a then !(Bk f xs i).isSome else(Bk f xs i).isSome)) h
 |_,_=>.bad
def tY{a:List κ}[DecidableEq κ]{xs:List α}{ys:List β}{i:κ}(h:xs.length=ys.length):(Bk a xs i).isSome=(Bk a ys i).isSome:=by
 induction a generalizing xs ys with
 |nil=>rfl
 |cons k a f =>
  cases xs with
  |nil=>cases ys with
   |nil=>rfl
   |cons _ _=>cases h
  |cons x xs=>cases ys with
   |nil=>cases h
   |cons y ys =>
    unfold Bk;by_cases e:k=i
    .simp[e]
    .simp only[e_ e];exact f (by simpa using h)
section
variable{X:Cx}{N W G:TQ}{k:Nat}
def Io(R:Room k X.A)(j:Bool):w6 X (compareOp (if j then .NotIn else .In)) (oj j):=by
 intro Lo s Z H x' y' u v Q f B r ⟨U,h,x,y,l,rx,L,q⟩;unfold oj at q
 split at q
 .rename_i i ks xs ei M
  obtain⟨n,a,rfl,en,rfl,eo,bs,ys,e1,F,S,z,O⟩:=pA l L M;obtain⟨b,rfl,sq⟩:=zd rx ei;cases B;cases r;obtain⟨hd,hz,nd,E⟩:=u8 f F O;have P:xs.length=(bs.map (·.2.2)).length:=by rw[z.length];exact S.length
  have e:(Bk ks xs i).isSome=(atKey bs i).isSome:=by rw[tY P,e1,Im,Option.isSome_map]
  rw[e]at q;have C:X.A.units+1<cLine:=by have:=R.un;lia
  cases j with
  |false=>exact d_ (j6 C (gA f sq) hd E (ii ⟨.bl _,H,f.tok _,rfl,q U H _ (Le.refl _ _) l (.bl _)⟩))
  |true=>exact d_ (j6 C (gA f sq) hd E (ii ⟨.bl _,H,f.tok _,rfl,q U H _ (Le.refl _ _) l (.bl _)⟩))
 .exact q.elim
def Mt(K:hU):de:=λo i v H Q=>∃p bs k b,o=.ref p/\i=.ref b/\H p=J (.ext (DT p bs))/\(∀x∈bs,SqT K H x.2.1 (x.1.map V.int))/\SqT K H b (k.map V.int)/\bs.length<sizeLine/\∀u,aS v u->(bs.map (·.1)).Nodup->Q (lf H p (.ext (DT p (storedH bs k b u))))
def zN(S:Room k X.A):Gn X (Mt X.K):=by
 intro Lo s Z H o i v ov iv u Q a ro ri P h;obtain⟨p,bs,k,b,rfl,rfl,r,E,sq,hz,q⟩:=h;cases ro;cases ri;obtain⟨hd,j,nd,dd⟩:=u8 a E r;have R:X.A.units+1<cLine:=by have:=S.un;lia
 refine wpAny_setItem_heap (knd:=tupleKind (intKind X.prog X.w)) (hsz:=j) R (gA a sq) dd λl f Bj=>?_;have y:∃q,l.get? p=J q:=let⟨q,_,_,hq,_⟩:=f;⟨q,hq⟩;have I4:Inv X Lo Z (lf H p (.ext (DT p (storedH bs k b u)))) { s with heap:=l,toks:=s.toks+(k.length+1)} :=
  a.write (x:=p) (e:=p) (by rw[r];exact True.intro) (.inl rfl) (λc q F z=>(Bj.2 c F).trans z) y ⟨by
   obtain⟨o,U,B,C,L,O,M,_,a6⟩:=f
   exact⟨o,U,B,C,L,O,M,a6,hd,m_ (kI (k:=k) (b:=b) (u:=u) nd).2.2.1 hz⟩,y,pX⟩
 exact⟨_,I4,q u P nd⟩
def Er(o i v:PV)(h:MH):Option MH:=match o,g7 h o,Ep i with
 |.loc n,J (a,xs),J j=>if a.length<100000 then J (h.set n (.dic (j_ a xs j v).1 (j_ a xs j v).2))else Y
 |_,_,_=>Y
def r9(mo f:Mx PV):Mg:=λv=>w_ mo λo=>w_ f λi Z h=>match Er o i v h with
 |some a=>.nx Z a
 |none=>.bad
def Es(hr:Room k X.A){o i:Expr}{mo R:Mx PV}{l:Pos}(ho:ME X o mo)(hi:ME X i R)(ha:∀v,assign (.Subscript o i l) X.env v=(do
   let E <-holding [v] (eval o X.env)
   let F <-holding [v,E] (eval i X.env)
   standAt l
   holding [v,E,F] (setItem E F v)
   release [v,E,F] []):=by intro _;rfl):MG X (.Subscript o i l) (r9 mo R) :=
 PG.imp (yU ho hi (zN hr) ha) λv' Z H Q ⟨U,f,h,v,rs,rh,rv,q⟩=>by
  refine⟨U,f,h,rs,rh,?_⟩;unfold r9 w_ at q
  cases e:mo f h with
  |exc x S=>rw[e]at q;exact q
  |bad=>rw[e]at q;exact q
  |ok E S =>
   rw[e]at q;intro U1 H1 o' B ah ro;refine⟨U1,f,S,rs.le B,ah,?_⟩;dsimp only at q
   cases e2:R f S with
   |exc x h2=>rw[e2]at q;exact XP.le B q
   |bad=>rw[e2]at q;exact q
   |ok F h2 =>
    rw[e2]at q;intro U2 H2 i' M r ri;have P:=ro.le M;have ab:=(rv.le B).le M;dsimp only at q;unfold Er at q
    split at q
    .rename_i h3 e3
     split at e3
     .rename_i n C xs j ek ed
      obtain⟨_,a,e0,en,rfl,eo,bs,ys,e1,kr,vs,O,eh⟩:=pA r P ed;cases e0;obtain⟨b,rfl,sq⟩:=zd ri ek;by_cases L:C.length<100000
      .rw[b_ L]at e3;cases e3;have al:bs.length<100000:=by rw[e1,mm]at L;exact L
       refine⟨a,bs,j,b,rfl,rfl,eh,kr,sq,by rw[sizeLine_eq];lia,λu ru nd=>?_⟩;have aj:=eh;obtain⟨p1,p2⟩:=zL (ks:=C) O ab j;obtain⟨q1,q2⟩:=yC (ks:=C) (k:=j) (by rw[e1];simp) vs ru;obtain⟨w1,w2,_,w3⟩:=kI (k:=j) (b:=b) (u:=u) nd;rw[<-e1]at w1 w2
       obtain⟨r3,l3⟩:=r.put en (o:=.dic (j_ C xs j v).1 (j_ C xs j v).2) (ho:=.ext (DT a (storedH bs j b u))) ⟨_,_,p1.trans (q1.trans w1.symm),λx hx=>by
        rcases w3 x hx with⟨y,hy,z1,z2⟩|z
        .rw[z1,z2];exact kr y hy
        .subst z;exact sq,by rw[w2];exact q2,p2,rfl⟩
       exact q U2 _ Z (B.trans (M.trans l3)) r3 (rs.le (B.trans (M.trans l3)))
      .rw[e_ L]at e3;cases e3
     .cases e3
    .exact q.elim
end
def gJ(d:Addr)(f:Array DictEntry)(a:Nat)(h:Heap):Prop:=∃o,h.get? d=J o/\o.ExactDict/\o.data=.dict f a
section
variable{prog:Program}{w:World}{A:Around}{E:T7}{s:Shared}{d it:Addr}{es:Array DictEntry}{ep i:Nat}
def gJ.ty(x:gJ d es ep s.heap):s.TypeIs (.ref d) "dict":=let⟨o,a,f,_⟩:=x;⟨o,a,f.1⟩
def gJ.at'{h a:Heap}(x:gJ d es ep h)(e:∀o,h.get? d=J o->a.get? d=J o):gJ d es ep a:=let⟨o,f,r⟩:=x;⟨o,e o f,r⟩
def gJ.lt{h:Heap}(x:gJ d es ep h):d<h.objs.size:=let⟨_,a,_⟩:=x;nw a
def AB{Q:T7}(hd:(d==sysModules)=T)(l:gJ d es ep s.heap)(r:Q (.ref s.heap.objs.size) { s with heap:=s.heap.push { cls:=.type "dict_keyiterator",data:=.fields #[.ref d,.int 0 0,.int es.size 0,.int ep 0]}}):wpAny (model prog w) A (pyIter (.ref d)) Q E s:=by
 obtain⟨o,j,u,a⟩:=id l;have f:=l.ty;refine wpAny_pyIter_slot f F.slot_dict_iter (wpAny_call_entry F.slot_dict_iter f F.entry_dict_iter ?_ (F.args_dict_iter_1 _));unfold Builtin.«dict.__iter__»;refine d_ ?_;unfold Builtin.Dict.dictSlotNone;refine d_ (wpAny_notOrdered_dict f ?_);show wpAny _ _ (pure (Value.ref d)) _ _ s;refine ii ?_;show wpAny _ _ (Builtin.Dict.showsAll d >>= _) _ _ s;unfold Builtin.Dict.showsAll;rw[e_ (by rw[hd];exact CV)];refine d_ (ii ?_);refine d_ (wpAny_dictEntries j a ?_);refine d_ (wpAny_dictEpoch j a ?_);refine d_ (wpAny_newObj_type (ii ⟨_,rfl,"dict_keyiterator",_,⟨_,s_ _ rfl,rfl⟩,F.slot_dict_keyiterator_next.lookup,?_⟩));simpa [rawInt]using r
def Ax{e:DictEntry}{Q:T1->Shared->Prop}(a:s.heap.IsKeyIter it d i es.size ep)(C:gJ d es ep s.heap)(y:es[i]?=J e)(z:∀u,u.IsKeyIter it d (i+1) es.size ep->Heap.SameBut it s.heap u->Q (J e.key) { s with heap:=u}):wpAny (model prog w) A (pyNext (.ref it)) Q E s:=by
 obtain⟨o,r,G,hd⟩:=id a;obtain⟨H,j,B,l⟩:=id C
 refine d_ (wpAny_attempt (wpAny_callSpecial?_slot (name:=Str.ofString "__next__") a.typeIs F.slot_dict_keyiterator_next
  (wpAny_call_entry F.slot_dict_keyiterator_next a.typeIs F.entry_dict_keyiterator_next ?_ (F.args_dict_keyiterator_next_1 _))))
 refine d_ (ii ?_);refine d_ ?_;refine d_ ?_
 first | refine d_ (wpAny_typeNameOfWhole_keyiter a.typeIs (ii ?_)) | refine d_ (wpAny_typeNameOf_keyiter a.typeIs (ii ?_))
 refine d_ (wpAny_fieldsOf r hd ?_);simp only[show Builtin.Dict_items.ownsTuple "dict_keyiterator"=T from by decide,pk,if_false];show wpAny _ _ (if(Value.ref d==Value.none)=I then _ else _) _ _ s;rw[e_ (show ¬((Value.ref d==Value.none)=I)from CV)];refine d_ (ii ?_);refine d_ (wpAny_dictEntries j l ?_);rw[e_ (by simp)];refine d_ (ii ?_);refine d_ (wpAny_dictEpoch j l ?_);rw[e_ (by simp)];refine ii ?_;simp only[show ¬((i:Int)<0)from by ext,if_false,xp,y];refine d_ ?_
 first | refine d_ (wpAny_typeNameOfWhole_keyiter a.typeIs (ii ?_)) | refine d_ (wpAny_typeNameOf_keyiter a.typeIs (ii ?_))
 refine d_ (wpAny_isOneOf_keyiter a.typeIs ?_);show wpAny _ _ (setField (.ref it) 1 (rawInt ((i:Int)+1)) >>= _) _ _ s;refine d_ (wpAny_setField r hd (by simp) ?_);have f:(s.heap.update it (Obj.mapFields (·.setIfInBounds 1 (rawInt ((i:Int)+1))))).IsKeyIter it d (i+1) es.size ep :=
  ⟨_,JY _ r (Obj.isFreed_of_fields (Obj.data_mapFields hd _)),(Obj.cls_mapFields ..).trans G,by rw[Obj.data_mapFields hd];simp[rawInt]⟩
 refine d_ (wpAny_holding ?_);refine d_ (wpAny_isOneOf_keyiter (s:={ s with heap:=s.heap.update it (Obj.mapFields (·.setIfInBounds 1 (rawInt ((i:Int)+1))))}) f.typeIs ?_);show wpAny _ _ (pure e.key) _ _ _;exact ii (ii ⟨_,rfl,ii (z _ f (Heap.SameBut.update ..))⟩)
def Et{Q:T1->Shared->Prop}(z:A.handled=Y)(f:s.heap.IsKeyIter it d es.size es.size ep)(C:gJ d es ep s.heap)(y:∀u,Heap.ExtBut it s.heap u->Q Y { s with heap:=u}):wpAny (model prog w) A (pyNext (.ref it)) Q E s:=by
 obtain⟨o,r,G,hd⟩:=id f;obtain⟨H,j,B,l⟩:=id C
 refine d_ (wpAny_attempt (wpAny_callSpecial?_slot (name:=Str.ofString "__next__") f.typeIs F.slot_dict_keyiterator_next
  (wpAny_call_entry F.slot_dict_keyiterator_next f.typeIs F.entry_dict_keyiterator_next ?_ (F.args_dict_keyiterator_next_1 _))))
 refine d_ (ii ?_);refine d_ ?_;refine d_ ?_
 first | refine d_ (wpAny_typeNameOfWhole_keyiter f.typeIs (ii ?_)) | refine d_ (wpAny_typeNameOf_keyiter f.typeIs (ii ?_))
 refine d_ (wpAny_fieldsOf r hd ?_);simp only[show Builtin.Dict_items.ownsTuple "dict_keyiterator"=T from by decide,pk,if_false];show wpAny _ _ (if(Value.ref d==Value.none)=I then _ else _) _ _ s;rw[e_ (show ¬((Value.ref d==Value.none)=I)from CV)];refine d_ (ii ?_);refine d_ (wpAny_dictEntries j l ?_);rw[e_ (by simp)];refine d_ (ii ?_);refine d_ (wpAny_dictEpoch j l ?_);rw[e_ (by simp)];refine ii ?_;simp only[show ¬((es.size:Int)<0)from by ext,if_false,xp,Pu (ia es.size)];refine d_ ?_
 first | refine d_ (wpAny_typeNameOfWhole_keyiter f.typeIs (ii ?_)) | refine d_ (wpAny_typeNameOf_keyiter f.typeIs (ii ?_))
 show wpAny _ _ (setField (.ref it) 0 .none >>= _) _ _ s;refine d_ (wpAny_setField r hd (by simp) ?_);show wpAny _ _ (newExc (.type "StopIteration") [] >>= _) _ _ _;refine d_ ?_;simp only[newExc,newTuple];refine d_ (wpAny_newObj_type ?_ (by size_fits));refine d_ (m:=firstArgMember _ _) (wpAny_of_eq (a:=Value.none) (by first | rfl | (simp only[firstArgMember];rfl)) ?_);refine wpAny_newObj_type ?_ (by size_fits);simp only[raiseNew];refine d_ (wpAny_handled ?_);rw[show A.in1.handled=Y from z];refine d_ (ii (wpAny_throw ?_));refine d_ (wpAny_isInstance (T:="StopIteration") (b:=I) ⟨_,s_ _ rfl,rfl⟩ isSubtype_stop ?_);exact ii (y _ (((Heap.SameBut.update ..).extBut.push _).push _))
def Eu(lo:(d==sysModules)=T):PySem.W.KdlSrc prog w "dict" d d es.size (λi v=>∃e,es[i]?=J e/\v=e.key) (gJ d es ep) where
 type:=λ_ a=>a.ty
 there:=λ_ a=>⟨a.lt,a.lt⟩
 keep:=λ_ _ a r=>a.at' λo e=>r d (.inl rfl) o e
 notList:=by decide
 notTuple:=by decide
 hint:=λ_ _ _ _ a z=>PySem.W.kdl_hint_dict a.ty z
 iter:=λA s F a=>⟨_,λi h=>h.IsKeyIter s.heap.objs.size d i es.size ep/\gJ d es ep h,(λ_ _ z=>AB lo a z),{
  sub:=λb f=>by simp at f;simp[f]
  frame:=λ_ _ _ st r=>⟨st.1.at λo e=>r _ (by simp) o e,st.2.at' λo e=>r d (by simp) o e⟩
  item:=λi y Q E C st hQ=>Ax st.1 st.2 (e:=es[i]) (by simp[C]) λu j l =>
   hQ _ u y.toks ⟨_,by simp[C],rfl⟩ ⟨j,st.2.at' λo e=>l.extBut d o (t3 a.lt) e⟩ λb o f e=>l.extBut b o (λh=>f (by simp[h])) e
  done:=λy Q E st hQ=>Et F st.1 st.2 λu B=>hQ u y.toks λb o f e=>B b o (λh=>f (by simp[h])) e
  self:=λ_ _ _ _ st hQ=>wpAny_pyIter_keyiter st.1 hQ},⟨⟨_,s_ _ rfl,rfl,rfl⟩,a.at' λ_ e=>n7 _ e⟩⟩
end
def y1(f:TN)(h:MH):T6:=match f with
 |[x]=>(match g7 h x with
  |some (a,_)=>o_ (a.map kP) h
  |none=>.bad)
 |_=>.bad
section
variable{X:Cx}{N W G:TQ}{k:Nat}
def qm:∀{bs:List CN}{us:TZ},us.length=bs.length->(∀(i:Nat) v,us[i]?=J v->∃e,(bs.map Lw)[i]?=J e/\v=e.key)->aD (bs.map λx=>V.ref x.2.1) us
 |[],us,a,_=>by rw[CT.mp a];exact .nil
 |b::bs,us,a,h=>by
  cases us with
  |nil=>cases a
  |cons u us =>
   obtain⟨e,e1,rfl⟩:=h 0 u rfl;cases e1;exact .cons rfl (qm (by simpa using a) λi v hv=>by simpa using h (i+1) v (by simpa using hv))
def rS{K:hU}{U:TX}{H:Hp}:∀{bs:List CN},(∀x∈bs,SqT K H x.2.1 (x.1.map V.int))->RPs K U H ((bs.map (·.1)).map kP) (bs.map λx=>V.ref x.2.1)
 |[],_=>.nil
 |b::bs,h=>.cons (.tup (h b (by simp)) (RPs.ints b.1)) (rS λx a=>h x (l7 _ a))
def AU(g:Good X N W G k):cg X (.type "list") y1:=by
 intro Lo s Z H xs us Q f r ⟨U,h,ps,z,rp,q⟩;unfold y1 at q
 split at q
 .rename_i x
  cases rp with
  |cons r1 M =>
   cases M
   cases r with
   |cons u1 S =>
    cases S
    cases y:g7 h x with
    |none=>rw[y]at q;exact q.elim
    |some w =>
     obtain⟨C,xs⟩:=w;rw[y]at q;obtain⟨n,a,rfl,en,rfl,eo,bs,ys,e1,O,vs,ab,P⟩:=pA z r1 y;cases u1;obtain⟨⟨o,es,ep,R,h2,h3,E,h5,hd,h7⟩,_⟩:=(show ObjOk X.prog X.w H s.heap a (.ext (DT a bs))from f.hok a _ P);dsimp only at q;unfold o_ at q;have l:es.size=bs.length:=by rw[<-As,E,mm]
     by_cases u:(C.map kP).length<=sizeLine
     .rw[b_ u]at q;refine PySem.W.kdl_call (Eu hd) (f.ok.hd g.calm) ⟨o,R,h2,h3⟩ (by rw[l];exact h7) λh' tk j c' kp e F=>?_;have va:=qm (bs:=bs) (us:=j.toList) (by rw[As,F.1,l]) λi v hv=>by
       obtain⟨e,e2,e3⟩:=F.2 i v (by rw[<-v7];exact hv);exact⟨e,by rw[<-E,v7];exact e2,e3⟩
      have L:RPs X.K U H (C.map kP) (bs.map λx=>V.ref x.2.1):=by rw[e1];exact rS O
      obtain⟨B,l3⟩:=z.new (f.hok.fresh (ia s.heap.objs.size)) (o:=.lst (C.map kP)) ⟨_,rfl,L⟩;refine⟨.ref s.heap.objs.size,_,f.laid (o:=.lst (bs.map λx=>V.ref x.2.1)) kp (ia _) (⟨by rw[e1]at u;simpa using u,j.toList,c',va,by simpa using e⟩),rfl,q _ _ _ l3 B (.loc (by rw[<-z.len];simp))⟩
     .rw[e_ u]at q;exact q.elim
 .exact q.elim
end
end MM
namespace MM
open PySem.Spec PyProof.Rows L2
def BW(xs:TN)(h:MH):T6:=match xs with
 |[x]=>(match (bq h x).bind d5 with
  |some a=>.ok (.int a.sum) h
  |none=>.bad)
 |_=>.bad
def lU(a:TR):∀n,n<=a.length->preSum (λi=>a.getD i 0) n=(a.take n).sum
 |0,_=>by simp[preSum]
 |n+1,h=>by
  rw[preSum,lU a n ⋯,B9]
  have:a[n]?=J (a.getD n 0):=by simp[List.getD,show n<a.length by lia]
  rw[this];simp
section
variable{X:Cx}{N W G:TQ}{k:Nat}
def Ip(g:Good X N W G k):cg X (.builtin "sum") BW:=by
 intro Lo s Z H xs us Q f r ⟨U,h,ps,E,rp,q⟩;unfold BW at q
 split at q
 .rename_i x
  cases rp with
  |cons P F =>
  cases F
  cases y:(bq h x).bind d5 with
  |none=>simp only[y]at q;exact q.elim
  |some j =>
   simp only[y]at q;obtain⟨ys,e1,e2⟩:=BF.mp y;obtain⟨a,zs,rfl,z,u⟩:=eV E P e1
   cases r with
   |cons R L =>
    cases L;cases R;refine call_sum_walkG (iL (A:=X.A.in1) g.room.hd f z λC h2 It St O S st M kp l=>?_);obtain⟨el,ei⟩:=mG u O e2;have B:C.toArray.size=j.length:=by exact el
    refine⟨It,_,_,_,_,St,(λi=>j.getD i 0),rfl,S,st,M,λi v hv=>ei i v (by simpa using hv),λh' tk t' kk=>?_⟩;rw[B,lU j _ (ia _),CZ];exact⟨.int _,H,f.kept (nI kp l kk),⟨_,rfl⟩,q U H _ (Le.refl _ _) E (.int _)⟩
 .exact q.elim
end
end MM
namespace PU
open MM
def ys{α:Type}{a b:α}(h:a=b):a=b:=h
inductive D where
 |non | bl (b:Bool) | int (i:Int) | str (x:Str) | tup (xs:List D) | lst (xs:List D) | dic (ks:TU) (ds:List D) | exc (c:Str) | pen
abbrev _root_.TW:=List D
abbrev _root_.T9:=Option D
abbrev g_:=Int×Int×Int
abbrev aA:=List (T9)
def bT(h:MH)(p:Nat)(s:g_):Prop:=h[p]?=J (.lst [.int s.1,.int s.2.1,.int s.2.2])
inductive QZ(P:TN->Prop)(v:PV):Prop
 |mk(xs:TN)(e:v=.tup xs)(r:P xs):QZ P v
inductive SQ(h:MH)(O:TV)(P:TN->Prop)(v:PV):Prop
 |mk(n:Nat)(xs:TN)(e:v=.loc n)(no:n∉O)(g:h[n]?=J (.lst xs))(r:P xs):SQ h O P v
inductive SS(h:MH)(O:TV)(o:MO)(v:PV):Prop
 |mk(n:Nat)(e:v=.loc n)(no:n∉O)(g:h[n]?=J o):SS h O o v
inductive SU(h:MH)(O:TV)(ks:TU)(P:TN->Prop)(v:PV):Prop
 |mk(n:Nat)(xs:TN)(e:v=.loc n)(no:n∉O)(g:h[n]?=J (.dic ks xs))(r:P xs):SU h O ks P v
inductive Q0(P:PV->Prop)(Q:TN->Prop)(vs:TN):Prop
 |mk(x:PV)(r:TN)(e:vs=x::r)(a:P x)(b:Q r):Q0 P Q vs
mutual
def Rp(p:Nat)(h:MH)(O:TV):D->PV->Prop
 |.non,v=>v=.non
 |.bl b,v=>v=.bl b
 |.int i,v=>v=.int i
 |.str x,v=>v=.str x
 |.tup a,v=>QZ (Rps p h O a) v
 |.lst a,v=>SQ h O (Rps p h O a) v
 |.dic f a,v=>SU h O f (Rps p h O a) v
 |.exc c,v=>SS h O (.exc ⟨c,[]⟩) v
 |.pen,v=>v=.loc p
def Rps(p:Nat)(h:MH)(O:TV):TW->TN->Prop
 |[],a=>a=[]
 |d::f,a=>Q0 (Rp p h O d) (Rps p h O f) a
end
def ba{h:MH}{n:Nat}{o:MO}(e:h[n]?=J o):n<h.length:=(qp.mp e).1
structure Mv(O:TV)(h:MH)(O':TV)(h':MH):Prop where
 keep:∀n:Nat,n<h.length->n∉O->h'[n]?=h[n]?
 new:∀o∈O',o∈O\/h.length<=o
def Mv.get{O i:TV}{h f:MH}(s:Mv O h i f){n:Nat}{o:MO}(e:h[n]?=J o)(a:n∉O):n∉i/\f[n]?=J o:=by
 have j:=ba e;refine⟨λz=>?_,(s.keep n j a).trans e⟩;rcases s.new n z with q|q
 .exact a q
 .lia
section
variable{p:Nat}{O O':TV}{h h':MH}
def Rp.mv(s:Mv O h O' h')(r:Rp p h O d v):Rp p h' O' d v:=by
 refine D.rec (motive_1:=λd=>∀v,Rp p h O d v->Rp p h' O' d v) (motive_2:=λl=>∀u,Rps p h O l u->Rps p h' O' l u)
  (λ_ r=>r) (λ_ _ r=>r) (λ_ _ r=>r) (λ_ _ r=>r) (λl i _ r=>?_) (λl i _ r=>?_) (λ_ l i _ r=>?_) (λ_ _ r=>?_) (λ_ r=>r) (λ_ r=>r) (λ_ _ i j _ r=>?_) d v r
 .obtain⟨xs,e,r⟩:=r;exact⟨xs,e,i _ r⟩
 .obtain⟨n,xs,e,f,g,r⟩:=r;exact⟨n,xs,e,(s.get g f).1,(s.get g f).2,i _ r⟩
 .obtain⟨n,xs,e,f,g,r⟩:=r;exact⟨n,xs,e,(s.get g f).1,(s.get g f).2,i _ r⟩
 .obtain⟨n,e,f,g⟩:=r;exact⟨n,e,(s.get g f).1,(s.get g f).2⟩
 .obtain⟨x,t,e,a,b⟩:=r;exact⟨x,t,e,i _ a,j _ b⟩
def Rps.mv(s:Mv O h O' h')(r:Rps p h O f vs):Rps p h' O' f vs:=by
 induction f generalizing vs with
 |nil=>exact r
 |cons d f i=>obtain⟨x,t,e,a,b⟩:=r;exact⟨x,t,e,a.mv s,i b⟩
def Rps.length(r:Rps p h O f vs):vs.length=f.length:=by
 induction f generalizing vs with
 |nil=>rw[show vs=[]from r];rfl
 |cons d f i=>obtain⟨x,t,e,a,b⟩:=r;rw[e,BH,BH,i b]
def Rps.get{f:TW}{j:TN}{i:Nat}{d:D}(r:Rps p h O f j)(g:f[i]?=J d):∃v,j[i]?=J v/\Rp p h O d v:=by
 induction f generalizing j i with
 |nil=>cases g
 |cons d f l =>
  obtain⟨x,t,e,a,b⟩:=r;subst e
  cases i with
  |zero=>cases g;exact⟨x,rfl,a⟩
  |succ i=>have z:=@l t i b g;exact z
def Rps.app(r:Rps p h O f vs)(s:Rps p h O es ws):Rps p h O (f++es) (vs++ws):=by
 induction f generalizing vs with
 |nil=>rw[show vs=[]from r];exact s
 |cons d f i=>obtain⟨x,t,e,a,b⟩:=r;subst e;exact⟨x,t++_,rfl,a,i b⟩
def Rps.take(n:Nat)(r:Rps p h O f vs):Rps p h O (f.take n) (vs.take n):=by
 induction f generalizing vs n with
 |nil=>rw[show vs=[]from r];cases n<;>rfl
 |cons d f i =>
  obtain⟨x,t,e,a,b⟩:=r;subst e
  cases n with
  |zero=>rfl
  |succ n=>exact⟨x,t.take n,rfl,a,i n b⟩
def Rps.drop(n:Nat)(r:Rps p h O f vs):Rps p h O (f.drop n) (vs.drop n):=by
 induction f generalizing vs n with
 |nil=>rw[show vs=[]from r];cases n<;>rfl
 |cons d f i =>
  cases n with
  |zero=>exact r
  |succ n=>obtain⟨x,t,e,a,b⟩:=r;subst e;exact i n b
end
def dl:Option (TU)->TW->D
 |none,a=>.lst a
 |some f,a=>.dic f a
def mo:Option (TU)->TN->MO
 |none,xs=>.lst xs
 |some a,xs=>.dic a xs
def fc(e:D.lst ds=dl k es):k=Y/\ds=es:=by
 cases k with
 |none=>cases e;exact⟨rfl,rfl⟩
 |some _=>cases e
def t5(e:D.dic ks ds=dl k es):k=J ks/\ds=es:=by
 cases k with
 |none=>cases e
 |some _=>cases e;exact⟨rfl,rfl⟩
inductive SV(p:Nat)(h:MH)(L:Nat)(O:TV)(d:D)(v:PV):Prop
 |mk(n:Nat)(k:Option (TU))(xs:TN)(ds:TW)(e:d=dl k ds)(e':v=.loc n)(o:n∈O)(l:L<=n)(g:h[n]?=J (mo k xs))(r:Rps p h O ds xs):SV p h L O d v
def Vw(p:Nat)(h:MH)(L:Nat)(O:TV)(d:D)(v:PV):Prop:=Rp p h O d v\/SV p h L O d v
def Vws(p:Nat)(h:MH)(L:Nat)(O:TV):TW->TN->Prop
 |[],a=>a=[]
 |d::f,a=>Q0 (Vw p h L O d) (Vws p h L O f) a
inductive Mu(p:Nat)(L:Nat)(O:TV)(h:MH)(k:Option (TU))(ds:TW)(v:PV):Prop
 |mk(n:Nat)(xs:TN)(e:v=.loc n)(l:L<=n)(g:h[n]?=J (mo k xs))(r:Rps p h (n::O) ds xs):Mu p L O h k ds v
def Frs(p:Nat)(L:Nat)(O:TV)(h:MH)(d:D)(v:PV):Prop:=∀k a,d=dl k a->Mu p L O h k a v
structure KB(p:Nat)(h h':MH):Prop where
 len:h.length<=h'.length
 keep:∀n:Nat,n<h.length->n≠p->h'[n]?=h[n]?
def KB.refl(p:Nat)(h:MH):KB p h h:=⟨ia _,λ_ _ _=>rfl⟩
def KB.trans(a:KB p h h1)(b:KB p h1 h2):KB p h h2 :=
 ⟨m_ a.len b.len,λn i f=>(b.keep n (rc i a.len) f).trans (a.keep n i f)⟩
def KB.app(p:Nat)(h g:MH):KB p h (h++g):=⟨by simp,λn a _=>we a⟩
def KB.mv(k:KB p h h')(i:p∈O):Mv O h O h' :=
 ⟨λn j f=>k.keep n j λz=>f (z▸i),λo a=>.inl a⟩
def bT.app{p:Nat}{h g:MH}{s:g_}(e:bT h p s):bT (h++g) p s:=by unfold bT at *;rw[we (ba e)];exact e
def Vw.kb{p L:Nat}{h a:MH}{O:TV}{d:D}{v:PV}(k:KB p h a)(f:p∈O)(hL:p<L)(w:Vw p h L O d v):Vw p a L O d v:=by
 rcases w with r|⟨n,j,xs,l,e1,e2,i,u,g,r⟩
 .exact .inl (r.mv (k.mv f))
 .exact .inr ⟨n,j,xs,l,e1,e2,i,u,(k.keep n (ba g) ⋯).trans g,r.mv (k.mv f)⟩
inductive PR(α:Type) where
 |ok(a:α)(s:g_)
 |exc(c:Str)(s:g_)
 |bad
def PR.bind{α β:Type}(r:PR α)(f:α->g_->PR β):PR β:=match r with
 |.ok a s=>f a s
 |.exc c s=>.exc c s
 |.bad=>.bad
@[simp]theorem Pb(a:α)(s:g_)(f:α->g_->PR β):(PR.ok a s).bind f=f a s:=rfl
@[simp]theorem Pe(c:Str)(s:g_)(f:α->g_->PR β):(PR.exc c s).bind f=.exc c s:=rfl
@[simp]theorem Pd(f:α->g_->PR β):(PR.bad:PR α).bind f=.bad:=rfl
def PR.of{α:Type}(o:Option α)(s:g_):PR α:=match o with
 |some a=>.ok a s
 |none=>.bad
@[simp]theorem Pf(a:α)(s:g_):PR.of (J a) s=.ok a s:=rfl
@[simp]theorem Pn(s:g_):PR.of (Y:Option α) s=.bad:=rfl
inductive SW{α β:Type}(p:Nat)(h:MH)(o:Out β)(a:α)(s:g_)(R:MH->α->β->Prop):Prop
 |mk(b:β)(h':MH)(e:o=.ok b h')(k:KB p h h')(n:bT h' p s)(r:R h' a b):SW p h o a s R
inductive SX{β:Type}(p:Nat)(h:MH)(o:Out β)(c:Str)(s:g_):Prop
 |mk(h':MH)(e:o=.exc ⟨c,[]⟩ h')(k:KB p h h')(n:bT h' p s):SX p h o c s
def Ok{α β:Type}(p:Nat)(h:MH)(o:Out β)(r:PR α)(R:MH->α->β->Prop):Prop:=match r with
 |.ok a s=>SW p h o a s R
 |.exc c s=>SX p h o c s
 |.bad=>True
def Ok.bind{α β γ δ:Type}{p:Nat}{h:MH}{o:Out β}{r:PR α}{R:MH->α->β->Prop}{f:β->MH->Out δ}{g:α->g_->PR γ}{S:MH->γ->δ->Prop}(q:Ok p h o r R)(k:∀a b i s,KB p h i->bT i p s->R i a b->Ok p i (f b i) (g a s) S):Ok p h (o.bind f) (r.bind g) S:=by
 cases r with
 |ok a s =>
  obtain⟨b,i,rfl,kb,pn,B⟩:=q
  have:=k a b i s kb pn B
  rw[Pb]
  cases e:g a s with
  |ok c z =>
   rw[e]at this;obtain⟨d,u,e2,j,l,y⟩:=this;exact⟨d,u,e2,kb.trans j,l,y⟩
  |exc c z =>
   rw[e]at this;obtain⟨u,e2,j,l⟩:=this;exact⟨u,e2,kb.trans j,l⟩
  |bad=>trivial
 |exc c s =>
  obtain⟨i,rfl,kb,pn⟩:=q;exact⟨i,rfl,kb,pn⟩
 |bad=>trivial
def Ok.imp{α β:Type}{p:Nat}{h:MH}{o:Out β}{r:PR α}{R S:MH->α->β->Prop}(q:Ok p h o r R)(k:∀f a b,KB p h f->R f a b->S f a b):Ok p h o r S:=by
 cases r with
 |ok a s=>obtain⟨b,i,e,kb,pn,j⟩:=q;exact⟨b,i,e,kb,pn,k _ _ _ kb j⟩
 |exc c s=>exact q
 |bad=>trivial
structure SR(p:Nat)(h:MH)(L:Nat)(O:TV)(ws:TV)(Z:ls)(env:aA):Prop where
 len:Z.length=env.length
 fz:∀i d,env[i]?=J (J d)->i∉ws->∃v,Z[i]?=J (J v)/\Rp p h O d v
 ow:∀i d,env[i]?=J (J d)->i∈ws->∃n k xs ds,d=dl k ds/\Z[i]?=J (J (.loc n))/\n∈O/\L<=n/\h[n]?=J (mo k xs)/\Rps p h O ds xs
structure Cx(p:Nat)(h:MH)(L:Nat)(B O:TV)(ws:TV)(Z:ls)(env:aA)(s:g_):Prop where
 bd:∀o∈O,o<h.length
 sub:∀o∈B,o∈O
 bb:∀o∈B,o<L
 pb:p∈B
 hL:L<=h.length
 pen:bT h p s
 sr:SR p h L O ws Z env
section
variable{p L:Nat}{h h':MH}{B O ws:TV}{Z:ls}{env:aA}{s s':g_}
def Cx.pO(c:Cx p h L B O ws Z env s):p∈O:=c.sub p c.pb
def Cx.pL(c:Cx p h L B O ws Z env s):p<L:=c.bb p c.pb
def SR.mv{j:TV}(m:Mv O h j h')(u:∀o∈O,o∈j)(l:∀n:Nat,n<h.length->L<=n->n∈O->h'[n]?=h[n]?)(r:SR p h L O ws Z env):SR p h' L j ws Z env :=
 ⟨r.len,λi d e f=>let⟨v,e1,q⟩:=r.fz i d e f;⟨v,e1,q.mv m⟩,λi d e f=>let⟨n,k,xs,y,e1,e2,a,b,g,q⟩:=r.ow i d e f;⟨n,k,xs,y,e1,e2,u n a,b,(l n (ba g) b a).trans g,q.mv m⟩⟩
def Cx.kb(c:Cx p h L B O ws Z env s)(k:KB p h h')(pn:bT h' p s'):Cx p h' L B O ws Z env s' :=
 ⟨λo a=>rc (c.bd o a) k.len,c.sub,c.bb,c.pb,m_ c.hL k.len,pn,c.sr.mv (k.mv c.pO) (λ_ h=>h) λn f i _=>k.keep n f (by have:=c.pL;lia)⟩
def Vw.base(w:Vw p h L O d v)(sub:∀o∈B,o∈O)(bb:∀o∈B,o<L):Rp p h B d v:=by
 have m:Mv O h B h:=⟨λ_ _ _=>rfl,λo a=>.inl (sub o a)⟩;rcases w with r|⟨n,k,xs,i,rfl,rfl,_,f,g,r⟩
 .exact r.mv m
 .cases k<;>exact⟨n,xs,rfl,λz=>by have:=bb n z;lia,g,r.mv m⟩
def Vws.base(sub:∀o∈B,o∈O)(bb:∀o∈B,o<L):∀{i:TW}{f:TN},Vws p h L O i f->Rps p h B i f
 |[],_,r=>r
 |_::_,_,⟨x,t,e,a,b⟩=>⟨x,t,e,a.base sub bb,Vws.base sub bb b⟩
def Frs.rp(f:Frs p L' O h d v)(bd:∀o∈O,o<L')(e:d=dl k ds):Rp p h O d v:=by obtain⟨n,xs,e1,i,g,r⟩:=f k ds e;subst e;cases k<;>exact⟨n,xs,e1,λz=>by have:=bd n z;lia,g,r.mv ⟨λ_ _ _=>rfl,λo a=>.inl (l7 _ a)⟩⟩
def Frs.le(f:Frs p L2 O h d v)(a:L1<=L2):Frs p L1 O h d v:=λk i e =>
 let⟨n,xs,e1,j,g,r⟩:=f k i e;⟨n,xs,e1,m_ a j,g,r⟩
end
abbrev Bd(h:MH)(O:TV):Prop:=∀o∈O,o<h.length
inductive Gv(p:Nat)(h:MH)(O:TV)(fr:Bool)(o:T6)(d:D):Prop
 |mk(v:PV)(g:MH)(e:o=.ok v (h++g))(r:Rp p (h++g) O d v)(f:fr=I->Frs p h.length O (h++g) d v):Gv p h O fr o d
structure OY where
 m:PV->MH->T6
 p:D->T9
 fr:Bool
 ok:∀{q h L O a x d},Bd h O->Vw q h L O a x->p a=J d->Gv q h O fr (m x h) d
structure y4 where
 m:PV->PV->MH->T6
 p:D->D->T9
 fr:Bool
 ok:∀{q h L O a x b y d},Bd h O->Vw q h L O a x->Vw q h L O b y->p a b=J d->Gv q h O fr (m x y h) d
structure y_ where
 k:TN->MH->T6
 p:TW->T9
 fr:Bool
 ok:∀{q h L O as xs d},Bd h O->Vws q h L O as xs->p as=J d->Gv q h O fr (k xs h) d
structure Fn where
 m:TN->MH->T6
 p:TW->g_->PR D
 fr:Bool
 ok:∀{q h O vs ds s},Bd h O->q∈O->bT h q s->Rps q h O ds vs->Ok q h (m vs h) (p ds s) (λh' d v=>Rp q h' O d v/\(fr=I->Frs q h.length O h' d v))
mutual
def flat:D->Bool
 |.lst _ | .dic _ _ | .exc _ | .pen=>T
 |.tup a=>oy a
 |_=>I
def oy:TW->Bool
 |[]=>I
 |d::a=>flat d&&oy a
end
section
variable{p:Nat}{h h':MH}{O O':TV}
mutual
def Rp.flat:∀{d:D}{v:PV},PU.flat d=I->Rp p h O d v->Rp p h' O' d v
 |.non,_,_,r=>r
 |.bl _,_,_,r=>r
 |.int _,_,_,r=>r
 |.str _,_,_,r=>r
 |.tup a,_,f,⟨xs,e,r⟩=>⟨xs,e,Rps.flat (by simpa [PU.flat]using f) r⟩
 |.lst a,_,f,_=>by simp[PU.flat]at f
 |.dic _ _,_,f,_=>by simp[PU.flat]at f
 |.exc _,_,f,_=>by simp[PU.flat]at f
 |.pen,_,f,_=>by simp[PU.flat]at f
def Rps.flat:∀{i:TW}{j:TN},PU.oy i=I->Rps p h O i j->Rps p h' O' i j
 |[],_,_,r=>r
 |_::_,_,f,⟨x,t,e,a,b⟩=>⟨x,t,e,Rp.flat (by simp[PU.oy]at f;exact f.1) a,Rps.flat (by simp[PU.oy]at f;exact f.2) b⟩
end
end
structure Xe(ws:TV) where
 m:Mx PV
 p:aA->g_->PR D
 fz:Bool
 fr:Bool
 ok:∀{q h L B O Z env s},Cx q h L B O ws Z env s->Ok q h (m Z h) (p env s) (λh' d v=>Vw q h' L O d v/\(fz=I->Rp q h' O d v)/\(fr=I->Frs q h.length O h' d v))
structure Xs(ws:TV) where
 m:Mx (TN)
 p:aA->g_->PR (TW)
 fz:Bool
 ok:∀{q h L B O Z env s},Cx q h L B O ws Z env s->Ok q h (m Z h) (p env s) (λh' ds vs=>Vws q h' L O ds vs/\(fz=I->Rps q h' O ds vs))
structure Xt(ws:TV) where
 m:Mx Bool
 p:aA->g_->PR Bool
 ok:∀{q h L B O Z env s},Cx q h L B O ws Z env s->Ok q h (m Z h) (p env s) (λ_ a b=>a=b)
noncomputable section
variable{ws:TV}
def BA{q L:Nat}{h a:MH}{O:TV}{o:T6}{d:D}{s:g_}{fr:Bool}(le:h.length<=a.length)(pn:bT a q s)(g:Gv q a O fr o d):
  Ok q a o (.ok d s) (λi d v=>Vw q i L O d v/\(I=I->Rp q i O d v)/\(fr=I->Frs q h.length O i d v)):=by
 obtain⟨v,g,e,r,f⟩:=g;exact⟨v,a++g,e,KB.app _ _ _,pn.app,.inl r,λ_=>r,λz=>(f z).le le⟩
def aa(i:Nat):Xe ws where
 m:=ag i
 p:=λenv s=>match env[i]? with
  |some (J d)=>.ok d s
  |_=>.bad
 fz:=!ws.contains i
 fr:=T
 ok {q h L B O Z env s} c:=by
  show Ok q h _ (match env[i]? with|some (J d)=>PR.ok d s|_=>.bad) _
  cases e:env[i]? with
  |none=>trivial
  |some o =>
   cases o with
   |none=>trivial
   |some d =>
    by_cases z:i∈ws
    .obtain⟨n,k,xs,j,e1,e2,a,b,g,r⟩:=c.sr.ow i d e z;exact⟨.loc n,h,by simp[ag,e2],KB.refl _ _,c.pen,.inr ⟨n,k,xs,j,e1,rfl,a,b,g,r⟩,λf=>by simp[z]at f,λf=>by simp at f⟩
    .obtain⟨v,e1,r⟩:=c.sr.fz i d e z;exact⟨v,h,by simp[ag,e1],KB.refl _ _,c.pen,.inl r,λ_=>r,λf=>by simp at f⟩
inductive Cn where
 |non | bl (b:Bool) | int (i:Int) | str (x:Str)
def Cn.v:Cn->PV
 |.non=>.non
 |.bl b=>.bl b
 |.int i=>.int i
 |.str x=>.str x
def Cn.d:Cn->D
 |.non=>.non
 |.bl b=>.bl b
 |.int i=>.int i
 |.str x=>.str x
def Cn.rp(c:Cn){q:Nat}{h:MH}{O:TV}:Rp q h O c.d c.v:=by cases c<;>rfl
def xC(k:Cn):Xe ws where
 m:=mC k.v
 p:=λ_ s=>.ok k.d s
 fz:=I
 fr:=I
 ok {q h L B O Z env s} c:=⟨k.v,h,rfl,KB.refl _ _,c.pen,.inl k.rp,λ_=>k.rp,λ_ a f e=>by cases k<;>cases a<;>cases e⟩
def ae(o:y4)(a b:Xe ws):Xe ws where
 m:=az o.m a.m b.m
 p:=λenv s=>(a.p env s).bind λx z=>(b.p env z).bind λy E=>.of (o.p x y) E
 fz:=I
 fr:=o.fr
 ok {q h L B O Z env s} c:=by
  refine(a.ok c).bind λx v M z j C ⟨G,_,_⟩=>?_;refine(b.ok (c.kb j C)).bind λy w P E i l ⟨F,_,_⟩=>?_
  cases e:o.p x y with
  |none=>trivial
  |some d =>
   have H:=(c.kb j C).kb i l;obtain⟨u,g,e1,r,f⟩:=o.ok H.bd (G.kb i c.pO c.pL) F e;exact BA (m_ j.len i.len) l ⟨u,g,by rw[e1];rfl,r,f⟩
def Bb(o:OY)(a:Xe ws):Xe ws where
 m:=Ly o.m a.m
 p:=λenv s=>(a.p env s).bind λx i=>.of (o.p x) i
 fz:=I
 fr:=o.fr
 ok {q h L B O Z env s} c:=by
  refine(a.ok c).bind λx v z i l j ⟨y,_,_⟩=>?_
  cases e:o.p x with
  |none=>trivial
  |some d =>
   obtain⟨u,g,e1,r,f⟩:=o.ok (c.kb l j).bd y e;exact BA l.len j ⟨u,g,by rw[e1];rfl,r,f⟩
def a_:Xs ws where
 m:=h8
 p:=λ_ s=>.ok [] s
 fz:=I
 ok {q h L B O Z env s} c:=⟨[],h,rfl,KB.refl _ _,c.pen,rfl,λ_=>rfl⟩
def ac(a:Xe ws)(r:Xs ws):Xs ws where
 m:=ao a.m r.m
 p:=λenv s=>(a.p env s).bind λx i=>(r.p env i).bind λy l=>.ok (x::y) l
 fz:=a.fz&&r.fz
 ok {q h L B O Z env s} c:=by refine(a.ok c).bind λx v P i M F ⟨C,G,_⟩=>?_;refine(r.ok (c.kb M F)).bind λy w E l j u ⟨z,H⟩=>?_;refine⟨v::w,E,rfl,KB.refl _ _,u,⟨v,w,rfl,C.kb j c.pO c.pL,z⟩,λf=>?_⟩;rw[KJ]at f;exact⟨v,w,rfl,(G f.1).mv (j.mv c.pO),H f.2⟩
def li(o:y_)(a:Xs ws):Xe ws where
 m:=λZ h=>(a.m Z h).bind o.k
 p:=λenv s=>(a.p env s).bind λx i=>.of (o.p x) i
 fz:=I
 fr:=o.fr
 ok {q h L B O Z env s} c:=by
  refine(a.ok c).bind λx v r i j f ⟨l,_⟩=>?_
  cases e:o.p x with
  |none=>trivial
  |some d=>exact BA j.len f (o.ok (c.kb j f).bd l e)
def au(f:Fn)(a:Xs ws)(u:a.fz=I:=by exact ys rfl):Xe ws where
 m:=bS f.m a.m
 p:=λenv s=>(a.p env s).bind f.p
 fz:=I
 fr:=f.fr
 ok {q h L B O Z env s} c:=by refine(a.ok c).bind λx v C E l i ⟨_,z⟩=>?_;have j:=c.kb l i;refine(f.ok j.bd j.pO i (z u)).imp λy d v kb ⟨r,fr⟩=>⟨.inl r,λ_=>r,λz=>(fr z).le l.len⟩
def BX(d:D):Bool:=match d with
 |.lst a=>oy a
 |d=>flat d
def lF(f:Fn)(a:Xs ws)(hf:f.fr=I:=by exact ys rfl):Xe ws where
 m:=bS f.m a.m
 p:=λenv s=>((a.p env s).bind f.p).bind λd s=>if BX d=I then .ok d s else .bad
 fz:=I
 fr:=I
 ok {q h L B O Z env s} c:=by
  have key:Ok q h ((a.m Z h).bind f.m) ((a.p env s).bind f.p) (λj d v=>Rp q j B d v/\Frs q h.length B j d v):=by refine(a.ok c).bind λx v U y H C ⟨w,_⟩=>?_;have l:=c.kb H C;refine(f.ok (λo M=>rc (l.bb o M) l.hL) l.pb C (w.base l.sub l.bb)).imp λj d v kb ⟨r,fr⟩=>⟨r,(fr hf).le H.len⟩
  show Ok q h ((a.m Z h).bind f.m) _ _
  cases e:(a.p env s).bind f.p with
  |bad=>trivial
  |exc x y=>rw[e]at key;exact key
  |ok d y =>
   rw[e]at key;obtain⟨v,j,e1,kb,pn,r,fr⟩:=key;rw[Pb];by_cases z:BX d=I
   .rw[b_ z];have G:Frs q h.length O j d v:=λk F u=>by
     obtain⟨n,xs,P,Q,S,R⟩:=fr k F u;subst u
     cases k with
     |some _=>cases z
     |none=>exact⟨n,xs,P,Q,S,Rps.flat z R⟩
    have E:Rp q j O d v:=by
     cases d with
     |lst F=>exact G.rp (k:=Y) c.bd rfl
     |non=>exact r
     |bl b=>exact r
     |int i=>exact r
     |str i=>exact r
     |tup i=>exact Rp.flat z r
     |dic _ _=>cases z
     |exc _=>cases z
     |pen=>cases z
    exact⟨v,j,e1,kb,pn,.inl E,λ_=>E,λ_=>G⟩
   .rw[e_ z];trivial
def c8:100000<=sizeLine:=by decide
def jn(bd:Bd h O)(r:Rps q h O ds xs)(u:ds.length<=100000):Gv q h O I (o_ xs h) (.lst ds):=by
 have l:=r.length;have m:Mv O h O (h++[MO.lst xs]):=⟨λn f _=>we f,λo a=>.inl a⟩
 have j:Mv O h (h.length::O) (h++[MO.lst xs]):=⟨λn f _=>we f,λo a=>by
  rcases l_.mp a with z|z
  .exact .inr ⋯
  .exact .inl z⟩
 have g:(h++[MO.lst xs])[h.length]?=J (.lst xs):=by simp
 refine⟨.loc h.length,[.lst xs],?_,⟨_,_,rfl,λz=>by have:=bd _ z;lia,g,r.mv m⟩,λ_ k i e=>?_⟩
 .unfold o_;have:=c8;lia
 .obtain⟨rfl,rfl⟩:=fc e;exact⟨_,_,rfl,ia _,g,r.mv j⟩
def vk(r:Rps q h O ds xs)(i:ds.length<=100000):Gv q h O I (wj xs h) (.tup ds):=by
 have f:=r.length;refine⟨.tup xs,[],?_,?_,λ_ k a e=>by cases k<;>cases e⟩
 .unfold wj;rw[b_ (by have:=c8;lia)];simp
 .simpa using⟨xs,rfl,r⟩
def cF(a:Xs ws)(r:a.fz=I:=by exact ys rfl):Xe ws where
 m:=d6 a.m
 p:=λenv s=>(a.p env s).bind λx j=>if x.length<=100000 then .ok (.lst x) j else .bad
 fz:=I
 fr:=I
 ok {q h L B O Z env s} c:=by
  refine(a.ok c).bind λx v u j l i ⟨_,z⟩=>?_;by_cases f:x.length<=100000
  .rw[b_ f];exact BA l.len i (jn (c.kb l i).bd (z r) f)
  .rw[e_ f];trivial
def aX(a:Xs ws)(l:a.fz=I:=by exact ys rfl):Xe ws where
 m:=Dr a.m
 p:=λenv s=>(a.p env s).bind λx i=>if x.length<=100000 then .ok (.tup x) i else .bad
 fz:=I
 fr:=I
 ok {q h L B O Z env s} c:=by
  refine(a.ok c).bind λx v u i r j ⟨_,z⟩=>?_;by_cases f:x.length<=100000
  .rw[b_ f];exact BA r.len j (vk (z l) f)
  .rw[e_ f];trivial
def Ev:Xe ws where
 m:=Hf
 p:=λ_ s=>.ok (.dic [] []) s
 fz:=I
 fr:=I
 ok {q h L B O Z env s} c:=by
  have g:(h++[MO.dic [] []])[h.length]?=J (.dic [] []):=by simp
  have r:Rp q (h++[MO.dic [] []]) O (.dic [] []) (.loc h.length):=⟨_,[],rfl,λz=>by have:=c.bd _ z;lia,g,rfl⟩
  exact⟨.loc h.length,h++[.dic [] []],rfl,KB.app _ _ _,c.pen.app,.inl r,λ_=>r,λ_ k f e=>by
   cases k with
   |none=>cases e
   |some a=>cases e;exact⟨_,[],rfl,ia _,g,rfl⟩⟩
def Vw.bl(w:Vw q h L O (.bl b) v):v=.bl b:=by
 rcases w with r|⟨n,k,xs,a,e,_⟩
 .exact r
 .cases k<;>cases e
def PR.bl(r:PR D):PR Bool:=r.bind λd s=>match d with
 |.bl b=>.ok b s
 |_=>.bad
@[simp]theorem Pl:(PR.ok (D.bl b) s).bl=.ok b s:=rfl
def xB(a:Xe ws):Xt ws where
 m:=mB a.m
 p:=λenv s=>(a.p env s).bl
 ok {q h L B O Z env s} c:=by
  refine(a.ok c).bind λx v f j l i ⟨w,_,_⟩=>?_
  cases x with
  |bl b=>rw[w.bl];exact⟨b,f,rfl,KB.refl _ _,i,rfl⟩
  |_=>trivial
def fM(a:Xt ws):Xt ws where
 m:=rV a.m
 p:=λenv s=>(a.p env s).bind λb s=>.ok (!b) s
 ok {q h L B O Z env s} c:=(a.ok c).bind λx v f j l i e=>⟨!v,f,rfl,KB.refl _ _,i,by rw[e]⟩
def kn(a b:Xt ws):Xt ws where
 m:=GY a.m b.m
 p:=λenv s=>(a.p env s).bind λx s=>if x=I then b.p env s else .ok T s
 ok {q h L B O Z env s} c:=(a.ok c).bind λx v i l j f e=>by
  subst e
  cases x with
  |true=>simpa using b.ok (c.kb j f)
  |false=>exact⟨T,i,rfl,KB.refl _ _,f,rfl⟩
def Kk(a b:Xt ws):Xt ws where
 m:=Qt a.m b.m
 p:=λenv s=>(a.p env s).bind λx s=>if x=I then .ok I s else b.p env s
 ok {q h L B O Z env s} c:=(a.ok c).bind λx v i l j f e=>by
  subst e
  cases x with
  |false=>simpa using b.ok (c.kb j f)
  |true=>exact⟨I,i,rfl,KB.refl _ _,f,rfl⟩
def ka:Xt ws where
 m:=BL
 p:=λ_ s=>.ok I s
 ok {q h L B O Z env s} c:=⟨I,h,rfl,KB.refl _ _,c.pen,rfl⟩
def Ok.after{α β:Type}{p:Nat}{h l:MH}{o:Out β}{r:PR α}{R:MH->α->β->Prop}(k:KB p h l)(q:Ok p l o r R):Ok p h o r R:=by
 cases r with
 |bad=>trivial
 |exc B z=>obtain⟨f,a,i,j⟩:=q;exact⟨f,a,k.trans i,j⟩
 |ok C z=>obtain⟨y,f,a,i,j,u⟩:=q;exact⟨y,f,a,k.trans i,j,u⟩
def FH(pn:bT h q s):Ok q h (.ok (.bl b) h) (.ok (.bl b) s) (λa d v=>Vw q a L O d v/\(I=I->Rp q a O d v)/\(I=I->Frs q l O a d v)) :=
 ⟨.bl b,h,rfl,KB.refl _ _,pn,.inl rfl,λ_=>rfl,λ_ k f e=>by cases k<;>cases e⟩
def Iq(k:Ok q h o r (λa d v=>Vw q a L O d v/\(fz=I->Rp q a O d v)/\(fr=I->Frs q l' O a d v))):
  Ok q h o (r.bl.bind λb s=>.ok (.bl b) s) (λa d v=>Vw q a L O d v/\(I=I->Rp q a O d v)/\(I=I->Frs q l O a d v)):=by
 cases r with
 |bad=>trivial
 |exc c s=>exact k
 |ok d s =>
  obtain⟨v,a,e,kb,pn,w,_,_⟩:=k
  cases d with
  |bl b=>exact⟨v,a,e,kb,pn,w,λ_=>by rw[w.bl];rfl,λ_ k f e=>by cases k<;>cases e⟩
  |_=>trivial
def lv(a b:Xe ws):Xe ws where
 m:=wg a.m b.m
 p:=λenv s=>(a.p env s).bl.bind λx s=>if x=I then(b.p env s).bl.bind λy s=>.ok (.bl y) s else .ok (.bl T) s
 fz:=I
 fr:=I
 ok {q h L B O Z env s} c:=by
  have k:=a.ok c;show Ok q h ((a.m Z h).bind _) _ _
  cases e:a.p env s with
  |bad=>trivial
  |exc x u =>
   rw[e]at k;obtain⟨j,e1,f,i⟩:=k;rw[e1];exact⟨j,rfl,f,i⟩
  |ok d u =>
   rw[e]at k;obtain⟨v,j,e1,f,i,w,_,_⟩:=k
   cases d with
   |bl x =>
    rw[w.bl]at e1;rw[e1]
    cases x with
    |true =>
     exact Ok.after f (Iq (l:=h.length) (b.ok (c.kb f i)))
    |false =>
     obtain⟨G,z,r,C,F,E⟩:=FH (L:=L) (l:=h.length) (O:=O) (b:=T) i;exact⟨G,z,r,f.trans C,F,E⟩
   |_=>trivial
def rL(a:Xe ws):Xe ws where
 m:=wM a.m
 p:=λenv s=>(a.p env s).bl.bind λx s=>.ok (.bl (!x)) s
 fz:=I
 fr:=I
 ok {q h L B O Z env s} c:=by
  have k:=a.ok c;show Ok q h ((a.m Z h).bind _) _ _
  cases e:a.p env s with
  |bad=>trivial
  |exc x u =>
   rw[e]at k;obtain⟨j,e1,i,f⟩:=k;rw[e1];exact⟨j,rfl,i,f⟩
  |ok d u =>
   rw[e]at k;obtain⟨v,j,e1,i,f,w,_,_⟩:=k
   cases d with
   |bl x =>
    rw[w.bl]at e1;rw[e1];obtain⟨F,y,r,z,E,C⟩:=FH (L:=L) (l:=h.length) (O:=O) (b:=!x) f;exact⟨F,y,r,i.trans z,E,C⟩
   |_=>trivial
def oo(f g:y4)(a b e:Xe ws):Xe ws where
 m:=nU f.m g.m a.m b.m e.m
 p:=λenv s=>(a.p env s).bind λx G=>(b.p env G).bind λy E=>match f.p x y with
  |some (.bl t)=>if t=I then(e.p env E).bind λz R=>.of (g.p y z) R else .ok (.bl T) E
  |_=>.bad
 fz:=I
 fr:=T
 ok {q h L B O Z env s} c:=by
  refine(a.ok c).bind λx v h1 G X P ⟨w1,_,_⟩=>?_;refine(b.ok (c.kb X P)).bind λy w j E W C ⟨F,_,_⟩=>?_;have H:=(c.kb X P).kb W C
  cases e1:f.p x y with
  |none=>trivial
  |some d =>
   cases d with
   |bl t =>
    obtain⟨u,l,e2,r,_⟩:=f.ok H.bd (w1.kb W c.pO c.pL) F e1;have hu:u=.bl t:=r;subst hu;rw[e2];have i:=KB.app q j l;have M:=H.kb i C.app
    cases t with
    |true =>
     refine Ok.after i ?_;show Ok q (j++l) ((e.m Z (j++l)).bind _) _ _;refine(e.ok M).bind λz u h3 R S U ⟨w3,_,_⟩=>?_
     cases e4:g.p y z with
     |none=>trivial
     |some d =>
      obtain⟨u2,g2,e5,Q,_⟩:=g.ok (M.kb S U).bd ((F.kb i c.pO c.pL).kb S c.pO c.pL) w3 e4;refine⟨u2,h3++g2,by rw[e5];rfl,KB.app _ _ _,U.app,.inl Q,λ_=>Q,λf=>by simp at f⟩
    |false=>exact⟨.bl T,j++l,rfl,i,C.app,.inl rfl,λ_=>rfl,λf=>by simp at f⟩
   |_=>trivial
end
structure Xi(ws:TV) where
 m:Mx MIt
 p:aA->g_->PR (TW)
 fz:Bool
 ok:∀{q h L B O Z env s},Cx q h L B O ws Z env s->Ok q h (m Z h) (p env s) (λh' ds it=>Rps q h' O ds it.xs/\(∀g∈it.gd,h'[g.1]?=J (.lst g.2)/\g.1≠q)/\(fz=I->∀g∈it.gd,g.1∉O))
inductive GI(q:Nat)(h:MH)(O:TV)(ds as:TW)(xs:TN)(o:Out MIt):Prop
 |mk(it:MIt)(e:o=.ok it h)(r:Rps q h O ds it.xs)(g:∀g∈it.gd,h[g.1]?=J (.lst g.2)/\g.1≠q)(z:Rps q h O as xs->∀g∈it.gd,g.1∉O):GI q h O ds as xs o
structure OZ where
 k:TN->MH->Out MIt
 p:TW->Option (TW)
 ok:∀{q h L O as xs ds},q<L->q∈O->Bd h O->Vws q h L O as xs->p as=J ds->GI q h O ds as xs (k xs h)
def D.items:D->Option (TW)
 |.lst a=>J a
 |.tup a=>J a
 |_=>Y
@[simp]theorem yZ:(D.lst ds).items=J ds:=rfl
@[simp]theorem Kl:(D.tup ds).items=J ds:=rfl
noncomputable section
variable{ws:TV}
def bQ(o:OZ)(a:Xs ws):Xi ws where
 m:=λZ h=>(a.m Z h).bind o.k
 p:=λenv s=>(a.p env s).bind λx i=>.of (o.p x) i
 fz:=a.fz
 ok {q h L B O Z env s} c:=by
  refine(a.ok c).bind λx v u i E j ⟨w,z⟩=>?_
  cases e:o.p x with
  |none=>trivial
  |some F =>
   obtain⟨C,e1,r,l,y⟩:=o.ok c.pL c.pO (c.kb E j).bd w e;exact⟨C,u,e1,KB.refl _ _,j,r,l,λf=>y (z f)⟩
def Vw.seq(F:q<L)(E:q∈O)(w:Vw q h L O d v)(e:d.items=J ds):∃xs gd,v_ v h=.ok ⟨xs,gd⟩ h/\Rps q h O ds xs/\(∀g∈gd,h[g.1]?=J (.lst g.2)/\g.1≠q)/\(Rp q h O d v->∀g∈gd,g.1∉O):=by
 have one:∀n xs,h[n]?=J (MO.lst xs)->n≠q->(∀g∈[(n,xs)],h[g.1]?=J (MO.lst g.2)/\g.1≠q):=λn xs g u y a=>by
  have:y=(n,xs):=by simpa using a
  subst this;exact⟨g,u⟩
 cases d with
 |lst j =>
  have:j=ds:=by simpa using e
  subst this;rcases w with⟨n,xs,e1,i,g,r⟩|⟨n,B,xs,f,l,e1,_,u,g,r⟩
  .subst e1;refine⟨xs,[(n,xs)],by simp only[v_,g],r,one n xs g (λz=>i (z▸E)),λ_ y a=>?_⟩
   have:y=(n,xs):=by simpa using a
   subst this;exact i
  .obtain⟨rfl,rfl⟩:=fc l;subst e1;replace g:h[n]?=J (.lst xs):=g;refine⟨xs,[(n,xs)],by simp only[v_,g],r,one n xs g ⋯,λ⟨G,C,e1,i,_,_⟩ y a=>?_⟩
   grind
 |tup j =>
  have:j=ds:=by simpa using e
  subst this;rcases w with⟨xs,e1,r⟩|⟨n,B,xs,f,l,_⟩
  .subst e1;exact⟨xs,[],rfl,r,(λ_ a=>nomatch a),λ_ _ a=>nomatch a⟩
  .cases B<;>cases l
 |_=>simp[D.items]at e
def aH(a:Xe ws):Xi ws where
 m:=iw a.m
 p:=λenv s=>(a.p env s).bind λx i=>.of x.items i
 fz:=a.fz
 ok {q h L B O Z env s} c:=by
  refine(a.ok c).bind λx v l i E u ⟨w,z,_⟩=>?_
  cases e:x.items with
  |none=>trivial
  |some C =>
   obtain⟨xs,gd,e1,r,j,y⟩:=w.seq c.pL c.pO e;exact⟨⟨xs,gd⟩,l,e1,KB.refl _ _,u,r,j,λf=>y (z f)⟩
structure Xg(ws:TV) where
 m:Mg
 p:D->aA->Option aA
 ok:∀{q h L O Z env d v env'},SR q h L O ws Z env->Rp q h O d v->p d env=J env'->∃Z',m v Z h=.nx Z' h/\SR q h L O ws Z' env'/\∀i∈ws,Z'[i]?=Z[i]?/\env'[i]?=env[i]?
structure FI(ws:TV) where
 m:Dt
 p:TW->aA->Option aA
 ok:∀{q h L O Z env ds vs env'},SR q h L O ws Z env->Rps q h O ds vs->p ds env=J env'->∃Z',m vs Z h=.nx Z' h/\SR q h L O ws Z' env'/\∀i∈ws,Z'[i]?=Z[i]?/\env'[i]?=env[i]?
def SR.set(r:SR q h L O ws Z env)(B:i∉ws)(w:Rp q h O d v):SR q h L O ws (Z.set i (J v)) (env.set i (J d))/\∀j∈ws,(Z.set i (J v))[j]?=Z[j]?/\(env.set i (J d))[j]?=env[j]?:=by
 have ne:∀j∈ws,i≠j:=λj a z=>B (z▸a);refine⟨⟨by simp[r.len],λj e a l=>?_,λj e a l=>?_⟩,λj a=>⟨tu (ne j a),tu (ne j a)⟩⟩
 .by_cases z:i=j
  .subst z;have y:i<env.length:=by
    have:=(qp.mp a).1;simpa using this
   rw[Br y]at a;cases a;exact⟨v,Br (by rw[r.len];exact y),w⟩
  .rw[tu z]at a;obtain⟨u,e1,F⟩:=r.fz j e a l
   simp_all
 .rw[tu (ne j l)]at a;obtain⟨n,C,xs,E,e1,e2,f⟩:=r.ow j e a l;exact⟨n,C,xs,E,e1,by rw[tu (ne j l)];exact e2,f⟩
def jj(i:Nat)(j:ws.contains i=T:=by exact ys rfl):Xg ws where
 m:=AN i
 p:=λd env=>J (env.set i (J d))
 ok {q h L O Z env d v env'} r w e:=by
  cases e;have f:i∉ws:=λz=>by simp[z]at j
  obtain⟨a,b⟩:=r.set f w;exact⟨_,rfl,a,b⟩
def Bl:FI ws where
 m:=Qu
 p:=λa env=>match a with
  |[]=>J env
  |_=>Y
 ok {q h L O Z env a vs env'} r w e:=by
  cases a with
  |nil =>
   cases e
   have:vs=[]:=w
   subst this;exact⟨Z,rfl,r,λ_ _=>⟨rfl,rfl⟩⟩
  |cons _ _=>cases e
def vl(a:Xg ws)(t:FI ws):FI ws where
 m:=Ot a.m t.m
 p:=λj env=>match j with
  |d::j=>(a.p d env).bind λf=>t.p j f
  |[]=>Y
 ok {q h L O Z env j vs env'} r w e:=by
  cases j with
  |nil=>cases e
  |cons d j =>
   obtain⟨x,y,rfl,F,C⟩:=w;dsimp only at e
   cases e1:a.p d env with
   |none=>rw[e1]at e;cases e
   |some f =>
    rw[e1]at e;obtain⟨P,M,B,z⟩:=a.ok r F e1;obtain⟨E,H,G,u⟩:=t.ok B C e;exact⟨E,by show(a.m x Z h).then (t.m y)=_;rw[M];exact H,G,λi l=>⟨(u i l).1.trans (z i l).1,(u i l).2.trans (z i l).2⟩⟩
def Bm(t:FI ws)(n:Nat):Xg ws where
 m:=Ou t.m n
 p:=λd env=>match d with
  |.tup f=>if f.length=n then t.p f env else Y
  |_=>Y
 ok {q h L O Z env d v env'} r w e:=by
  cases d with
  |tup f =>
   obtain⟨xs,rfl,w⟩:=w;dsimp only at e;by_cases z:f.length=n
   .rw[b_ z]at e;obtain⟨i,a,b⟩:=t.ok r w e;exact⟨i,by show(if xs.length=n then t.m xs Z h else .bad)=_;rw[b_ (by rw[w.length];exact z)];exact a,b⟩
   .rw[e_ z]at e;cases e
  |_=>cases e
def Cc(a:Nat)(fm ws:TV):TV:=((List.range fm.length).filter λj=>ws.contains (fm.getD j 0)).map (a+·)
def wp(a:Nat)(fm:TV)(env:aA):aA:=List.replicate a Y++fm.map λi=>(env[i]?).getD Y
def PR.ne{α:Type}(r:PR α):PR α:=match r with
 |.exc _ _=>.bad
 |r=>r
@[simp]theorem PR.ne_ok(a:α)(s:g_):(PR.ok a s).ne=.ok a s:=rfl
def eI(g:D->aA->Option aA)(t:aA->g_->PR Bool)(e:aA->g_->PR D):TW->aA->g_->PR (TW)
 |[],_,s=>.ok [] s
 |d::i,env,s=>match g d env with
  |none=>.bad
  |some a=>(t a s).bind λb f=>if b=I then(e a f).bind λx j=>(eI g t e i a j).bind λr l=>.ok (x::r) l else eI g t e i a f
def Mw{a:Nat}{fm:TV}{α:Type}{env:List (Option α)}{i:Nat}{d:α}(e:(List.replicate a Y++fm.map λi=>(env[i]?).getD Y)[i]?=J (J d)):∃j k,i=a+j/\fm[j]?=J k/\env[k]?=J (J d):=by
 by_cases z:i<a
 .rw[we (by simpa using z)]at e;simp[z]at e
 .rw[Bq (by simp;lia)]at e;simp only[Kz,tx]at e
  cases f:fm[i-a]? with
  |none=>rw[f]at e;cases e
  |some k =>
   rw[f]at e;simp only[KO]at e;refine⟨i-a,k,⋯,f,?_⟩
   cases l:env[k]? with
   |none=>rw[l]at e;cases e
   |some o=>rw[l]at e;simp at e;rw[e]
def My{a:Nat}{fm:TV}{α:Type}{Z:List (Option α)}{j k:Nat}{v:α}(e1:fm[j]?=J k)(e2:Z[k]?=J (J v)):(List.replicate a Y++fm.map λi=>(Z[i]?).getD Y)[a+j]?=J (J v):=by rw[Bq (by simp)];simp[e1,e2]
def u7(e:fm[j]?=J k):nv+j∈Cc nv fm ws↔k∈ws:=by
 have a:=(qp.mp e).1;unfold Cc
 simp_all
def SR.comp{q:Nat}{h:MH}{L:Nat}{O:TV}{Z:ls}{env:aA}(f:Nat)(fm:TV)(r:SR q h L O ws Z env):SR q h L O (Cc f fm ws) (Cq f fm Z) (wp f fm env):=by
 refine⟨by simp[Cq,wp],λi d e a=>?_,λi d e a=>?_⟩
 .obtain⟨j,k,rfl,e1,e2⟩:=Mw e;obtain⟨v,e3,w⟩:=r.fz k d e2 λz=>a ((u7 e1).mpr z);exact⟨v,My e1 e3,w⟩
 .obtain⟨j,k,rfl,e1,e2⟩:=Mw e;obtain⟨n,l,xs,u,y,e3,w⟩:=r.ow k d e2 ((u7 e1).mp a);exact⟨n,l,xs,u,y,My e1 e3,w⟩
def Ir(gt:Xg u)(t:Xt u)(e:Xe u)(hz:e.fz=I)(hq:q<h1.length)(gd:∀g∈it.gd,h1[g.1]?=J (.lst g.2)/\g.1≠q):
  ∀(Q:TW)(xs:TN)(env:aA)(Z:ls)(h:MH)(j:TW)(f:TN)(s:g_)(r:TW)(W:g_),(∀i∈u,∀d,env[i]?=J (J d)->∀n,Z[i]?=J (J (.loc n))->n<h1.length)->KB q h1 h->Cx q h L B (h1.length::O) u Z env s->Rps q h (h1.length::O) Q xs->h[h1.length]?=J (.lst f)->Rps q h (h1.length::O) j f->j.length+Q.length<=100000 ->
  eI gt.p t.p e.p Q env s=.ok r W->∃F U,BK it h1.length gt.m t.m e.m xs Z h=.ok () F/\KB q h1 F/\bT F q W/\F[h1.length]?=J (.lst U)/\Rps q F (h1.length::O) (j++r) U:=by
 intro Q
 induction Q with
 |nil =>
  intro xs env Z h j f s r W on kb c rx ga ra hl a
  have:xs=[]:=rx
  subst this;cases a;have ok:it.ok h:=λg S=>(kb.keep _ (ba (gd g S).1) (gd g S).2).trans (gd g S).1;exact⟨h,f,by rw[BK,b_ ok],kb,c.pen,ga,by simpa using ra⟩
 |cons d Q ih =>
  intro xs env Z h j f s r W on kb c rx ga ra hl a;obtain⟨x,xr,rfl,r1,r2⟩:=rx;have ok:it.ok h:=λg S=>(kb.keep _ (ba (gd g S).1) (gd g S).2).trans (gd g S).1;rw[eI]at a
  cases eg:gt.p d env with
  |none=>rw[eg]at a;cases a
  |some l =>
   rw[eg]at a;dsimp only at a;obtain⟨Z1,f1,al,k1⟩:=gt.ok c.sr r1 eg;have P:∀i∈u,∀d,l[i]?=J (J d)->∀n,Z1[i]?=J (J (.loc n))->n<h1.length:=λi M d e n z=>on i M d ((k1 i M).2▸e) n ((k1 i M).1▸z);have c1:Cx q h L B (h1.length::O) u Z1 l s:=⟨c.bd,c.sub,c.bb,c.pb,c.hL,c.pen,al⟩;have kt:=t.ok c1
   cases et:t.p l s with
   |bad=>rw[et]at a;cases a
   |exc _ _=>rw[et]at a;cases a
   |ok b s1 =>
    rw[et]at a kt;obtain⟨b',h2,f2,k2,p2,eb⟩:=kt;subst eb;have c2:=c1.kb k2 p2;have C:Mv (h1.length::O) h (h1.length::O) h2:=k2.mv c.pO;have hn:h1.length<h.length:=ba ga;have R:h2[h1.length]?=J (.lst f):=(k2.keep _ hn ⋯).trans ga;rw[Pb]at a
    cases b with
    |false =>
     rw[e_ (by simp)]at a;obtain⟨F,U,a1,a2⟩:=ih xr l Z1 h2 j f s1 r W P (kb.trans k2) c2 (r2.mv C) R (ra.mv C) (by simp at hl;lia) a;refine⟨F,U,?_,a2⟩;rw[BK,b_ ok,f1];simp only[f2,Out.ne_ok,Out.bind_ok,pk,if_false];exact a1
    |true =>
     rw[b_ rfl]at a;have ke:=e.ok c2
     cases ee:e.p l s1 with
     |bad=>rw[ee]at a;cases a
     |exc _ _=>rw[ee]at a;cases a
     |ok y s2 =>
      rw[ee]at a ke;obtain⟨v,H,f3,k3,p3,_,rv,_⟩:=ke;have rv:=rv hz;have G:=c2.kb k3 p3;have ah:Mv (h1.length::O) h2 (h1.length::O) H:=k3.mv c.pO;have ab:H[h1.length]?=J (.lst f):=(k3.keep _ (ba R) ⋯).trans R;have E:Mv (h1.length::O) H (h1.length::O) (H.set h1.length (.lst (f++[v]))) :=
       ⟨λn hn no=>tu (λz=>no (by simp[z])),λo ho=>.inl ho⟩
      have aj:Rps q H (h1.length::O) (j++[y]) (f++[v]):=((ra.mv C).mv ah).app ⟨v,[],rfl,rv,rfl⟩;rw[Pb]at a
      cases er:eI gt.p t.p e.p Q l s2 with
      |bad=>rw[er]at a;cases a
      |exc _ _=>rw[er]at a;cases a
      |ok r' s3 =>
       rw[er]at a;cases a;have X:KB q h1 H:=(kb.trans k2).trans k3;have c4:Cx q (H.set h1.length (.lst (f++[v]))) L B (h1.length::O) u Z1 l s2:=by
        refine⟨λo ho=>by simpa using G.bd o ho,G.sub,G.bb,G.pb,by simpa using G.hL,?_,?_⟩
        .unfold bT;rw[tu ⋯];exact p3
        .refine⟨G.sr.len,λi d e M=>let⟨v,e1,q1⟩:=G.sr.fz i d e M;⟨v,e1,q1.mv E⟩,λi d e M=>?_⟩;obtain⟨n,kd,ys,es,b1,b2,b3,b4,b5,b6⟩:=G.sr.ow i d e M;have z:=P i M d e n b2;exact⟨n,kd,ys,es,b1,b2,b3,b4,by rw[tu ⋯];exact b5,b6.mv E⟩
       obtain⟨F,U,a1,a2,a3,a4,a5⟩:=ih xr l Z1 (H.set h1.length (.lst (f++[v]))) (j++[y]) (f++[v]) s2 r' _ P ⟨by simpa using X.len,λn hn hp=>by rw[tu ⋯];exact X.keep n hn hp⟩ c4 (((r2.mv C).mv ah).mv E) (Br (ba ab)) (aj.mv E) (by simp at hl ⊢;lia) er;refine⟨F,U,?_,a2,a3,a4,by simpa using a5⟩;rw[BK,b_ ok,f1];simp only[f2,Out.ne_ok,Out.bind_ok,if_true,f3,ab];rw[b_ (by have:=c8;have:=ra.length;simp at hl;lia)];exact a1
def aJ(a:Nat)(fm:TV)(i:Xi ws){ws':TV}(g:Xg ws')(t:Xt ws')(e:Xe ws')(hw:Cc a fm ws=ws':=by exact ys rfl)(hz:e.fz=I:=by exact ys rfl):Xe ws where
 m:=gP a fm i.m g.m t.m e.m
 p:=λenv s=>(i.p env s).bind λu y=>if u.length<=100000 then (match eI g.p t.p e.p u (wp a fm env) y with
  |.ok r H=>.ok (.lst r) H
  |_=>.bad)else .bad
 fz:=I
 fr:=I
 ok {q h L B O Z env s} c:=by
  subst hw;refine(i.ok c).bind λu it j y M G ⟨rx,gd,_⟩=>?_;have C:=c.kb M G;by_cases E:u.length<=100000
  .rw[b_ E]
   cases er:eI g.p t.p e.p u (wp a fm env) y with
   |bad=>trivial
   |exc _ _=>trivial
   |ok r H =>
    have mv:Mv O j (j.length::O) (j++[MO.lst []]):=⟨λn F _=>we F,λo l=>by
     rcases l_.mp l with z|z
     .exact .inr ⋯
     .exact .inl z⟩
    have sr:=(C.sr.comp a fm).mv mv (λo l=>l7 _ l) λn F _ _=>we F;have c2:Cx q (j++[MO.lst []]) L B (j.length::O) (Cc a fm ws) (Cq a fm Z) (wp a fm env) y:=by
     refine⟨λo l=>?_,λo l=>l7 _ (c.sub o l),c.bb,c.pb,by have:=C.hL;simp;lia,G.app,sr⟩;rcases l_.mp l with z|z
     .subst z;simp
     .have:=C.bd o z;simp;lia
    have hq:q<j.length:=ba G
    obtain⟨P,U,S,a2,a3,a4,a5⟩:=Ir g t e hz (L:=L) (B:=B) (O:=O) hq gd u it.xs (wp a fm env) (Cq a fm Z) (j++[MO.lst []]) [] [] y r H (λi W d X n Q=>by
     obtain⟨n',_,_,_,_,b2,_,_,b5,_⟩:=(C.sr.comp a fm).ow i d X W;rw[b2]at Q;cases Q
     exact ba b5) (KB.app _ _ _) c2 (rx.mv mv) (by simp) rfl (by simpa using E) er
    have f:Frs q h.length O P (.lst r) (.loc j.length):=λk u e=>by
     obtain⟨rfl,rfl⟩:=fc e;exact⟨_,U,rfl,M.len,a4,by simpa using a5⟩
    have R:=f.rp (k:=Y) c.bd rfl;exact⟨.loc j.length,P,by show(BK _ _ _ _ _ _ _ _).bind _=_;rw[S];rfl,a2,a3,.inl R,λ_=>R,λ_=>f⟩
  .rw[e_ E];trivial
end
inductive PS where
 |nx(e:aA)(s:g_)
 |rt(d:D)(s:g_)
 |bk(e:aA)(s:g_)
 |ct(e:aA)(s:g_)
 |exc(c:Str)(e:aA)(s:g_)
 |rse(c:Str)(e:aA)(s:g_)
 |bad
structure Stp(q L:Nat)(h:MH)(O:TV)(h':MH)(O':TV):Prop where
 len:h.length<=h'.length
 mv:Mv O h O' h'
 sub:∀o∈O,o∈O'
 base:∀n:Nat,n<L->n≠q->h'[n]?=h[n]?
def Stp.refl(q L:Nat)(h:MH)(O:TV):Stp q L h O h O:=⟨ia _,⟨λ_ _ _=>rfl,λ_ h=>.inl h⟩,λ_ h=>h,λ_ _ _=>rfl⟩
def Stp.trans(a:Stp q L h O h1 O1)(b:Stp q L h1 O1 h2 O2):Stp q L h O h2 O2:=by
 refine⟨m_ a.len b.len,⟨λn f j=>?_,λo i=>?_⟩,λo i=>b.sub o (a.sub o i),λn f l=>(b.base n f l).trans (a.base n f l)⟩
 .have r:n∉O1:=λz=>by
   rcases a.mv.new n z with q|q
   .exact j q
   .lia
  exact(b.mv.keep n (rc f a.len) r).trans (a.mv.keep n f j)
 .rcases b.mv.new o i with z|z
  .exact a.mv.new o z
  .exact .inr (m_ a.len z)
def Dis(a:TV)(Z:ls)(env:aA):Prop:=∀i j,i∈a->j∈a->i≠j->∀d f n,env[i]?=J (J d)->env[j]?=J (J f)->Z[i]?=J (J (.loc n))->Z[j]?≠J (J (.loc n))
inductive Nxt(q L:Nat)(h:MH)(B O ws:TV)(Z':ls)(h':MH)(env:aA)(s:g_):Prop
 |mk(O':TV)(a:Stp q L h O h' O')(c:Cx q h' L B O' ws Z' env s)(d:Dis ws Z' env):Nxt q L h B O ws Z' h' env s
inductive Km(q L:Nat)(h:MH)(B O ws:TV)(f:ls->MH->SOut)(o:SOut)(env:aA)(s:g_):Prop
 |mk(Z':ls)(h':MH)(e:o=f Z' h')(n:Nxt q L h B O ws Z' h' env s):Km q L h B O ws f o env s
inductive SY(q L:Nat)(h:MH)(B:TV)(fr:Bool)(o:SOut)(d:D)(s:g_):Prop
 |mk(v:PV)(h':MH)(e:o=.rt v h')(l:h.length<=h'.length)(b:∀n:Nat,n<L->n≠q->h'[n]?=h[n]?)(p:bT h' q s)(r:Rp q h' B d v)(f:fr=I->Frs q L B h' d v):SY q L h B fr o d s
def SOk(q L:Nat)(h:MH)(B O a:TV)(fr:Bool)(o:SOut)(r:PS):Prop:=match r with
 |.nx env s=>Km q L h B O a .nx o env s
 |.bk env s=>Km q L h B O a .bk o env s
 |.ct env s=>Km q L h B O a .ct o env s
 |.exc c env s=>Km q L h B O a (.exc ⟨c,[]⟩) o env s
 |.rse c env s=>Km q L h B O a (.rse ⟨c,[]⟩) o env s
 |.rt d s=>SY q L h B fr o d s
 |.bad=>True
structure Xd(ws:TV) where
 m:mh
 p:aA->g_->PS
 fr:Bool
 ok:∀{q h L B O Z env s},Cx q h L B O ws Z env s->Dis ws Z env->SOk q L h B O ws fr (m Z h) (p env s)
def Nxt.after(a:Stp q L h O h1 O1)(n:Nxt q L h1 B O1 ws Z' h' env s):Nxt q L h B O ws Z' h' env s :=
 let⟨f,b,c,d⟩:=n;⟨f,a.trans b,c,d⟩
def SOk.after(a:Stp q L h O h1 O1)(k:SOk q L h1 B O1 ws fr o r):SOk q L h B O ws fr o r:=by
 cases r with
 |nx env s=>obtain⟨i,f,e,n⟩:=k;exact⟨i,f,e,n.after a⟩
 |bk env s=>obtain⟨i,f,e,n⟩:=k;exact⟨i,f,e,n.after a⟩
 |ct env s=>obtain⟨i,f,e,n⟩:=k;exact⟨i,f,e,n.after a⟩
 |exc c env s=>obtain⟨i,f,e,n⟩:=k;exact⟨i,f,e,n.after a⟩
 |rse c env s=>obtain⟨i,f,e,n⟩:=k;exact⟨i,f,e,n.after a⟩
 |rt d s=>obtain⟨v,f,e,l,b,C,z,y⟩:=k;exact⟨v,f,e,m_ a.len l,λn u j=>(b n u j).trans (a.base n u j),C,z,y⟩
 |bad=>trivial
def SOk.fr(hf:f'=I->f=I)(k:SOk q L h B O ws f o r):SOk q L h B O ws f' o r:=by
 cases r with
 |rt d s=>obtain⟨v,a,e,l,b,p,r,z⟩:=k;exact⟨v,a,e,l,b,p,r,λy=>z (hf y)⟩
 |nx env s=>exact k
 |bk env s=>exact k
 |ct env s=>exact k
 |exc c env s=>exact k
 |rse c env s=>exact k
 |bad=>trivial
def KB.stp(c:Cx q h L B O ws Z env s)(k:KB q h h'):Stp q L h O h' O :=
 ⟨k.len,k.mv c.pO,λ_ h=>h,λn f a=>k.keep n (rc f c.hL) a⟩
def PR.go{α:Type}(r:PR α)(env:aA)(k:α->aA->g_->PS):PS:=match r with
 |.ok a s=>k a env s
 |.exc c s=>.exc c env s
 |.bad=>.bad
@[simp]theorem Pg(a:α)(s:g_)(env:aA)(k:α->aA->g_->PS):(PR.ok a s).go env k=k a env s:=rfl
@[simp]theorem PR.go_exc(c:Str)(s:g_)(env:aA)(k:α->aA->g_->PS):(PR.exc c s:PR α).go env k=.exc c env s:=rfl
@[simp]theorem PR.go_bad(env:aA)(k:α->aA->g_->PS):(PR.bad:PR α).go env k=.bad:=rfl
theorem SOk.ex{α β:Type}{q L:Nat}{h:MH}{B O j:TV}{fr:Bool}{Z:ls}{env:aA}{s:g_}{o:Out β}{r:PR α}{R:MH->α->β->Prop}{f:β->mh}{g:α->aA->g_->PS}(c:Cx q h L B O j Z env s)(d:Dis j Z env)(k:Ok q h o r R)(n:∀a b i l,KB q h i->Cx q i L B O j Z env l->R i a b->SOk q L i B O j fr (f b Z i) (g a env l)):
  SOk q L h B O j fr (o.go Z f) (r.go env g):=by
 cases r with
 |ok a l =>
  obtain⟨b,i,rfl,kb,pn,u⟩:=k;exact(n a b i l kb (c.kb kb pn) u).after (kb.stp c)
 |exc x l =>
  obtain⟨i,rfl,kb,pn⟩:=k;exact⟨Z,i,rfl,O,kb.stp c,c.kb kb pn,d⟩
 |bad=>trivial
noncomputable section
variable{ws:TV}
def PS.then(r:PS)(k:aA->g_->PS):PS:=match r with
 |.nx env s=>k env s
 |r=>r
@[simp]theorem aq:(PS.nx env s).then k=k env s:=rfl
@[simp]theorem vf:(PS.rt d s).then k=.rt d s:=rfl
@[simp]theorem then_bk:(PS.bk env s).then k=.bk env s:=rfl
@[simp]theorem then_ct:(PS.ct env s).then k=.ct env s:=rfl
@[simp]theorem At:(PS.exc c env s).then k=.exc c env s:=rfl
@[simp]theorem zT:(PS.rse c env s).then k=.rse c env s:=rfl
@[simp]theorem A2:PS.bad.then k=.bad:=rfl
def aG(a b:Xd ws):Xd ws where
 m:=aO a.m b.m
 p:=λenv s=>(a.p env s).then b.p
 fr:=a.fr&&b.fr
 ok {q h L B O Z env s} c d:=by
  have k:=a.ok c d;show SOk q L h B O ws _ ((a.m Z h).then b.m) _
  cases e:a.p env s with
  |nx i u =>
   rw[e]at k;obtain⟨Q,P,e1,M,st,H,C⟩:=k;rw[e1];exact((b.ok H C).fr (by simp)).after st
  |rt x u=>rw[e]at k;obtain⟨v,j,e1,F,E,y,z,G⟩:=k;rw[e1];exact SOk.fr (f:=a.fr) (by simp;exact λh _=>h) (show SOk q L h B O ws a.fr (.rt v j) (.rt x u) from⟨v,j,rfl,F,E,y,z,G⟩)
  |bk i u=>rw[e]at k;obtain⟨l,j,e1,r⟩:=k;rw[e1];exact⟨l,j,rfl,r⟩
  |ct i u=>rw[e]at k;obtain⟨l,j,e1,r⟩:=k;rw[e1];exact⟨l,j,rfl,r⟩
  |exc x i u=>rw[e]at k;obtain⟨l,j,e1,r⟩:=k;rw[e1];exact⟨l,j,rfl,r⟩
  |rse x i u=>rw[e]at k;obtain⟨l,j,e1,r⟩:=k;rw[e1];exact⟨l,j,rfl,r⟩
  |bad=>trivial
def i4:Xd ws where
 m:=lB
 p:=.nx
 fr:=I
 ok {q h L B O Z env s} c d:=⟨Z,h,rfl,O,Stp.refl _ _ _ _,c,d⟩
def Is{m:Mx PV}{Z:ls}{h:MH}:b8 m Z h=(m Z h).go Z λv _ a=>.rt v a:=by unfold b8;cases m Z h<;>rfl
def bu(e:Xe ws):Xd ws where
 m:=b8 e.m
 p:=λenv s=>(e.p env s).go env λd _ s=>.rt d s
 fr:=e.fr
 ok {q h L B O Z env s} c d:=by
  rw[Is];refine SOk.ex (f:=λv _ l=>.rt v l) (g:=λd _ s=>.rt d s) c d (e.ok c) λx v u G kb a ⟨w,z,f⟩=>?_;refine⟨v,u,rfl,ia _,λ_ _ _=>rfl,a.pen,w.base a.sub a.bb,λy=>?_⟩;intro k F r;obtain⟨n,xs,i,H,E,C⟩:=f y k F r
  have:=c.hL
  exact⟨n,xs,i,⋯,E,C.mv ⟨λ_ _ _=>rfl,λo j=>.inl (by
   rcases l_.mp j with z|z
   .subst z;simp
   .exact l7 _ (c.sub o z))⟩⟩
def lP(i:Nat)(E:ws.contains i=I:=by exact ys rfl):Xd ws where
 m:=b8 (ag i)
 p:=λenv s=>match env[i]? with
  |some (J d)=>.rt d s
  |_=>.bad
 fr:=I
 ok {q h L B O Z env s} c d:=by
  show SOk q L h B O ws _ _ (match env[i]? with|some (J d)=>PS.rt d s|_=>.bad)
  cases e:env[i]? with
  |none=>trivial
  |some o =>
   cases o with
   |none=>trivial
   |some x =>
    obtain⟨n,l,xs,y,e1,e2,a,b,g,r⟩:=c.sr.ow i x e (by simpa using E);subst e1
    have F:Mv O h (n::B) h:=⟨λ_ _ _=>rfl,λo C=>.inl (by
     rcases l_.mp C with z|z
     .subst z;exact a
     .exact c.sub o z)⟩
    have f:Frs q L B h (dl l y) (.loc n):=λu j e=>by
     have:u=l/\j=y:=by cases l<;>cases u<;>cases e<;>exact⟨rfl,rfl⟩
     obtain⟨rfl,rfl⟩:=this;exact⟨n,xs,rfl,b,g,r.mv F⟩
    refine⟨.loc n,h,by simp[b8,ag,e2],ia _,λ_ _ _=>rfl,c.pen,f.rp c.bb rfl,λ_=>f⟩
def cZ(e:Xe ws):Xd ws where
 m:=gU e.m
 p:=λenv s=>(e.p env s).go env λ_=>.nx
 fr:=I
 ok {q h L B O Z env s} c d:=SOk.ex (f:=λ_=>lB) (g:=λ_=>.nx) c d (e.ok c) λx v a j kb i _=>⟨Z,a,rfl,O,Stp.refl _ _ _ _,i,d⟩
def r4(t:Xt ws)(a b:Xd ws):Xd ws where
 m:=Bi t.m a.m b.m
 p:=λenv s=>(t.p env s).go env λx env s=>if x=I then a.p env s else b.p env s
 fr:=a.fr&&b.fr
 ok {q h L B O Z env s} c d:=SOk.ex (f:=λx=>if x=I then a.m else b.m) (g:=λx env s=>if x=I then a.p env s else b.p env s) c d (t.ok c) λx v j l kb i e=>by
  subst e
  cases x with
  |true=>exact(a.ok i d).fr (by simp;exact λh _=>h)
  |false=>exact(b.ok i d).fr (by simp)
def Dis.keep(d:Dis ws Z env)(k:∀i∈ws,Z'[i]?=Z[i]?/\env'[i]?=env[i]?):Dis ws Z' env':=λi j f l ne x y n a b e=>by
 rw[(k i f).1]at e;rw[(k i f).2]at a;rw[(k j l).2]at b;rw[(k j l).1];exact d i j f l ne x y n a b e
def bn(i:Nat)(e:Xe ws)(l:ws.contains i=T:=by exact ys rfl)(u:e.fz=I:=by exact ys rfl):Xd ws where
 m:=aZ i e.m
 p:=λenv s=>(e.p env s).go env λd env s=>.nx (env.set i (J d)) s
 fr:=I
 ok {q h L B O Z env s} c d:=by refine SOk.ex (f:=λv Z h=>.nx (Z.set i (J v)) h) (g:=λd env s=>.nx (env.set i (J d)) s) c d (e.ok c) λx v r y kb j ⟨_,z,_⟩=>?_;obtain⟨a,b⟩:=j.sr.set (i:=i) (λz=>by simp[z]at l) (z u);exact⟨_,r,rfl,O,Stp.refl _ _ _ _,⟨j.bd,j.sub,j.bb,j.pb,j.hL,j.pen,a⟩,d.keep b⟩
def dB(i:Nat)(e:Xe ws)(hi:ws.contains i=I:=by exact ys rfl)(hz:e.fr=I:=by exact ys rfl):Xd ws where
 m:=aZ i e.m
 p:=λenv s=>(e.p env s).go env λd env s=>match d with
  |.lst l=>.nx (env.set i (J (.lst l))) s
  |.dic W l=>.nx (env.set i (J (.dic W l))) s
  |_=>.bad
 fr:=I
 ok {q h L B O Z env s} c d:=by
  show SOk q L h B O ws _ _ _;have k:=e.ok c;show SOk q L h B O ws _ ((e.m Z h).go Z λv Z h=>.nx (Z.set i (J v)) h) _
  cases ee:e.p env s with
  |bad=>trivial
  |exc x s1 =>
   rw[ee]at k;obtain⟨P,e1,kb,pn⟩:=k;rw[e1];exact⟨Z,P,rfl,O,kb.stp c,c.kb kb pn,d⟩
  |ok x s1 =>
   rw[ee]at k;obtain⟨v,P,e1,kb,pn,_,_,f⟩:=k;rw[e1];have own:∀G l,x=dl G l->SOk q L h B O ws I ((Out.ok v P).go Z λv Z h=>.nx (Z.set i (J v)) h) (.nx (env.set i (J (dl G l))) s1):=by
    rintro G l rfl;obtain⟨n,xs,rfl,hn,g,r⟩:=f hz G l rfl;have c1:=c.kb kb pn;have Q:i∈ws:=by simpa using hi
    have mv:Mv O h (n::O) P:=⟨λm M no=>kb.keep m M λz=>no (z▸c.pO),λo C=>by
     rcases l_.mp C with z|z
     .exact .inr ⋯
     .exact .inl z⟩
    have R:n∉O:=λz=>by have:=c.bd n z;lia
    refine⟨Z.set i (J (.loc n)),P,rfl,n::O,⟨kb.len,mv,λo C=>l7 _ C,λm M hq=>kb.keep m (rc M c.hL) hq⟩,⟨λo C=>?_,λo C=>l7 _ (c.sub o C),c.bb,c.pb,c1.hL,pn,?_⟩,?_⟩
    .rcases l_.mp C with z|z
     .subst z;exact ba g
     .exact c1.bd o z
    .have sr:=c.sr.mv mv (λo C=>l7 _ C) λm M E _=>kb.keep m M (by have:=c.pL;lia);refine⟨by simp[sr.len],λj x u F=>?_,λj x u F=>?_⟩
     .have ne:i≠j:=λz=>F (z▸Q);rw[tu ne]at u;rw[tu ne];exact sr.fz j x u F
     .by_cases z:i=j
      .subst z;have E:i<env.length:=by have:=(qp.mp u).1;simpa using this
       rw[Br E]at u;cases u;exact⟨n,G,xs,l,rfl,Br (by rw[sr.len];exact E),by simp,by have:=c.hL;lia,g,r⟩
      .rw[tu z]at u;rw[tu z];exact sr.ow j x u F
    .have old:∀j d,j∈ws->i≠j->(env.set i (J (dl G l)))[j]?=J (J d)->(Z.set i (J (.loc n)))[j]?≠J (J (.loc n)):=λj d F ne u z=>by
      rw[tu ne]at u z;obtain⟨n',_,_,_,_,b2,b3,_⟩:=c.sr.ow j d u F;rw[z]at b2;cases b2;exact R b3
     intro a b ha hb ne x y m X U H;by_cases S:i=a
     .subst S;have E:i<Z.length:=by have:=(qp.mp H).1;simpa using this
      rw[Br E]at H;cases H;exact old b y hb ne U
     .by_cases z2:i=b
      .subst z2;intro z;have E:i<Z.length:=by have:=(qp.mp z).1;simpa using this
       rw[Br E]at z;cases z;exact old a x ha S X H
      .rw[tu S]at X H;rw[tu z2]at U ⊢;exact d a b ha hb ne x y m X U H
   cases x with
   |lst l=>exact own Y l rfl
   |dic W l=>exact own (J W) l rfl
   |_=>trivial
def gq(x:Str)(a:Xs ws):Xd ws where
 m:=nG x a.m
 p:=λenv s=>(a.p env s).go env λi env s=>if i.length<=100000 then .rse x env s else .bad
 fr:=I
 ok {q h L B O Z env s} c d:=by
  refine SOk.ex (f:=λ(j:TN) Z h=>if j.length<=sizeLine then .rse ⟨x,[]⟩ Z h else .bad) (g:=λ(i:TW) env s=>if i.length<=100000 then .rse x env s else .bad) c d (a.ok c) λi j l E kb C ⟨w,_⟩=>?_;have y:∀{i:TW}{j:TN},Vws q l L O i j->j.length=i.length:=by
   intro i
   induction i with
   |nil=>intro j w;rw[show j=[]from w];rfl
   |cons d i u=>intro j w;obtain⟨x,r,e,_,b⟩:=w;rw[e,BH,BH,u b]
  by_cases z:i.length<=100000
  .rw[b_ z,b_ (by have:=c8;rw[y w];lia)];exact⟨Z,l,rfl,O,Stp.refl _ _ _ _,C,d⟩
  .rw[e_ z];trivial
end
end PU
namespace PU
open MM
open L2 (wS)
noncomputable section
variable{ws:TV}
def PS.turn(r:PS)(k:aA->g_->PS):PS:=match r with
 |.nx e s=>k e s
 |.ct e s=>k e s
 |.bk e s=>.nx e s
 |r=>r
@[simp]theorem turn_nx:(PS.nx e s).turn k=k e s:=rfl
@[simp]theorem turn_ct:(PS.ct e s).turn k=k e s:=rfl
@[simp]theorem turn_bk:(PS.bk e s).turn k=.nx e s:=rfl
@[simp]theorem turn_rt:(PS.rt d s).turn k=.rt d s:=rfl
@[simp]theorem A1:(PS.exc c e s).turn k=.exc c e s:=rfl
@[simp]theorem AR:(PS.rse c e s).turn k=.rse c e s:=rfl
@[simp]theorem Mz:PS.bad.turn k=.bad:=rfl
def Cd(g:D->aA->Option aA)(b:aA->g_->PS):TW->aA->g_->PS
 |[],env,s=>.nx env s
 |d::f,env,s=>match g d env with
  |none=>.bad
  |some a=>(b a s).turn (Cd g b f)
def Iu(g:Xg ws)(b:Xd ws):∀(F:TW)(xs:TN)(env:aA)(Z:ls)(h:MH)(O:TV)(s:g_),Cx q h L B O ws Z env s->Dis ws Z env->Rps q h O F xs->(∀y∈it.gd,h[y.1]?=J (.lst y.2)/\y.1∉O) ->
  SOk q L h B O ws b.fr (v9 it g.m b.m xs Z h) (Cd g.p b.p F env s):=by
 intro F
 induction F with
 |nil =>
  intro xs env Z h O s c d r gd
  have:=r
  subst this;have ok:it.ok h:=λy u=>(gd y u).1;refine⟨Z,h,by rw[v9];dsimp only;rw[b_ ok],O,Stp.refl _ _ _ _,c,d⟩
 |cons x F R =>
  intro xs env Z h O s c d r gd;obtain⟨v,G,rfl,Q,H⟩:=r;have ok:it.ok h:=λy u=>(gd y u).1;rw[Cd]
  cases eg:g.p x env with
  |none=>trivial
  |some j =>
   obtain⟨S,f1,sr,k⟩:=g.ok c.sr Q eg;have c1:Cx q h L B O ws S j s:=⟨c.bd,c.sub,c.bb,c.pb,c.hL,c.pen,sr⟩;have kb:=b.ok c1 (d.keep k)
   have em:v9 it g.m b.m (v::G) Z h=(match b.m S h with
    |.nx i f=>v9 it g.m b.m G i f
    |.ct i f=>v9 it g.m b.m G i f
    |.bk i f=>.nx i f
    |.rt v f=>.rt v f
    |.exc e i f=>.exc e i f
    |.rse e i f=>.rse e i f
    |.bad=>.bad):=by rw[v9];dsimp only;(rw[b_ ok,f1])<;>rfl
   rw[em];have E:∀{f:MH}{C:TV},Stp q L h O f C->∀y∈it.gd,f[y.1]?=J (.lst y.2)/\y.1∉C:=λst y u=>by
    obtain⟨a,b⟩:=st.mv.get (gd y u).1 (gd y u).2;exact⟨b,a⟩
   dsimp only
   cases z:b.p j s with
   |bad=>trivial
   |nx e2 l =>
    rw[z]at kb;obtain⟨i,f,e1,C,st,M,P⟩:=kb;rw[e1];exact(R G e2 i f C l M P (H.mv st.mv) (E st)).after st
   |ct e2 l =>
    rw[z]at kb;obtain⟨i,f,e1,C,st,M,P⟩:=kb;rw[e1];exact(R G e2 i f C l M P (H.mv st.mv) (E st)).after st
   |bk e2 l=>rw[z]at kb;obtain⟨i,f,e1,r⟩:=kb;rw[e1];exact⟨i,f,rfl,r⟩
   |exc x e2 l=>rw[z]at kb;obtain⟨i,f,e1,r⟩:=kb;rw[e1];exact⟨i,f,rfl,r⟩
   |rse x e2 l=>rw[z]at kb;obtain⟨i,f,e1,r⟩:=kb;rw[e1];exact⟨i,f,rfl,r⟩
   |rt x l=>rw[z]at kb;obtain⟨v,f,e1,Q,H,U,W,X⟩:=kb;rw[e1];exact⟨v,f,rfl,Q,H,U,W,X⟩
def cE(i:Xi ws)(g:Xg ws)(b:Xd ws)(C:i.fz=I:=by exact ys rfl):Xd ws where
 m:=iJ i.m g.m b.m
 p:=λenv s=>(i.p env s).go env λa env s=>Cd g.p b.p a env s
 fr:=b.fr
 ok {q h L B O Z env s} c d:=SOk.ex (f:=λj=>v9 j g.m b.m j.xs) (g:=λa env s=>Cd g.p b.p a env s) c d (i.ok c) λa j u z kb E r =>
  Iu g b a j.xs env Z u O z E d r.1 λy l=>⟨(r.2.1 y l).1,r.2.2 C y l⟩
def df(t:aA->g_->PR Bool)(b:aA->g_->PS):Nat->aA->g_->PS
 |0,_,_=>.bad
 |n+1,env,s=>(t env s).go env λx env s=>if x=I then(b env s).turn (df t b n)else .nx env s
def pM(t:Xt ws)(b:Xd ws):∀(n:Nat)(env:aA)(Z:ls)(h:MH)(O:TV)(s:g_),Cx q h L B O ws Z env s->Dis ws Z env->SOk q L h B O ws b.fr (cj t.m b.m n Z h) (df t.p b.p n env s)
 |0,env,Z,h,O,s,c,d=>trivial
 |n+1,env,Z,h,O,s,c,d=>by
  refine SOk.ex c d (t.ok c) λx v F G kb z e=>?_;subst e
  cases x with
  |false=>exact⟨Z,F,rfl,O,Stp.refl _ _ _ _,z,d⟩
  |true =>
   have k:=b.ok z d;rw[b_ rfl]
   cases j:b.p env G with
   |bad=>trivial
   |nx e2 i =>
    rw[j]at k;obtain⟨f,a,e1,y,st,l,u⟩:=k;rw[e1];exact(pM t b n e2 f a y i l u).after st
   |ct e2 i =>
    rw[j]at k;obtain⟨f,a,e1,y,st,l,u⟩:=k;rw[e1];exact(pM t b n e2 f a y i l u).after st
   |bk e2 i=>rw[j]at k;obtain⟨f,a,e1,r⟩:=k;rw[e1];exact⟨f,a,rfl,r⟩
   |exc x e2 i=>rw[j]at k;obtain⟨f,a,e1,r⟩:=k;rw[e1];exact⟨f,a,rfl,r⟩
   |rse x e2 i=>rw[j]at k;obtain⟨f,a,e1,r⟩:=k;rw[e1];exact⟨f,a,rfl,r⟩
   |rt x i=>rw[j]at k;obtain⟨v,a,e1,M,H,C,E,P⟩:=k;rw[e1];exact⟨v,a,rfl,M,H,C,E,P⟩
def Iv(N:Nat)(t:Xt ws)(b:Xd ws)(f:∀{Z h n},cj t.m b.m n Z h≠.bad->G_ t.m b.m Z h=cj t.m b.m n Z h):Xd ws where
 m:=G_ t.m b.m
 p:=df t.p b.p N
 fr:=b.fr
 ok {q h L B O Z env s} c d:=by
  have k:=pM t b N env Z h O s c d;by_cases z:cj t.m b.m N Z h=.bad
  .rw[z]at k
   cases e:df t.p b.p N env s with
   |bad=>trivial
   |nx e2 a=>rw[e]at k;obtain⟨_,_,e1,_⟩:=k;cases e1
   |ct e2 a=>rw[e]at k;obtain⟨_,_,e1,_⟩:=k;cases e1
   |bk e2 a=>rw[e]at k;obtain⟨_,_,e1,_⟩:=k;cases e1
   |exc x e2 a=>rw[e]at k;obtain⟨_,_,e1,_⟩:=k;cases e1
   |rse x e2 a=>rw[e]at k;obtain⟨_,_,e1,_⟩:=k;cases e1
   |rt x a=>rw[e]at k;obtain⟨_,_,e1,_⟩:=k;cases e1
  .rw[f z];exact k
structure Ce where
 m:Nat->TN->MH->T6
 p:TW->TW->Option (D×TW)
 ok:∀{q:Nat}{h:MH}{O:TV}{n:Nat}{xs:TN}{ds as:TW}{vs:TN}{d:D}{ds':TW},h[n]?=J (.lst xs)->Rps q h O ds xs->Rps q h O as vs->p ds as=J (d,ds')->∃v xs',m n vs h=.ok v (h.set n (.lst xs'))/\Rps q h O ds' xs'/\Rp q h O d v
def uh{q h L B O Z env s n xs' ds' i d0 kd}(c:Cx q h L B O ws Z env s)(d:Dis ws Z env)(C:i∈ws)(e:env[i]?=J (J d0))(M:Z[i]?=J (J (.loc n)))(r:Rps q h O ds' xs'):
  Nxt q L h B O ws Z (h.set n (mo kd xs')) (env.set i (J (dl kd ds'))) s:=by
 obtain⟨n',k0,xs,S,e0,e2,a,b,g,r0⟩:=c.sr.ow i _ e C;rw[M]at e2;cases e2;have mv:Mv O h O (h.set n (mo kd xs')):=⟨λm Q W=>tu (λ(z:n=m)=>W (z▸a)),λo u=>.inl u⟩;have hp:=c.pL;have X:i<env.length:=(qp.mp e).1;refine⟨O,⟨by simp,mv,λ_ h=>h,λm Q _=>tu ⋯⟩,⟨λo u=>by simpa using c.bd o u,c.sub,c.bb,c.pb,by simpa using c.hL,?_,⟨by simp[c.sr.len],λj x f l=>?_,λj x f l=>?_⟩⟩,?_⟩
 .unfold bT;rw[tu ⋯];exact c.pen
 .have ne:i≠j:=λz=>l (z▸C);rw[tu ne]at f;obtain⟨v,e1,w⟩:=c.sr.fz j x f l;exact⟨v,e1,w.mv mv⟩
 .by_cases z:i=j
  .subst z;rw[Br X]at f;cases f;exact⟨n,kd,xs',ds',rfl,M,a,b,Br (ba g),r.mv mv⟩
  .rw[tu z]at f;obtain⟨m,k1,ys,H,e1,e3,b3,b4,b5,b6⟩:=c.sr.ow j x f l
   have:n≠m:=λy=>d i j C l z _ _ n e f M (y▸e3)
   exact⟨m,k1,ys,H,e1,e3,b3,b4,by rw[tu this];exact b5,b6.mv mv⟩
 .intro j k l U ne x y m f ek e1;have P:∀j x,(env.set i (J (dl kd ds')))[j]?=J (J x)->∃F,env[j]?=J (J F):=λj x f=>by
   by_cases z:i=j
   .subst z;exact⟨_,e⟩
   .rw[tu z]at f;exact⟨x,f⟩
  obtain⟨F,E⟩:=P j x f;obtain⟨R,G⟩:=P k y ek;exact d j k l U ne F R m E G e1
def oW{q h L B O Z env s n xs' ds' i ds}(c:Cx q h L B O ws Z env s)(d:Dis ws Z env)(a:i∈ws)(e:env[i]?=J (J (D.lst ds)))(f:Z[i]?=J (J (.loc n)))(r:Rps q h O ds' xs'):
  Nxt q L h B O ws Z (h.set n (.lst xs')) (env.set i (J (.lst ds'))) s:=uh (kd:=Y) c d a e f r
def FJ(o:Ce)(i:Nat)(a:Xs ws)(y:i∈ws)(P:a.fz=I){q h L B O Z env s}(c:Cx q h L B O ws Z env s)(d:Dis ws Z env)(R:a.p env s=.ok as s1)(H:env[i]?=J (J (.lst ds)))(C:o.p ds as=J (r,ds')):∃v j n f,KB q h j/\Cx q j L B O ws Z env s1/\Z[i]?=J (J (.loc n))/\Cb o.m (ag i) a.m Z h=.ok v (j.set n (.lst f))/\Rps q j O ds' f/\Rp q j O r v:=by
 obtain⟨n,U,xs,z,Q,e2,W,b2,g,E⟩:=c.sr.ow i _ H y;obtain⟨rfl,rfl⟩:=fc Q;replace g:h[n]?=J (.lst xs):=g;have l:=a.ok c;rw[R]at l;obtain⟨X,j,e3,kb,pn,_,F⟩:=l;have S:=c.kb kb pn;have u:j[n]?=J (.lst xs):=(kb.keep n (ba g) (by have:=c.pL;lia)).trans g;obtain⟨v,f,e4,M,G⟩:=o.ok u (E.mv (kb.mv c.pO)) (F P) C;refine⟨v,j,n,f,kb,S,e2,?_,M,G⟩;have em:ag i Z h=.ok (.loc n) h:=by simp[ag,e2]
 simp_all
def BC(o:Ce)(i:Nat)(a:aA->g_->PR (TW))(env:aA)(s:g_)(k:D->aA->g_->PS):PS:=match a env s with
 |.ok u j=>(match env[i]? with
  |some (J (.lst l))=>(match o.p l u with
   |some (r,f)=>k r (env.set i (J (.lst f))) j
   |none=>.bad)
  |_=>.bad)
 |_=>.bad
def nA(e1:a env s=.ok as s1)(e2:env[i]?=J (J (.lst ds)))(e3:o.p ds as=J (r,ds')):BC o i a env s k=k r (env.set i (J (.lst ds'))) s1:=by simp only[BC,e1,e2,e3]
def vn:BC o i a env s k=.bad\/∃j u l r f,a env s=.ok j u/\env[i]?=J (J (.lst l))/\o.p l j=J (r,f)/\BC o i a env s k=k r (env.set i (J (.lst f))) u:=by
 cases e1:a env s with
 |bad=>left;simp only[BC,e1]
 |exc _ _=>left;simp only[BC,e1]
 |ok j u =>
  cases e2:env[i]? with
  |none=>left;simp only[BC,e1,e2]
  |some x =>
   cases x with
   |none=>left;simp only[BC,e1,e2]
   |some d =>
    cases d with
    |lst l =>
     cases e3:o.p l j with
     |none=>left;simp only[BC,e1,e2,e3]
     |some y=>exact .inr ⟨j,u,l,y.1,y.2,rfl,rfl,e3,nA e1 e2 e3⟩
    |_=>left;simp only[BC,e1,e2]
def tr(o:Ce)(i:Nat)(a:Xs ws)(l:ws.contains i=I:=by exact ys rfl)(F:a.fz=I:=by exact ys rfl):Xd ws where
 m:=gU (Cb o.m (ag i) a.m)
 p:=λenv s=>BC o i a.p env s λ_=>.nx
 fr:=I
 ok {q h L B O Z env s} c d:=by
  rcases vn (o:=o) (i:=i) (a:=a.p) (env:=env) (s:=s) (k:=λ_=>.nx)with z|⟨Q,H,P,r,C,e1,e2,e3,z⟩
  .rw[z];trivial
  .rw[z];have f:i∈ws:=by simpa using l
   obtain⟨v,u,n,j,kb,G,y,em,E,M⟩:=FJ o i a f F c d e1 e2 e3;refine⟨Z,u.set n (.lst j),?_,(oW G d f e2 y E).after (kb.stp c)⟩;unfold gU w_;rw[em];rfl
def kT(j:Nat)(o:Ce)(i:Nat)(a:Xs ws)(M:ws.contains i=I:=by exact ys rfl)(P:ws.contains j=T:=by exact ys rfl)(U:a.fz=I:=by exact ys rfl):Xd ws where
 m:=aZ j (Cb o.m (ag i) a.m)
 p:=λenv s=>BC o i a.p env s λr env s=>.nx (env.set j (J r)) s
 fr:=I
 ok {q h L B O Z env s} c d:=by
  rcases vn (o:=o) (i:=i) (a:=a.p) (env:=env) (s:=s) (k:=λr env s=>.nx (env.set j (J r)) s)with z|⟨as,W,ds,r,S,e1,e2,e3,z⟩
  .rw[z];trivial
  .rw[z];have l:i∈ws:=by simpa using M
   obtain⟨v,Q,n,C,kb,H,F,em,G,R⟩:=FJ o i a l U c d e1 e2 e3;obtain⟨O',st,X,d2⟩:=(oW H d l e2 F G).after (kb.stp c);obtain⟨E,u,f,y⟩:=oW H d l e2 F G;obtain⟨A,b⟩:=f.sr.set (i:=j) (λz=>by simp[z]at P) (R.mv u.mv);refine⟨Z.set j (J v),Q.set n (.lst C),?_,E,(kb.stp c).trans u,⟨f.bd,f.sub,f.bb,f.pb,f.hL,f.pen,A⟩,y.keep b⟩;unfold aZ w_;rw[em]
def Vw.int(w:Vw q h L O (.int b) v):v=.int b:=by
 rcases w with r|⟨n,a,xs,f,e,_⟩
 .exact r
 .cases a<;>cases e
def PS.fin(r:PS):PR D:=match r with
 |.nx _ s=>.ok .non s
 |.rt d s=>.ok d s
 |.exc c _ s=>.exc c s
 |.rse c _ s=>.exc c s
 |_=>.bad
@[simp]theorem fin_nx:(PS.nx e s).fin=.ok .non s:=rfl
@[simp]theorem gz:(PS.rt d s).fin=.ok d s:=rfl
@[simp]theorem fin_exc:(PS.exc c e s).fin=.exc c s:=rfl
@[simp]theorem fin_rse:(PS.rse c e s).fin=.exc c s:=rfl
@[simp]theorem O0:PS.bad.fin=.bad:=rfl
def ll(n:Nat)(a:TW):aA:=a.map J++List.replicate (n-a.length) Y
def bR(n B:Nat)(b:Xd ws)(R:ws.all (λi=>decide (B<=i))=I:=by exact ys rfl):Fn where
 m:=eO n B b.m
 p:=λu s=>if u.length=B then(b.p (ll n u) s).fin else .bad
 fr:=b.fr
 ok {q h O vs u s} bd L pn r:=by
  by_cases H:u.length=B
  .rw[b_ H];have hv:vs.length=B:=by rw[r.length];exact H
   have low:∀i d,(ll n u)[i]?=J (J d)->i<B/\u[i]?=J d:=λi d e=>by
    by_cases z:i<u.length
    .refine⟨⋯,?_⟩;unfold ll at e;rw[we (by simpa using z)]at e;simp at e;simpa using e
    .unfold ll at e;rw[Bq (by simpa using z)]at e;by_cases y:i-(u.map J).length<n-u.length
     .simp[FU,y]at e
     .simp at y e;exact absurd e (by simp[FU])
   have M:∀i d,(ll n u)[i]?=J (J d)->i∉ws:=λi d e C=>by
    have:=(low i d e).1
    rw[PH]at R
    have:=R i C
    simp at this;lia
   have c:Cx q h h.length O O ws (ce n vs) (ll n u) s:=by refine⟨bd,λ_ h=>h,bd,L,ia _,pn,⟨by simp[ce,ll,r.length],λi d e _=>?_,λi d e C=>absurd C (M i d e)⟩⟩;obtain⟨v,Q,U⟩:=r.get (low i d e).2;refine⟨v,?_,U⟩;unfold ce;rw[we (by simpa using(qp.mp Q).1)];simp[Q]
   have k:=b.ok c λi j C _ _ d _ _ e=>absurd C (M i d e)
   have em:eO n B b.m vs h=(match b.m (ce n vs) h with
    |.nx _ a=>.ok .non a
    |.rt v a=>.ok v a
    |.exc x _ a=>.exc x a
    |.rse x _ a=>.exc x a
    |_=>.bad):=by unfold eO;(rw[b_ hv])<;>(cases b.m (ce n vs) h<;>rfl)
   rw[em];have kb:∀{a G},Stp q h.length h O a G->KB q h a:=λst=>⟨st.len,λm S L=>st.base m S L⟩
   cases e:b.p (ll n u) s with
   |nx e1 E=>rw[e]at k;obtain⟨P,a,f,G,st,F,_⟩:=k;rw[f];exact⟨.non,a,rfl,kb st,F.pen,rfl,λ_ k u e=>by cases k<;>cases e⟩
   |exc x e1 E=>rw[e]at k;obtain⟨P,a,f,G,st,F,_⟩:=k;rw[f];exact⟨a,rfl,kb st,F.pen⟩
   |rse x e1 E=>rw[e]at k;obtain⟨P,a,f,G,st,F,_⟩:=k;rw[f];exact⟨a,rfl,kb st,F.pen⟩
   |rt x E=>rw[e]at k;obtain⟨v,a,f,l,b,p,X,W⟩:=k;rw[f];exact⟨v,a,rfl,⟨l,b⟩,p,X,W⟩
   |bk e1 E=>trivial
   |ct e1 E=>trivial
   |bad=>trivial
  .rw[e_ H];trivial
end
end PU
namespace PU
open MM SetT SortT
open L2 (wS n_ iF)
noncomputable section
section
variable{q:Nat}{h:MH}{L:Nat}{O:TV}{v:PV}
def Vw.non(w:Vw q h L O .non v):v=.non:=by
 rcases w with r|⟨n,k,xs,a,e,_⟩
 .exact r
 .cases k<;>cases e
def Vw.str(w:Vw q h L O (.str x) v):v=.str x:=by
 rcases w with r|⟨n,k,xs,a,e,_⟩
 .exact r
 .cases k<;>cases e
inductive S0(h:MH)(P:TN->Prop)(v:PV):Prop
 |mk(n:Nat)(xs:TN)(e:v=.loc n)(g:h[n]?=J (.lst xs))(r:P xs):S0 h P v
def Vw.lst(w:Vw q h L O (.lst ds) v):S0 h (Rps q h O ds) v:=by
 rcases w with⟨n,xs,e,_,g,r⟩|⟨n,k,xs,a,e,e1,_,_,g,r⟩
 .exact⟨n,xs,e,g,r⟩
 .obtain⟨rfl,rfl⟩:=fc e;exact⟨n,xs,e1,g,r⟩
def Vw.tup(w:Vw q h L O (.tup ds) v):QZ (Rps q h O ds) v:=by
 rcases w with r|⟨n,k,xs,a,e,_⟩
 .exact r
 .cases k<;>cases e
def Kn(r:Rp q h O d v)(hf:fr=I->∀k a,d≠dl k a):Gv q h O fr (.ok v h) d :=
 ⟨v,[],by simp,by simpa using r,λz k a e=>absurd e (hf z k a)⟩
def BY:Gv q h O fr (.ok (.int i) h) (.int i):=Kn rfl λ_ k _ e=>by cases k<;>cases e
def wq:Gv q h O fr (.ok (.bl i) h) (.bl i):=Kn rfl λ_ k _ e=>by cases k<;>cases e
def dG(w:Vws q h L O [d] vs):∃x,vs=[x]/\Vw q h L O d x:=by
 obtain⟨x,r,e,a,b⟩:=w
 have:r=[]:=b
 subst this;exact⟨x,e,a⟩
def Ix(w:Vws q h L O [d,d'] vs):∃x y,vs=[x,y]/\Vw q h L O d x/\Vw q h L O d' y:=by obtain⟨x,r,e,a,b⟩:=w;obtain⟨y,rfl,c⟩:=dG b;exact⟨x,y,e,a,c⟩
end
def Ew(m:PV->PV->MH->T6)(f:Int->Int->D)(g:Int->Int->PV)(r:∀i j h,m (.int i) (.int j) h=.ok (g i j) h)(l:∀i j q h O fr,Gv q h O fr (.ok (g i j) h) (f i j)):y4 where
 m:=m
 p:=λa b=>match a,b with
  |.int i,.int j=>J (f i j)
  |_,_=>Y
 fr:=I
 ok {q h L O a x b y d} bd wa wb e:=by
  cases a with
  |int i =>
   cases b with
   |int j=>cases e;rw[wa.int,wb.int,r];exact l i j q h O I
   |_=>cases e
  |_=>cases e
def cz:y4:=Ew xv (λi j=>.int (i-j)) (λi j=>.int (i-j)) (λ_ _ _=>rfl) λ_ _ _ _ _ _=>BY
def BD:y4:=Ew Ck (λi j=>.bl (decide (i<j))) (λi j=>.bl (decide (i<j))) (λ_ _ _=>rfl) λ_ _ _ _ _ _=>wq
def Q1:y4:=Ew Ha (λi j=>.bl (decide (i<=j))) (λi j=>.bl (decide (i<=j))) (λ_ _ _=>rfl) λ_ _ _ _ _ _=>wq
def Iy:y4:=Ew Cm (λi j=>.bl (decide (j<i))) (λi j=>.bl (decide (j<i))) (λ_ _ _=>rfl) λ_ _ _ _ _ _=>wq
def bF:y4 where
 m:=kx
 p:=λa b=>match a,b with
  |.int i,.int j=>J (.int (i+j))
  |.lst x,.lst y=>if x.length+y.length<=100000 then J (.lst (x++y))else Y
  |.tup (a::x),.tup y=>if x.length+1+y.length<=100000 then J (.tup (a::x++y))else Y
  |_,_=>Y
 fr:=I
 ok {q h L O a x b y d} bd wa wb e:=by
  cases a with
  |int i =>
   cases b with
   |int j=>cases e;rw[wa.int,wb.int];exact BY
   |_=>cases e
  |lst x =>
   cases b with
   |lst y =>
    dsimp only at e;by_cases z:x.length+y.length<=100000
    .rw[b_ z]at e;cases e;obtain⟨n,xs,rfl,g,r⟩:=wa.lst;obtain⟨u,ys,rfl,l,f⟩:=wb.lst;show Gv q h O I (match h[n]?,h[u]? with|some (.lst xs),J (.lst ys)=>o_ (xs++ys) h|_,_=>.bad) _;rw[g,l];exact jn bd (r.app f) (by simpa using z)
    .rw[e_ z]at e;cases e
   |_=>cases e
  |tup x =>
   cases x with
   |nil=>cases b<;>cases e
   |cons a x =>
    cases b with
    |tup y =>
     dsimp only at e;by_cases z:x.length+1+y.length<=100000
     .rw[b_ z]at e;cases e;obtain⟨xs,rfl,r⟩:=wa.tup;obtain⟨ys,rfl,f⟩:=wb.tup;have ne:xs≠[]:=λz=>by have:=r.length;simp[z]at this
      show Gv q h O I (if xs≠[]then wj (xs++ys) h else .bad) _;rw[b_ ne];exact vk (r.app f) (by simp;lia)
     .rw[e_ z]at e;cases e
    |_=>cases e
  |_=>cases e
def Rps.rep(r:Rps q h O ds xs):∀n,Rps q h O (List.replicate n ds).flatten (List.replicate n xs).flatten
 |0=>rfl
 |n+1=>by
  exact r.app (Rps.rep r n)
def t8:y4 where
 m:=ki
 p:=λa b=>match a,b with
  |.int i,.int j=>if IntMulOk i j then J (.int (i*j))else Y
  |.lst x,.int j=>if(0<=j/\j<=1000)/\((List.replicate j.toNat x).flatten).length<=100000 then J (.lst (List.replicate j.toNat x).flatten)else Y
  |_,_=>Y
 fr:=I
 ok {q h L O a x b y d} bd wa wb e:=by
  cases a with
  |int i =>
   cases b with
   |int j =>
    dsimp only at e;by_cases z:IntMulOk i j
    .rw[b_ z]at e;cases e;rw[wa.int,wb.int];show Gv q h O I (if IntMulOk i j then .ok (.int (i*j)) h else .bad) _;rw[b_ z];exact BY
    .rw[e_ z]at e;cases e
   |_=>cases e
  |lst x =>
   cases b with
   |int j =>
    dsimp only at e;by_cases z:(0<=j/\j<=1000)/\((List.replicate j.toNat x).flatten).length<=100000
    .rw[b_ z]at e;cases e;obtain⟨n,xs,rfl,g,r⟩:=wa.lst;rw[wb.int];show Gv q h O I (match h[n]? with|some (.lst xs)=>if -(2^63)<=j/\j<2^63 then o_ (List.flatten (List.replicate j.toNat xs)) h else .bad|_=>.bad) _;rw[g];dsimp only;rw[b_ ⋯];exact jn bd (r.rep _) z.2
    .rw[e_ z]at e;cases e
   |_=>cases e
  |_=>cases e
def MB:y4 where
 m:=AC
 p:=λa b=>match a,b with
  |.int i,.int j=>if j≠0/\Builtin.divisionGoesByPylong i j=T then J (.int (i.fdiv j))else Y
  |_,_=>Y
 fr:=I
 ok {q h L O a x b y d} bd wa wb e:=by
  cases a with
  |int i =>
   cases b with
   |int j =>
    dsimp only at e;by_cases z:j≠0/\Builtin.divisionGoesByPylong i j=T
    .rw[b_ z]at e;cases e;rw[wa.int,wb.int];show Gv q h O I (if j≠0/\Builtin.divisionGoesByPylong i j=T then .ok (.int (i.fdiv j)) h else .bad) _;rw[b_ z];exact BY
    .rw[e_ z]at e;cases e
   |_=>cases e
  |_=>cases e
def ky:y4 where
 m:=bI
 p:=λa b=>match a,b with
  |.lst x,.int j=>n_ x j
  |.tup x,.int j=>n_ x j
  |_,_=>Y
 fr:=T
 ok {q h L O a x b y d} bd wa wb e:=by
  have at':∀{f:TW}{xs:TN}{j:Int},Rps q h O f xs->n_ f j=J d->∃v,n_ xs j=J v/\Rp q h O d v:=λ{f xs j} r e=>by
   unfold n_ at e ⊢;rw[r.length]
   cases e1:wS f.length j with
   |none=>rw[e1]at e;cases e
   |some k=>rw[e1]at e;exact r.get e
  cases b with
  |int j =>
   rw[wb.int]
   cases a with
   |lst f =>
    obtain⟨n,xs,rfl,g,r⟩:=wa.lst;obtain⟨v,e1,i⟩:=at' r e;show Gv q h O T (match h[n]? with|some (.lst xs)=>(match n_ xs j with|some v=>.ok v h|none=>.bad)|_=>.bad) _;rw[g];dsimp only;rw[e1];exact Kn i λz=>by cases z
   |tup f =>
    obtain⟨xs,rfl,r⟩:=wa.tup;obtain⟨v,e1,i⟩:=at' r e;show Gv q h O T (match n_ xs j with|some v=>.ok v h|none=>.bad) _;rw[e1];exact Kn i λz=>by cases z
   |_=>cases e
  |_=>cases a<;>cases e
def Ko(f:Bool):y4 where
 m:=LL f
 p:=λa b=>match b with
  |.non=>(match a with
   |.non=>J (.bl (!f))
   |_=>J (.bl f))
  |.bl b=>(match a with
   |.bl c=>J (.bl (if f then !(c==b)else c==b))
   |.non=>J (.bl f)
   |.int _=>J (.bl f)
   |.str _=>J (.bl f)
   |.tup _=>J (.bl f)
   |_=>Y)
  |_=>Y
 fr:=I
 ok {q h L O a x b y d} bd wa wb e:=by
  have loc:∀{a:D}{x:PV},Vw q h L O a x->(∃i,a=.lst i)\/(∃j i,a=.dic j i)\/(∃c,a=.exc c)\/a=.pen->∃n,x=.loc n:=λ{a x} w z=>by
   rcases w with r|⟨n,k,xs,i,e,e1,_⟩
   .rcases z with⟨i,rfl⟩|⟨j,i,rfl⟩|⟨c,rfl⟩|rfl
    .obtain⟨n,_,e,_⟩:=r;exact⟨n,e⟩
    .obtain⟨n,_,e,_⟩:=r;exact⟨n,e⟩
    .obtain⟨n,e,_⟩:=r;exact⟨n,e⟩
    .exact⟨q,r⟩
   .exact⟨n,e1⟩
  cases b with
  |non =>
   rw[wb.non]
   cases a with
   |non=>cases e;rw[wa.non];exact wq
   |bl c=>cases e;rw[wa.bl];exact wq
   |int c=>cases e;rw[wa.int];exact wq
   |str c=>cases e;rw[wa.str];exact wq
   |tup c=>cases e;obtain⟨xs,rfl,_⟩:=wa.tup;exact wq
   |lst c=>cases e;obtain⟨n,rfl⟩:=loc wa (.inl ⟨_,rfl⟩);exact wq
   |dic j i=>cases e;obtain⟨n,rfl⟩:=loc wa (.inr (.inl ⟨_,_,rfl⟩));exact wq
   |exc c=>cases e;obtain⟨n,rfl⟩:=loc wa (.inr (.inr (.inl ⟨_,rfl⟩)));exact wq
   |pen=>cases e;obtain⟨n,rfl⟩:=loc wa (.inr (.inr (.inr rfl)));exact wq
  |bl b =>
   rw[wb.bl]
   cases a with
   |non=>cases e;rw[wa.non];exact wq
   |bl c=>cases e;rw[wa.bl];exact wq
   |int c=>cases e;rw[wa.int];exact wq
   |str c=>cases e;rw[wa.str];exact wq
   |tup c=>cases e;obtain⟨xs,rfl,_⟩:=wa.tup;exact wq
   |_=>cases e
  |_=>cases e
mutual
def py:D->Option PyData
 |.non=>J .none
 |.bl b=>J (.bool b)
 |.int i=>J (.int i)
 |.str x=>J (.str x)
 |.tup a=>(BR a).map .tuple
 |.lst a=>(BR a).map .list
 |_=>Y
def BR:TW->Option (List PyData)
 |[]=>J []
 |d::a=>match py d,BR a with
  |some x,J xs=>J (x::xs)
  |_,_=>Y
end
mutual
def wr:D->Nat
 |.tup a=>1+vu a
 |.lst a=>1+vu a
 |_=>0
def vu:TW->Nat
 |[]=>0
 |d::a=>max (wr d) (vu a)
end
def uL(d:D):(∀(v:PV)(e:PyData)(n:Nat),Rp q h O d v->py d=J e->wr d<=n->rd n h v=J e):=by
 refine D.rec (motive_1:=λd=>∀(v:PV)(e:PyData)(n:Nat),Rp q h O d v->py d=J e->wr d<=n->rd n h v=J e)
  (motive_2:=λf=>∀(l:TN)(i:List PyData)(n:Nat),Rps q h O f l->BR f=J i->vu f<=n->cB (rd n h) l=J i)
  (λv _ n r e _=>?_) (λb v _ n r e _=>?_) (λb v _ n r e _=>?_) (λb v _ n r e _=>?_) (λf u v e n r j hd=>?_) (λf u v e n r j hd=>?_) (λ_ _ _ _ _ _ _ e _=>?_) (λ_ _ _ _ _ e _=>?_) (λ_ _ _ _ e _=>?_)
  (λl i n r e _=>?_) (λd f B E l i n r e hd=>?_) d
 .rw[show v=PV.non from r];cases e;cases n<;>rfl
 .rw[show v=PV.bl b from r];cases e;cases n<;>rfl
 .rw[show v=PV.int b from r];cases e;cases n<;>rfl
 .rw[show v=PV.str b from r];cases e;cases n<;>rfl
 .obtain⟨xs,ex,r⟩:=r;subst ex;rw[py,t0]at j;obtain⟨i,e1,rfl⟩:=j;rw[wr]at hd
  cases n with
  |zero=>lia
  |succ n=>simp only[rd];rw[u _ _ n r e1 ⋯];rfl
 .obtain⟨m,xs,ex,_,g,r⟩:=r;subst ex;rw[py,t0]at j;obtain⟨i,e1,rfl⟩:=j;rw[wr]at hd
  cases n with
  |zero=>lia
  |succ n=>simp only[rd,g];rw[u _ _ n r e1 ⋯];rfl
 .simp[py]at e
 .simp[py]at e
 .simp[py]at e
 .rw[show l=[]from r];rw[BR]at e;cases e;rfl
 .obtain⟨x,t,ex,a,b⟩:=r;subst ex;rw[vu]at hd;rw[BR]at e
  cases e1:py d with
  |none=>rw[e1]at e;cases e
  |some y =>
   cases e2:BR f with
   |none=>rw[e1,e2]at e;cases e
   |some ys =>
    rw[e1,e2]at e;cases e;have z:=B _ _ n a e1 ⋯;have C:=E _ _ n b e2 ⋯;simp only[cB,z,C]
def MC(r:Rp q h O d v)(a:py d=J e)(hd:wr d<=n):rd n h v=J e:=uL d v e n r a hd
def xI(r:Rps q h O ds vs)(a:BR ds=J es)(hd:vu ds<=n):cB (rd n h) vs=J es:=by
 have:=uL (.tup ds) (.tup vs) (.tuple es) (n+1) (⟨vs,rfl,r⟩) (by rw[py,a];rfl) (by rw[wr];lia)
 simp only[rd]at this
 simp_all
def nO(w:Vw q h L O d v)(a:py d=J e)(hd:wr d<=60):rd 60 h v=J e:=by
 rcases w with r|⟨n,j,xs,f,rfl,rfl,_,_,g,r⟩
 .exact MC r a hd
 cases j with
 |some _=>cases a
 |none =>
 replace a:py (.lst f)=J e:=a;replace hd:wr (.lst f)<=60:=hd;replace g:h[n]?=J (.lst xs):=g
 .rw[py,t0]at a;obtain⟨l,e1,rfl⟩:=a;rw[wr]at hd;have i:=xI (n:=59) r e1 ⋯;show(match h[n]? with|some (.lst xs)=>(cB (rd 59 h) xs).map PyData.list|_=>Y)=_;rw[g];dsimp only;rw[i];rfl
def Am(f:Bool)(a b:D):T9:=match py a,py b with
 |some x,J y=>if(wr a<=60/\wr b<=60)/\SeqAt.shaped x=I/\SeqAt.shaped y=I then J (.bl (if f then !PyData.eqv x y else PyData.eqv x y))else Y
 |_,_=>Y
def lL(e:Am neg a b=J d):∃x y,py a=J x/\py b=J y/\(wr a<=60/\wr b<=60)/\(SeqAt.shaped x=I/\SeqAt.shaped y=I)/\d=.bl (if neg then !PyData.eqv x y else PyData.eqv x y):=by
 unfold Am at e
 cases e1:py a with
 |none=>rw[e1]at e;cases e
 |some x =>
  cases e2:py b with
  |none=>rw[e1,e2]at e;cases e
  |some y =>
   simp_all
def wv:y4 where
 m:=u0
 p:=Am T
 fr:=I
 ok {q h L O a x b y d} bd wa wb e:=by obtain⟨u,w,e1,e2,hd,f,rfl⟩:=lL e;unfold u0;rw[nO wa e1 hd.1,nO wb e2 hd.2];dsimp only;rw[b_ f];exact wq
def BS:y4 where
 m:=Az
 p:=Am I
 fr:=I
 ok {q h L O a x b y d} bd wa wb e:=by obtain⟨u,w,e1,e2,hd,f,rfl⟩:=lL e;unfold Az;rw[nO wa e1 hd.1,nO wb e2 hd.2];dsimp only;rw[b_ f];exact wq
def Vw.seqOf(w:Vw q h L O d v)(e:d.items=J ds):∃xs,MM.bq h v=J xs/\Rps q h O ds xs:=by
 cases d with
 |lst a=>cases e;obtain⟨n,xs,rfl,g,r⟩:=w.lst;exact⟨xs,by simp[MM.bq,g],r⟩
 |tup a=>cases e;obtain⟨xs,rfl,r⟩:=w.tup;exact⟨xs,rfl,r⟩
 |_=>cases e
def Iz(f:Bool)(a b:D):T9:=match b.items with
 |some i=>(match py a,BR i with
  |some x,J ys=>if(wr a<=60/\vu i<=60)/\x.canLay0=I/\PyData.canLayAll0 ys=I then J (.bl (if f then !ys.any (λe=>PyData.eqv e x)else ys.any (λe=>PyData.eqv e x)))else Y
  |_,_=>Y)
 |none=>Y
def qr(f:Bool):y4 where
 m:=DI f
 p:=Iz f
 fr:=I
 ok {q h L O a x b y d} bd wa wb e:=by
  unfold Iz at e
  cases i:b.items with
  |none=>rw[i]at e;cases e
  |some j =>
   rw[i]at e;dsimp only at e
   cases e1:py a with
   |none=>rw[e1]at e;cases e
   |some u =>
    cases e2:BR j with
    |none=>rw[e1,e2]at e;cases e
    |some l =>
     rw[e1,e2]at e;dsimp only at e;by_cases z:(wr a<=60/\vu j<=60)/\u.canLay0=I/\PyData.canLayAll0 l=I
     .rw[b_ z]at e;cases e;obtain⟨xs,B,r⟩:=wb.seqOf i;unfold DI;rw[B,nO wa e1 z.1.1];dsimp only;rw[xI r e2 z.1.2];dsimp only;rw[b_ z.2];exact wq
     .rw[e_ z]at e;cases e
end
noncomputable section
def jN:OY where
 m:=BJ
 p:=λa=>match a with
  |.int i=>J (.int (-i))
  |_=>Y
 fr:=I
 ok {q h L O a x d} bd w e:=by
  cases a with
  |int i=>cases e;rw[w.int];exact BY
  |_=>cases e
def CO:D->Option String
 |.non=>J "NoneType"
 |.bl _=>J "bool"
 |.int _=>J "int"
 |.str _=>J "str"
 |.tup _=>J "tuple"
 |.lst _=>J "list"
 |.dic _ _=>J "dict"
 |_=>Y
def MD(w:Vw q h L O d v)(e:CO d=J t):Fz h v=J t:=by
 cases d with
 |non=>cases e;rw[w.non];rfl
 |bl b=>cases e;rw[w.bl];rfl
 |int b=>cases e;rw[w.int];rfl
 |str b=>cases e;rw[w.str];rfl
 |tup b=>cases e;obtain⟨xs,rfl,_⟩:=w.tup;rfl
 |lst b=>cases e;obtain⟨n,xs,rfl,g,_⟩:=w.lst;simp[Fz,g]
 |dic a f =>
  cases e;rcases w with⟨n,xs,rfl,_,g,_⟩|⟨n,k,xs,f,e,rfl,_,_,g,_⟩
  .simp[Fz,g]
  .obtain⟨rfl,rfl⟩:=t5 e;replace g:h[n]?=J (.dic a xs):=g;simp[Fz,g]
 |_=>cases e
def nc(f:List String):OY where
 m:=sJ f
 p:=λa=>(CO a).map λt=>.bl (f.any (fv t))
 fr:=I
 ok {q h L O a x d} bd w e:=by rw[t0]at e;obtain⟨t,e1,rfl⟩:=e;unfold sJ;rw[MD w e1];exact wq
def S1(f:TN->MH->T6)(g:Int->Int->Int)(hf:∀i j h,f [.int i,.int j] h=.ok (.int (g i j)) h):y_ where
 k:=λxs h=>(f xs h).ne
 p:=λl=>match l with
  |[.int i,.int j]=>J (.int (g i j))
  |_=>Y
 fr:=I
 ok {q h L O l xs d} bd w e:=by
  match l,e with
  |[.int i,.int j],e =>
   cases e;obtain⟨x,y,rfl,a,b⟩:=Ix w;rw[a.int,b.int,hf];exact BY
def km:y_:=S1 A6 (λi j=>if j<i then j else i) λ_ _ _=>rfl
def kh:y_:=S1 Dx (λi j=>if j>i then j else i) λ_ _ _=>rfl
def dz:y_ where
 k:=λxs h=>(o0 xs h).ne
 p:=λi=>match i with
  |[.lst f]=>J (.int f.length)
  |[.tup f]=>J (.int f.length)
  |[.str x]=>if x.length<=sizeLine then J (.int x.length)else Y
  |_=>Y
 fr:=I
 ok {q h L O i xs d} bd w e:=by
  match i,e with
  |[.lst f],e =>
   cases e;obtain⟨x,rfl,a⟩:=dG w;obtain⟨n,ys,rfl,g,r⟩:=a.lst;simp only[o0,g];rw[r.length];exact BY
  |[.tup f],e =>
   cases e;obtain⟨x,rfl,a⟩:=dG w;obtain⟨ys,rfl,r⟩:=a.tup;simp only[o0];rw[r.length];exact BY
  |[.str x],e =>
   dsimp only at e;by_cases z:x.length<=sizeLine
   .rw[b_ z]at e;cases e;obtain⟨x,rfl,a⟩:=dG w;rw[a.str];simp only[o0];rw[b_ z];exact BY
   .rw[e_ z]at e;cases e
def lu:y_ where
 k:=λxs h=>(BM xs h).ne
 p:=λi=>match i with
  |[d]=>d.items.bind λf=>if f.length<=100000 then J (.lst f)else Y
  |_=>Y
 fr:=I
 ok {q h L O i xs d} bd w e:=by
  match i,e with
  |[a],e =>
   obtain⟨x,rfl,j⟩:=dG w;rw[BF]at e;obtain⟨f,e1,e2⟩:=e;obtain⟨xs,e3,r⟩:=j.seqOf e1;by_cases z:f.length<=100000
   .rw[b_ z]at e2;cases e2;obtain⟨v,g,e4,l,u⟩:=jn bd r z;exact⟨v,g,by simp only[BM,e3];rw[e4];rfl,l,u⟩
   .rw[e_ z]at e2;cases e2
def kw:y_ where
 k:=λxs h=>(AE xs h).ne
 p:=λf=>match f with
  |[d]=>d.items.map .tup
  |_=>Y
 fr:=I
 ok {q h L O f xs d} bd w e:=by
  match f,e with
  |[a],e =>
   obtain⟨x,rfl,i⟩:=dG w;rw[t0]at e;obtain⟨j,e1,rfl⟩:=e;obtain⟨xs,e3,r⟩:=i.seqOf e1;simp only[AE,e3];exact Kn ⟨xs,rfl,r⟩ λ_ k _ e=>by cases k<;>cases e
def iG:TW->Option (List Bool)
 |[]=>J []
 |.bl b::r=>(iG r).map (b::·)
 |_=>Y
def rY:∀{f:TW}{xs:TN}{bs:List Bool},Rps q h O f xs->iG f=J bs->jR xs=J bs
 |[],_,_,r,e=>by rw[show _=[]from r];cases e;rfl
 |d::f,_,bs,⟨x,t,ex,a,b⟩,e=>by
  subst ex
  cases d with
  |bl c =>
   rw[show x=PV.bl c from a];rw[iG,t0]at e;obtain⟨i,e1,rfl⟩:=e;rw[jR,rY b e1];rfl
  |_=>cases e
def IA:y_ where
 k:=λxs h=>(DK xs h).ne
 p:=λf=>match f with
  |[d]=>(d.items.bind iG).map λbs=>.bl (bs.all id)
  |_=>Y
 fr:=I
 ok {q h L O f xs d} bd w e:=by
  match f,e with
  |[a],e =>
   obtain⟨x,rfl,i⟩:=dG w;rw[t0]at e;obtain⟨bs,e1,rfl⟩:=e;rw[BF]at e1;obtain⟨j,e1,e2⟩:=e1;obtain⟨xs,e3,r⟩:=i.seqOf e1;simp only[DK,e3,A4,rY r e2];exact wq
def Ex:y_ where
 k:=λxs h=>(DL xs h).ne
 p:=λf=>match f with
  |[d]=>(d.items.bind iG).map λbs=>.bl (bs.any id)
  |_=>Y
 fr:=I
 ok {q h L O f xs d} bd w e:=by
  match f,e with
  |[a],e =>
   obtain⟨x,rfl,i⟩:=dG w;rw[t0]at e;obtain⟨bs,e1,rfl⟩:=e;rw[BF]at e1;obtain⟨j,e1,e2⟩:=e1;obtain⟨xs,e3,r⟩:=i.seqOf e1;simp only[DL,e3,A4,rY r e2];exact wq
def bw:TW->Option (TR)
 |[]=>J []
 |.int b::r=>(bw r).map (b::·)
 |_=>Y
def eU:∀{f:TW}{xs:TN}{bs:TR},Rps q h O f xs->bw f=J bs->xs=bs.map .int
 |[],_,_,r,e=>by rw[show _=[]from r];cases e;rfl
 |d::f,_,bs,⟨x,t,ex,a,b⟩,e=>by
  subst ex
  cases d with
  |int c =>
   rw[show x=PV.int c from a];rw[bw,t0]at e;obtain⟨i,e1,rfl⟩:=e;rw[eU b e1];rfl
  |_=>cases e
def kM:∀(bs:TR),d5 (bs.map .int)=J bs
 |[]=>rfl
 |b::bs=>by rw[n8,d5,kM bs];rfl
def qj:∀(bs:TR),iX (bs.map .int)=J bs
 |[]=>rfl
 |b::bs=>by rw[n8,iX,qj bs];rfl
def kS:∀(bs:TR),eN (bs.map .int)=J bs
 |[]=>rfl
 |b::bs=>by rw[n8,eN,kS bs];rfl
def rq(f:TN->MH->T6)(c:TR->Nat->Nat->Bool)(g:Int->Int->Int)(hf:∀l x h,(bq h x).bind d5=J l->0<l.length->f [x] h=.ok (.int (lA (c l) l)) h)(C:∀i j h,f [.int i,.int j] h=.ok (.int (g i j)) h):y_ where
 k:=λxs h=>(f xs h).ne
 p:=λu=>match u with
  |[d]=>(d.items.bind bw).bind λl=>if 0<l.length then J (.int (lA (c l) l))else Y
  |[.int i,.int j]=>J (.int (g i j))
  |_=>Y
 fr:=I
 ok {q h L O u xs d} bd w e:=by
  match u,e with
  |[a],e =>
   obtain⟨x,rfl,B⟩:=dG w;rw[BF]at e;obtain⟨l,e1,e2⟩:=e;rw[BF]at e1;obtain⟨E,e1,e3⟩:=e1;obtain⟨xs,e4,r⟩:=B.seqOf e1;by_cases z:0<l.length
   .rw[b_ z]at e2;cases e2;show Gv q h O I (f [x] h).ne _;rw[hf l x h (by rw[e4,A4,eU r e3];exact kM l) z];exact BY
   .rw[e_ z]at e2;cases e2
  |[.int i,.int j],e =>
   cases e;obtain⟨x,y,rfl,a,b⟩:=Ix w;rw[a.int,b.int,C];exact BY
def oE:y_:=rq BN (λa i j=>decide (a.getD i 0>a.getD j 0)) (λi j=>if j>i then j else i) (λa x h e z=>by simp only[BN,e];rw[b_ z]) λi j h=>rfl
def nr:y_:=rq BO (λa i j=>decide (a.getD i 0<a.getD j 0)) (λi j=>if j<i then j else i) (λa x h e z=>by simp only[BO,e];rw[b_ z]) λi j h=>rfl
def kD(k:TR):D:=.tup (k.map .int)
def cM:D->Option (TR)
 |.tup a=>bw a
 |_=>Y
def fw:TW->Option (TU)
 |[]=>J []
 |d::f=>match cM d,fw f with
  |some k,J a=>J (k::a)
  |_,_=>Y
def IB(r:Rp q h O d v)(e:cM d=J k):v=kP k:=by
 cases d with
 |tup a=>obtain⟨xs,rfl,r⟩:=r;rw[eU r e];rfl
 |_=>cases e
def mW:∀{f:TW}{xs:TN}{i:TU},Rps q h O f xs->fw f=J i->xs=i.map kP
 |[],_,_,r,e=>by rw[show _=[]from r];cases e;rfl
 |d::f,_,i,⟨x,t,ex,a,b⟩,e=>by
  subst ex;rw[fw]at e
  cases e1:cM d with
  |none=>rw[e1]at e;cases e
  |some k =>
   cases e2:fw f with
   |none=>rw[e1,e2]at e;cases e
   |some j =>
    rw[e1,e2]at e;cases e;rw[IB a e1,mW b e2];rfl
def IC(k:TR):OV (kP k)=J k:=qj k
def kO:∀(a:TU),iD (a.map kP)=J a
 |[]=>rfl
 |k::a=>by rw[n8,iD,IC,kO a]
def jx:∀(bs:TR),Rps q h O (bs.map .int) (bs.map .int)
 |[]=>rfl
 |b::bs=>⟨_,_,rfl,rfl,jx bs⟩
def jB:∀(a:TU),Rps q h O (a.map kD) (a.map kP)
 |[]=>rfl
 |b::bs=>⟨_,_,rfl,⟨_,rfl,jx b⟩,jB bs⟩
def Vw.lstOf(w:Vw q h L O (.lst ds) v):∃xs,MM.cO h v=J xs/\Rps q h O ds xs:=by obtain⟨n,xs,rfl,g,r⟩:=w.lst;exact⟨xs,by simp[MM.cO,g],r⟩
def MF(bd:Bd h O)(r:∀h O,Rps q h O ds xs):Gv q h O I (.ok (.loc h.length) (h++[.lst xs])) (.lst ds):=by
 have g:(h++[MO.lst xs])[h.length]?=J (.lst xs):=by simp
 exact⟨_,_,rfl,⟨_,_,rfl,λz=>by have:=bd _ z;ext,g,r _ _⟩,λ_ k a e=>by obtain⟨rfl,rfl⟩:=fc e;exact⟨_,_,rfl,ia _,g,r _ _⟩⟩
def lN(f:TW):Option (TW):=match bw f with
 |some ns=>if ns.length<64 then J ((fx ns).map .int)else Y
 |none=>(match fw f with
  |some a=>if(∀k∈a,k≠[])/\a.length<=66 then J ((bL a).map kD)else Y
  |none=>Y)
def eX:y_ where
 k:=λxs h=>(ny xs h).ne
 p:=λi=>match i with
  |[.lst f]=>(lN f).map .lst
  |_=>Y
 fr:=I
 ok {q h L O i xs d} bd w e:=by
  match i,e with
  |[.lst f],e =>
   obtain⟨x,rfl,u⟩:=dG w;obtain⟨ys,l,r⟩:=u.lstOf;rw[t0]at e;obtain⟨B,e1,rfl⟩:=e;unfold lN at e1
   cases e2:bw f with
   |some ns =>
    rw[e2]at e1;dsimp only at e1;by_cases z:ns.length<64
    .rw[b_ z]at e1;cases e1
     have:ny [x] h=.ok (.loc h.length) (h++[.lst ((fx ns).map .int)]):=by simp only[ny,l,eU r e2,kS];rw[b_ z]
     show Gv q h O I (ny [x] h).ne _;rw[this];exact MF bd λ_ _=>jx _
    .rw[e_ z]at e1;cases e1
   |none =>
    rw[e2]at e1;dsimp only at e1
    cases e3:fw f with
    |none=>rw[e3]at e1;cases e1
    |some a =>
     rw[e3]at e1;dsimp only at e1;by_cases z:(∀k∈a,k≠[])/\a.length<=66
     .rw[b_ z]at e1;cases e1;have j:=mW r e3
      cases a with
      |nil =>
       have:f=[]:=by have:=r.length;rw[j]at this;simpa using this.symm
       subst this;cases e2
      |cons k a =>
       have:ny [x] h=.ok (.loc h.length) (h++[.lst ((bL (k::a)).map kP)]):=by have y:eN ((k::a).map kP)=Y:=rfl;simp only[ny,l,j,y,kO];rw[b_ z]
       show Gv q h O I (ny [x] h).ne _;rw[this];exact MF bd λ_ _=>jB _
     .rw[e_ z]at e1;cases e1
def O3:y_ where
 k:=λu f=>match u with
  |[x]=>(match (cO f x).bind iD with
   |some a=>if(∀k∈a,k≠[])/\(oI a).length<=66 then .ok (.loc f.length) (f++[.lst ((bL (oI a)).map kP)])else .bad
   |none=>.bad)
  |_=>.bad
 p:=λi=>match i with
  |[.lst j]=>(fw j).bind λa=>if(∀k∈a,k≠[])/\(oI a).length<=66 then J (.lst ((bL (oI a)).map kD))else Y
  |_=>Y
 fr:=I
 ok {q h L O i xs d} bd w e:=by
  match i,e with
  |[.lst j],e =>
   obtain⟨x,rfl,l⟩:=dG w;obtain⟨ys,y,r⟩:=l.lstOf;rw[BF]at e;obtain⟨a,e1,e2⟩:=e;by_cases z:(∀k∈a,k≠[])/\(oI a).length<=66
   .rw[b_ z]at e2;cases e2;simp only[y,A4,mW r e1,kO];rw[b_ z];exact MF bd λ_ _=>jB _
   .rw[e_ z]at e2;cases e2
def cK(lo:Int)(n:Nat):TW:=(List.range n).map λ(i:Nat)=>D.int (lo+(i:Int))
def oK:Rps q h O (cK lo n) (bG lo n):=by
 have:=jx (q:=q) (h:=h) (O:=O) ((List.range n).map λ(i:Nat)=>lo+(i:Int))
 rw[AL,AL]at this;exact this
def Kp:y_ where
 k:=λl f=>match l with
  |[.int j]=>if -(2^62)<=j/\j<2^62/\j.toNat<=sizeLine then .ok (.loc f.length) (f++[.lst (bG 0 j.toNat)])else .bad
  |_=>.bad
 p:=λa=>match a with
  |[.int j]=>if -100000<=j/\j<=100000 then J (.lst (cK 0 j.toNat))else Y
  |_=>Y
 fr:=I
 ok {q h L O a xs d} bd w e:=by
  match a,e with
  |[.int j],e =>
   obtain⟨x,rfl,i⟩:=dG w;rw[i.int];dsimp only at e;by_cases z:-100000<=j/\j<=100000
   .rw[b_ z]at e;cases e;dsimp only
    have:=c8
    rw[b_ ⟨by ext,by ext,by ext⟩];exact MF bd λ_ _=>oK
   .rw[e_ z]at e;cases e
def xf:OZ where
 k:=λr i=>match r with
  |[.int j]=>if -(2^62)<=j/\j<2^62 then .ok ⟨bG 0 j.toNat,[]⟩ i else .bad
  |_=>.bad
 p:=λa=>match a with
  |[.int j]=>if -100000<=j/\j<=100000 then J (cK 0 j.toNat)else Y
  |_=>Y
 ok {q h L O a xs d} hq hO bd w e:=by
  match a,e with
  |[.int j],e =>
   obtain⟨x,rfl,l⟩:=dG w;rw[l.int];dsimp only at e;by_cases z:-100000<=j/\j<=100000
   .rw[b_ z]at e;cases e;dsimp only;rw[b_ ⟨by ext,by ext⟩];exact⟨_,rfl,oK,(λ_ f=>nomatch f),λ_ _ f=>nomatch f⟩
   .rw[e_ z]at e;cases e
def Vw.sqAny(u:q<L)(j:q∈O)(w:Vw q h L O d v)(e:d.items=J ds):∃t xs gd,MM.f9 v h=J (t,xs,gd)/\Rps q h O ds xs/\(∀g∈gd,h[g.1]?=J (.lst g.2)/\g.1≠q)/\(Rp q h O d v->∀g∈gd,g.1∉O):=by
 obtain⟨xs,gd,e1,r,f,i⟩:=w.seq u j e
 cases d with
 |lst l =>
  cases e;obtain⟨n,ys,rfl,g,a⟩:=w.lst;simp only[v_,g]at e1;cases e1;exact⟨T,xs,[(n,xs)],by simp[MM.f9,g],a,f,i⟩
 |tup l =>
  cases e;obtain⟨ys,rfl,a⟩:=w.tup;cases e1;exact⟨I,_,[],rfl,a,f,i⟩
 |_=>cases e
def i5(a:TW):TW:=a.zipIdx.map λp=>.tup [.int (p.2:Int),p.1]
def tL:∀{f:TW}{xs:TN}(n:Nat),Rps q h O f xs->Rps q h O ((f.zipIdx n).map λp=>.tup [.int (p.2:Int),p.1]) ((xs.zipIdx n).map λp=>.tup [.int (p.2:Int),p.1])
 |[],_,_,r=>by rw[show _=[]from r];rfl
 |d::f,_,n,⟨x,t,e,a,b⟩=>by
  subst e;exact⟨_,_,rfl,⟨_,rfl,⟨_,_,rfl,rfl,⟨_,_,rfl,a,rfl⟩⟩⟩,tL (n+1) b⟩
def iE:OZ where
 k:=λy i=>match y with
  |[x]=>(match f9 x i with
   |some (_,xs,gd)=>.ok ⟨iY xs,gd⟩ i
   |none=>.bad)
  |_=>.bad
 p:=λf=>match f with
  |[d]=>d.items.map i5
  |_=>Y
 ok {q h L O f xs d} hq hO bd w e:=by
  match f,e with
  |[a],e =>
   obtain⟨x,rfl,l⟩:=dG w;rw[t0]at e;obtain⟨E,e1,rfl⟩:=e;obtain⟨t,ys,gd,e2,r,j,u⟩:=l.sqAny hq hO e1;refine⟨⟨iY ys,gd⟩,by simp only[e2],tL 0 r,j,λz=>u ?_⟩;obtain⟨B,C,e3,a,_⟩:=z;cases e3;exact a
def iK(xs:TW)(lo a:T4):TW:=(xs.drop (HT.lg xs.length 0 lo)).take (HT.lg xs.length xs.length a-HT.lg xs.length 0 lo)
def vE(lo a:T4)(r:Rps q h O ds xs):Rps q h O (iK ds lo a) (fX xs lo a):=by unfold iK fX;rw[r.length];exact(r.drop _).take _
structure Xo(ws:TV) where
 m:Mx (T4)
 p:aA->g_->PR (T4)
 ok:∀{q h L B O Z env s},Cx q h L B O ws Z env s->Ok q h (m Z h) (p env s) (λ_ a b=>a=b)
section
variable{ws:TV}
def BZ:Xo ws where
 m:=Ma
 p:=λ_ s=>.ok Y s
 ok {q h L B O Z env s} c:=⟨Y,h,rfl,KB.refl _ _,c.pen,rfl⟩
def B0(e:Xe ws):Xo ws where
 m:=Mb e.m
 p:=λenv s=>(e.p env s).bind λd s=>match d with
  |.int i=>.ok (J i) s
  |_=>.bad
 ok {q h L B O Z env s} c:=by
  refine(e.ok c).bind λx v a j l f ⟨w,_,_⟩=>?_
  cases x with
  |int i=>rw[w.int];exact⟨J i,a,rfl,KB.refl _ _,f,rfl⟩
  |_=>trivial
def Kq(d:D)(lo f:T4):T9:=match d with
 |.lst a=>J (.lst (iK a lo f))
 |.tup a=>if HT.lg a.length 0 lo=0/\HT.lg a.length a.length f=a.length then Y else J (.tup (iK a lo f))
 |_=>Y
def MK(bd:Bd h O)(w:Vw q h L O a x)(e:Kq a lo hi=J d):Gv q h O I (Hl x lo hi h) d:=by
 cases a with
 |lst f =>
  cases e;obtain⟨n,xs,rfl,g,r⟩:=w.lst;simp only[Hl,g];have r:=vE lo hi r;have m:Mv O h O (h++[MO.lst (fX xs lo hi)]):=⟨λn j _=>we j,λo i=>.inl i⟩
  have l:Mv O h (h.length::O) (h++[MO.lst (fX xs lo hi)]):=⟨λn j _=>we j,λo i=>by
   rcases l_.mp i with z|z
   .exact .inr (by ext)
   .exact .inl z⟩
  have g:(h++[MO.lst (fX xs lo hi)])[h.length]?=J (.lst (fX xs lo hi)):=by simp
  exact⟨_,_,rfl,⟨_,_,rfl,λz=>by have:=bd _ z;ext,g,r.mv m⟩,λ_ k u e=>by obtain⟨rfl,rfl⟩:=fc e;exact⟨_,_,rfl,ia _,g,r.mv l⟩⟩
 |tup f =>
  unfold Kq at e;dsimp only at e;by_cases z:HT.lg f.length 0 lo=0/\HT.lg f.length f.length hi=f.length
  .rw[b_ z]at e;cases e
  .rw[e_ z]at e;cases e;obtain⟨xs,rfl,r⟩:=w.tup;simp only[Hl];rw[r.length,e_ z];exact Kn ⟨_,rfl,vE lo hi r⟩ λ_ k _ e=>by cases k<;>cases e
 |_=>cases e
def Cu(a:Xe ws)(lo i:Xo ws):Xe ws where
 m:=OS a.m lo.m i.m
 p:=λenv s=>(a.p env s).bind λx s=>(lo.p env s).bind λl s=>(i.p env s).bind λu s=>.of (Kq x l u) s
 fz:=I
 fr:=I
 ok {q h L B O Z env s} c:=by
  refine(a.ok c).bind λx v S U F M ⟨w,_,_⟩=>?_;have E:=c.kb F M;refine(lo.ok E).bind λl R W s2 j G e=>?_;subst e;have C:=E.kb j G;refine(i.ok C).bind λu Q h3 X f z e=>?_;subst e;have H:=C.kb f z
  cases e:Kq x l u with
  |none=>trivial
  |some d =>
   obtain⟨y,g,e1,r,P⟩:=MK H.bd ((w.kb j c.pO c.pL).kb f c.pO c.pL) e;exact BA (m_ (m_ F.len j.len) f.len) z ⟨y,g,by rw[e1];rfl,r,P⟩
end
def n3:Ce where
 m:=fP
 p:=λf i=>match i with
  |[a]=>if f.length<100000 then J (.non,f++[a])else Y
  |_=>Y
 ok {q h O n xs f i vs d ds'} g r ra e:=by
  match i,e with
  |[a],e =>
   obtain⟨x,t,rfl,a,b⟩:=ra
   have:t=[]:=b
   subst this;dsimp only at e;by_cases z:f.length<100000
   .rw[b_ z]at e;cases e;refine⟨.non,xs++[x],?_,r.app ⟨x,[],rfl,a,rfl⟩,rfl⟩;simp only[fP,g];rw[b_ (by have:=c8;rw[r.length];ext)]
   .rw[e_ z]at e;cases e
def il:Ce where
 m:=jt
 p:=λj u=>match u with
  |[a]=>a.items.bind λi=>if j.length+i.length<=100000 then J (.non,j++i)else Y
  |_=>Y
 ok {q h O n xs j u vs d ds'} g r ra e:=by
  match u,e with
  |[a],e =>
   obtain⟨x,t,rfl,w,b⟩:=ra
   have:t=[]:=b
   subst this;rw[BF]at e;obtain⟨i,e1,e2⟩:=e;by_cases z:j.length+i.length<=100000
   .rw[b_ z]at e2;cases e2;have B:=c8
    cases a with
    |lst l =>
     cases e1;obtain⟨m,ys,rfl,_,y,f⟩:=w;refine⟨.non,xs++ys,?_,r.app f,rfl⟩;simp only[jt,g,y];rw[b_ (by rw[r.length,f.length];ext)]
    |tup l =>
     cases e1;obtain⟨ys,rfl,f⟩:=w;refine⟨.non,xs++ys,?_,r.app f,rfl⟩;simp only[jt,g];rw[b_ (by rw[r.length,f.length];ext)]
    |_=>cases e1
   .rw[e_ z]at e2;cases e2
def xg:Ce where
 m:=lQ
 p:=λf j=>match j with
  |[.int i,a]=>if(0<=i/\i<=100000)/\f.length<100000 then J (.non,f.take (min i.toNat f.length)++a::f.drop (min i.toNat f.length))else Y
  |_=>Y
 ok {q h O n xs f j vs d ds'} g r ra e:=by
  match j,e with
  |[.int i,a],e =>
   obtain⟨x,t,rfl,l,y,u,rfl,w,b⟩:=ra
   have:u=[]:=b
   subst this;rw[show x=PV.int i from l];dsimp only at e;by_cases z:(0<=i/\i<=100000)/\f.length<100000
   .rw[b_ z]at e;cases e;refine⟨.non,ko xs i y,?_,?_,rfl⟩
    .simp only[lQ,g];rw[b_ ⟨by ext,by have:=c8;rw[r.length];ext⟩]
    .unfold ko;rw[e_ (by ext),r.length];exact(r.take _).app ⟨y,_,rfl,w,r.drop _⟩
   .rw[e_ z]at e;cases e
end
section
variable{ws:TV}{env:aA}{s:g_}
@[simp]theorem ar{d:D}{r:aA}:(aa 0:Xe ws).p (J d::r) s=.ok d s:=rfl
@[simp]theorem aw{i:Nat}{o:T9}{r:aA}:(aa (i+1):Xe ws).p (o::r) s=(aa i:Xe ws).p r s:=by simp[aa]
theorem Ey(e:env[i]?=J (J d)):(aa i:Xe ws).p env s=.ok d s:=by show(match env[i]? with|some (J d)=>PR.ok d s|_=>.bad)=_;rw[e]
@[simp]theorem bK:(xC k:Xe ws).p env s=.ok k.d s:=rfl
@[simp]theorem ID:Cn.non.d=.non:=rfl
@[simp]theorem S2:(Cn.bl b).d=.bl b:=rfl
@[simp]theorem aW:(Cn.int b).d=.int b:=rfl
@[simp]theorem Q2:(Cn.str b).d=.str b:=rfl
@[simp]theorem aI:(ae o a b).p env s=(a.p env s).bind λx s1=>(b.p env s1).bind λy s2=>.of (o.p x y) s2:=rfl
@[simp]theorem rC:(Bb o a).p env s=(a.p env s).bind λx s1=>.of (o.p x) s1:=rfl
@[simp]theorem av:(a_:Xs ws).p env s=.ok [] s:=rfl
@[simp]theorem af:(ac a r).p env s=(a.p env s).bind λx s1=>(r.p env s1).bind λy s2=>.ok (x::y) s2:=rfl
@[simp]theorem cC:(li o a).p env s=(a.p env s).bind λx s1=>.of (o.p x) s1:=rfl
@[simp]theorem aM:(au f a h).p env s=(a.p env s).bind f.p:=rfl
@[simp]theorem uS:(lF f a h).p env s=((a.p env s).bind f.p).bind λd s=>if BX d=I then .ok d s else .bad:=rfl
@[simp]theorem dk:(cF a h).p env s=(a.p env s).bind λx s1=>if x.length<=100000 then .ok (.lst x) s1 else .bad:=rfl
@[simp]theorem eB:(aX a h).p env s=(a.p env s).bind λx s1=>if x.length<=100000 then .ok (.tup x) s1 else .bad:=rfl
@[simp]theorem IE:(Ev:Xe ws).p env s=.ok (.dic [] []) s:=rfl
@[simp]theorem cu:(xB a).p env s=(a.p env s).bl:=rfl
@[simp]theorem tZ:(fM a).p env s=(a.p env s).bind λb s=>.ok (!b) s:=rfl
@[simp]theorem IF:(kn a b).p env s=(a.p env s).bind λx s=>if x=I then b.p env s else .ok T s:=rfl
@[simp]theorem ML:(Kk a b).p env s=(a.p env s).bind λx s=>if x=I then .ok I s else b.p env s:=rfl
@[simp]theorem O4:(ka:Xt ws).p env s=.ok I s:=rfl
@[simp]theorem Ez:(lv a b).p env s=(a.p env s).bl.bind λx s=>if x=I then(b.p env s).bl.bind λy s=>.ok (.bl y) s else .ok (.bl T) s:=rfl
@[simp]theorem O6:(rL a).p env s=(a.p env s).bl.bind λx s=>.ok (.bl (!x)) s:=rfl
@[simp]theorem MN:(oo f g a b e).p env s=(a.p env s).bind λx s1=>(b.p env s1).bind λy s2=>match f.p x y with
  |some (.bl t)=>if t=I then(e.p env s2).bind λz s3=>.of (g.p y z) s3 else .ok (.bl T) s2
  |_=>.bad:=rfl
@[simp]theorem fC:(bQ o a).p env s=(a.p env s).bind λx s1=>.of (o.p x) s1:=rfl
@[simp]theorem dP:(aH a).p env s=(a.p env s).bind λx s1=>.of x.items s1:=rfl
@[simp]theorem S3{i:Nat}{h:ws.contains i=T}{d:D}:(jj i h).p d env=J (env.set i (J d)):=rfl
@[simp]theorem S4:(Bl:FI ws).p [] env=J env:=rfl
@[simp]theorem S5:(vl a t).p (d::ds) env=(a.p d env).bind λenv1=>t.p ds env1:=rfl
@[simp]theorem S6:(Bm t n).p (.tup ds) env=if ds.length=n then t.p ds env else Y:=rfl
@[simp]theorem vF{nv:Nat}{fm:TV}{i:Xi ws}{ws':TV}{g:Xg ws'}{t:Xt ws'}{e:Xe ws'}{hw:Cc nv fm ws=ws'}{hz:e.fz=I}:(aJ nv fm i g t e hw hz).p env s=(i.p env s).bind λds s1=>if ds.length<=100000 then (match eI g.p t.p e.p ds (wp nv fm env) s1 with
  |.ok r s2=>.ok (.lst r) s2
  |_=>.bad)else .bad:=rfl
@[simp]theorem rn:(BZ:Xo ws).p env s=.ok Y s:=rfl
@[simp]theorem rm:(B0 e).p env s=(e.p env s).bind λd s=>match d with
  |.int i=>.ok (J i) s
  |_=>.bad:=rfl
@[simp]theorem vU:(Cu a lo hi).p env s=(a.p env s).bind λx s=>(lo.p env s).bind λl s=>(hi.p env s).bind λu s=>.of (Kq x l u) s:=rfl
@[simp]theorem aB:(aG a b).p env s=(a.p env s).then b.p:=rfl
@[simp]theorem im:(i4:Xd ws).p env s=.nx env s:=rfl
@[simp]theorem cw:(bu e).p env s=(e.p env s).go env λd _ s=>.rt d s:=rfl
theorem o9{i:Nat}{h:ws.contains i=I}{d:D}(e:env[i]?=J (J d)):(lP i h).p env s=.rt d s:=by show(match env[i]? with|some (J d)=>PS.rt d s|_=>.bad)=_;rw[e]
@[simp]theorem oG:(cZ e).p env s=(e.p env s).go env λ_=>.nx:=rfl
@[simp]theorem fH:(r4 t a b).p env s=(t.p env s).go env λx env s=>if x=I then a.p env s else b.p env s:=rfl
@[simp]theorem br:(bn i e hi hz).p env s=(e.p env s).go env λd env s=>.nx (env.set i (J d)) s:=rfl
@[simp]theorem d3:(dB i e hi hz).p env s=(e.p env s).go env λd env s=>match d with
  |.lst ds=>.nx (env.set i (J (.lst ds))) s | .dic ks ds=>.nx (env.set i (J (.dic ks ds))) s
  |_=>.bad:=rfl
@[simp]theorem MP:(gq x a).p env s=(a.p env s).go env λds env s=>if ds.length<=100000 then .rse x env s else .bad:=rfl
@[simp]theorem cQ:(cE i g b hz).p env s=(i.p env s).go env λds env s=>Cd g.p b.p ds env s:=rfl
@[simp]theorem MQ:(tr o i a hi hz).p env s=BC o i a.p env s λ_=>.nx:=rfl
theorem bo{hw}(a:ds.length=np):(bR n np b hw).p ds s=(b.p (ll n ds) s).fin:=by show(if ds.length=np then _ else _)=_;rw[b_ a]
variable{i j:Int}{b:Bool}{x y:TW}
@[simp]theorem ic:bF.p (.int i) (.int j)=J (.int (i+j)):=rfl
theorem fL(h:x.length+y.length<=100000):bF.p (.lst x) (.lst y)=J (.lst (x++y)):=by show(if x.length+y.length<=100000 then _ else _)=_;rw[b_ h]
@[simp]theorem ib:cz.p (.int i) (.int j)=J (.int (i-j)):=rfl
@[simp]theorem IG:BD.p (.int i) (.int j)=J (.bl (decide (i<j))):=rfl
@[simp]theorem Q3:Q1.p (.int i) (.int j)=J (.bl (decide (i<=j))):=rfl
@[simp]theorem Q4:Iy.p (.int i) (.int j)=J (.bl (decide (j<i))):=rfl
@[simp]theorem iZ:ky.p (.lst x) (.int j)=n_ x j:=rfl
@[simp]theorem lh:ky.p (.tup x) (.int j)=n_ x j:=rfl
@[simp]theorem Q5:(nc Ts).p d=(CO d).map λt=>.bl (Ts.any (fv t)):=rfl
@[simp]theorem Q6:CO .non=J "NoneType":=rfl
@[simp]theorem S7:CO (.bl b)=J "bool":=rfl
@[simp]theorem Q7:CO (.int i)=J "int":=rfl
@[simp]theorem Q8:CO (.str z)=J "str":=rfl
@[simp]theorem Q9:CO (.tup x)=J "tuple":=rfl
@[simp]theorem Q_:CO (.lst x)=J "list":=rfl
@[simp]theorem Ra:CO (.dic ks ds)=J "dict":=rfl
@[simp]theorem EA:km.p [.int i,.int j]=J (.int (if j<i then j else i)):=rfl
@[simp]theorem EB:kh.p [.int i,.int j]=J (.int (if j>i then j else i)):=rfl
@[simp]theorem IH:dz.p [.lst x]=J (.int x.length):=rfl
@[simp]theorem Rb:dz.p [.tup x]=J (.int x.length):=rfl
theorem ED(h:x.length<=100000):lu.p [.lst x]=J (.lst x):=by show(if x.length<=100000 then _ else _)=_;rw[b_ h]
def EF(h:x.length<=100000):lu.p [.tup x]=J (.lst x):=by show(if x.length<=100000 then _ else _)=_;rw[b_ h]
@[simp]theorem sO:kw.p [.lst x]=J (.tup x):=rfl
@[simp]theorem MU:kw.p [.tup x]=J (.tup x):=rfl
theorem FK(h:-100000<=i/\i<=100000):Kp.p [.int i]=J (.lst (cK 0 i.toNat)):=by show(if _ then _ else _)=_;rw[b_ h]
def jD(h:-100000<=i/\i<=100000):xf.p [.int i]=J (cK 0 i.toNat):=by show(if _ then _ else _)=_;rw[b_ h]
@[simp]theorem MV:iE.p [.lst x]=J (i5 x):=rfl
@[simp]theorem wF:Kq (.lst x) lo hi=J (.lst (iK x lo hi)):=rfl
theorem iW(h:x.length<100000):n3.p x [a]=J (.non,x++[a]):=by show(if _ then _ else _)=_;rw[b_ h]
def gv(h:x.length+y.length<=100000):il.p x [.lst y]=J (.non,x++y):=by show(if _ then _ else _)=_;rw[b_ h]
def yQ(h:x.length+y.length<=100000):il.p x [.tup y]=J (.non,x++y):=by show(if _ then _ else _)=_;rw[b_ h]
def yz{a:D}{i:Nat}(h:i<=x.length)(f:x.length<100000):xg.p x [.int i,a]=J (.non,x.take i++a::x.drop i):=by show(if _ then _ else _)=_;rw[b_ ⟨by ext,f⟩,xp,Fi h]
end
section
variable{i j:Int}{b c:Bool}
def kL(a:x.canLay0=I)(f:x.depth<=64):SeqAt.shaped x=I:=by simp[SeqAt.shaped,a,f]
@[simp]theorem jd:Am neg (.int i) (.int j)=J (.bl (if neg then !decide (i=j)else decide (i=j))):=rfl
@[simp]theorem II:Am neg (.bl b) (.bl c)=J (.bl (if neg then !(b==c)else b==c)):=rfl
@[simp]theorem nP:wv.p a d=Am T a d:=rfl
@[simp]theorem nK:BS.p a d=Am I a d:=rfl
@[simp]theorem gc:(qr neg).p a d=Iz neg a d:=rfl
theorem fV:∀(k:TR),BR (k.map .int)=J (k.map .int)/\vu (k.map .int)=0
 |[]=>⟨rfl,rfl⟩
 |i::k=>by
  obtain⟨a,b⟩:=fV k;simp[BR,py,a,vu,wr,b]
def m8:∀(f:TU),BR (f.map kD)=J (f.map λk=>.tuple (k.map .int))/\vu (f.map kD)<=1
 |[]=>⟨rfl,by simp[vu]⟩
 |k::f=>by
  obtain⟨a,b⟩:=m8 f;obtain⟨c,d⟩:=fV k;constructor
  .simp[BR,kD,py,a,c]
  .simp only[n8,vu,kD,wr,d];lia
def qK:∀(xs:TR),(xs.map PyData.int).any (λe=>PyData.eqv e (.int x))=decide (x∈xs)
 |[]=>by simp
 |y::ys=>by
  rw[n8,J9,qK ys]
  have:PyData.eqv (.int y) (.int x)=decide (x=y):=by simp[PyData.eqv,Bool.beq_eq_decide_eq,eq_comm]
  grind
def jc:∀(k f:TR),PyData.eqvAll (k.map .int) (f.map .int)=decide (k=f)
 |[],[]=>by simp[PyData.eqvAll]
 |[],_::_=>by simp[PyData.eqvAll]
 |_::_,[]=>by simp[PyData.eqvAll]
 |a::k,b::f=>by
  simp only[n8,PyData.eqvAll,PyData.eqv,jc k f];by_cases z:a=b<;>simp[z]
def qx:∀(a:TU),(a.map λk=>PyData.tuple (k.map .int)).any (λe=>PyData.eqv e (.tuple (k.map .int)))=decide (k∈a)
 |[]=>by simp
 |y::ys=>by
  rw[n8,J9,qx ys]
  have:PyData.eqv (.tuple (y.map .int)) (.tuple (k.map .int))=decide (y=k):=by simp only[PyData.eqv,jc]
  grind
def eA{neg:Bool}{x:Int}{d:D}{xs:TR}(e:d.items=J (xs.map .int)):Iz neg (.int x) d=J (.bl (if neg then !decide (x∈xs)else decide (x∈xs))):=by obtain⟨a,b⟩:=fV xs;simp only[Iz,e,py,a];rw[b_ ⟨⟨by simp[wr],⋯⟩,rfl,(fW xs).1⟩,qK]
def lE{neg:Bool}{k:TR}{d:D}{ks:TU}(e:d.items=J (ks.map kD)):Iz neg (kD k) d=J (.bl (if neg then !decide (k∈ks)else decide (k∈ks))):=by
 obtain⟨a,b⟩:=m8 ks;obtain⟨c,f⟩:=fV k;have l:py (kD k)=J (.tuple (k.map .int)):=by simp[kD,py,c]
 have r:(wr (kD k)<=60/\vu (ks.map kD)<=60)/\(PyData.tuple (k.map .int)).canLay0=I/\PyData.canLayAll0 (ks.map λk=>.tuple (k.map .int))=I:=⟨⟨by simp[kD,wr,f],⋯⟩,by simpa [PyData.canLay0]using(fW k).1,(mw ks).1⟩;unfold Iz;rw[e];dsimp only;rw[l,a];dsimp only;rw[b_ r,qx]
def jv{neg:Bool}{xs ys:TR}:Am neg (.lst (xs.map .int)) (.lst (ys.map .int))=J (.bl (if neg then !decide (xs=ys)else decide (xs=ys))):=by obtain⟨a,b⟩:=fV xs;obtain⟨c,d⟩:=fV ys;obtain⟨f,r⟩:=fW xs;obtain⟨l3,l⟩:=fW ys;simp only[Am,py,a,c,KO];rw[b_ ⟨⟨by simp[wr,b],by simp[wr,d]⟩,kL (by simpa [PyData.canLay0]using f) (by simp only[PyData.depth];lia),kL (by simpa [PyData.canLay0]using l3) (by simp only[PyData.depth];lia)⟩];simp only[PyData.eqv,jc]
end
@[simp]theorem O7:Cd g b [] env s=.nx env s:=rfl
theorem AY(e:g d env=J env1):Cd g b (d::ds) env s=(b env1 s).turn (Cd g b ds):=by rw[Cd,e]
def bZ(f:Nat->aA->g_->Prop):∀(r:TW)(j:Nat)(env:aA)(s:g_),f j env s ->
  (∀m env s d,f (j+m) env s->r[m]?=J d->∃i a l,g d env=J i/\b i s=.nx a l/\f (j+m+1) a l)->∃a l,Cd g b r env s=.nx a l/\f (j+r.length) a l
 |[],j,env,s,B,_=>⟨env,s,rfl,B⟩
 |d::r,j,env,s,B,st=>by
  obtain⟨i,u,F,e1,e2,G⟩:=st 0 env s d B rfl;obtain⟨y,E,e3,C⟩:=bZ f r (j+1) u F G λm a l x q z=>by
   have:=st (m+1) a l x (by rw[show j+(m+1)=j+1+m by lia];exact q) (by simpa using z)
   rw[show j+(m+1)+1=j+1+m+1 by lia]at this;exact this
  refine⟨y,E,?_,by rw[BH,show j+(r.length+1)=j+1+r.length by lia];exact C⟩;rw[AY e1,e2];exact e3
def oq(p:D->Bool)(f:D->D):∀(l:TW)(j:aA),j.length=nv ->
  (∀x∈l,∀j:aA,j.length=nv->∃a:aA,a.length=nv/\g x (j++fr)=J (a++fr)/\t (a++fr) s=.ok (p x) s/\(p x=I->e (a++fr) s=.ok (f x) s))->eI g t e l (j++fr) s=.ok ((l.filter p).map f) s
 |[],j,hv,i=>rfl
 |x::l,j,hv,i=>by
  obtain⟨a,r,e1,e2,e3⟩:=i x (by simp) j hv;have z:=oq p f l a r λy B=>i y (l7 _ B);rw[eI,e1];dsimp only;rw[e2]
  cases u:p x with
  |true=>simp only[Pb,if_true,e3 u,z,R9 u,n8]
  |false=>simp only[Pb,pk,if_false,z,R_ (show ¬p x=I by simp[u])]
def nV{y a:TV}{env:aA}{s:g_}{u:Nat}{fm:TV}{i:Xi y}{g:Xg a}{t:Xt a}{e:Xe a}{E:Cc u fm y=a}{C:e.fz=I}{r:TW}(p:D->Bool)(f:D->D)(F:i.p env s=.ok r s)(B:r.length<=100000)(l:∀x∈r,∀z:aA,z.length=u->∃j:aA,j.length=u/\g.p x (z++fm.map λi=>(env[i]?).getD Y)=J (j++fm.map λi=>(env[i]?).getD Y)/\t.p (j++fm.map λi=>(env[i]?).getD Y) s=.ok (p x) s/\(p x=I->e.p (j++fm.map λi=>(env[i]?).getD Y) s=.ok (f x) s)):
  (aJ u fm i g t e E C).p env s=.ok (.lst ((r.filter p).map f)) s:=by
 rw[vF,F,Pb,b_ B];unfold wp;rw[oq p f r _ (by simp) l]
def cD{ws ws':TV}{env:aA}{s:g_}{fm:TV}{i:Xi ws}{t:Xt ws'}{e:Xe ws'}{ds:TW}(p:D->Bool)(f:D->D)(B:i.p env s=.ok ds s)(j:ds.length<=100000)(a:∀x∈ds,t.p (J x::fm.map λi=>(env[i]?).getD Y) s=.ok (p x) s/\(p x=I->e.p (J x::fm.map λi=>(env[i]?).getD Y) s=.ok (f x) s))(l:ws'.contains 0=T:=by exact ys rfl)(z:Cc 1 fm ws=ws':=by exact ys rfl)(y:e.fz=I:=by exact ys rfl):
  (aJ 1 fm i (jj 0 l) t e z y).p env s=.ok (.lst ((ds.filter p).map f)) s :=
 nV p f B j λx r u hv=>match u,hv with
  |[_],_=>⟨[J x],rfl,rfl,a x r⟩
def nM{ws ws':TV}{env:aA}{s:g_}{fm:TV}{i:Xi ws}{t:Xt ws'}{e:Xe ws'}{ds:TW}(p:D->Bool)(f:D->D)(B:i.p env s=.ok ds s)(l:ds.length<=100000)(j:∀x∈ds,∃a b,x=.tup [a,b]/\t.p (J a::J b::fm.map λi=>(env[i]?).getD Y) s=.ok (p x) s/\(p x=I->e.p (J a::J b::fm.map λi=>(env[i]?).getD Y) s=.ok (f x) s))(u:ws'.contains 0=T:=by exact ys rfl)(r:ws'.contains 1=T:=by exact ys rfl)(hw:Cc 2 fm ws=ws':=by exact ys rfl)(hz:e.fz=I:=by exact ys rfl):
  (aJ 2 fm i (Bm (vl (jj 0 u) (vl (jj 1 r) Bl)) 2) t e hw hz).p env s=.ok (.lst ((ds.filter p).map f)) s :=
 nV p f B l λx y z hv=>match z,hv with
  |[_,_],_=>let⟨a,b,e,q⟩:=j x y;⟨[J a,J b],rfl,by subst e;rfl,q⟩
def dN{α:Type}(l:List α):(l.filter λ_=>I)=l:=List.filter_eq_self.mpr (by simp)
def IsT(n:Int)(k:TR):Prop:=∃a b:Int,k=[a,b]/\0<=a/\a<n/\0<=b/\b<n/\a≠b
def p_:TR->TR
 |[a,b]=>[if b<a then b else a,if b>a then b else a]
 |k=>k
structure i3(n:Int)(ks:TU):Prop where
 n0:0<=n
 n12:n<=12
 tie:∀k∈ks,∃a b:Int,k=[a,b]/\0<=a/\a<b/\b<n
 ris:SortT.Eg ks
 nd:ks.Nodup
def IJ:TU:=(List.range 12).flatMap λb=>(List.range b).map λ(a:Nat)=>[(a:Int),(b:Int)]
def AW:IJ.length=66:=by decide
def Af(l:n<=12)(i:0<=a)(f:a<b)(j:b<n):[a,b]∈IJ:=by
 unfold IJ;rw[B7];refine⟨b.toNat,by simp;lia,?_⟩;rw[ml];refine⟨a.toNat,by simp;lia,?_⟩;congr 1
 .lia
 .lia
def dU{n:Int}{f:TU}(y:n<=12)(r:∀k∈f,∃a b:Int,k=[a,b]/\0<=a/\a<b/\b<n)(nd:f.Nodup):f.length<=66:=by rw[<-AW];refine List.Nodup.length_le_of_subset nd λk i=>?_;obtain⟨a,b,rfl,j,l,u⟩:=r k i;exact Af y j l u
def yB(h:a<b):p_ [a,b]=[a,b]:=by simp[p_,show ¬b<a by lia,show b>a from h]
def IK(h:b<a):p_ [a,b]=[b,a]:=by simp[p_,h,show ¬b>a by lia]
def below(v:Int)(f:TU):TR:=f.filterMap λk=>match k with|[a,b]=>if b=v then J a else Y|_=>Y
def above(v:Int)(f:TU):TR:=f.filterMap λk=>match k with|[a,b]=>if a=v then J b else Y|_=>Y
def ij(n:Nat):TR:=(List.range n).map λ(i:Nat)=>(i:Int)
def bz:i∈ij n↔0<=i/\i<n:=by
 unfold ij;rw[ml];constructor
 .rintro⟨k,f,rfl⟩;rw[C1]at f;lia
 .intro ⟨a,b⟩;exact⟨i.toNat,by rw[C1];lia,⋯⟩
def fU(n:Nat):(ij n).Nodup:=by exact List.Pairwise.map _ (λa b h=>by lia) Oc
def dM(h:0<=i):∃n:Nat,i=(n:Int):=⟨i.toNat,⋯⟩
def MX(h:SortT.bV [c,d] [a,b]=T):a<c\/(a=c/\b<=d):=by
 simp only[SortT.bV]at h;by_cases z:c=a
 .rw[b_ z]at h
  grind
 .rw[e_ z]at h;simp at h;lia
def EG(w:i3 n f):(below v f++above v f).Pairwise (·<=·):=by
 have tie:=w.tie;have ris:=w.ris;clear w;rw[Pw];have C:∀(f:TU)(x:Int),x∈below v f->(∀k∈f,∃a b:Int,k=[a,b]/\0<=a/\a<b/\b<n)->[x,v]∈f/\x<v:=λf x r tie=>by
  obtain⟨k,u,e⟩:=CG.mp r;obtain⟨a,b,rfl,_,lt,_⟩:=tie k u;by_cases z:b=v
  .simp[z]at e;subst e;subst z;exact⟨u,lt⟩
  .simp[z]at e
 have E:∀(f:TU)(x:Int),x∈above v f->(∀k∈f,∃a b:Int,k=[a,b]/\0<=a/\a<b/\b<n)->[v,x]∈f/\v<x:=λf x r tie=>by
  obtain⟨k,u,e⟩:=CG.mp r;obtain⟨a,b,rfl,_,lt,_⟩:=tie k u;by_cases z:a=v
  .simp[z]at e;subst e;subst z;exact⟨u,lt⟩
  .simp[z]at e
 refine⟨?_,?_,λx r y F=>?_⟩
 .induction f with
  |nil=>exact .nil
  |cons k f B =>
   obtain⟨a,b,rfl,_⟩:=tie k (by simp);have i:=λk u=>tie k (l7 _ u);have j:=(B5.mp ris);have l:=B i j.2;have e1:below v ([a,b]::f)=(if b=v then [a]else [])++below v f:=by unfold below;by_cases z:b=v<;>simp[z]
   rw[e1];by_cases z:b=v
   .rw[b_ z];refine B5.mpr ⟨λx r=>?_,l⟩
    have:=MX (j.1 _ (C f x r i).1)
    lia
   .rw[e_ z];exact l
 .induction f with
  |nil=>exact .nil
  |cons k f B =>
   obtain⟨a,b,rfl,_⟩:=tie k (by simp);have i:=λk u=>tie k (l7 _ u);have j:=(B5.mp ris);have l:=B i j.2;have e1:above v ([a,b]::f)=(if a=v then [b]else [])++above v f:=by unfold above;by_cases z:a=v<;>simp[z]
   rw[e1];by_cases z:a=v
   .rw[b_ z];refine B5.mpr ⟨λx r=>?_,l⟩
    have:=MX (j.1 _ (E f x r i).1)
    lia
   .rw[e_ z];exact l
 .have:=(C f x r tie).2
  have:=(E f y F tie).2
  lia
def kj(w:i3 n C):(below v C++above v C).Nodup/\∀x∈below v C++above v C,0<=x/\x<n:=by
 have F:∀x,x∈below v C->0<=x/\x<v/\x<n:=λx f=>by
  obtain⟨k,r,e⟩:=CG.mp f;obtain⟨a,b,rfl,_,lt,_⟩:=w.tie k r;by_cases z:b=v
  .simp[z]at e;subst e;lia
  .simp[z]at e
 have G:∀x,x∈above v C->0<=x/\v<x/\x<n:=λx f=>by
  obtain⟨k,r,e⟩:=CG.mp f;obtain⟨a,b,rfl,_,lt,_⟩:=w.tie k r;by_cases z:a=v
  .simp[z]at e;subst e;lia
  .simp[z]at e
 refine⟨?_,λx f=>?_⟩
 .rw[Bg];refine⟨?_,?_,λx f y i=>?_⟩
  .unfold below List.Nodup;rw[Ps];refine List.Pairwise.imp_of_mem (λ{k E} r B j x f y i=>?_) w.nd;obtain⟨a,b,rfl,_⟩:=w.tie k r;obtain⟨c,d,rfl,_⟩:=w.tie E B;by_cases l:b=v
   .by_cases u:d=v
    .simp[l]at f;simp[u]at i;subst f i;rintro rfl;exact j (by rw[l,u])
    .simp[u]at i
   .simp[l]at f
  .unfold above List.Nodup;rw[Ps];refine List.Pairwise.imp_of_mem (λ{k E} r B j x f y i=>?_) w.nd;obtain⟨a,b,rfl,_⟩:=w.tie k r;obtain⟨c,d,rfl,_⟩:=w.tie E B;by_cases l:a=v
   .by_cases u:c=v
    .simp[l]at f;simp[u]at i;subst f i;rintro rfl;exact j (by rw[l,u])
    .simp[u]at i
   .simp[l]at f
  .have:=F x f
   have:=G y i
   lia
 .rcases nt.mp f with q|q
  .have:=F x q;lia
  .have:=G x q;lia
def aV(ns:TR)(j:Nat):TU:=(List.range j).flatMap λi=>(ns.drop (i+1)).map λb=>[ns.getD i 0,b]
def jS:aV ns (j+1)=aV ns j++(ns.drop (j+1)).map λb=>[ns.getD j 0,b]:=by simp[aV,PN]
def gO(a:ns.length<=12):∀(j:Nat),(aV ns j).length<=12*j
 |0=>by simp[aV]
 |j+1=>by
  have:=gO a j
  rw[jS,wO,mm,Bs];lia
def vQ(B:ns.Pairwise (·<·))(y:∀x∈ns,0<=x/\x<n):∀k∈aV ns ns.length,∃a b:Int,k=[a,b]/\0<=a/\a<b/\b<n:=λk r=>by
 obtain⟨i,l,r⟩:=B7.mp r;rw[C1]at l;obtain⟨b,f,rfl⟩:=ml.mp r;obtain⟨j,z,u⟩:=CU f;rw[Bs]at z;rw[J4]at u;have e1:ns.getD i 0=ns[i]:=by simp[l]
 rw[e1];have lt:=CQ.mp B i (i+1+j) l ⋯ ⋯;rw[u]at lt;exact⟨_,_,rfl,(y _ (PK l)).1,lt,(y _ (N4 f)).2⟩
noncomputable section
def jZ:D->Option Bool
 |.non=>J T
 |.bl b=>J b
 |.int i=>J (i != 0)
 |.tup xs=>J (!xs.isEmpty)
 |.lst xs=>J (!xs.isEmpty)
 |_=>Y
def Rps.empty(r:Rps p h O a vs):vs.isEmpty=a.isEmpty:=by
 cases a with
 |nil=>rw[show vs=[]from r];rfl
 |cons d a=>obtain⟨x,t,e,_⟩:=r;rw[e];rfl
def ss(w:Vw q h L O d v)(e:jZ d=J b):m5 h v=J b:=by
 cases d with
 |non=>cases e;rw[w.non];rfl
 |bl c=>cases e;rw[w.bl];rfl
 |int c=>cases e;rw[w.int];rfl
 |tup c=>cases e;obtain⟨xs,rfl,r⟩:=w.tup;rw[m5,r.empty]
 |lst c=>cases e;obtain⟨n,xs,rfl,g,r⟩:=w.lst;simp only[m5,g];rw[r.empty]
 |_=>cases e
section
variable{ws:TV}
def IL(a:Xe ws):Xt ws where
 m:=SM a.m
 p:=λenv s=>(a.p env s).bind λd s=>.of (jZ d) s
 ok {q h L B O Z env s} c:=by
  refine(a.ok c).bind λx v f j l i ⟨w,_,_⟩=>?_
  cases e:jZ x with
  |none=>trivial
  |some b=>rw[ss w e];exact⟨b,f,rfl,KB.refl _ _,i,rfl⟩
structure OpR where
 m:Nat->TN->MH->T6
 p:TW->TW->T9
 ok:∀{q:Nat}{h:MH}{L:Nat}{O:TV}{n:Nat}{xs:TN}{ds as:TW}{vs:TN}{d:D},h[n]?=J (.lst xs)->Rps q h O ds xs->Vws q h L O as vs->p ds as=J d->∃v,m n vs h=.ok v h/\Rp q h O d v/\∀k es,d≠dl k es
end
section
variable{ws:TV}{env:aA}{s:g_}
@[simp]theorem S8:(IL a).p env s=(a.p env s).bind λd s=>.of (jZ d) s:=rfl
end
end
noncomputable section
section
variable{ws:TV}{env:aA}{s:g_}
end
end
noncomputable section
section
variable{ws:TV}
end
end
noncomputable section
variable{ws:TV}
end
end PU
namespace MM
open PySem.Spec PyProof.Rows L2
end MM
namespace PU
open MM
end PU
namespace MM
open PySem.Spec PyProof.Rows L2
abbrev Re(scope sc:Scope)(vars frees:TQ):Prop:=(∀y∈scope.names,y.2=.cell->scope.names.lookup y.1=J .cell)/\(∀y∈scope.names,y.2=.local->scope.names.lookup y.1=J .local)/\(∀x∈vars,scope.names.lookup x=J .local\/scope.names.lookup x=J .cell)/\(∀x∈frees,scope.names.lookup x=J .free)/\(∀y∈scope.names,y.2=.free->y.1∈frees)/\(∀x∈frees,sc.names.lookup x=J .cell)
def MY(a f:Scope):Scope:={ a with names:=a.names.map λ(n,k)=>if(k == .free&&f.kind == .function&&f.names.lookup n==J .cell)then(n,.cell)else(n,k)}
def zb{a f:Scope}{env:Env}(h:env.scope=f):relabel a env=MY a f:=by subst h;rfl
def pN{X:Cx}{N:TQ}{a j:Scope}{f frees:TQ}{fm:TV}(Bz:X.env.scope=j)(l:a.kind=.function)(r:fm.map (λi=>N[i]?)=frees.map J)(h:Re a j f frees):x_ X N a f frees fm :=
 Hj Bz l h.1 h.2.1 h.2.2.1 h.2.2.2.1 h.2.2.2.2.1 r h.2.2.2.2.2
def Rf{Q:TZ->Prop}(h:∀f,Q [f]):∀a,a.length=1->Q a
 |[_],_=>h _
def S9{Q:TZ->Prop}(h:∀i f,Q [i,f]):∀a,a.length=2->Q a
 |[_,_],_=>h _ _
def S_{Q:TZ->Prop}(h:∀j f i,Q [j,f,i]):∀a,a.length=3->Q a
 |[_,_,_],_=>h _ _ _
def Ta{Q:TZ->Prop}(h:∀j f i l,Q [j,f,i,l]):∀a,a.length=4->Q a
 |[_,_,_,_],_=>h _ _ _ _
abbrev Zn(K:hU)(x:Str):Prop:=PySem.W.nsIn K mainGlobals x=J Y
abbrev Nn(X:Cx)(x:Str):Prop:=X.mg x=Y
abbrev Sc(X:Cx)(s:Stmt):Prop:=X.env.scope=ak s
abbrev Gd(X:Cx)(N G:TQ)(k:Nat):Prop:=Good X N N G k
structure Ba(P:Program)(w:World)(K:hU)(mg:T8)(base:Heap):Prop where
 kin:K.In base
 ns:base.Ns mainGlobals mg
structure EE(X:Cx)(P:Program)(w:World)(K:hU)(mg:T8)(base:Heap):Prop where
 e1:X.prog=P
 e2:X.w=w
 e3:X.K=K
 e4:X.mg=mg
 e5:X.base=base
 b:Ba P w K mg base
section
variable{P:Program}{w:World}{K:hU}{mg:T8}{base:Heap}{X:Cx}
def EE.n(e:EE X P w K mg base){x:Str}(z:Zn K x):Nn X x:=by show X.mg x=Y;rw[e.e4];exact PySem.W.mg_none_of e.b.kin e.b.ns z
def FnAt.c{x:Str}{f:TQ}{F:TN->MH->T6}{i j:Nat}(a:FnAt P w K mg base x f F i)(e:EE X P w K mg base)(h:i<=j:=by decide):Cal X x f F j :=
 (a.mono h).cal e.e1 e.e2 e.e3 e.e4 e.e5
def Rh{x:Str}{st:Stmt}{N G ps:TQ}{m:mh}{k:Nat}(b:Ba P w K mg base)(D:f_ K x st)(i:∀X:Cx,EE X P w K mg base->Sc X st->Gd X N G k->j3 X->Bw X (aK st) m)(B:jo x st ps:=by first | exact λ_ _ _ _ _ _=>Rf λ_=>rfl | exact λ_ _ _ _ _ _=>S9 λ_ _=>rfl | exact λ_ _ _ _ _ _=>S_ λ_ _ _=>rfl | exact λ_ _ _ _ _ _=>Ta λ_ _ _ _=>rfl | exact λ_ _ _ _ _ _=>ar5 λ_ _ _ _ _=>rfl)(S:rb N ps (ak st):=by exact⟨rfl,rfl,rfl,by decide +kernel,rfl,by decide +kernel,by decide +kernel⟩)(f:∀y∈N,(ak st).names.lookup y=J .local\/(ak st).names.lookup y=J .cell:=by decide +kernel)(a:∀y∈G,(ak st).names.lookup y=J .globalImplicit:=by decide +kernel)(dbg:∀x∈N++G,(x==("__debug__":Str))=T/\(x==("__classdict__":Str))=T/\x≠"__name__":=by decide +kernel):
  FnAt P w K mg base x ps (eO N.length ps.length m) (k+1) :=
 zc b.kin b.ns D S B f a dbg λX e1 e2 e3 e4 e5 l g j=>i X ⟨e1,e2,e3,e4,e5,b⟩ l g j
end
structure YE(Y X:Cx):Prop where
 e1:Y.prog=X.prog
 e2:Y.w=X.w
 e3:Y.K=X.K
 e4:Y.mg=X.mg
 e5:Y.base=X.base
section
variable{X Y:Cx}{N W G:TQ}{k:Nat}{x:Str}{p pos:Pos}{e:Expr}{es:T5}{m:Mx (TN)}{f:TN->MH->T6}
def YE.n(y:YE Y X)(h:X.mg x=none):Y.mg x=none:=y.e4.symm▸h
def YE.c(y:YE Y X){a:TQ}{F:TN->MH->T6}{i:Nat}(c:Cal X x a F i):Cal Y x a F i:=c.at y.e1 y.e2 y.e3 y.e4 y.e5
def kV(g:Good X N W G k)(i:Nat)(a:N[i]?=J x:=by rfl):ME X (.Name x pos) (ag i):=xV g i a
def Kr(g:Good X N W G k)(i:Nat)(a:N[i]?=J x:=by rfl)(j:W[i]?=J x:=by rfl):MG X (.Name x pos) (AN i):=u3 g i a j
def Bc{a b:Expr}{j i:Mx PV}(l:ME X a j)(u:ME X b i)(r:lH b:=by exact λ_ _=>rfl):ME X (.Subscript a b pos) (az bI j i):=Fx l u r
def Ks{i:CmpOp}{f:PV->PV->MH->T6}{a b:Expr}{l j:Mx PV}(r:w6 X (compareOp i) f)(u:ME X a l)(y:ME X b j)(z:behindInMarks i b=T:=by first | exact Cj _ | rfl):MT X (.Compare a [i] [b] pos) (mB (az f l j)):=xJ r u y z
def Cf(g:Good X N W G k)(j:Nat){i:TQ}{F:TN->MH->T6}(C:Cal X x i F k)(l:MA X (e::es) m)(r:G[j]?=J x:=by rfl)(u:starEach (e::es) X.env=(T,eval e X.env)::starEach es X.env:=by rfl)(a:(backTo pos (starEach es X.env)).any (·.1)=T:=by rfl):ME X (.Call (.Name x p) (e::es) [] pos) (bS F m):=pg g r C l u a
def BU{id:String}(g:Good X N W G k)(j:Nat)(y:cg X (.builtin id) f)(u:X.mg x=none)(hv:bootBuiltins x=J (.builtin id))(i:MA X (e::es) m)(l:G[j]?=J x:=by rfl)(r:starEach (e::es) X.env=(T,eval e X.env)::starEach es X.env:=by rfl)(a:(backTo pos (starEach es X.env)).any (·.1)=T:=by rfl):ME X (.Call (.Name x p) (e::es) [] pos) (v2 f m):=tF g j l y u hv i r a
def Tb{i a:Expr}(g:Good X N W G k)(j:Nat)(y:X.mg "range"=none)(l:MA X [a] m)(r:G[j]?=J "range":=by rfl)(u:starEach [a] X.env=[(T,eval a X.env)]:=by rfl):MI X i (.Call (.Name "range" p) [a] [] pos) (jV m):=qB (g.gl _ (aN r)) y l u
section
variable{tg iter elt:Expr}{ifs:T5}{scope sc:Scope}{mi:Mx MIt}{gt:Mg}{mt:Mx Bool}{me:Mx PV}
def Tc{j py:Pos}{y:Str}(g:Good X N W G k)(Bz:X.env.scope=sc)(i:Nat)(a frees l:TQ)(fm:TV)(B:MI X tg iter mi)(L:∀Y:Cx,YE Y X->Good Y (a++frees) a l k->MG Y tg gt/\Hi Y ifs mt/\ME Y elt me)(z:∀env:Env,env.scope=sc->swapsWith (.ListComp elt [⟨tg,iter,ifs,0⟩] scope pos) (J (.Name y py)) j.line env=pure I:=by(intro env h;cases env;cases h;rfl))(u:N[i]?=J y:=by rfl)(R:W[i]?=J y:=by rfl)(C:scope.kind=.function:=by rfl)(Q:fm.map (λi=>N[i]?)=frees.map J:=by rfl)(h:Re scope sc a frees:=by decide +kernel)(nd:(a++frees).Nodup:=by decide +kernel)(r:∀x∈l,scope.names.lookup x=J .globalImplicit:=by decide +kernel)(dbg:∀x∈(a++frees)++l,(x==("__debug__":Str))=T/\(x==("__classdict__":Str))=T/\x≠"__name__":=by decide +kernel)(P:∀x,foldedSetIterable iter X.env x=pure x:=by exact λ_=>rfl):MS X (.Assign [.Name y py] (.ListComp elt [⟨tg,iter,ifs,0⟩] scope pos) j) (aZ i (gP a.length fm mi gt mt me)) :=
 vt g i u R (z X.env Bz) (pN Bz C Q h) nd r dbg B (λY F O H E M _ g=>L Y ⟨F,O,H,E,M⟩ g) P
end
end
abbrev xU:=@PyProof.Rows.Boot.«abs»
abbrev ot:=@PyProof.Rows.Boot.«min»
abbrev yg:=@PyProof.Rows.Boot.«max»
abbrev IM:=@PyProof.Rows.Boot.«int»
abbrev d8:=@PyProof.Rows.Boot.«len»
abbrev pP:=@PyProof.Rows.Boot.«list»
abbrev AO:=@PyProof.Rows.Boot.«tuple»
abbrev IN:=@PyProof.Rows.Boot.«all»
abbrev IQ:=@PyProof.Rows.Boot.«any»
abbrev yW:=@PyProof.Rows.Boot.«sorted»
abbrev EH:=@PyProof.Rows.Boot.«bool»
abbrev qk:=@PySem.F.slot_list_append
abbrev pZ:=@PySem.F.type_list_append
abbrev xA:=@PySem.F.slot_list_extend
abbrev xQ:=@PySem.F.type_list_extend
abbrev IR:=@PySem.F.slot_list_pop
abbrev IS:=@PySem.F.type_list_pop
abbrev yY:=@PySem.F.slot_list_insert
abbrev yL:=@PySem.F.type_list_insert
end MM
namespace PU
open MM
open L2 (wS n_ iF)
noncomputable section
def Rps.rev{p:Nat}{h:MH}{O:TV}{i:TW}{f:TN}(r:Rps p h O i f):Rps p h O i.reverse f.reverse:=by
 induction i generalizing f with
 |nil=>rw[show f=[]from r];rfl
 |cons d i j =>
  obtain⟨x,t,e,a,b⟩:=r;subst e;rw[J3,J3];exact(j b).app ⟨x,[],rfl,a,rfl⟩
def zZ{q:Nat}{h:MH}{O:TV}{f:TW}{xs:TN}(a:T4)(r:Rps q h O f xs):Rps q h O (L2.cy f a) (L2.cy xs a):=by
 cases a with
 |none=>exact r.rev
 |some k=>exact(r.drop _).rev
def IT(d:D)(a st:T4):T9:=match d with
 |.lst f=>if(∀k,a=J k->0<=k)/\st=J (-1)then J (.lst (L2.cy f a))else Y
 |_=>Y
def MZ{q:Nat}{h:MH}{L:Nat}{O:TV}{a d:D}{x:PV}{f st:T4}(bd:Bd h O)(w:Vw q h L O a x)(e:IT a f st=J d):Gv q h O I (OW x f st h) d:=by
 cases a with
 |lst y =>
  unfold IT at e;dsimp only at e;by_cases z:(∀k,f=J k->0<=k)/\st=J (-1)
  .rw[b_ z]at e;cases e;obtain⟨n,xs,rfl,g,r⟩:=w.lst;simp only[OW,g];rw[b_ z];have r:=zZ f r;have m:Mv O h O (h++[MO.lst (L2.cy xs f)]):=⟨λn j _=>we j,λo i=>.inl i⟩
   have l:Mv O h (h.length::O) (h++[MO.lst (L2.cy xs f)]):=⟨λn j _=>we j,λo i=>by
    rcases l_.mp i with z|z
    .exact .inr ⋯
    .exact .inl z⟩
   have g:(h++[MO.lst (L2.cy xs f)])[h.length]?=J (.lst (L2.cy xs f)):=by simp
   exact⟨_,_,rfl,⟨_,_,rfl,λz=>by have:=bd _ z;lia,g,r.mv m⟩,λ_ k u e=>by obtain⟨rfl,rfl⟩:=fc e;exact⟨_,_,rfl,ia _,g,r.mv l⟩⟩
  .rw[e_ z]at e;cases e
 |_=>cases e
section
variable{ws:TV}
def O8(a:Xe ws)(i st:Xo ws):Xe ws where
 m:=QX a.m i.m st.m
 p:=λenv s=>(a.p env s).bind λx s=>(i.p env s).bind λl s=>(st.p env s).bind λu s=>.of (IT x l u) s
 fz:=I
 fr:=I
 ok {q h L B O Z env s} c:=by
  refine(a.ok c).bind λx v S U F M ⟨w,_,_⟩=>?_;have E:=c.kb F M;refine(i.ok E).bind λl R W s2 j G e=>?_;subst e;have C:=E.kb j G;refine(st.ok C).bind λu Q h3 X f z e=>?_;subst e;have H:=C.kb f z
  cases e:IT x l u with
  |none=>trivial
  |some d =>
   obtain⟨y,g,e1,r,P⟩:=MZ H.bd ((w.kb j c.pO c.pL).kb f c.pO c.pL) e;exact BA (m_ (m_ F.len j.len) f.len) z ⟨y,g,by rw[e1];rfl,r,P⟩
@[simp]theorem M0{a:Xe ws}{hi st:Xo ws}{env:aA}{s:g_}:(O8 a hi st).p env s=(a.p env s).bind λx s=>(hi.p env s).bind λl s=>(st.p env s).bind λu s=>.of (IT x l u) s:=rfl
end
end
noncomputable section
def O9(a b:D):T9:=match a,b with
 |.lst xs,.lst ys=>if xs.length≠ys.length then J (.bl T)else Am T a b
 |_,_=>Am T a b
def EI{x y:PV}{h:MH}(e:Em h x=Y):q_ x y h=u0 x y h:=by simp only[q_,e]
def EJ{x y:PV}{h:MH}(e:Em h y=Y):q_ x y h=u0 x y h:=by simp only[q_,e];cases Em h x<;>rfl
def ya{q:Nat}{h:MH}{L:Nat}{O:TV}{d:D}{v:PV}{u:PyData}(w:Vw q h L O d v)(e:py d=J u)(f:∀a,d≠.lst a):Em h v=Y:=by
 cases d with
 |non=>rw[w.non];rfl
 |bl b=>rw[w.bl];rfl
 |int b=>rw[w.int];rfl
 |str b=>rw[w.str];rfl
 |tup b=>obtain⟨xs,rfl,_⟩:=w.tup;rfl
 |lst a=>exact absurd rfl (f a)
 |_=>cases e
def EK:y4 where
 m:=q_
 p:=O9
 fr:=I
 ok {q h L O a x b y d} bd wa wb e:=by
  have f:Am T a b=J d->q_ x y h=u0 x y h->Gv q h O I (q_ x y h) d:=λe1 e2=>by
   rw[e2];exact wv.ok bd wa wb e1
  by_cases j:∃xs,a=.lst xs
  .obtain⟨xs,rfl⟩:=j;by_cases l:∃i,b=.lst i
   .obtain⟨i,rfl⟩:=l;obtain⟨n,B,rfl,g,r⟩:=wa.lst;obtain⟨m,F,rfl,C,E⟩:=wb.lst;have G:=r.length;have H:=E.length;have u:q_ (.loc n) (.loc m) h=if B.length≠F.length then .ok (.bl T) h else u0 (.loc n) (.loc m) h:=by simp only[q_,Em,g,C]
    unfold O9 at e;dsimp only at e;by_cases z:xs.length≠i.length
    .rw[b_ z]at e;cases e;rw[u,b_ ⋯];exact wq
    .rw[e_ z]at e;exact f e (by rw[u,e_ ⋯])
   .have e1:Am T (.lst xs) b=J d:=by
     cases b with
     |lst i=>exact absurd ⟨i,rfl⟩ l
     |_=>exact e
    obtain⟨_,_,_,e3,_⟩:=lL e1;exact f e1 (EJ (ya wb e3 λi z=>l ⟨i,z⟩))
  .have e1:Am T a b=J d:=by
    cases a with
    |lst xs=>exact absurd ⟨xs,rfl⟩ j
    |_=>exact e
   obtain⟨_,_,e3,_⟩:=lL e1;exact f e1 (EI (ya wa e3 λi z=>j ⟨i,z⟩))
def IU{xs a:TW}(h:xs.length=a.length):EK.p (.lst xs) (.lst a)=Am T (.lst xs) (.lst a):=by show O9 (.lst xs) (.lst a)=_;unfold O9;dsimp only;rw[e_ (by simpa using h)]
end
noncomputable section
def Ri:y_ where
 k:=λl f=>match l with
  |[x]=>(match (cO f x).bind eN with
   |some ns=>if ns.length<=1000 then .ok (.int (yv ns)) f else .bad
   |none=>.bad)
  |_=>.bad
 p:=λa=>match a with
  |[.lst i]=>(bw i).bind λns=>if ns.length<=1000 then J (.int (yv ns))else Y
  |_=>Y
 fr:=I
 ok {q h L O a xs d} bd w e:=by
  match a,e with
  |[.lst i],e =>
   obtain⟨x,rfl,j⟩:=dG w;obtain⟨y,u,r⟩:=j.lstOf;rw[BF]at e;obtain⟨ns,e1,e2⟩:=e;by_cases z:ns.length<=1000
   .rw[b_ z]at e2;cases e2;simp only[u,A4,eU r e1,kS];rw[b_ z];exact BY
   .rw[e_ z]at e2;cases e2
def M1{ns:TR}(h:ns.length<=1000):Ri.p [.lst (ns.map .int)]=J (.int (yv ns)):=by
 have e:∀ns:TR,bw (ns.map .int)=J ns:=λns=>by
  induction ns with
  |nil=>rfl
  |cons i k a=>rw[n8,bw,a];rfl
 show(bw (ns.map .int)).bind _=_;rw[e,A4,b_ h]
end
def EL{ns:TR}:yv ns=ns.length↔ns.Nodup:=by
 have key:∀j,j<=ns.length->(∀k,k∈PyProof.Rows.firstMet (λi=>ns.getD i 0) j↔k∈ns.take j)/\((PyProof.Rows.firstMet (λi=>ns.getD i 0) j).length=j↔(ns.take j).Nodup):=by
  intro j
  induction j with
  |zero=>simp[PyProof.Rows.firstMet_zero]
  |succ j B =>
   intro G;obtain⟨a,b⟩:=B ⋯;have r:j<ns.length:=by lia
   have E:ns.take (j+1)=ns.take j++[ns[j]]:=by simp
   have l:ns.getD j 0=ns[j]:=by simp[r]
   have F:(PyProof.Rows.firstMet (λi=>ns.getD i 0) j).any (· == ns.getD j 0)=decide (ns[j]∈ns.take j):=by rw[Bool.eq_iff_iff,Od,decide_eq_true_iff,<-a,l];exact⟨λ⟨x,f,e⟩=>by rw[<-eq_of_beq e];exact f,λh=>⟨_,h,by simp⟩⟩
   have u:=PyProof.Rows.firstMet_length_le (λi=>ns.getD i 0) j;rw[PyProof.Rows.firstMet_succ,E];constructor
   .intro k
    have:=PyProof.Rows.step_any (PyProof.Rows.firstMet (λi=>ns.getD i 0) j) (ns.getD j 0) k
    rw[Bool.eq_iff_iff,Od,Bool.or_eq_true,Od,decide_eq_true_iff,l]at this;rw[nt,Fg,<-a];constructor
    .intro h;rw[l]at h;rcases this.mp ⟨k,h,by simp⟩with⟨x,f,e⟩|e
     .rw[<-eq_of_beq e];exact .inl f
     .exact .inr e
    .intro h;obtain⟨x,f,e⟩:=this.mpr (h.imp (λh=>⟨k,h,by simp⟩) id);rw[l,<-eq_of_beq e];exact f
   .rw[PyProof.Rows.step_length,F,Bg];by_cases z:ns[j]∈ns.take j
    .exact⟨λh=>by lia,λh=>absurd rfl (h.2.2 _ z _ (by simp))⟩
    .simp only[z,decide_false,pk];constructor
     .intro h
      exact⟨b.mp ⋯,by simp,λx f y C e=>z (by
       have:y=ns[j]:=by simpa using C
       rw[<-this,<-e];exact f)⟩
     .intro h;lia
 have:=(key ns.length (ia _)).2
 rw[CZ]at this;exact this
section
variable{ws:TV}
end
end PU
namespace PU
open MM L2
def vv:Ce where
 m:=rF
 p:=λu f=>match f,u with
  |[.int 0],d::r=>J (d,r)
  |_,_=>Y
 ok {q h O n xs u f vs d ds'} g r i e:=by
  match f,u,r,i,e with
  |[.int 0],d::l,r,i,e =>
   cases e;obtain⟨x,t,rfl,z,b⟩:=i
   have:t=[]:=b
   subst this;rw[show x=PV.int 0 from z];obtain⟨y,a,rfl,B,j⟩:=r;exact⟨y,a,by simp only[rF,g],j,B⟩
noncomputable section
end
end PU
namespace MM
open PySem.Spec PyProof.Rows L2
open PU (Xe Xs Xt Xi Xg FI Xo Xd OY y4 y_ OZ Ce OpR Fn aa xC ae Bb a_ ac li au lF cF aX Ev xB fM kn Kk ka lv rL oo aJ bQ aH jj Bl vl Bm aG i4 bu lP cZ r4 bn dB gq cE Iv tr kT bR BZ B0 Cu O8 IL)
structure B1(X:Cx)(e:Expr)(m:Mx Bool):Prop where
 h:MT X e m
structure IV(X:Cx)(e:Expr)(m:Mx Bool):Prop where
 h:MW X e m
structure Kt(X:Cx)(tg e:Expr)(m:Mx MIt):Prop where
 h:MI X tg e m
structure M2(X:Cx)(e:Expr)(m:Mg):Prop where
 h:MG X e m
structure O_(X:Cx)(e:T5)(m:Dt):Prop where
 h:LD X e m
structure Rj(X:Cx)(e:T5)(m:Mx Bool):Prop where
 h:Hi X e m
structure Pa(X:Cx)(e:Option Expr)(m:Mx (T4)):Prop where
 h:MO' X e m
structure OJ(X:Cx)(r:Value->Value->Sem Value)(o:y4):Prop where
 h:w6 X r o.m
def IW(a:Scope):TQ:=(a.names.filter λy=>match y.2 with|.globalImplicit=>I|_=>T).map (·.1)
abbrev gm(sc:Scope)(x:Str):Prop:=x∈IW sc
def FL:Expr->TQ
 |.Name x _=>[x]
 |.Tuple a _ _=>a.flatMap λe=>match e with
  |.Name x _=>[x]
  |.Tuple a _ _=>a.flatMap λe=>match e with
   |.Name x _=>[x]
   |_=>[]
  |_=>[]
 |_=>[]
def Ku(N:TQ)(fm:TV):TQ:=fm.filterMap (N[·]?)
structure Wc(X:Cx)(P:Program)(w:World)(K:hU)(mg:T8)(base:Heap)(N W:TQ)(k:Nat)(sc:Scope):Prop where
 g:Good X N W (IW sc) k
 e:EE X P w K mg base
 s:X.env.scope=sc
section
variable{X Y:Cx}{P:Program}{w:World}{K:hU}{mg:T8}{base:Heap}{N W:TQ}{k:Nat}{sc:Scope}{ws:TV}{x y:Str}{p p' pos spos:Pos}{e a b d tg:Expr}{es:T5}{i j:Nat}{st:Stmt}{rest body:List Stmt}{xa xb xd:Xe ws}{ta tb:Xt ws}{sa:Xs ws}{da db:Xd ws}
def Wc.gj(c:Wc X P w K mg base N W k sc)(h:gm sc x):∃j:Nat,(IW sc)[j]?=J x:=List.getElem?_of_mem h
def Wc.n(c:Wc X P w K mg base N W k sc)(z:Zn K x):X.mg x=none:=c.e.n z
def M3{i:Int}:lb X (.Constant (.int i) j pos) (xC (ws:=ws) (.int i)).m:=⟨aC⟩
def M4{i:Str}:lb X (.Constant (.str i) j pos) (xC (ws:=ws) (.str i)).m:=⟨GV⟩
def Rk{i:Bool}:lb X (.Constant (.bool i) j pos) (xC (ws:=ws) (.bl i)).m:=⟨lc⟩
def M5:lb X (.Constant .none j pos) (xC (ws:=ws) .non).m:=⟨GW⟩
def M6{f:Operator}{o:y4}(l:OJ X (binaryOp f) o)(r:lb X a xa.m)(u:lb X b xb.m):lb X (.BinOp a f b pos) (ae o xa xb).m:=⟨aL l.h r.h u.h⟩
def M7{f:CmpOp}{o:y4}(l:OJ X (compareOp f) o)(r:lb X a xa.m)(u:lb X b xb.m)(z:behindInMarks f b=T):lb X (.Compare a [f] [b] pos) (ae o xa xb).m:=⟨GX l.h r.h u.h z⟩
def Rm(l:lb X a xa.m)(f:lb X b xb.m)(r:lH b):lb X (.Subscript a b pos) (ae PU.ky xa xb).m:=⟨Fx l.h f.h r⟩
def M8(f:lb X a xa.m):lb X (.UnaryOp .USub a pos) (Bb PU.jN xa).m:=⟨Fs xT f.h⟩
def IY(f:lb X a xa.m):lb X (.UnaryOp .Not a pos) (rL xa).m:=⟨G3 f.h⟩
def EM{r f:CmpOp}{o u:y4}(z:OJ X (compareOp r) o)(l:OJ X (compareOp f) u)(B:lb X a xa.m)(C:lb X b xb.m)(hd:lb X d xd.m)(E:lastMarks [r,f] [b,d]=T):lb X (.Compare a [r,f] [b,d] pos) (oo o u xa xb xd).m:=⟨zw z.h l.h B.h C.h hd.h E⟩
def M9{f:BoolOp}(l:lb X a xa.m):lb X (.BoolOp f [a] pos) xa.m:=⟨G1 l.h⟩
def IZ(l:lb X a xa.m)(f:lb X (.BoolOp .And (b::es) pos) xb.m):lb X (.BoolOp .And (a::b::es) pos) (lv xa xb).m:=⟨G2 l.h f.h⟩
def M_{hz}(h:zx X es sa.m):lb X (.Tuple es j pos) (aX sa hz).m:=TJ h
def Na{hz}(h:zx X es sa.m):lb X (.List es pos) (cF sa hz).m:=OX h
def Nb:lb X (.Dict [] [] pos) (Ev (ws:=ws)).m:=⟨Dz⟩
def Rn{lo f:Option Expr}{r l:Xo ws}(z:lb X a xa.m)(B:Pa X lo r.m)(u:Pa X f l.m):lb X (.Subscript a (.Slice lo f none p) pos) (Cu xa r l).m:=⟨wR z.h B.h u.h⟩
def Ro:Pa X none (BZ (ws:=ws)).m:=⟨lG⟩
def Rq(f:lb X a xa.m):Pa X (J a) (B0 xa).m:=⟨lI f.h⟩
def Nc:zx X [] (a_ (ws:=ws)).m:=nW
def I_(l:lb X e xa.m)(r:zx X es sa.m)(f:bp e=I):zx X (e::es) (ac xa sa).m:=fg l r f
def Nd:OJ X (binaryOp .Add) PU.bF:=⟨cV⟩
def Nf:OJ X (binaryOp .Sub) PU.cz:=⟨kf⟩
def Rr:OJ X (compareOp .Lt) PU.BD:=⟨Fv⟩
def Rs:OJ X (compareOp .LtE) PU.Q1:=⟨LJ⟩
def Rt:OJ X (compareOp .Gt) PU.Iy:=⟨Fw⟩
def Ng:OJ X (compareOp .IsNot) (PU.Ko I):=⟨Hb⟩
section
variable(c:Wc X P w K mg base N W k sc)
include c
def w_var(f:N[i]?=J x):lb X (.Name x pos) (aa (ws:=ws) i).m:=⟨xV c.g i f⟩
def Ru:OJ X (compareOp .Eq) PU.wv:=⟨rE c.g.room⟩
def Rv:OJ X (compareOp .NotEq) PU.BS:=⟨xm c.g.room⟩
def Nh:OJ X (compareOp .Eq) PU.EK:=⟨Ij c.g.room⟩
def Rw:OJ X (compareOp .In) (PU.qr T):=⟨FD c.g.room T⟩
def Ni:OJ X (compareOp .NotIn) (PU.qr I):=⟨FD c.g.room I⟩
end
def eZ{env:Env}:∀{es:T5},es.all bp=I->(backTo pos (starEach es env)).any (·.1)=T
 |[],_=>rfl
 |e::es,h=>by
  have f:bp e=I/\es.all bp=I:=by simpa using h
  have:=eZ (env:=env) f.2
  rw[aQ f.1];simpa [backTo]using this
section
variable(c:Wc X P w K mg base N W k sc)
include c
def Ja{F:Fn}{u:TQ}{hz}(B:zx X (e::es) sa.m)(f:FnAt P w K mg base x u F.m i)(h:i<=k)(r:gm sc x)(C:(e::es).all bp=I):lb X (.Call (.Name x p) (e::es) [] pos) (au F sa hz).m :=
 let⟨_,z⟩:=c.gj r
 have l:bp e=I/\es.all bp=I:=by simpa using C
 ⟨pg c.g z (f.c c.e h) B.h (aQ l.1) (eZ l.2)⟩
def Jb{F:Fn}{u:TQ}{hz}(B:zx X (e::es) sa.m)(f:FnAt P w K mg base x u F.m i)(h:i<=k)(r:gm sc x)(C:(e::es).all bp=I):lb X (.Call (.Name x p) (e::es) [] pos) (lF F sa hz).m :=
 let⟨_,z⟩:=c.gj r
 have l:bp e=I/\es.all bp=I:=by simpa using C
 ⟨pg c.g z (f.c c.e h) B.h (aQ l.1) (eZ l.2)⟩
end
inductive BB(X:Cx)(x:Str)(o:y_):Prop
 |fn(id:String)(f:TN->MH->T6)(h:bootBuiltins x=J (.builtin id))(c:cg X (.builtin id) f)(e:o.k=λxs h=>(f xs h).ne:=by rfl):BB X x o
 |ty(T:String)(f:TN->MH->T6)(h:bootBuiltins x=J (.type T))(c:cg X (.type T) f)(e:o.k=λxs h=>(f xs h).ne:=by rfl):BB X x o
def Nj:BB X "len" PU.dz:=.fn _ _ d8 ec
def Jc:BB X "list" PU.lu:=.ty _ _ pP DJ
def EN:BB X "tuple" PU.kw:=.ty _ _ AO zS
def Au:BB X "sorted" PU.eX:=.fn _ _ yW yX
section
variable(c:Wc X P w K mg base N W k sc)
include c
def Nk{o:y_}(B:BB X x o)(u:zx X (e::es) sa.m)(z:Zn K x)(C:gm sc x)(F:(e::es).all bp=I):lb X (.Call (.Name x p) (e::es) [] pos) (li o sa).m:=by
 obtain⟨j,r⟩:=c.gj C;have l:bp e=I/\es.all bp=I:=by simpa using F
 refine⟨?_⟩;show ME X _ (λZ h=>(sa.m Z h).bind o.k)
 cases B with
 |fn id f h d q=>rw[q];exact tF c.g j r d (c.n z) h u.h (aQ l.1) (eZ l.2)
 |ty E f h d q=>rw[q];exact yH c.g j r d (c.n z) h u.h (aQ l.1) (eZ l.2)
def Nl:BB X "min" PU.km:=.fn _ _ ot (sI c.g)
def Nm:BB X "max" PU.kh:=.fn _ _ yg (Hc c.g)
def Jd:BB X "min" PU.nr:=.fn _ _ ot (DN c.g)
def Je:BB X "max" PU.oE:=.fn _ _ yg (DM c.g)
def No:BB X "all" PU.IA:=.fn _ _ IN (Hm c.g)
def Np:BB X "any" PU.Ex:=.fn _ _ IQ (Hn c.g)
def Rx(z:zx X [a] sa.m)(l:Zn K "sorted")(r:Zn K "set")(f:gm sc "sorted")(u:gm sc "set")(B:bp a=I):lb X (.Call (.Name "sorted" p) [.Call (.Name "set" p') [a] [] spos] [] pos) (li PU.O3 sa).m :=
 let⟨_,i⟩:=c.gj f;let⟨_,j⟩:=c.gj u
 ⟨sC c.g i (c.n l) j (c.n r) z.h (aQ B)⟩
def Ry(z:zx X [a] sa.m)(l:Zn K "len")(r:Zn K "set")(f:gm sc "len")(u:gm sc "set")(B:bp a=I):lb X (.Call (.Name "len" p) [.Call (.Name "set" p') [a] [] spos] [] pos) (li PU.Ri sa).m :=
 let⟨_,i⟩:=c.gj f;let⟨_,j⟩:=c.gj u
 ⟨yI c.g _ _ (c.n l) (c.n r) z.h i j (aQ B)⟩
def Rz(z:zx X [a] sa.m)(l:Zn K "list")(r:Zn K "range")(f:gm sc "list")(u:gm sc "range")(B:bp a=I):lb X (.Call (.Name "list" p) [.Call (.Name "range" p') [a] [] spos] [] pos) (li PU.Kp sa).m :=
 let⟨_,i⟩:=c.gj f;let⟨_,j⟩:=c.gj u
 ⟨rO c.g i (c.n l) j (c.n r) z.h (aQ B)⟩
end
structure BT(x:Str)(T:String):Prop where
 h:bootBuiltins x=J (.type T)
 o:Ka T
def Nq:BT "int" "int":=⟨IM,Dy⟩
def Jf:BT "bool" "bool":=⟨EH,zU⟩
def Jg:BT "list" "list":=⟨pP,Ac⟩
section
variable(c:Wc X P w K mg base N W k sc)
include c
def Nr{f:String}(B:BT x f)(C:lb X a xa.m)(r:Zn K "isinstance")(u:Zn K x)(l:gm sc "isinstance")(z:gm sc x)(E:bp a=I):lb X (.Call (.Name "isinstance" p) [a,.Name x p'] [] pos) (Bb (PU.nc [f]) xa).m :=
 let⟨_,i⟩:=c.gj l;let⟨_,j⟩:=c.gj z
 ⟨Hd c.g i (c.n r) j (c.n u) B.h B.o C.h (aQ E)⟩
end
abbrev MJ(X:Cx)(name:Str)(f:Nat->TN->MH->T6):Prop:=∃id,Slot "list" name id/\typeOf (.builtin id)=pure (.type "method_descriptor")/\GH X id (Hk X f)
section
variable{name:Str}{f:Nat->TN->MH->T6}{o:Ce}{m:Mx PV}
def RB{l:Mx (TN)}(M:MJ X name f)(r:lb X a m)(u:zx X (e::es) l)(h:(((backTo pos (starEach (e::es) X.env)).all (λx=>!x.1)&&(backToKw pos (keywordEach [] X.env)).all (λx=>x.1.isSome)&&decide ((e::es).length+([]:List Keyword).length+(if([]:List Keyword).isEmpty then 0 else 1)<30))=I/\(p.endLine==pos.line)=I)/\attributeBase a name X.env (eval a X.env)=eval a X.env/\starEach (e::es) X.env=(T,eval e X.env)::starEach es X.env/\(backTo pos (starEach es X.env)).any (·.1)=T):lb X (.Call (.Attribute a name p) (e::es) [] pos) (Cb f m l) :=
 let⟨_,x,y,z⟩:=M
 ⟨FA x y z r.h u.h h.2.1 h.1.1 h.1.2 h.2.2.1 h.2.2.2⟩
def RC{hi hz}(h:lb X e (Cb o.m (aa (ws:=ws) i).m sa.m))(l:swapsWith e none pos.line X.env=pure T):z_ X (.Expr e pos) (tr o i sa hi hz).m:=⟨pB h.h l⟩
def Nt{hi hj hz}(c:Wc X P w K mg base N W k sc)(h:lb X e (Cb o.m (aa (ws:=ws) i).m sa.m))(u:swapsWith e (J (.Name y p)) pos.line X.env=pure T)(r:N[j]?=J y)(l:W[j]?=J y):z_ X (.Assign [.Name y p] e pos) (kT j o i sa hi hj hz).m:=⟨nD c.g j r l h.h u⟩
end
def Ao:MJ X "append" PU.n3.m:=⟨_,qk,pZ,qe⟩
def AH:MJ X "extend" PU.il.m:=⟨_,xA,xQ,yw⟩
def Ay:MJ X "insert" PU.xg.m:=⟨_,yY,yL,ym⟩
def Jh:MJ X "pop" PU.vv.m:=⟨_,IR,IS,Eo⟩
def Ji{f:CmpOp}{o:y4}(l:OJ X (compareOp f) o)(r:lb X a xa.m)(u:lb X b xb.m)(z:behindInMarks f b=T):B1 X (.Compare a [f] [b] pos) (xB (ae o xa xb)).m:=⟨xJ l.h r.h u.h z⟩
def Jj(h:B1 X a ta.m):B1 X (.UnaryOp .Not a pos) (fM ta).m:=⟨sv h.h⟩
def RD{f:BoolOp}(h:IV X (.BoolOp f es pos) ta.m):B1 X (.BoolOp f es pos) ta.m:=⟨MW.mt h.h⟩
def Jk(h:B1 X a ta.m):IV X (.BoolOp .And [a] pos) ta.m:=⟨Dq h.h⟩
def Nu(h:B1 X a ta.m):IV X (.BoolOp .Or [a] pos) ta.m:=⟨GZ h.h⟩
def w_and(h:B1 X a ta.m)(f:IV X (.BoolOp .And (b::es) pos) tb.m):IV X (.BoolOp .And (a::b::es) pos) (kn ta tb).m:=⟨G0 h.h f.h⟩
def w_or(h:B1 X a ta.m)(f:IV X (.BoolOp .Or (b::es) pos) tb.m):IV X (.BoolOp .Or (a::b::es) pos) (Kk ta tb).m:=⟨LA h.h f.h⟩
def Nv(h:lb X e xa.m)(l:∀f,isTrue e X.env f=(do let v <-f;standAt e.pos;holding [v] (truthy v))):B1 X e (IL xa).m:=⟨Ig h.h l⟩
def Nw(h:lb X e xa.m)(l:∀f,isTrue e X.env f=(do let v <-f;standAt e.pos;holding [v] (truthy v))):B1 X e (xB xa).m:=⟨sL h.h l⟩
def Nx:Rj X [] (ka (ws:=ws)).m:=⟨o3⟩
def Ny(h:B1 X a ta.m):Rj X [a] ta.m:=⟨DE h.h⟩
def RE:O_ X [] (Bl (ws:=ws)).m:=⟨Du⟩
def RF{ga:Xg ws}{f:FI ws}(l:M2 X e ga.m)(r:O_ X es f.m)(u:(assignEach (e::es) X.env).map (·.2)=assign e X.env::(assignEach es X.env).map (·.2)):O_ X (e::es) (vl ga f).m:=⟨zl l.h r.h u⟩
def Nz(h:lb X a xa.m):Kt X tg a (aH xa).m:=⟨k7 h.h⟩
section
variable(c:Wc X P w K mg base N W k sc)
include c
def RG{hi}(h:N[i]?=J x)(f:W[i]?=J x):M2 X (.Name x pos) (jj (ws:=ws) i hi).m:=⟨u3 c.g i h f⟩
def RI{l:FI ws}{n:Nat}(h:O_ X es l.m)(r:(assignEach es X.env).length=n)(f:(assignEach es X.env).findIdx? (·.1)=none):M2 X (.Tuple es j pos) (Bm l n).m:=⟨G8 c.g h.h r f⟩
def RJ{n:Nat}(h:zx X [a] sa.m)(z:Zn K "enumerate")(f:gm sc "enumerate")(r:bp a=I):Kt X (.Tuple es n p) (.Call (.Name "enumerate" p') [a] [] pos) (bQ PU.iE sa).m:=let⟨_,l⟩:=c.gj f;⟨El c.g l (c.n z) h.h (aQ r)⟩
def NA(h:zx X [a] sa.m)(z:Zn K "range")(l:gm sc "range")(f:bp a=I):Kt X tg (.Call (.Name "range" p) [a] [] pos) (bQ PU.xf sa).m:=⟨qB (c.g.gl _ l) (c.n z) h.h (aQ f)⟩
end
structure CB(Y:Cx)(tg elt:Expr)(ifs:T5)(gt:Mg)(mt:Mx Bool)(me:Mx PV):Prop where
 g:M2 Y tg gt
 t:Rj Y ifs mt
 e:lb Y elt me
section
variable{iter elt:Expr}{ifs:T5}{scope:Scope}{nv:Nat}{fm ws':TV}{xi:Xi ws}{gt:Xg ws'}{xt:Xt ws'}{xe:Xe ws'}{hw:PU.Cc nv fm ws=ws'}{hz:xe.fz=true}
abbrev Te(N:TQ)(tg:Expr)(nv:Nat)(fm:TV)(scope sc:Scope):Prop:=Re scope sc (FL tg) (Ku N fm)/\(FL tg++Ku N fm).Nodup/\(∀x∈IW (MY scope sc),scope.names.lookup x=J .globalImplicit)/\(∀x∈(FL tg++Ku N fm)++IW (MY scope sc),(x==("__debug__":Str))=T/\(x==("__classdict__":Str))=T/\x≠"__name__")/\fm.map (λi=>N[i]?)=(Ku N fm).map J/\(FL tg).length=nv
section
variable(c:Wc X P w K mg base N W k sc)
include c
def Jl(f:Kt X tg iter xi.m)(C:∀Y:Cx,Wc Y P w K mg base (FL tg++Ku N fm) (FL tg) k (MY scope sc)->CB Y tg elt ifs gt.m xt.m xe.m)(l:scope.kind=.function)(h:Te N tg nv fm scope sc)(H:∀x,foldedSetIterable iter X.env x=pure x):lb X (.ListComp elt [⟨tg,iter,ifs,0⟩] scope pos) (aJ nv fm xi gt xt xe hw hz).m:=by
 obtain⟨r,nd,L,dbg,M,rfl⟩:=h;exact⟨DF c.g (pN c.s l M r) nd L dbg f.h (λY z F B u E G g=>let q:=C Y ⟨g,⟨z.trans c.e.e1,F.trans c.e.e2,B.trans c.e.e3,u.trans c.e.e4,E.trans c.e.e5,c.e.b⟩,G.trans (zb c.s)⟩;⟨q.g.h,q.t.h,q.e.h⟩) H⟩
end
section
variable(c:Wc X P w K mg base N W k sc)(hsw:∀env:Env,env.scope=sc->swapsWith (.ListComp elt [⟨tg,iter,ifs,0⟩] scope pos) (some (.Name y p)) spos.line env=pure true)(hi:Kt X tg iter xi.m)(hY:∀Y:Cx,Wc Y P w K mg base (FL tg++Ku N fm) (FL tg) k (MY scope sc)->CB Y tg elt ifs gt.m xt.m xe.m)(hyi:N[i]?=some y)(hyw:W[i]?=some y)(h1:scope.kind=.function)(h:Te N tg nv fm scope sc)(hs:∀x,foldedSetIterable iter X.env x=pure x)
include hsw hi hY c hyi hyw h1 h hs
def EO:z_ X (.Assign [.Name y p] (.ListComp elt [⟨tg,iter,ifs,0⟩] scope pos) spos) (aZ i (gP nv fm xi.m gt.m xt.m xe.m)):=by
 try clear hw
 obtain⟨l,nd,C,dbg,f,rfl⟩:=h;exact⟨vt c.g i hyi hyw (hsw X.env c.s) (pN c.s h1 f l) nd C dbg hi.h (λY z F B u E r g=>let q:=hY Y ⟨g,⟨z.trans c.e.e1,F.trans c.e.e2,B.trans c.e.e3,u.trans c.e.e4,E.trans c.e.e5,c.e.b⟩,r.trans (zb c.s)⟩;⟨q.g.h,q.t.h,q.e.h⟩) hs⟩
def Jm{hi' hz'}:z_ X (.Assign [.Name y p] (.ListComp elt [⟨tg,iter,ifs,0⟩] scope pos) spos) (bn i (aJ nv fm xi gt xt xe hw hz) hi' hz').m:=EO c hsw hi hY hyi hyw h1 h hs
end
end
def RK:mj X [] (i4 (ws:=ws)).m:=⟨eY⟩
def gM(h:z_ X st da.m):mj X [st] da.m:=A_ h
def eS(f:z_ X st da.m)(l:mj X rest db.m):mj X (st::rest) (aG da db).m:=wm f l
def NB(h:lb X e xa.m):z_ X (.Return (J e) pos) (bu xa).m:=Ct h
def Jn{hi}(h:lb X e (aa (ws:=ws) i).m):z_ X (.Return (J e) pos) (lP (ws:=ws) i hi).m:=Ct h
def Jo(h:lb X e xa.m)(f:swapsWith e none pos.line X.env=pure T):z_ X (.Expr e pos) (cZ xa).m:=⟨pB h.h f⟩
def RL(r:B1 X e ta.m)(l:mj X body da.m)(f:mj X rest db.m):z_ X (.If e body rest pos) (r4 ta da db).m:=⟨gS r.h l.h f.h⟩
section
variable(c:Wc X P w K mg base N W k sc)
include c
def NC{l:Xi ws}{f:Xg ws}{hz}(r:Kt X tg e l.m)(z:M2 X tg f.m)(B:mj X body da.m)(u:∀x,foldedSetIterable e X.env x=pure x):z_ X (.For tg e body [] pos) (cE l f da hz).m:=⟨kA c.g r.h z.h B.h u⟩
def RM{n hm}(l:B1 X e ta.m)(f:mj X body da.m):z_ X (.While e body [] pos) (Iv n ta da hm).m:=⟨zI c.g l.h f.h⟩
def Jp{hi' hz}(f:lb X e xa.m)(u:swapsWith e (J (.Name x p)) pos.line X.env=pure T)(l:N[i]?=J x)(r:W[i]?=J x):z_ X (.Assign [.Name x p] e pos) (dB i xa hi' hz).m:=⟨nD c.g i l r f.h u⟩
def Jq{hi' hz}(l:∀env:Env,env.scope=sc->swapsWith e (J (.Name x p)) pos.line env=pure T)(r:lb X e xa.m)(f:N[i]?=J x)(u:W[i]?=J x):z_ X (.Assign [.Name x p] e pos) (bn i xa hi' hz).m:=⟨nD c.g i f u r.h (l _ c.s)⟩
end
def wx{F:Fn}{f:Nat}{ws:TV}{B:Xd ws}{hw}(N:TQ)(b:Ba P w K mg base)(D:f_ K x st)(C:∀X:Cx,Wc X P w K mg base N N k (ak st)->j3 X->mj X (aK st) B.m)(E:F=bR N.length f B hw:=by rfl)(u:jo x st (N.take f):=by first | exact λ_ _ _ _ _ _=>Rf λ_=>rfl | exact λ_ _ _ _ _ _=>S9 λ_ _=>rfl | exact λ_ _ _ _ _ _=>S_ λ_ _ _=>rfl | exact λ_ _ _ _ _ _=>Ta λ_ _ _ _=>rfl | exact λ_ _ _ _ _ _=>ar5 λ_ _ _ _ _=>rfl)(S:rb N (N.take f) (ak st):=by exact⟨rfl,rfl,rfl,by decide +kernel,rfl,by decide +kernel,by decide +kernel⟩)(z:∀y∈N,(ak st).names.lookup y=J .local\/(ak st).names.lookup y=J .cell:=by decide +kernel)(l:∀y∈IW (ak st),(ak st).names.lookup y=J .globalImplicit:=by decide +kernel)(dbg:∀x∈N++IW (ak st),(x==("__debug__":Str))=T/\(x==("__classdict__":Str))=T/\x≠"__name__":=by decide +kernel)(r:(N.take f).length=f:=by rfl):
  FnAt P w K mg base x (N.take f) F.m (k+1):=by
 have q:=zc b.kin b.ns D S u z l dbg λX e1 e2 e3 e4 e5 H g G=>(C X ⟨g,⟨e1,e2,e3,e4,e5,b⟩,H⟩ G).h;rw[r]at q;subst E;exact q
end
end MM
namespace PU
open MM SetT
noncomputable section
def xu(ns:TR):bw (ns.map .int)=J ns:=by
 induction ns with
 |nil=>rfl
 |cons i k a=>rw[n8,bw,a];rfl
end
end PU
namespace PU
open MM
open L2 (wS n_ iF)
noncomputable section
def ua:y_ where
 k:=λu f=>match u with
  |[.int i,.int j]=>if(-(2^62)<=i/\i<2^62) /\ -(2^62)<=j/\j<2^62/\(j-i).toNat<=sizeLine then .ok (.loc f.length) (f++[.lst (bG i (j-i).toNat)])else .bad
  |_=>.bad
 p:=λa=>match a with
  |[.int i,.int j]=>if(-10000<=i/\i<=10000) /\ -10000<=j/\j<=10000 then J (.lst (cK i (j-i).toNat))else Y
  |_=>Y
 fr:=I
 ok {q h L O a xs d} bd w e:=by
  match a,e with
  |[.int i,.int j],e =>
   obtain⟨x,y,rfl,l,r⟩:=Ix w;rw[l.int,r.int];dsimp only at e;by_cases z:(-10000<=i/\i<=10000) /\ -10000<=j/\j<=10000
   .rw[b_ z]at e;cases e;dsimp only
    have:=c8
    rw[b_ ⟨⟨by ext,by ext⟩,by ext,by ext,by ext⟩];exact MF bd λ_ _=>oK
   .rw[e_ z]at e;cases e
end
end PU
namespace PU
open MM
section
variable{q:Nat}{h:MH}{O:TV}
end
end PU
namespace MM
open PySem.Spec PyProof.Rows L2
open PU (Xe Xs Xt Xi Xg Xd Fn Bb ae aa xC ac a_ li gq)
structure Pc(K:hU)(mg:T8)(x:Str):Prop where
 h:∃C,Cr K mg x C
section
variable{X:Cx}{P:Program}{w:World}{K:hU}{mg:T8}{base:Heap}{N W:TQ}{k:Nat}{sc:Scope}{ws:TV}{x y z n:Str}{p p' q cp yp np sp hp pos cpos pt spos:Pos}{e a b:Expr}{es:T5}{sa:Xs ws}{xa:Xe ws}{i j l kt:Nat}{body:List Stmt}{da:Xd ws}{cs sup sups:TQ}
def EQ(c:Wc X P w K mg base N W k sc)(R:Pc K mg x)(r:zx X [e] sa.m)(f:gm sc x)(hp:bp e=I):z_ X (.Raise (J (.Call (.Name x p) [e] [] cpos)) Y pos) (gq x sa).m:=by obtain⟨j,u⟩:=c.gj f;have R:=R.h;rw[<-c.e.e3,<-c.e.e4]at R;exact⟨yN c.g u R r.h (aQ hp) rfl⟩
def ND(c:Wc X P w K mg base N W k sc)(F:zx X [a,b] sa.m)(B:Zn K "list")(C:Zn K "range")(u:gm sc "list")(E:gm sc "range")(hp:bp a=I)(f:bp b=I):lb X (.Call (.Name "list" p) [.Call (.Name "range" p') [a,b] [] spos] [] pos) (li PU.ua sa).m :=
 let⟨_,i⟩:=c.gj u;let⟨_,j⟩:=c.gj E
 have r:starEach [b] X.env=[(T,eval b X.env)]:=aQ f
 ⟨yO c.g i (c.n B) j (c.n C) F.h ((aQ hp).trans (by rw[r])) r⟩
end
end MM
namespace PU
open MM L2
noncomputable section
inductive VwD(h:MH)(ks:TU)(P:TN->Prop)(v:PV):Prop
 |mk(n:Nat)(xs:TN)(e:v=.loc n)(g:h[n]?=J (.dic ks xs))(r:P xs):VwD h ks P v
def Vw.dic(w:Vw q h L O (.dic ks ds) v):VwD h ks (Rps q h O ds) v:=by
 rcases w with⟨n,xs,e,_,g,r⟩|⟨n,f,xs,a,e,e1,_,_,g,r⟩
 .exact⟨n,xs,e,g,r⟩
 .obtain⟨rfl,rfl⟩:=t5 e;exact⟨n,xs,e1,g,r⟩
def VwD.of(w:VwD h ks P v):∃xs,g7 h v=J (ks,xs)/\P xs:=by obtain⟨n,xs,rfl,g,r⟩:=w;exact⟨xs,by simp only[g7,g],r⟩
def yt(w:Vw q h L O d v)(e:cM d=J k):Ep v=J k:=by
 cases d with
 |tup a=>obtain⟨xs,rfl,r⟩:=w.tup;rw[eU r e];exact rP k
 |_=>cases e
def ER{ks:TU}(r:Rps q h O f xs)(w:Rp q h O d v)(i:TR):(j_ ks f i d).1=(j_ ks xs i v).1/\Rps q h O (j_ ks f i d).2 (j_ ks xs i v).2:=by
 induction ks generalizing f xs with
 |nil=>exact⟨by simp[j_],by simpa [j_]using⟨v,[],rfl,w,rfl⟩⟩
 |cons k ks u =>
  cases f with
  |nil=>rw[show xs=[]from r];exact⟨rfl,v,[],rfl,w,rfl⟩
  |cons y f =>
   obtain⟨x,t,rfl,a,b⟩:=r;unfold j_;by_cases e:k=i
   .simp only[b_ e];exact⟨trivial,v,t,rfl,w,b⟩
   .simp only[e_ e];obtain⟨l,j⟩:=u b;exact⟨by rw[l],x,_,rfl,a,j⟩
def ue(f:Bool):y4 where
 m:=oj f
 p:=λa b=>match b with
  |.dic l j=>(cM a).map λi=>.bl (if f then !(Bk l j i).isSome else(Bk l j i).isSome)
  |_=>Y
 fr:=I
 ok {q h L O a x b y d} bd wa wb e:=by
  cases b with
  |dic l j =>
   obtain⟨i,e1,rfl⟩:=t0.mp e;obtain⟨xs,e2,r⟩:=wb.dic.of;have e3:=yt wa e1;show Gv q h O I (oj f x y h) _;rw[tY (show j.length=xs.length from r.length.symm)];simp only[oj,e2,e3];exact wq
  |_=>cases e
def oD:y_ where
 k:=λxs h=>(y1 xs h).ne
 p:=λi=>match i with
  |[.dic a y]=>if a.length<=100000 then J (.lst (a.map kD))else Y
  |_=>Y
 fr:=I
 ok {q h L O i xs d} bd w e:=by
  match i,e with
  |[.dic a y],e =>
   dsimp only at e;obtain⟨x,rfl,l⟩:=dG w;obtain⟨xs,e1,r⟩:=l.dic.of;by_cases f:a.length<=100000
   .rw[b_ f]at e;cases e;have e2:y1 [x] h=o_ (a.map kP) h:=by simp only[y1,e1]
    rw[e2];obtain⟨v,g,e3,j,u⟩:=jn (q:=q) bd (jB (q:=q) (h:=h) (O:=O) a) (by simpa using f);exact⟨v,g,by rw[e3];rfl,j,u⟩
   .rw[e_ f]at e;cases e
variable{ws:TV}
def j0(i:Nat)(e r:aA->g_->PR D)(env:aA)(s:g_):PS:=match e env s with
 |.ok v l=>(match r env l with
  |.ok k u=>(match cM k,env[i]? with
   |some j,J (J (.dic a f))=>if a.length<100000 then .nx (env.set i (J (.dic (j_ a f j v).1 (j_ a f j v).2))) u else .bad
   |_,_=>.bad)
  |_=>.bad)
 |_=>.bad
def rN(e1:e env s=.ok v s1)(e2:ix env s1=.ok k s2)(a:cM k=J j)(e3:env[i]?=J (J (.dic ks ds)))(e4:ks.length<100000):
  j0 i e ix env s=.nx (env.set i (J (.dic (j_ ks ds j v).1 (j_ ks ds j v).2))) s2:=by
 simp only[j0,e1,e2,e3,a];rw[b_ e4]
def yP:j0 i e ix env s=.bad\/∃v l k j r a f,e env s=.ok v l/\ix env l=.ok k r/\cM k=J j/\env[i]?=J (J (.dic a f))/\a.length<100000/\j0 i e ix env s=.nx (env.set i (J (.dic (j_ a f j v).1 (j_ a f j v).2))) r:=by
 unfold j0;split
 .rename_i v l e1
  split
  .rename_i k r e2
   split
   .rename_i j a f e3 e4
    by_cases h:a.length<100000
    .rw[b_ h];exact .inr ⟨v,l,k,j,r,a,f,e1,e2,e3,e4,h,rfl⟩
    .rw[e_ h];exact .inl rfl
   .exact .inl rfl
  .exact .inl rfl
 .exact .inl rfl
def lC(i:Nat)(e C:Xe ws)(W:ws.contains i=I:=by exact ys rfl)(hz:e.fz=I:=by exact ys rfl):Xd ws where
 m:=pC e.m (r9 (ag i) C.m)
 p:=j0 i e.p C.p
 fr:=I
 ok {q h L B O Z env s} c d:=by
  rcases yP (i:=i) (e:=e.p) (ix:=C.p) (env:=env) (s:=s)with z|⟨v,s1,k,j,s2,a,F,e1,e2,ek,e3,e4,z⟩
  .rw[z];trivial
  .rw[z];have r:i∈ws:=by simpa using W
   have S:=e.ok c;rw[e1]at S;obtain⟨x,G,f1,E,H,_,rx,_⟩:=S;have U:=c.kb E H;have R:=C.ok U;rw[e2]at R;obtain⟨y,u,f2,f,M,w,_,_⟩:=R;have P:=U.kb f M;obtain⟨l,kd,xs,ab,e0,Q,b1,b2,g,r0⟩:=P.sr.ow i _ e3 r;obtain⟨rfl,rfl⟩:=t5 e0;replace g:u[l]?=J (.dic a xs):=g;have em:ag i Z G=.ok (.loc l) G:=by simp[ag,Q]
   obtain⟨p1,X⟩:=ER (ks:=a) r0 ((rx hz).mv (f.mv c.pO)) j;have nx:=uh (kd:=J (j_ a F j v).1) P d r e3 Q X;refine⟨Z,u.set l (.dic (j_ a F j v).1 (j_ a xs j x).2),?_,nx.after ((E.trans f).stp c)⟩;have e5:Er (.loc l) y x u=J (u.set l (.dic (j_ a F j v).1 (j_ a xs j x).2)):=by simp only[Er,g7,g,yt w ek];rw[b_ e4,p1]
   have e6:r9 (ag i) C.m x Z G=.nx Z (u.set l (.dic (j_ a F j v).1 (j_ a xs j x).2)):=by simp only[r9,w_,em,f2,e5]
   unfold pC w_;rw[f1];dsimp only;rw[e6]
def vw{hi hz}:(lC i e ix hi hz).p env s=j0 i e.p ix.p env s:=rfl
end
end PU
namespace MM
open PySem.Spec PyProof.Rows L2
open PU (Xe Xs Xt Xi Xg Xd Fn Bb ae aa xC ac a_ li)
section
variable{X:Cx}{P:Program}{w:World}{K:hU}{mg:T8}{base:Heap}{N W:TQ}{k:Nat}{sc:Scope}{ws:TV}{p pos:Pos}{e a b:Expr}{xa xb:Xe ws}{i:Nat}
def Jr{hi hz}(c:Wc X P w K mg base N W k sc)(z:lb X e xa.m)(r:lb X a (aa (ws:=ws) i).m)(C:lb X b xb.m)(u:∀v,assign (.Subscript a b p) X.env v=(do
   let f <-holding [v] (eval a X.env)
   let j <-holding [v,f] (eval b X.env)
   standAt p
   holding [v,f,j] (setItem f j v)
   release [v,f,j] []))(y:swapsWithSole [.Subscript a b p] e pos.line X.env=pure T)(B:swappedStores [.Subscript a b p] e X.env=pure Y)(l:(assignEach [.Subscript a b p] X.env).map (·.2)=[assign (.Subscript a b p) X.env]):z_ X (.Assign [.Subscript a b p] e pos) (PU.lC i xa xb hi hz).m:=⟨tJ z.h (Es c.g.room r.h C.h u) y B l⟩
def NE(c:Wc X P w K mg base N W k sc):OJ X (compareOp .In) (PU.ue T):=⟨Io c.g.room T⟩
def ES(c:Wc X P w K mg base N W k sc):BB X "list" PU.oD:=.ty _ _ pP (AU c.g)
end
end MM
namespace PU
open MM L2
def NF:y_ where
 k:=λxs h=>(BW xs h).ne
 p:=λi=>match i with
  |[d]=>(d.items.bind bw).map λf=>.int f.sum
  |_=>Y
 fr:=I
 ok {q h L O i xs d} bd w e:=by
  match i,e with
  |[a],e =>
   obtain⟨x,rfl,j⟩:=dG w;obtain⟨f,e1,rfl⟩:=t0.mp e;obtain⟨l,e2,e3⟩:=BF.mp e1;obtain⟨ys,e4,r⟩:=j.seqOf e2;have e5:(bq h x).bind d5=J f:=by rw[e4,A4,eU r e3,kM]
   show Gv q h O I (BW [x] h).ne _;simp only[BW,e5];exact BY
def Js{ns:TR}:NF.p [.lst (ns.map .int)]=J (.int ns.sum):=by
 show((J (ns.map D.int)).bind bw).map _=_
 have:∀ns:TR,bw (ns.map .int)=J ns:=λns=>by
  induction ns with
  |nil=>rfl
  |cons i k a=>rw[n8,bw,a];rfl
 rw[A4,this];rfl
end PU
namespace MM
open PySem.Spec PyProof.Rows L2
section
variable{X:Cx}{P:Program}{w:World}{K:hU}{mg:T8}{base:Heap}{N W:TQ}{k:Nat}{sc:Scope}
def Jt:bootBuiltins "sum"=J (.builtin "sum"):=by decide
end
end MM
namespace Law
open PySem.Spec PyProof.Rows L2 MM
set_option maxHeartbeats 4000000
noncomputable section
def xk:mh:=(aO (aZ 2 (az kx (az ki (mC (.int 7919)) (ag 1)) (mC (.int 11))))
 (aO (Bi (mB (az Ck (ag 1) (v2 A6 (ao (v2 o0 (ao (ag 0) h8)) (ao (mC (.int 63)) h8))))) (aZ 2 (az bI (ag 0) (ag 1))) (Bi (mB (az Cm (v2 o0 (ao (ag 0) h8)) (mC (.int 0)))) (aZ 2 (az kx (az lT (az bI (ag 0) (az lT (ag 1) (v2 A6 (ao (v2 o0 (ao (ag 0) h8)) (ao (mC (.int 63)) h8))))) (az q7 (mC (.int 10)) (mC (.int 15)))) (az ki (mC (.int 48271)) (ag 1)))) lB))
 (aO (Bi (mB (az Co (v2 A5 (ao (ag 2) h8)) (az q7 (mC (.int 10)) (mC (.int 18))))) (b8 (d6 (ao (mC (.int 1)) (ao (v2 A5 (ao (ag 2) h8)) (ao (mC (.int 0)) h8))))) lB)
 (b8 (d6 (ao (mC (.int 0)) (ao (az kx (az lT (ag 2) (mC (.int 2147483587))) (az ki (mC (.int 40009)) (ag 1))) (ao (mC (.int 0)) h8))))))))
def fZ:TN->MH->T6:=eO 3 2 xk
def vS:mh:=(aO (pC (az kx (az bI (ag 0) (mC (.int 2))) (mC (.int 1))) (LF (ag 0) (mC (.int 2))))
 (aO (Bi (mB (az u0 (az bI (ag 0) (mC (.int 0))) (mC (.int 1)))) (aO (aZ 3 (az lT (az bI (ag 0) (mC (.int 1))) (ag 1)))
 (aO (pC (az AC (az bI (ag 0) (mC (.int 1))) (ag 1)) (LF (ag 0) (mC (.int 1))))
 (b8 (ag 3)))) lB)
 (aO (aZ 2 (az lT (az ki (az kx (az kx (az bI (ag 0) (mC (.int 1))) (az ki (mC (.int 40503)) (az bI (ag 0) (mC (.int 2))))) (mC (.int 1))) (mC (.int 48271))) (mC (.int 2147483647))))
 (aO (aZ 2 (az lT (az ki (ag 2) (az kx (az kx (az lT (ag 2) (mC (.int 65521))) (az bI (ag 0) (mC (.int 2)))) (mC (.int 3)))) (mC (.int 2147483629))))
 (b8 (az lT (az AC (az lT (az ki (ag 2) (az kx (az lT (ag 2) (mC (.int 8191))) (mC (.int 7)))) (mC (.int 2147483563))) (mC (.int 64))) (ag 1)))))))
def dO:TN->MH->T6:=eO 4 2 vS
end
end Law
namespace Law
open MM PU
open SetT SortT
open L2 (wS n_ iF)
set_option maxHeartbeats 4000000
noncomputable section
def fI:Xd []:=(bu (lv (Bb (nc ["int"]) (aa 0)) (rL (Bb (nc ["bool"]) (aa 0)))))
def e9:Fn:=bR 1 1 fI
def uv{a:TW}{s:g_}(h:a.length=1):e9.p a s=(fI.p (ll 1 a) s).fin:=bo h
def fh:Xd []:=(bu (lv (au e9 (ac (aa 1) a_)) (oo Q1 BD (xC (.int 0)) (aa 1) (aa 0))))
def cG:Fn:=bR 2 2 fh
def uE{a:TW}{s:g_}(h:a.length=2):cG.p a s=(fh.p (ll 2 a) s).fin:=bo h
def dn:Xd []:=(r4 (fM (xB (au cG (ac (aa 0) (ac (aa 1) a_))))) (gq "NoPlace" (ac (xC (.str "this is no place")) a_)) i4)
def bc:Fn:=bR 2 2 dn
def oO{a:TW}{s:g_}(h:a.length=2):bc.p a s=(dn.p (ll 2 a) s).fin:=bo h
def cT:Xd []:=(cE (aH (aa 1)) (jj 2) (cZ (au bc (ac (aa 0) (ac (aa 2) a_)))))
def bH:Fn:=bR 3 2 cT
def nS{a:TW}{s:g_}(h:a.length=2):bH.p a s=(cT.p (ll 3 a) s).fin:=bo h
def dq:Xd []:=(bu (li kw (ac (li O3 (ac (aJ 1 [] (aH (aa 0)) (ws':=[]) (jj 0) ka (aX (ac (li nr (ac (aa 0) a_)) (ac (li oE (ac (aa 0) a_)) a_)))) a_)) a_)))
def bv:Fn:=bR 1 1 dq
def pe{a:TW}{s:g_}(h:a.length=1):bv.p a s=(dq.p (ll 1 a) s).fin:=bo h
def dH:Xd []:=(aG (cZ (au bc (ac (ae ky (aa 0) (xC (.int 0))) (ac (aa 1) a_))))
 (aG (bn 2 (aJ 2 [1] (aH (ae ky (aa 0) (xC (.int 1)))) (ws':=[]) (Bm (vl (jj 0) (vl (jj 1) Bl)) 2) (xB (ae wv (aa 1) (aa 2))) (aa 0)))
 (aG (bn 3 (aJ 2 [1] (aH (ae ky (aa 0) (xC (.int 1)))) (ws':=[]) (Bm (vl (jj 0) (vl (jj 1) Bl)) 2) (xB (ae wv (aa 0) (aa 2))) (aa 1)))
 (bu (ae bF (aa 2) (aa 3))))))
def bg:Fn:=bR 4 2 dH
def qS{a:TW}{s:g_}(h:a.length=2):bg.p a s=(dH.p (ll 4 a) s).fin:=bo h
def fE:Xd []:=(aG (r4 (fM (xB (Bb (nc ["list"]) (aa 1)))) (bu (xC (.bl T))) i4)
 (aG (r4 (fM (xB (li IA (ac (aJ 1 [0] (aH (aa 1)) (ws':=[]) (jj 0) ka (au cG (ac (ae ky (aa 1) (xC (.int 0))) (ac (aa 0) a_)))) a_)))) (bu (xC (.bl T))) i4)
 (bu (ae wv (li eX (ac (aa 1) a_)) (li Kp (ac (ae ky (aa 0) (xC (.int 0))) a_))))))
def fG:Fn:=bR 2 2 fE
def um{a:TW}{s:g_}(h:a.length=2):fG.p a s=(fE.p (ll 2 a) s).fin:=bo h
def dh:Xd []:=(r4 (fM (xB (au fG (ac (aa 0) (ac (aa 1) a_))))) (gq "NoOrder" (ac (xC (.str "an order is a list with each place once")) a_)) i4)
def du:Fn:=bR 2 2 dh
def pJ{a:TW}{s:g_}(h:a.length=2):du.p a s=(dh.p (ll 2 a) s).fin:=bo h
def dw:Xd [1]:=(aG (dB 1 (cF a_))
 (aG (cE (bQ iE (ac (aa 0) a_)) (Bm (vl (jj 2) (vl (jj 3) Bl)) 2) (tr il 1 (ac (aJ 1 [3] (aH (Cu (aa 0) (B0 (ae bF (aa 2) (xC (.int 1)))) BZ)) (ws':=[]) (jj 0) ka (aX (ac (aa 1) (ac (aa 0) a_)))) a_)))
 (lP 1)))
def bB:Fn:=bR 4 1 dw
def pj{a:TW}{s:g_}(h:a.length=1):bB.p a s=(dw.p (ll 4 a) s).fin:=bo h
def di:Xd []:=(bu (au bB (ac (aJ 1 [1] (aH (au bg (ac (aa 0) (ac (aa 2) a_)))) (ws':=[]) (jj 0) (xB (ae (qr T) (aa 0) (aa 1))) (aa 0)) a_)))
def dg:Fn:=bR 3 3 di
def oX{a:TW}{s:g_}(h:a.length=3):dg.p a s=(di.p (ll 3 a) s).fin:=bo h
def dC:Xd []:=(aG (cZ (au bc (ac (ae ky (aa 0) (xC (.int 0))) (ac (aa 2) a_))))
 (aG (cZ (au bH (ac (ae ky (aa 0) (xC (.int 0))) (ac (aa 1) a_))))
 (aG (bn 3 (aJ 1 [2] (aH (ae ky (aa 0) (xC (.int 1)))) (ws':=[]) (jj 0) (xB (ae (qr I) (aa 1) (aa 0))) (aa 0)))
 (bu (aX (ac (ae ky (aa 0) (xC (.int 0))) (ac (au bv (ac (ae bF (aa 3) (au dg (ac (aa 0) (ac (aa 1) (ac (aa 2) a_))))) a_)) a_)))))))
def cW:Fn:=bR 4 3 dC
def qQ{a:TW}{s:g_}(h:a.length=3):cW.p a s=(dC.p (ll 4 a) s).fin:=bo h
def ir:Xd [2]:=(aG (cZ (au du (ac (aa 0) (ac (aa 1) a_))))
 (aG (dB 2 (li lu (ac (ae ky (aa 0) (xC (.int 1))) a_)))
 (aG (bn 3 (aa 0))
 (aG (cE (bQ iE (ac (aa 1) a_)) (Bm (vl (jj 4) (vl (jj 5) Bl)) 2) (aG (bn 3 (au cW (ac (aa 3) (ac (Cu (aa 1) (B0 (aa 4)) BZ) (ac (aa 5) a_)))))
 (tr il 2 (ac (ae ky (aa 3) (xC (.int 1))) a_))))
 (bu (aX (ac (ae ky (aa 0) (xC (.int 0))) (ac (lF bv (ac (aa 2) a_)) a_))))))))
def fS:Fn:=bR 6 2 ir
def yF{a:TW}{s:g_}(h:a.length=2):fS.p a s=(ir.p (ll 6 a) s).fin:=bo h
def kF:Xd []:=(bu (aJ 1 [0] (aH (ae ky (au fS (ac (aa 0) (ac (aa 1) a_))) (xC (.int 1)))) (ws':=[]) (jj 0) (xB (ae (qr I) (aa 0) (ae ky (aa 1) (xC (.int 1))))) (aa 0)))
def kq:Fn:=bR 2 2 kF
def ET{a:TW}{s:g_}(h:a.length=2):kq.p a s=(kF.p (ll 2 a) s).fin:=bo h
def cR:Xd [4,5]:=(aG (dB 4 (cF (ac (cF (ac (aa 2) a_)) a_)))
 (aG (dB 5 (cF (ac (aa 2) a_)))
 (aG (Iv 400 (IL (aa 4)) (aG (kT 6 vv 4 (ac (xC (.int 0)) a_))
 (aG (r4 (xB (ae wv (ae ky (aa 6) (Bb jN (xC (.int 1)))) (aa 3))) (bu (aa 6)) i4)
 (cE (aH (au bg (ac (aa 0) (ac (ae ky (aa 6) (Bb jN (xC (.int 1)))) a_)))) (jj 7) (r4 (kn (xB (ae (qr T) (aa 7) (aa 1))) (xB (ae (qr I) (aa 7) (aa 5)))) (aG (tr n3 5 (ac (aa 7) a_))
 (tr n3 4 (ac (ae bF (aa 6) (cF (ac (aa 7) a_))) a_))) i4)))) gu)
 (bu (xC .non)))))
def bf:Fn:=bR 8 4 cR
def nT{a:TW}{s:g_}(h:a.length=4):bf.p a s=(cR.p (ll 8 a) s).fin:=bo h
def cH:Xd []:=(aG (r4 (fM (xB (Bb (nc ["list"]) (aa 1)))) (gq "NoParting" (ac (xC (.str "a parting is a list of places")) a_)) i4)
 (aG (cZ (au bH (ac (ae ky (aa 0) (xC (.int 0))) (ac (aa 1) a_))))
 (r4 (xB (ae BS (li Ri (ac (aa 1) a_)) (li dz (ac (aa 1) a_)))) (gq "NoParting" (ac (xC (.str "a parting has each of its places once")) a_)) i4)))
def bM:Fn:=bR 2 2 cH
def m6{a:TW}{s:g_}(h:a.length=2):bM.p a s=(cH.p (ll 2 a) s).fin:=bo h
def iI:Xd [2]:=(aG (cZ (au bM (ac (aa 0) (ac (aa 1) a_))))
 (aG (dB 2 (cF a_))
 (aG (bn 3 (aJ 1 [1] (bQ xf (ac (ae ky (aa 0) (xC (.int 0))) a_)) (ws':=[]) (jj 0) (xB (ae (qr I) (aa 0) (aa 1))) (aa 0)))
 (aG (Iv 400 (IL (aa 3)) (aG (bn 4 (aJ 1 [0,3] (aH (aa 3)) (ws':=[]) (jj 0) (xB (ae (Ko I) (au bf (ac (aa 1) (ac (aa 2) (ac (ae ky (aa 2) (xC (.int 0))) (ac (aa 0) a_))))) (xC .non))) (aa 0)))
 (aG (tr n3 2 (ac (aa 4) a_))
 (bn 3 (aJ 1 [4] (aH (aa 3)) (ws':=[]) (jj 0) (xB (ae (qr I) (aa 0) (aa 1))) (aa 0))))) gu)
 (lP 2)))))
def bE:Fn:=bR 5 2 iI
def yA{a:TW}{s:g_}(h:a.length=2):bE.p a s=(iI.p (ll 5 a) s).fin:=bo h
def fe:Xd []:=(bu (aJ 1 [2,0] (aH (li eX (ac (aa 1) a_))) (ws':=[]) (jj 0) (xB (li Ex (ac (aJ 1 [1] (aH (au bg (ac (aa 2) (ac (aa 0) a_)))) (ws':=[]) (jj 0) ka (ae (qr T) (aa 0) (aa 1))) a_))) (aa 0)))
def dQ:Fn:=bR 3 3 fe
def uu{a:TW}{s:g_}(h:a.length=3):dQ.p a s=(fe.p (ll 3 a) s).fin:=bo h
def fD:Xd [2]:=(aG (cZ (au bM (ac (aa 0) (ac (aa 1) a_))))
 (aG (dB 2 (au bB (ac (aa 1) a_)))
 (aG (cE (aH (au bE (ac (aa 0) (ac (aa 1) a_)))) (jj 3) (tr il 2 (ac (au bB (ac (ae bF (aa 3) (au dQ (ac (aa 0) (ac (aa 1) (ac (aa 3) a_))))) a_)) a_)))
 (bu (aJ 1 [0] (aH (lF bv (ac (aa 2) a_))) (ws':=[]) (jj 0) (xB (ae (qr I) (aa 0) (ae ky (aa 1) (xC (.int 1))))) (aa 0))))))
def bC:Fn:=bR 4 2 fD
def uw{a:TW}{s:g_}(h:a.length=2):bC.p a s=(fD.p (ll 4 a) s).fin:=bo h
def oN{h:MH}{p:Nat}{o:MO}(a:p<h.length):(h.set p o)[p]?=J o:=Br a
def Tf:wS 3 2=J 2:=vp (n:=3) (m:=2) (by decide)
def TL:wS 3 1=J 1:=vp (n:=3) (m:=1) (by decide)
def jp(s:g_)(size:Int)(F:0<size)(y:size.natAbs.log2<9000):∃x:Int×Int,(0<=x.1/\x.1<size)/\∀(h:MH)(p:Nat),bT h p s->dO [.loc p,.int size] h=.ok (.int x.1) (h.set p (.lst [.int s.1,.int x.2,.int (s.2.2+1)])):=by
 obtain⟨m,c,t⟩:=s;have a:size≠0:=by ext
 have st:∀n:Int,0<=n.fmod size/\n.fmod size<size:=λn=>by
  rw[Pq n (by ext)];exact⟨Int.emod_nonneg n a,Int.emod_lt_of_pos n F⟩
 by_cases l:m=1
 .subst l;refine⟨(c.fmod size,c.fdiv size),st c,λh p e=>?_⟩;have e:h[p]?=J (.lst [.int 1,.int c,.int t]):=e;have j:p<h.length:=(qp.mp e).1;have e2:(h.set p (.lst [.int 1,.int c,.int (t+1)]))[p]?=J (.lst [.int 1,.int c,.int (t+1)]):=oN j;unfold dO;refine(lK (by rfl)).trans ?_;unfold vS;simp[ce,List.replicate,jz e,mM e,Tf,jz e2,fN a,uR a y,mM e2,TL]
 .have f:∀n k:Int,0<k->0<=n.fmod k/\n.fmod k<k:=λn k E=>by
   rw[Pq n (by ext)];exact⟨Int.emod_nonneg n (by ext),Int.emod_lt_of_pos n E⟩
  generalize u:((c+40503*(t+1)+1)*48271).fmod 2147483647=A;have G:=f ((c+40503*(t+1)+1)*48271) 2147483647 (by decide);rw[u]at G;generalize r:(A*(A.fmod 65521+(t+1)+3)).fmod 2147483629=C;have L:=f (A*(A.fmod 65521+(t+1)+3)) 2147483629 (by decide);rw[r]at L;refine⟨((((C*(C.fmod 8191+7)).fmod 2147483563).fdiv 64).fmod size,c),st _,λh p e=>?_⟩;have e:h[p]?=J (.lst [.int m,.int c,.int t]):=e;have j:p<h.length:=(qp.mp e).1;have e2:(h.set p (.lst [.int m,.int c,.int (t+1)]))[p]?=J (.lst [.int m,.int c,.int (t+1)]):=oN j;have B:-(2^64)<A/\A<2^64:=by ext
  have z:-(2^64)<C/\C<2^64:=by ext
  have M:∀{i:Int}{h:MH},ki (.int 40503) (.int i) h=.ok (.int (40503*i)) h:=hX (by decide);have H:∀{i:Int}{h:MH},ki (.int i) (.int 48271) h=.ok (.int (i*48271)) h:=DB (by decide);unfold dO;refine(lK (by rfl)).trans ?_;unfold vS;simp[ce,List.replicate,jz e,mM e,Tf,jz e2,l,M,H,fN,u,hX B,r,hX z,uR (show(64:Int)≠0 by decide) (show(64:Int).natAbs.log2<9000 by decide +kernel),fN a]
open Classical in
def lR(s:g_)(size:Int):Int×Int:=if z:0<size/\size.natAbs.log2<9000 then(jp s size z.1 z.2).choose else(0,0)
def nX(a:TW):T4:=match a with
 |[.pen,.int i]=>J i
 |_=>Y
def wC{a:TW}{i:Int}(e:nX a=J i):a=[.pen,.int i]:=by
 unfold nX at e
 split at e
 .cases e;rfl
 .cases e
open Classical in
def aR:Fn where
 m:=dO
 p:=λa s=>match nX a with
  |some size=>if 0<size/\size.natAbs.log2<9000 then .ok (.int (lR s size).1) (s.1,(lR s size).2,s.2.2+1)else .bad
  |none=>.bad
 fr:=I
 ok {q h O vs a s} bd hq pn r:=by
  cases e:nX a with
  |none=>trivial
  |some size =>
   have:=wC e
   subst this;dsimp only;by_cases z:0<size/\size.natAbs.log2<9000
   .rw[b_ z];obtain⟨x,t,rfl,l,y,B,rfl,j,u⟩:=r;rw[show x=PV.loc q from l,show y=PV.int size from j,show B=[]from u];have k:=(jp s size z.1 z.2).choose_spec.2 h q pn;have i:lR s size=(jp s size z.1 z.2).choose:=by unfold lR;rw[dif_pos z]
    rw[<-i]at k;refine⟨_,_,k,⟨by simp,λn C f=>tu (Ne.symm f)⟩,oN (ba pn),rfl,λ_ k a e=>by cases k<;>cases e⟩
   .rw[e_ z];trivial
open Classical in
theorem dI{s:g_}{size:Int}(i:0<size)(u:size<=2000000000):∃d f,0<=d/\d<size/\aR.p [.pen,.int size] s=.ok (.int d) f:=by
 have a:size.natAbs.log2<9000:=by
  have l:size.natAbs<=2000000000:=by ext
  have r:size.natAbs.log2<31:=(Nat.log2_lt (by ext)).mpr (by ext);ext
 have z:0<size/\size.natAbs.log2<9000:=⟨i,a⟩;have j:lR s size=(jp s size z.1 z.2).choose:=by unfold lR;rw[dif_pos z]
 have k:=(jp s size z.1 z.2).choose_spec.1;rw[<-j]at k;exact⟨_,_,k.1,k.2,by show(if 0<size/\size.natAbs.log2<9000 then _ else _)=_;rw[b_ z]⟩
def gn:Xd [2]:=(aG (dB 2 (cF a_))
 (aG (cE (bQ xf (ac (aa 1) a_)) (jj 3) (tr xg 2 (ac (au aR (ac (aa 0) (ac (ae bF (aa 3) (xC (.int 1))) a_))) (ac (aa 3) a_))))
 (lP 2)))
def ck:Fn:=bR 4 2 gn
def wW{a:TW}{s:g_}(h:a.length=2):ck.p a s=(gn.p (ll 4 a) s).fin:=bo h
def iq:Xd []:=(bu (aX (ac (aa 0) (ac (li kw (ac (li O3 (ac (aJ 2 [] (aH (aa 1)) (ws':=[]) (Bm (vl (jj 0) (vl (jj 1) Bl)) 2) ka (aX (ac (li km (ac (aa 0) (ac (aa 1) a_))) (ac (li kh (ac (aa 0) (ac (aa 1) a_))) a_)))) a_)) a_)) a_))))
def iO:Fn:=bR 2 2 iq
def xw{a:TW}{s:g_}(h:a.length=2):iO.p a s=(iq.p (ll 2 a) s).fin:=bo h
def gC:Xd []:=(bu (aJ 1 [0] (bQ xf (ac (li dz (ac (aa 0) a_)) a_)) (ws':=[]) (jj 0) ka (aX (ac (ae ky (aa 1) (ae cz (aa 0) (xC (.int 1)))) (ac (ae ky (aa 1) (aa 0)) a_)))))
def eW:Fn:=bR 1 1 gC
def xo{a:TW}{s:g_}(h:a.length=1):eW.p a s=(gC.p (ll 1 a) s).fin:=bo h
def jm:Xd [6]:=(aG (bn 2 (au aR (ac (aa 0) (ac (ae bF (aa 1) (xC (.int 1))) a_))))
 (aG (bn 3 (au ck (ac (aa 0) (ac (aa 2) a_))))
 (aG (bn 4 (au aR (ac (aa 0) (ac (xC (.int 5)) a_))))
 (aG (bn 5 (au aR (ac (aa 0) (ac (ae bF (aa 2) (xC (.int 1))) a_))))
 (aG (dB 6 (cF a_))
 (aG (cE (bQ xf (ac (aa 2) a_)) (jj 7) (aG (r4 (xB (ae BD (aa 4) (xC (.int 2)))) (tr il 6 (ac (aJ 1 [7,0,4] (bQ xf (ac (aa 7) a_)) (ws':=[]) (jj 0) (xB (ae wv (au aR (ac (aa 2) (ac (ae bF (xC (.int 2)) (aa 3)) a_))) (xC (.int 0)))) (aX (ac (aa 1) (ac (aa 0) a_)))) a_)) i4)
 (aG (r4 (xB (ae wv (aa 4) (xC (.int 2)))) (tr il 6 (ac (aJ 1 [7,5] (bQ xf (ac (aa 7) a_)) (ws':=[]) (jj 0) (xB (ae BS (ae BD (aa 1) (aa 2)) (ae BD (aa 0) (aa 2)))) (aX (ac (aa 1) (ac (aa 0) a_)))) a_)) i4)
 (r4 (xB (ae wv (aa 4) (xC (.int 4)))) (tr il 6 (ac (aJ 1 [7,0,2] (bQ xf (ac (aa 7) a_)) (ws':=[]) (jj 0) (Kk (xB (ae (qr T) (ae cz (aa 1) (aa 0)) (aX (ac (xC (.int 1)) (ac (ae cz (aa 3) (xC (.int 1))) a_))))) (xB (ae wv (au aR (ac (aa 2) (ac (xC (.int 6)) a_))) (xC (.int 0))))) (aX (ac (aa 1) (ac (aa 0) a_)))) a_)) i4))))
 (aG (bn 8 (xC (.int 0)))
 (aG (Iv 400 (kn (xB (ae wv (aa 4) (xC (.int 3)))) (xB (ae Iy (ae cz (aa 2) (aa 8)) (xC (.int 2))))) (aG (bn 9 (ae bF (xC (.int 3)) (au aR (ac (aa 0) (ac (ae cz (ae cz (aa 2) (aa 8)) (xC (.int 2))) a_)))))
 (aG (tr il 6 (ac (au eW (ac (li ua (ac (aa 8) (ac (ae bF (aa 8) (aa 9)) a_))) a_)) a_))
 (bn 8 (ae bF (aa 8) (aa 9))))) gu)
 (aG (r4 (xB (ae Iy (aa 2) (xC (.int 1)))) (aG (bn 10 (aJ 1 [0,2] (bQ xf (ac (au aR (ac (aa 0) (ac (xC (.int 3)) a_))) a_)) (ws':=[]) (jj 0) ka (aX (ac (au aR (ac (aa 1) (ac (aa 2) a_))) (ac (au aR (ac (aa 1) (ac (aa 2) a_))) a_)))))
 (tr il 6 (ac (aJ 2 [] (aH (aa 10)) (ws':=[]) (Bm (vl (jj 0) (vl (jj 1) Bl)) 2) (xB (ae BS (aa 0) (aa 1))) (aX (ac (aa 0) (ac (aa 1) a_)))) a_))) i4)
 (bu (au iO (ac (aa 2) (ac (aJ 2 [3] (aH (aa 6)) (ws':=[]) (Bm (vl (jj 0) (vl (jj 1) Bl)) 2) ka (aX (ac (ae ky (aa 2) (aa 0)) (ac (ae ky (aa 2) (aa 1)) a_)))) a_)))))))))))))
def ig:Fn:=bR 11 2 jm
def Ar{a:TW}{s:g_}(h:a.length=2):ig.p a s=(jm.p (ll 11 a) s).fin:=bo h
def ft:Xd [2,4]:=(aG (dB 2 Ev)
 (aG (cE (aH (ae ky (aa 0) (xC (.int 1)))) (jj 3) (lC 2 (xC (.bl I)) (aa 3)))
 (aG (dB 4 (li lu (ac (aa 1) a_)))
 (aG (Iv 400 (xB (ae BS (aa 4) (cF a_))) (aG (kT 5 vv 4 (ac (xC (.int 0)) a_))
 (aG (bn 6 (aJ 1 [2,5] (aH (aa 4)) (ws':=[1]) (jj 0) (xB (ae (ue T) (aX (ac (li km (ac (aa 0) (ac (aa 2) a_))) (ac (li kh (ac (aa 0) (ac (aa 2) a_))) a_))) (aa 1))) (aa 0)))
 (cE (aH (aa 6)) (jj 7) (cE (aH (aa 6)) (jj 8) (r4 (xB (ae BD (aa 7) (aa 8))) (lC 2 (xC (.bl I)) (aX (ac (aa 7) (ac (aa 8) a_)))) i4))))) gu)
 (bu (aJ 1 [0] (aH (li eX (ac (li oD (ac (aa 2) a_)) a_))) (ws':=[]) (jj 0) (xB (ae (qr I) (aa 0) (ae ky (aa 1) (xC (.int 1))))) (aa 0)))))))
def fo:Fn:=bR 9 2 ft
def ul{a:TW}{s:g_}(h:a.length=2):fo.p a s=(ft.p (ll 9 a) s).fin:=bo h
def fB:Xd []:=(aG (bn 3 (au ck (ac (aa 0) (ac (ae ky (aa 1) (xC (.int 0))) a_))))
 (bu (ae bF (aJ 1 [2] (aH (aa 3)) (ws':=[]) (jj 0) (xB (ae (qr I) (aa 0) (aa 1))) (aa 0)) (aJ 1 [2] (aH (aa 3)) (ws':=[]) (jj 0) (xB (ae (qr T) (aa 0) (aa 1))) (aa 0)))))
def c7:Fn:=bR 4 3 fB
def uF{a:TW}{s:g_}(h:a.length=3):c7.p a s=(fB.p (ll 4 a) s).fin:=bo h
def gD:Xd []:=(aG (bn 3 (au kq (ac (aa 0) (ac (aa 1) a_))))
 (bu (lv (ae wv (aa 3) (au fo (ac (aa 0) (ac (aa 1) a_)))) (ae EK (aJ 1 [2] (aH (aa 3)) (ws':=[]) (jj 0) (xB (ae (qr I) (aa 0) (aa 1))) (aa 0)) (cF a_)))))
def cq:Fn:=bR 4 3 gD
def vZ{a:TW}{s:g_}(h:a.length=3):cq.p a s=(gD.p (ll 4 a) s).fin:=bo h
def fT:Xd []:=(aG (cE (aH (aa 6)) (jj 9) (r4 (fM (xB (au cq (ac (aa 3) (ac (aa 9) (ac (aa 5) a_)))))) (bu (xC (.bl T))) i4))
 (aG (bn 10 (ae cz (ae MB (ae t8 (ae ky (aa 3) (xC (.int 0))) (ae cz (ae ky (aa 3) (xC (.int 0))) (xC (.int 1)))) (xC (.int 2))) (li dz (ac (ae ky (aa 3) (xC (.int 1))) a_))))
 (aG (r4 (xB (ae BS (li dz (ac (au bC (ac (aa 3) (ac (li Kp (ac (ae ky (aa 3) (xC (.int 0))) a_)) a_))) a_)) (aa 10))) (bu (xC (.bl T))) i4)
 (aG (bn 11 (au bC (ac (aa 3) (ac (cF a_) a_))))
 (aG (cE (aH (Cu (aa 6) BZ (B0 (xC (.int 2))))) (jj 9) (r4 (fM (xB (au cq (ac (aa 3) (ac (O8 (aa 9) BZ (B0 (Bb jN (xC (.int 1))))) (ac (aa 11) a_)))))) (bu (xC (.bl T))) i4))
 (aG (bn 12 (aJ 1 [] (aH (au bE (ac (aa 3) (ac (cF a_) a_)))) (ws':=[]) (jj 0) ka (ae MB (ae t8 (li dz (ac (aa 0) a_)) (ae cz (li dz (ac (aa 0) a_)) (xC (.int 1)))) (xC (.int 2)))))
 (r4 (xB (ae BS (li dz (ac (aa 11) a_)) (ae cz (li NF (ac (aa 12) a_)) (li dz (ac (ae ky (aa 3) (xC (.int 1))) a_))))) (bu (xC (.bl T))) i4)))))))
def Cv:mh:=(aO (iJ (jV (ao (mC (.int 2)) h8)) (AN 1) (aO (aZ 2 (bS fZ (ao (ag 0) (ao (ag 1) h8))))
 (aO (aZ 3 (bS ig.m (ao (ag 2) (ao (az bI (d6 (ao (mC (.int 12)) (ao (mC (.int 8)) h8))) (ag 1)) h8))))
 (aO (aZ 4 (OS (bS ck.m (ao (ag 2) (ao (az bI (ag 3) (mC (.int 0))) h8))) Ma (Mb (bS dO (ao (ag 2) (ao (az kx (az bI (ag 3) (mC (.int 0))) (mC (.int 1))) h8))))))
 (aO (aZ 5 (bS bC.m (ao (ag 3) (ao (ag 4) h8))))
 (aO (aZ 6 (gP 1 [2,3,4] (jV (ao (mC (.int 2)) h8)) (AN 0) BL (bS c7.m (ao (ag 1) (ao (ag 2) (ao (ag 3) h8))))))
 (aO (aZ 7 (d6 h8))
 (aO (iJ (iw (bS bE.m (ao (ag 3) (ao (ag 4) h8)))) (AN 8) (aZ 7 (az kx (ag 7) (ag 8))))
 (aO (gU (Cb fP (ag 6) (ao (az kx (ag 7) (ag 4)) h8)))
 (aO (iJ (iw (ag 6)) (AN 9) (Bi (rV (mB (bS cq.m (ao (ag 3) (ao (ag 9) (ao (ag 5) h8)))))) (b8 (mC (.bl T))) lB))
 (aO (aZ 10 (az xv (az AC (az ki (az bI (ag 3) (mC (.int 0))) (az xv (az bI (ag 3) (mC (.int 0))) (mC (.int 1)))) (mC (.int 2))) (v2 o0 (ao (az bI (ag 3) (mC (.int 1))) h8))))
 (aO (Bi (mB (az Az (v2 o0 (ao (bS bC.m (ao (ag 3) (ao (Su (ao (az bI (ag 3) (mC (.int 0))) h8)) h8))) h8)) (ag 10))) (b8 (mC (.bl T))) lB)
 (aO (aZ 11 (bS bC.m (ao (ag 3) (ao (d6 h8) h8))))
 (aO (iJ (iw (OS (ag 6) Ma (Mb (mC (.int 2))))) (AN 9) (Bi (rV (mB (bS cq.m (ao (ag 3) (ao (QX (ag 9) Ma (Mb (Ly BJ (mC (.int 1))))) (ao (ag 11) h8)))))) (b8 (mC (.bl T))) lB))
 (aO (aZ 12 (gP 1 [] (iw (bS bE.m (ao (ag 3) (ao (d6 h8) h8)))) (AN 0) BL (az AC (az ki (v2 o0 (ao (ag 0) h8)) (az xv (v2 o0 (ao (ag 0) h8)) (mC (.int 1)))) (mC (.int 2)))))
 (Bi (mB (az Az (v2 o0 (ao (ag 11) h8)) (az xv (v2 BW (ao (ag 12) h8)) (v2 o0 (ao (az bI (ag 3) (mC (.int 1))) h8))))) (b8 (mC (.bl T))) lB))))))))))))))))
 (b8 (mC (.bl I))))
def BV:TN->MH->T6:=eO 13 1 Cv
end
end Law
namespace Law
open MM PU SetT SortT
open L2 (wS n_ iF)
set_option maxHeartbeats 1000000
def EU{i:Int}{s:g_}:e9.p [.int i] s=.ok (.bl I) s:=by rw[uv (by rfl)];unfold fI;simp[ll,fv]
def vA{n i:Int}{s:g_}:cG.p [.int n,.int i] s=.ok (.bl (decide (0<=i)&&decide (i<n))) s:=by rw[uE (by rfl)];unfold fh;by_cases z:0<=i<;>simp[ll,EU,z]
def oP{n i:Int}{s:g_}(f:0<=i)(a:i<n):bc.p [.int n,.int i] s=.ok .non s:=by rw[oO (by rfl)];unfold dn;simp[ll,vA,f,a]
abbrev RN(d:D)(ks:TU):Prop:=d.items=J (ks.map kD)
def iT:∀(a:TU),fw (a.map kD)=J a
 |[]=>rfl
 |k::a=>by
  have:cM (kD k)=J k:=by
   show bw (k.map .int)=J k
   induction k with
   |nil=>rfl
   |cons i k f=>rw[n8,bw,f];rfl
  rw[n8,fw,this,iT a]
open Classical in
theorem FM{ks:TU}(h:(∀k∈ks,k≠[])/\(SetT.oI ks).length<=66):O3.p [.lst (ks.map kD)]=J (.lst ((bL (SetT.oI ks)).map kD)):=by show(fw (ks.map kD)).bind _=_;rw[iT,A4,b_ h]
def Ju{a b:Int}:nr.p [.tup [.int a,.int b]]=J (.int (if b<a then b else a)):=by
 simp[nr,rq,D.items,bw,lA,argBest]
 split<;>simp
def Jv{a b:Int}:oE.p [.tup [.int a,.int b]]=J (.int (if b>a then b else a)):=by
 simp[oE,rq,D.items,bw,lA,argBest]
 split<;>simp
def ai(n:Int)(a:TU):D:=.tup [.int n,.tup (a.map kD)]
def wZ{n v:Int}:∀(f:TU),(∀k∈f,∃a b:Int,k=[a,b]/\0<=a/\a<b/\b<n)->(((f.map kD).filter λx=>match x with|.tup [.int a,.int b]=>decide (b=v)|_=>T).map λx=>match x with|.tup [.int a,.int b]=>.int a|_=>.non)=(below v f).map D.int:=by
 intro f
 induction f with
 |nil=>intro _;rfl
 |cons k f l =>
  intro j;obtain⟨a,b,rfl,_⟩:=j k (by simp)
  have:=l λk i=>j k (l7 _ i)
  by_cases z:b=v<;>simp[below,kD,z]at this ⊢<;>exact this
def wG{n v:Int}:∀(f:TU),(∀k∈f,∃a b:Int,k=[a,b]/\0<=a/\a<b/\b<n)->(((f.map kD).filter λx=>match x with|.tup [.int a,.int b]=>decide (a=v)|_=>T).map λx=>match x with|.tup [.int a,.int b]=>.int b|_=>.non)=(above v f).map D.int:=by
 intro f
 induction f with
 |nil=>intro _;rfl
 |cons k f l =>
  intro j;obtain⟨a,b,rfl,_⟩:=j k (by simp)
  have:=l λk i=>j k (l7 _ i)
  by_cases z:a=v<;>simp[above,kD,z]at this ⊢<;>exact this
def wH(v:Int)(a:TU):TR:=below v a++above v a
def wL{n v:Int}{f:TU}{s:g_}(w:i3 n f)(C:0<=v)(hv:v<n):bg.p [ai n f,.int v] s=.ok (.lst ((wH v f).map .int)) s:=by
 have r:f.length<=66:=dU w.n12 w.tie w.nd;rw[qS (by rfl)];unfold dH
 have u:=nM (ws:=[]) (ws':=[]) (env:=[J (ai n f),J (.int v),Y,Y]) (s:=s) (fm:=[1]) (i:=aH (ae ky (aa 0) (xC (.int 1)))) (t:=xB (ae wv (aa 1) (aa 2))) (e:=aa 0) (ds:=f.map kD) (λx=>match x with|.tup [.int a,.int b]=>decide (b=v)|_=>T) (λx=>match x with|.tup [.int a,.int b]=>.int a|_=>.non) (by simp[ai]) (by simp;ext) (λx j=>by
   obtain⟨k,l,rfl⟩:=ml.mp j;obtain⟨a,b,rfl,_⟩:=w.tie k l
   exact⟨.int a,.int b,rfl,by simp[kD],λ_=>by simp[kD]⟩)
 have z:=nM (ws:=[]) (ws':=[]) (env:=[J (ai n f),J (.int v),J (.lst ((below v f).map .int)),Y]) (s:=s) (fm:=[1]) (i:=aH (ae ky (aa 0) (xC (.int 1)))) (t:=xB (ae wv (aa 0) (aa 2))) (e:=aa 1) (ds:=f.map kD) (λx=>match x with|.tup [.int a,.int b]=>decide (a=v)|_=>T) (λx=>match x with|.tup [.int a,.int b]=>.int b|_=>.non) (by simp[ai]) (by simp;ext) (λx j=>by
   obtain⟨k,l,rfl⟩:=ml.mp j;obtain⟨a,b,rfl,_⟩:=w.tie k l
   exact⟨.int a,.int b,rfl,by simp[kD],λ_=>by simp[kD]⟩)
 rw[wZ f w.tie]at u;rw[wG f w.tie]at z;have bl:(below v f).length<=66:=m_ (N0 _ _) r;have E:(above v f).length<=66:=m_ (N0 _ _) r;have B:(cZ (au bc (ac (ae ky (aa 0) (xC (.int 0))) (ac (aa 1) a_))):Xd []).p (ll 4 [ai n f,.int v]) s=.nx [J (ai n f),J (.int v),Y,Y] s:=by simp[ll,ai,oP C hv]
 rw[aB,B,PU.aq,aB,br,u,Pg,PU.aq,aB,br];show(((aJ 2 [1] _ _ _ _ _ _).p [J (ai n f),J (.int v),J (.lst ((below v f).map .int)),Y] s).go _ _ |>.then _).fin=_;rw[z];simp[fL (x:=(below v f).map .int) (y:=(above v f).map .int) (by simp;ext),wH]
def kB(n:Nat):cK 0 n=(ij n).map .int:=by simp[cK,ij]
def AI(n:Nat):(ij n).Pairwise (·<=·):=by unfold ij;exact List.Pairwise.map (R:=λa b:Nat=>a<b) _ (λa b h=>by ext) N2
def kK{ns:TR}(f:ns.length<64):eX.p [.lst (ns.map .int)]=J (.lst ((fx ns).map .int)):=by
 have e:∀ns:TR,bw (ns.map .int)=J ns:=λns=>by
  induction ns with
  |nil=>rfl
  |cons i k a=>rw[n8,bw,a];rfl
 show(lN (ns.map .int)).map _=_;simp only[lN,e];rw[b_ f];rfl
def Ab{a:TR}{n:Nat}(pm:a.Perm (ij n)):fx a=ij n:=lY (sW _) (AI n) ((cY a).trans pm)
def sX{ns:TR}{j:Nat}(a:j<=ns.length):iK (ns.map D.int) (J (j:Int)) Y=(ns.drop j).map .int:=by unfold iK;rw[HT.mJ,mm,HT.oT,Fi a,List.map_drop];exact CD (by simp)
def cU{f:TV}{env:aA}{s s1:g_}{o:Ce}{i:Nat}{a:Xs f}{j:f.contains i=I}{l:a.fz=I}{as ds ds':TW}{r:D}(e1:a.p env s=.ok as s1)(e2:env[i]?=J (J (.lst ds)))(e3:o.p ds as=J (r,ds')):(tr o i a j l).p env s=.nx (env.set i (J (.lst ds'))) s1:=by rw[MQ,nA e1 e2 e3]
def mP{ns:TR}{j:Nat}{x:D}(e:(ns.map D.int)[j]?=J x):x=.int (ns.getD j 0)/\j<ns.length:=by rw[tx,t0]at e;obtain⟨i,e1,rfl⟩:=e;obtain⟨a,f⟩:=qp.mp e1;exact⟨by simp[List.getD,e1],a⟩
def se{n:Int}{left:TR}{s:g_}(h:∀x∈left,0<=x/\x<n):bH.p [.int n,.lst (left.map .int)] s=.ok .non s:=by
 rw[nS (by rfl)];unfold cT;obtain⟨l,a,e,z,rfl,u⟩:=bZ (g:=(jj 2:Xg []).p) (b:=(cZ (au bc (ac (aa 0) (ac (aa 2) a_))):Xd []).p)
  (λj env a=>∃z,env=[J (.int n),J (.lst (left.map .int)),z]/\a=s) (left.map .int) 0 [J (.int n),J (.lst (left.map .int)),Y] s ⟨Y,rfl,rfl⟩ (λj env a d ⟨z,r,y⟩ hd=>by
   subst r y;obtain⟨i,f,rfl⟩:=ml.mp (Be hd)
   exact⟨[J (.int n),J (.lst (left.map .int)),J (.int i)],[J (.int n),J (.lst (left.map .int)),J (.int i)],a,rfl,by simp[oP (h i f).1 (h i f).2],_,rfl,rfl⟩)
 rw[u]at e;rw[show ll 3 [D.int n,.lst (left.map .int)]=[J (.int n),J (.lst (left.map .int)),Y]from rfl,cQ,dP];simp only[aw,ar,Pb,show(D.lst (left.map D.int)).items=J (left.map D.int)from rfl,Pf,Pg];rw[e];rfl
def oZ{n:Int}{f:TU}(j:0<=n)(i:n<=12)(r:∀k∈f,∃a b:Int,k=[a,b]/\0<=a/\a<b/\b<n):i3 n (bL (SetT.oI f)) :=
 ⟨j,i,λk l=>r k ((SetT.fY k f).mp ((bP _).mem_iff.mp l)),jT _,(bP _).symm.nodup (gB f)⟩
def kN{n:Int}{f:TU}(i:n<=12)(l:∀k∈f,∃a b:Int,k=[a,b]/\0<=a/\a<b/\b<n):(SetT.oI f).length<=66 :=
 dU i (λk j=>l k ((SetT.fY k f).mp j)) (gB f)
def yf{n:Int}{f:TU}(l:∀k∈f,∃a b:Int,k=[a,b]/\0<=a/\a<b/\b<n):∀k∈f,IsT n k:=λk j=>by
 obtain⟨a,b,rfl,i,u,r⟩:=l k j;exact⟨a,b,rfl,i,by ext,by ext,r,by ext⟩
structure Ord(n:Nat)(qs:TR):Prop where
 n12:n<=12
 pm:qs.Perm (ij n)
def Ord.len{n:Nat}{a:TR}(o:Ord n a):a.length=n:=by have:=o.pm.length_eq;simpa [ij]using this
def Ord.bd{n:Nat}{a:TR}(o:Ord n a):∀q∈a,0<=q/\q<(n:Int):=λq f=>bz.mp (o.pm.mem_iff.mp f)
def Ord.at{n:Nat}{a:TR}(o:Ord n a){j:Nat}(f:j<a.length):0<=a.getD j 0/\a.getD j 0<(n:Int):=o.bd _ (by
 have:a.getD j 0=a[j]:=by simp[List.getD,f]
 rw[this];exact PK f)
def jX{g:D->aA->Option aA}{t:aA->g_->PR Bool}{e:aA->g_->PR D}(S:aA->Prop)(P:D->Prop):∀(j:TW)(env:aA)(s:g_),S env ->
  (∀x∈j,∀env s,S env->∃a,g x env=J a/\S a/\∃b u,t a s=.ok b u/\(b=I->∃y E,e a u=.ok y E/\P y))->∃r H,eI g t e j env s=.ok r H/\r.length<=j.length/\∀y∈r,P y
 |[],env,s,G,f=>⟨[],s,rfl,by simp,by simp⟩
 |x::j,env,s,G,f=>by
  obtain⟨a,e1,l,b,u,e2,e3⟩:=f x (by simp) env s G;have i:=λy M=>f y (l7 x M);rw[eI,e1];dsimp only;rw[e2,Pb]
  cases b with
  |true =>
   obtain⟨y,E,e4,py⟩:=e3 rfl;obtain⟨r,C,e5,L,B⟩:=jX S P j a E l i;refine⟨y::r,C,by simp only[if_true,e4,Pb,e5],by simp;ext,λz F=>?_⟩;rcases l_.mp F with rfl|F
   .exact py
   .exact B z F
  |false =>
   obtain⟨r,C,e5,L,B⟩:=jX S P j a u l i;exact⟨r,C,by simp only[pk,if_false,e5],by simp;ext,B⟩
def gW{ws ws':TV}{env:aA}{s s0:g_}{fm:TV}{i:Xi ws}{t:Xt ws'}{e:Xe ws'}{ds:TW}(P:D->Prop)(H:i.p env s=.ok ds s0)(B:ds.length<=100000)(a:∀x∈ds,∀s,∃b f,t.p (J x::fm.map λi=>(env[i]?).getD Y) s=.ok b f/\(b=I->∃y G,e.p (J x::fm.map λi=>(env[i]?).getD Y) f=.ok y G/\P y))(l:ws'.contains 0=T:=by exact ys rfl)(hw:Cc 1 fm ws=ws':=by exact ys rfl)(hz:e.fz=I:=by exact ys rfl):
  ∃r j,(aJ 1 fm i (jj 0 l) t e hw hz).p env s=.ok (.lst r) j/\r.length<=ds.length/\∀y∈r,P y:=by
 obtain⟨r,j,e1,C,E⟩:=jX (g:=(jj 0 l:Xg ws').p) (t:=t.p) (e:=e.p) (λv=>∃z,v=z::fm.map λi=>(env[i]?).getD Y) P ds (wp 1 fm env) s0 ⟨Y,rfl⟩ λx F u s ⟨z,hz⟩=>by
  subst hz;obtain⟨b,f,e2,e3⟩:=a x F s;exact⟨_,rfl,⟨J x,rfl⟩,b,f,e2,e3⟩
 refine⟨r,j,?_,C,E⟩;rw[vF,H,Pb,b_ B,e1]
def cN{lo:Int}{c:Nat}:(cK lo c).length=c:=by simp[cK]
def tS{lo:Int}{c:Nat}{x:D}(h:x∈cK lo c):∃i:Int,x=.int i/\lo<=i/\i<lo+c:=by unfold cK at h;obtain⟨k,a,rfl⟩:=ml.mp h;rw[C1]at a;exact⟨_,rfl,by ext,by ext⟩
def rR{c i:Nat}{x:D}(h:(cK 0 c)[i]?=J x):x=.int (i:Int)/\i<c:=by unfold cK at h;rw[tx,t0]at h;obtain⟨k,f,rfl⟩:=h;obtain⟨a,b⟩:=qp.mp f;simp at a b;subst b;exact⟨by simp,a⟩
local macro_rules | `(tactic| simp! [$a,*]) => `(tactic| simp only [$a,*, Pb, af, ar, av, aw])
local macro_rules | `(tactic| dsimp! [$a,*]) => `(tactic| simp only [$a,*, Pb, Pf, Pl, aI, ar, aw, cu, B2, B3, BG, Bh, n8])
def o8{n:Nat}{s:g_}(y:n<=12):∃f i,ck.p [.pen,.int n] s=.ok (.lst (f.map .int)) i/\Ord n f:=by
 rw[wW (by rfl)];unfold gn;have G:ll 4 [D.pen,.int n]=[J .pen,J (.int n),Y,Y]:=rfl;obtain⟨u,i,e,z,f,rfl,pm⟩:=bZ (g:=(jj 3:Xg [2]).p) (b:=(tr xg 2 (ac (au aR (ac (aa 0) (ac (ae bF (aa 3) (xC (.int 1))) a_))) (ac (aa 3) a_)):Xd [2]).p)
  (λj env i=>∃z f,env=[J .pen,J (.int n),J (.lst ((f:TR).map .int)),z]/\f.Perm (ij j)) (cK 0 n) 0 [J .pen,J (.int n),J (.lst []),Y] s ⟨Y,[],rfl,by simp[ij]⟩ (λj env i d ⟨z,f,C,pm⟩ hd=>by
   rw[sf]at pm ⊢;subst C;obtain⟨rfl,H⟩:=rR hd;have B:f.length=j:=by have:=pm.length_eq;simpa [ij]using this
   obtain⟨d,l,F,L,E⟩:=dI (s:=i) (size:=(j:Int)+1) (by ext) (by ext);obtain⟨k,rfl⟩:=dM F;refine⟨[J .pen,J (.int n),J (.lst (f.map .int)),J (.int (j:Int))],[J .pen,J (.int n),J (.lst ((f.take k++(j:Int)::f.drop k).map .int)),J (.int (j:Int))],l,rfl,?_,_,f.take k++(j:Int)::f.drop k,rfl,?_⟩
   .rw[cU (s1:=l) (as:=[.int (k:Int),.int (j:Int)]) (ds:=f.map .int) (ds':=(f.take k++(j:Int)::f.drop k).map .int) (r:=.non) (by simp[E]) rfl (by
     rw[yz (by simp;ext) (by simp;ext)];simp)]
    rfl
   .have:(f.take k++((j:Int))::f.drop k).Perm (((j:Int))::f):=by
     have:=J7 (a:=(j:Int)) (l₁:=f.take k) (l₂:=f.drop k)
     rwa [CF]at this
    refine this.trans ((pm.cons _).trans ?_);have e1:ij (j+1)=ij j++[(j:Int)]:=by simp[ij,PN]
    rw[e1]
    exact(R6 _ _).symm)
 rw[cN,sf]at pm;refine⟨f,i,?_,y,pm⟩;rw[G,aB,d3];simp![dk,B8,t_,if_true,Pg,vT,v1,PU.aq,aB,cQ,fC];rw[jD (by ext),xp,Pf,Pg,e,PU.aq,o9 (d:=.lst (f.map .int)) rfl,PU.gz]
def nH{n:Int}{i:TU}(h:∀k∈i,IsT n k):∀k∈i.map p_,∃a b:Int,k=[a,b]/\0<=a/\a<b/\b<n:=λk r=>by
 obtain⟨u,f,rfl⟩:=ml.mp r;obtain⟨a,b,rfl,j,l,y,B,ne⟩:=h u f;rcases Int.lt_or_gt_of_ne ne with z|z
 .rw[yB z];exact⟨a,b,rfl,j,z,B⟩
 .rw[IK z];exact⟨b,a,rfl,y,z,l⟩
def Bn(n:Nat)(y:D):Prop:=∃k,y=kD k/\IsT n k
def xR{n:Nat}:∀{ys:TW},(∀y∈ys,Bn n y)->∃a:TU,ys=a.map kD/\∀k∈a,IsT n k
 |[],_=>⟨[],rfl,(λ_ h=>nomatch h)⟩
 |y::ys,h=>by
  obtain⟨a,e,l⟩:=xR (ys:=ys) λy j=>h y (l7 _ j);obtain⟨k,rfl,f⟩:=h y (by simp);exact⟨k::a,by rw[e];rfl,λx i=>(l_.mp i).elim (λq=>q▸f) (l x)⟩
def EV{ws:TV}{env:aA}{i:Nat}{ks:TU}{n:Int}{s:g_}(e:env[i]?=J (J (.lst (ks.map kD))))(j:∀k∈ks,IsT n k)(r:ks.length<=100000)(l:Cc 2 [] ws=[]){hz}:
  (aJ 2 [] (aH (aa i)) (ws':=[]) (Bm (vl (jj 0) (vl (jj 1) Bl)) 2) ka (aX (ac (li km (ac (aa 0) (ac (aa 1) a_))) (ac (li kh (ac (aa 0) (ac (aa 1) a_))) a_))) l hz:Xe ws).p env s=.ok (.lst ((ks.map p_).map kD)) s:=by
 have q:=nM (ws:=ws) (ws':=[]) (env:=env) (s:=s) (fm:=[]) (i:=aH (aa i)) (t:=ka) (e:=(aX (ac (li km (ac (aa 0) (ac (aa 1) a_))) (ac (li kh (ac (aa 0) (ac (aa 1) a_))) a_)))) (ds:=ks.map kD) (λ_=>I) (λx=>match cM x with|some k=>kD (p_ k)|none=>.non) (by
  rw[dP,Ey e];rfl) (by simpa using r) (λx u=>by
   obtain⟨k,f,rfl⟩:=ml.mp u;obtain⟨a,b,rfl,_⟩:=j k f;refine⟨.int a,.int b,rfl,rfl,λ_=>?_⟩
   simp[kD,cM,bw,p_]) (hw:=l) (hz:=hz)
 rw[dN,AL]at q;rw[q,AL];congr 2;refine KD λk f=>?_;obtain⟨a,b,rfl,_⟩:=j k f;rfl
def Jw{n:Nat}{f:TU}{s:g_}(B:n<=12)(j:∀k∈f,IsT n k)(z:f.length<=100000):iO.p [.int (n:Int),.lst (f.map kD)] s=.ok (ai n (bL (SetT.oI (f.map p_)))) s:=by have mt:=nH j;have u:=FM (ks:=f.map p_) ⟨λk l=>by obtain⟨a,b,rfl,_⟩:=mt k l;simp,kN (by ext) mt⟩;have r:∀{x y:D}{s:g_},(if [x,y].length<=100000 then PR.ok (D.tup [x,y]) s else .bad)=.ok (.tup [x,y]) s:=λ{x y s}=>b_ (by simp);rw[xw (by rfl)];unfold iq;rw[show ll 2 [.int (n:Int),D.lst (f.map kD)]=[J (.int (n:Int)),J (.lst (f.map kD))]from rfl];rw[cw,eB,af,ar,Pb,af,cC,af,cC,af,EV (ws:=[]) (i:=1) (ks:=f) rfl j z rfl];simp only[ar,Pb,av,u,Pf,sO,r,Pg,PU.gz,ai]
def Jx{ns:TR}{k:Int}(a:0<=k):iK (ns.map D.int) Y (J k)=(ns.take k.toNat).map .int:=by
 obtain⟨j,rfl⟩:=dM a;unfold iK;rw[HT.mJ,mm,HT.oT,xp,PX,P0,List.map_take];by_cases z:j<=ns.length
 .rw[Fi z]
 .rw[KN (by ext),CD (by simp),CD (by simp;ext)]
structure Rg(n:Nat)(rs:TR):Prop where
 nd:rs.Nodup
 bd:∀x∈rs,0<=x/\x<(n:Int)
 n12:n<=12
 l3:3<=rs.length
def Rg.len{n:Nat}{a:TR}(g:Rg n a):a.length<=12:=by
 have:=List.Nodup.length_le_of_subset (l₂:=ij 12) g.nd λx f=>by
  rw[bz];have:=g.bd x f;have:=g.n12;ext
 simpa [ij]using this
def oe{a:TR}(nd:a.Nodup){i j:Nat}(f:i<a.length)(l:j<a.length)(e:a.getD i 0=a.getD j 0):i=j :=
 (List.getElem?_inj (i:=i) (j:=j) f nd).mp (by simp only[List.getD]at e;simp[f,l]at e ⊢;exact e)
def Jy{n:Nat}{a:TR}(g:Rg n a){i j:Nat}(l:i<a.length)(r:j<a.length)(ne:i≠j):IsT n [a.getD i 0,a.getD j 0]:=by have f:=g.bd (a.getD i 0) (by simp[List.getD,l]);have u:=g.bd (a.getD j 0) (by simp[List.getD,r]);exact⟨_,_,rfl,f.1,f.2,u.1,u.2,λe=>ne (oe g.nd l r e)⟩
def oA{a:TR}{i:Nat}(f:i<a.length):n_ (a.map D.int) (i:Int)=J (.int (a.getD i 0)):=L2.ie (by simp[List.getD,f])
def EW{a:TR}{k:Nat}(f:k<a.length):n_ (a.map D.int) ((k:Int)-1)=J (.int (a.getD (if k=0 then a.length-1 else k-1) 0)):=by
 by_cases z:k=0
 .subst z;rw[b_ rfl];unfold n_ wS;rw[e_ (by ext),b_ (by simp;ext),A4]
  have:(((0:Nat):Int)-1+((a.map D.int).length:Int)).toNat=a.length-1:=by simp;ext
  rw[this];simp[List.getD,show a.length-1<a.length by ext]
 .rw[e_ z,show(k:Int)-1=((k-1:Nat):Int) by ext];exact oA (by ext)
def EX{n:Nat}{a:TR}{s:g_}(g:Rg n a):∃f l,eW.p [.lst (a.map .int)] s=.ok (.lst f) l/\f.length<=12/\∀y∈f,Bn n y:=by
 have u:=g.len;have l3:=g.l3;have F:∀{x y:D}{s:g_},(if [x,y].length<=100000 then PR.ok (D.tup [x,y]) s else .bad)=.ok (.tup [x,y]) s:=λ{x y s}=>b_ (by simp)
 obtain⟨r,l,q,z,E⟩:=gW (ws:=[]) (ws':=[]) (env:=[J (.lst (a.map .int))]) (s:=s) (s0:=s) (fm:=[0]) (i:=bQ xf (ac (li dz (ac (aa 0) a_)) a_)) (t:=ka) (e:=aX (ac (ae ky (aa 1) (ae cz (aa 0) (xC (.int 1)))) (ac (ae ky (aa 1) (aa 0)) a_))) (ds:=cK 0 a.length) (Bn n) (by
  simp only[fC,af,cC,ar,Pb,av,IH,mm,Pf]
  rw[jD (by ext),xp];rfl) (by rw[cN];ext) (λx C s=>by
   obtain⟨i,rfl,B,G⟩:=tS C;obtain⟨k,rfl⟩:=dM B;refine⟨I,s,rfl,λ_=>⟨_,s,?_,_,rfl,Jy g (i:=if k=0 then a.length-1 else k-1) (j:=k) (by split<;>ext) (by ext) (by split<;>ext)⟩⟩;simp![eB,aI,n8,Bh,B3,BG,bK,aW,ib,Pf,iZ,EW (show k<a.length by ext),oA (show k<a.length by ext),F]
   rfl)
 refine⟨r,l,?_,by rw[cN]at z;ext,E⟩;rw[xo (by rfl)];unfold gC;rw[show ll 1 [D.lst (a.map .int)]=[J (.lst (a.map .int))]from rfl,cw,q];rfl
variable{M:Int}
def rA{x y:D}{s:g_}:(if [x,y].length<=100000 then PR.ok (D.tup [x,y]) s else .bad)=.ok (.tup [x,y]) s:=b_ (by simp)
abbrev wE(M:Int)(n:Nat)(qs:TR)(way cut:Int)(ps:TW)(z7 z8 z9 z10:T9):aA:=[J .pen,J (.int M),J (.int n),J (.lst (qs.map .int)),J (.int way),J (.int cut),J (.lst ps),z7,z8,z9,z10]
def vP{n:Nat}{qs:TR}{way cut:Int}{ps:TW}{z7 z8 z9 z10:T9}{t:Xt [6]}{c:Xe [6]}{b:Bool}{s:g_}{hi hz}(u:t.p (wE M n qs way cut ps z7 z8 z9 z10) s=.ok b s)(i:b=I->∃r f,c.p (wE M n qs way cut ps z7 z8 z9 z10) s=.ok (.lst r) f/\r.length<=12/\∀y∈r,Bn n y)(B:ps.length<=1000)(pt:∀y∈ps,Bn n y):
  ∃a f,(r4 t (tr il 6 (ac c a_) hi hz) i4:Xd [6]).p (wE M n qs way cut ps z7 z8 z9 z10) s=.nx (wE M n qs way cut a z7 z8 z9 z10) f/\a.length<=ps.length+12/\∀y∈a,Bn n y:=by
 rw[fH,u,Pg]
 cases b with
 |false=>exact⟨ps,s,rfl,by ext,pt⟩
 |true =>
  obtain⟨r,f,e,z,l⟩:=i rfl;exact⟨ps++r,f,cU (s1:=f) (as:=[.lst r]) (ds:=ps) (ds':=ps++r) (r:=.non) (by rw[af,e];rfl) rfl (gv (by ext)),by rw[wO];ext,λy j=>(nt.mp j).elim (pt y) (l y)⟩
def NG{n j k:Nat}(f:j<n)(a:k<j):Bn n (.tup [.int (j:Int),.int (k:Int)]):=⟨[(j:Int),(k:Int)],rfl,_,_,rfl,by ext,by ext,by ext,by ext,by ext⟩
def uf{n j:Nat}{C:TR}{a cut:Int}{u:TW}{z B f:T9}{fm:TV}{t:Xt []}{hw hz}{s:g_}(F:j<n)(n12:n<=12)(P:∀k:Nat,k<j->∀s,∃b l,t.p (J (.int (k:Int))::J (.int (j:Int))::fm.map λi=>((wE M n C a cut u (J (.int (j:Int))) z B f)[i]?).getD Y) s=.ok b l):
  ∃r E,(aJ 1 (7::fm) (bQ xf (ac (aa 7) a_)) (ws':=[]) (jj 0) t (aX (ac (aa 1) (ac (aa 0) a_))) hw hz:Xe [6]).p (wE M n C a cut u (J (.int (j:Int))) z B f) s=.ok (.lst r) E/\r.length<=12/\∀y∈r,Bn n y:=by
 obtain⟨r,l,q,G,O⟩:=gW (ws:=[6]) (ws':=[]) (env:=wE M n C a cut u (J (.int (j:Int))) z B f) (s:=s) (s0:=s) (fm:=7::fm) (i:=bQ xf (ac (aa 7) a_)) (t:=t) (e:=aX (ac (aa 1) (ac (aa 0) a_))) (ds:=cK 0 j) (Bn n) (by
  simp![fC]
  rw[jD (by ext),xp];rfl) (by rw[cN];ext) (λx L s=>by
   obtain⟨i,rfl,H,Q⟩:=tS L;obtain⟨k,rfl⟩:=dM H;obtain⟨b,l,e⟩:=P k (by ext) s;refine⟨b,l,e,λ_=>⟨_,l,?_,NG F (k:=k) (by ext)⟩⟩
   simp![eB,n8,B2,B3,BG,rA]) (hw:=hw) (hz:=hz)
 rw[cN]at G;exact⟨r,l,q,by ext,O⟩
abbrev Tg:Xd [6]:=(aG (r4 (xB (ae BD (aa 4) (xC (.int 2)))) (tr il 6 (ac (aJ 1 [7,0,4] (bQ xf (ac (aa 7) a_)) (ws':=[]) (jj 0) (xB (ae wv (au aR (ac (aa 2) (ac (ae bF (xC (.int 2)) (aa 3)) a_))) (xC (.int 0)))) (aX (ac (aa 1) (ac (aa 0) a_)))) a_)) i4)
 (aG (r4 (xB (ae wv (aa 4) (xC (.int 2)))) (tr il 6 (ac (aJ 1 [7,5] (bQ xf (ac (aa 7) a_)) (ws':=[]) (jj 0) (xB (ae BS (ae BD (aa 1) (aa 2)) (ae BD (aa 0) (aa 2)))) (aX (ac (aa 1) (ac (aa 0) a_)))) a_)) i4)
 (r4 (xB (ae wv (aa 4) (xC (.int 4)))) (tr il 6 (ac (aJ 1 [7,0,2] (bQ xf (ac (aa 7) a_)) (ws':=[]) (jj 0) (Kk (xB (ae (qr T) (ae cz (aa 1) (aa 0)) (aX (ac (xC (.int 1)) (ac (ae cz (aa 3) (xC (.int 1))) a_))))) (xB (ae wv (au aR (ac (aa 2) (ac (xC (.int 6)) a_))) (xC (.int 0))))) (aX (ac (aa 1) (ac (aa 0) a_)))) a_)) i4)))
def RQ{n j:Nat}{qs:TR}{a cut:Int}{l:TW}{z8 z9 z10:T9}{s:g_}(r:j<n)(n12:n<=12)(w0:0<=a)(pl:l.length<=900)(pt:∀y∈l,Bn n y):
  ∃f E,Tg.p (wE M n qs a cut l (J (.int (j:Int))) z8 z9 z10) s=.nx (wE M n qs a cut f (J (.int (j:Int))) z8 z9 z10) E/\f.length<=l.length+36/\∀y∈f,Bn n y:=by
 obtain⟨P,i,L,l1,F⟩:=vP (n:=n) (qs:=qs) (way:=a) (cut:=cut) (ps:=l) (z7:=J (.int (j:Int))) (z8:=z8) (z9:=z9) (z10:=z10) (s:=s) (t:=xB (ae BD (aa 4) (xC (.int 2)))) (c:=aJ 1 [7,0,4] (bQ xf (ac (aa 7) a_)) (ws':=[]) (jj 0) (xB (ae wv (au aR (ac (aa 2) (ac (ae bF (xC (.int 2)) (aa 3)) a_))) (xC (.int 0)))) (aX (ac (aa 1) (ac (aa 0) a_)))) (b:=decide (a<2)) (hi:=rfl) (hz:=rfl) (by simp) (λu=>uf r n12 λk B s=>by
   have:a<2:=of_decide_eq_true u
   obtain⟨d,i,X,O,z⟩:=dI (s:=s) (size:=2+a) (by ext) (by ext)
   exact⟨_,i,by simp![cu,aI,aM,n8,Bh,B2,B3,BG,bK,aW,ic,Pf,z,nP,jd,Pl];rfl⟩) (by ext) pt
 obtain⟨G,W,R,l2,Q⟩:=vP (n:=n) (qs:=qs) (way:=a) (cut:=cut) (ps:=P) (z7:=J (.int (j:Int))) (z8:=z8) (z9:=z9) (z10:=z10) (s:=i) (t:=xB (ae wv (aa 4) (xC (.int 2)))) (c:=aJ 1 [7,5] (bQ xf (ac (aa 7) a_)) (ws':=[]) (jj 0) (xB (ae BS (ae BD (aa 1) (aa 2)) (ae BD (aa 0) (aa 2)))) (aX (ac (aa 1) (ac (aa 0) a_)))) (b:=decide (a=2)) (hi:=rfl) (hz:=rfl) (by simp) (λu=>uf r n12 λk B s=>by
   exact⟨_,s,by dsimp![IG,nK,II];rfl⟩) (by ext) F
 obtain⟨C,S,Z,l3,H⟩:=vP (n:=n) (qs:=qs) (way:=a) (cut:=cut) (ps:=G) (z7:=J (.int (j:Int))) (z8:=z8) (z9:=z9) (z10:=z10) (s:=W) (t:=xB (ae wv (aa 4) (xC (.int 4)))) (c:=aJ 1 [7,0,2] (bQ xf (ac (aa 7) a_)) (ws':=[]) (jj 0) (Kk (xB (ae (qr T) (ae cz (aa 1) (aa 0)) (aX (ac (xC (.int 1)) (ac (ae cz (aa 3) (xC (.int 1))) a_))))) (xB (ae wv (au aR (ac (aa 2) (ac (xC (.int 6)) a_))) (xC (.int 0))))) (aX (ac (aa 1) (ac (aa 0) a_)))) (b:=decide (a=4)) (hi:=rfl) (hz:=rfl) (by simp) (λu=>uf r n12 λk B s=>by
   have U:=eA (neg:=T) (x:=(j:Int)-(k:Int)) (d:=.tup [.int 1,.int ((n:Int)-1)]) (xs:=[1,(n:Int)-1]) rfl;obtain⟨d,i,X,O,z⟩:=dI (s:=s) (size:=6) (by decide) (by decide);have e:∀b:Bool,((if b=I then PR.ok I s else PR.ok (decide (d=0)) i):PR Bool)=.ok (if b=I then I else decide (d=0)) (if b=I then s else i):=λb=>by cases b<;>rfl
   refine⟨_,_,Eq.trans ?_ (e (decide ((j:Int)-(k:Int)∈[1,(n:Int)-1])))⟩
   simp![ML,cu,aI,aM,n8,Bh,B2,B3,BG,ib,Pf,eB,bK,aW,rA,gc,U,Pl,z,nP,jd,pk,if_false]) (by ext) Q
 refine⟨C,S,?_,by ext,H⟩;rw[aB,L,PU.aq,aB,R,PU.aq,Z]
def jq(k:TR):cM (kD k)=J k:=by
 have:=iT [k]
 simp only[n8,Bh,fw]at this;revert this
 cases cM (kD k) with
 |none=>intro h;cases h
 |some y=>intro h;simp at h;rw[h]
def rK{a:TV}{N:Nat}{t:Xt a}{b:Xd a}(f:∀{Z h n},cj t.m b.m n Z h≠.bad->G_ t.m b.m Z h=cj t.m b.m n Z h){env:aA}{s:g_}:(Iv N t b f).p env s=df t.p b.p N env s:=rfl
def vh{n v:Int}{a:TU}(w:i3 n a):(below v a++above v a).length<=12:=by
 have:=List.Nodup.length_le_of_subset (l₂:=ij 12) (kj (v:=v) w).1 λx f=>by
  rw[bz]
  have:=(kj (v:=v) w).2 x f
  have:=w.n12
  ext
 simpa [ij]using this
variable{M:Int}
abbrev Th:Xt [6]:=(kn (xB (ae wv (aa 4) (xC (.int 3)))) (xB (ae Iy (ae cz (aa 2) (aa 8)) (xC (.int 2)))))
abbrev Ti:Xd [6]:=(aG (bn 9 (ae bF (xC (.int 3)) (au aR (ac (aa 0) (ac (ae cz (ae cz (aa 2) (aa 8)) (xC (.int 2))) a_)))))
 (aG (tr il 6 (ac (au eW (ac (li ua (ac (aa 8) (ac (ae bF (aa 8) (aa 9)) a_))) a_)) a_))
 (bn 8 (ae bF (aa 8) (aa 9)))))
def Jz{i j:Int}(h:(-10000<=i/\i<=10000) /\ -10000<=j/\j<=10000):ua.p [.int i,.int j]=J (.lst (cK i (j-i).toNat)):=b_ h
def JA{n lo m:Nat}(n12:n<=12)(l:3<=m)(r:lo+m<=n):Rg n ((List.range m).map λi:Nat=>(lo:Int)+(i:Int)):=by
 refine⟨List.Pairwise.map (R:=λa b:Nat=>a≠b) _ (λa b h z=>h (by ext)) Oc,λx f=>?_,n12,by simpa using l⟩;obtain⟨i,j,rfl⟩:=ml.mp f
 have:=C1.mp j
 ext
def JB{n:Nat}{qs:TR}{way cut:Int}{z7 z10:T9}(n12:n<=12):∀(N lo:Nat)(a:TW)(l:T9)(s:g_),n-lo+1<=N->lo<=n->a.length+12*(n-lo)<=900->(∀y∈a,Bn n y) ->
  ∃f B j u,df Th.p Ti.p N (wE M n qs way cut a z7 (J (.int (lo:Int))) l z10) s=.nx (wE M n qs way cut f z7 B j z10) u/\f.length<=900/\∀y∈f,Bn n y:=by
 intro N
 induction N with
 |zero=>intro _ _ _ _ h;ext
 |succ N F =>
  intro lo a l s hN R W pt;have Q:Th.p (wE M n qs way cut a z7 (J (.int (lo:Int))) l z10) s=.ok (decide (way=3)&&decide (2<(n:Int)-(lo:Int))) s:=by by_cases z:way=3<;>simp[z]
  rw[df,Q,Pg];by_cases z:way=3/\2<(n:Int)-(lo:Int)
  .rw[b_ (by simp[z.1,z.2])];obtain⟨d,L,d0,Z,S⟩:=dI (s:=s) (size:=(n:Int)-(lo:Int)-2) (by ext) (by ext);obtain⟨m,G⟩:=dM (i:=3+d) (by ext);obtain⟨r,C,E,X,rt⟩:=EX (s:=L) (JA (lo:=lo) (m:=m) n12 (by ext) (by ext));have U:ua.p [.int (lo:Int),.int ((lo:Int)+(m:Int))]=J (.lst (((List.range m).map λi:Nat=>(lo:Int)+(i:Int)).map .int)):=by
    rw[Jz ⟨⟨by ext,by ext⟩,by ext,by ext⟩,show((lo:Int)+(m:Int)-(lo:Int)).toNat=m by ext,AL];rfl
   obtain⟨f,B,j,u,e,H,O⟩:=F (lo+m) (a++r) (J (.int (m:Int))) C (by ext) (by ext) (by
    rw[wO];ext) λy P=>(nt.mp P).elim (pt y) (rt y)
   refine⟨f,B,j,u,?_,H,O⟩;rw[<-e];have st:Ti.p (wE M n qs way cut a z7 (J (.int (lo:Int))) l z10) s=.nx (wE M n qs way cut (a++r) z7 (J (.int ((lo+m:Nat):Int))) (J (.int (m:Int))) z10) C:=by
    rw[aB,br];simp![aI,bK,aW,aM,ib,Pf,S,ic,G,Pg,vT,v1,PU.aq]
    rw[aB,cU (s1:=C) (as:=[.lst r]) (ds:=a) (ds':=a++r) (r:=.non) (by
     simp![aM,cC,aI,ic,Pf,U,E]) rfl (gv (by ext)),PU.aq]
    simp
   rw[st];rfl
  .refine⟨a,J (.int (lo:Int)),l,s,?_,by ext,pt⟩;rw[e_ (by simpa using z)]
abbrev TM:Xd [6]:=(r4 (xB (ae Iy (aa 2) (xC (.int 1)))) (aG (bn 10 (aJ 1 [0,2] (bQ xf (ac (au aR (ac (aa 0) (ac (xC (.int 3)) a_))) a_)) (ws':=[]) (jj 0) ka (aX (ac (au aR (ac (aa 1) (ac (aa 2) a_))) (ac (au aR (ac (aa 1) (ac (aa 2) a_))) a_)))))
 (tr il 6 (ac (aJ 2 [] (aH (aa 10)) (ws':=[]) (Bm (vl (jj 0) (vl (jj 1) Bl)) 2) (xB (ae BS (aa 0) (aa 1))) (aX (ac (aa 0) (ac (aa 1) a_)))) a_))) i4)
def RT{n:Nat}{qs:TR}{way cut:Int}{f:TW}{z7 z8 z9 z10:T9}{s:g_}(n12:n<=12)(pl:f.length<=900)(pt:∀y∈f,Bn n y):
  ∃j l P,TM.p (wE M n qs way cut f z7 z8 z9 z10) s=.nx (wE M n qs way cut j z7 z8 z9 l) P/\j.length<=902/\∀y∈j,Bn n y:=by
 have X:(xB (ae Iy (aa 2) (xC (.int 1))):Xt [6]).p (wE M n qs way cut f z7 z8 z9 z10) s=.ok (decide ((1:Int)<(n:Int))) s:=by simp
 rw[fH,X,Pg];by_cases z:(1:Int)<(n:Int)
 .rw[b_ (by simpa using z)];obtain⟨d,S,d0,d1,qd⟩:=dI (s:=s) (size:=3) (by decide) (by decide);obtain⟨m,rfl⟩:=dM d0
  obtain⟨r,E,q,Q,L⟩:=gW (ws:=[6]) (ws':=[]) (env:=wE M n qs way cut f z7 z8 z9 z10) (s:=s) (s0:=S) (fm:=[0,2]) (i:=bQ xf (ac (au aR (ac (aa 0) (ac (xC (.int 3)) a_))) a_)) (t:=ka) (e:=aX (ac (au aR (ac (aa 1) (ac (aa 2) a_))) (ac (au aR (ac (aa 1) (ac (aa 2) a_))) a_))) (ds:=cK 0 m) (λy=>∃a b:Int,y=.tup [.int a,.int b]/\0<=a/\a<n/\0<=b/\b<n) (by
   simp![fC,aM,bK,aW,qd]
   rw[jD (by ext),xp];rfl) (by rw[cN];ext) (λx H s=>by
    obtain⟨a,s3,F,u,Z⟩:=dI (s:=s) (size:=(n:Int)) (by ext) (by ext);obtain⟨b,U,G,C,qb⟩:=dI (s:=s3) (size:=(n:Int)) (by ext) (by ext);refine⟨I,s,rfl,λ_=>⟨_,U,?_,a,b,rfl,F,u,G,C⟩⟩
    simp![eB,aM,n8,Bh,B2,B3,BG,Z,qb,rA])
  rw[cN]at Q
  have O:=nM (ws:=[6]) (ws':=[]) (env:=wE M n qs way cut f z7 z8 z9 (J (.lst r))) (s:=E) (fm:=[]) (i:=aH (aa 10)) (t:=xB (ae BS (aa 0) (aa 1))) (e:=aX (ac (aa 0) (ac (aa 1) a_))) (ds:=r) (λx=>match x with|.tup [.int a,.int b]=>!decide (a=b)|_=>T) (λx=>x) (by simp) (by ext) (λx H=>by
   obtain⟨a,b,rfl,_⟩:=L x H
   exact⟨.int a,.int b,rfl,by simp,λ_=>by simp⟩)
  rw[Oh]at O;have fl:=B4 (λx:D=>match x with|.tup [.int a,.int b]=>!decide (a=b)|_=>T) r;refine⟨f++r.filter λx=>match x with|.tup [.int a,.int b]=>!decide (a=b)|_=>T,J (.lst r),E,?_,by rw[wO];ext,λy B=>(nt.mp B).elim (pt y) λB=>?_⟩
  .rw[aB,br,q,Pg];simp only[vT,v1,PU.aq];exact cU (s1:=E) (as:=[.lst _]) (ds:=f) (ds':=f++_) (r:=.non) (by rw[af,O];rfl) rfl (gv (by ext))
  .obtain⟨R,W⟩:=y7.mp B;obtain⟨a,b,rfl,F,u,G,C⟩:=L y R;exact⟨[a,b],rfl,a,b,rfl,F,u,G,C,by simpa using W⟩
 .rw[e_ (by simpa using z)];exact⟨f,z10,s,rfl,by ext,pt⟩
def NH{n:Nat}{f:TR}{way cut:Int}{l:TU}{z7 z8 z9 z10:T9}{s:g_}(o:Ord n f)(u:∀k∈l,IsT n k)(L:l.length<=902):
  ∃z:TU,(aJ 2 [3] (aH (aa 6)) (ws':=[]) (Bm (vl (jj 0) (vl (jj 1) Bl)) 2) ka (aX (ac (ae ky (aa 2) (aa 0)) (ac (ae ky (aa 2) (aa 1)) a_))):Xe [6]).p (wE M n f way cut (l.map kD) z7 z8 z9 z10) s=.ok (.lst (z.map kD)) s/\(∀k∈z,IsT n k)/\z.length<=902:=by
 have R:=o.len;have nd:f.Nodup:=o.pm.symm.nodup (fU n);refine⟨l.map λk=>match k with|[a,b]=>[f.getD a.toNat 0,f.getD b.toNat 0]|_=>[],?_,λk r=>?_,by simpa using L⟩
 .have G:=nM (ws:=[6]) (ws':=[]) (env:=wE M n f way cut (l.map kD) z7 z8 z9 z10) (s:=s) (fm:=[3]) (i:=aH (aa 6)) (t:=ka) (e:=aX (ac (ae ky (aa 2) (aa 0)) (ac (ae ky (aa 2) (aa 1)) a_))) (ds:=l.map kD) (λ_=>I) (λx=>match cM x with|some [a,b]=>kD [f.getD a.toNat 0,f.getD b.toNat 0]|_=>kD []) (by simp) (by simp;ext) (λx P=>by
   obtain⟨k,r,rfl⟩:=ml.mp P;obtain⟨a,b,rfl,B,H,C,Q,_⟩:=u k r;obtain⟨a,rfl⟩:=dM B;obtain⟨b,rfl⟩:=dM C;refine⟨.int (a:Int),.int (b:Int),rfl,rfl,λ_=>?_⟩;rw[jq];simp![eB,aI,n8,Bh,B2,B3,BG,iZ,oA (show a<f.length by ext),oA (show b<f.length by ext),Pf,rA,xp]
   rfl)
  rw[dN,AL]at G;rw[G,AL];congr 2;refine KD λk r=>?_;obtain⟨a,b,rfl,_⟩:=u k r;simp[jq]
 .obtain⟨O,y,rfl⟩:=ml.mp r;obtain⟨a,b,rfl,B,H,C,Q,ne⟩:=u O y;obtain⟨a,rfl⟩:=dM B;obtain⟨b,rfl⟩:=dM C;have E:=o.at (j:=a) (by ext);have F:=o.at (j:=b) (by ext);simp only[xp];refine⟨_,_,rfl,E.1,E.2,F.1,F.2,λe=>ne ?_⟩;rw[oe nd (i:=a) (j:=b) (by ext) (by ext) e]
def NI{s:g_}(hM:0<=M/\M<=12):∃(n:Nat)(C:TU)(r:g_),ig.p [.pen,.int M] s=.ok (ai n C) r/\n<=12/\i3 n C:=by
 obtain⟨a,s1,a0,a9,qa⟩:=dI (s:=s) (size:=M+1) (by ext) (by ext);obtain⟨n,rfl⟩:=dM a0;obtain⟨u,s2,q2,o⟩:=o8 (n:=n) (s:=s1) (by ext);obtain⟨f,s3,w0,w9,qw⟩:=dI (s:=s2) (size:=5) (by decide) (by decide);obtain⟨cut,s4,c0,c9,W⟩:=dI (s:=s3) (size:=(n:Int)+1) (by ext) (by ext);obtain⟨S,s5,e5,l,i,rfl,B,pt⟩:=bZ (g:=(jj 7:Xg [6]).p) (b:=Tg.p)
  (λj env r=>∃l i,env=wE M n u f cut i l Y Y Y/\i.length<=36*j/\∀y∈i,Bn n y) (cK 0 n) 0 _ s4 ⟨Y,[],rfl,by simp,by simp⟩ (λj env r d ⟨z,i,hE,B,pt⟩ hd=>by
   rw[sf]at B ⊢;subst hE;obtain⟨rfl,U⟩:=rR hd;obtain⟨G,F,q,ab,H⟩:=RQ (cut:=cut) (z8:=Y) (z9:=Y) (z10:=Y) (s:=r) (qs:=u) U (by ext) w0 (by ext) pt
   exact⟨_,_,F,rfl,q,_,G,rfl,by ext,H⟩)
 rw[cN,sf]at B;obtain⟨p6,P,Q,Z,e6,l6,t6⟩:=JB (n:=n) (qs:=u) (way:=f) (cut:=cut) (z7:=l) (z10:=Y) (by ext) 400 0 i Y s5 (by ext) (by ext) (by ext) pt;obtain⟨p7,L,E,X,O,t7⟩:=RT (n:=n) (qs:=u) (way:=f) (cut:=cut) (z7:=l) (z8:=P) (z9:=Q) (z10:=Y) (s:=Z) (by ext) l6 t6;obtain⟨C,rfl,kt⟩:=xR t7;rw[mm]at O;obtain⟨hs,e8,R,hl⟩:=NH (way:=f) (cut:=cut) (z7:=l) (z8:=P) (z9:=Q) (z10:=L) (s:=E) o kt O;have mk:=Jw (s:=E) (n:=n) (by ext) R (by ext);refine⟨n,bL (SetT.oI (hs.map p_)),E,?_,by ext,oZ (by ext) (by ext) (nH R)⟩;rw[Ar (by rfl)];unfold jm;rw[show ll 11 [D.pen,.int M]=[J .pen,J (.int M),Y,Y,Y,Y,Y,Y,Y,Y,Y]from rfl];rw[aB,br];simp![aI,bK,aW,aM,ic,Pf,qa,Pg,vT,v1,PU.aq];rw[aB,br];simp![aM,q2,Pg,vT,v1,PU.aq];rw[aB,br];simp![aM,bK,aW,qw,Pg,vT,v1,PU.aq];rw[aB,br];simp![aI,bK,aW,aM,ic,Pf,W,Pg,vT,v1,PU.aq];rw[aB,d3];simp only[dk,av,Pb,B8,t_,if_true,Pg,vT,v1,PU.aq];rw[aB,cQ,fC,af];simp only[aw,ar,Pb,av];rw[jD (by ext),xp,Pf,Pg];refine(congrArg (λz:PS=>(z.then _).fin) e5).trans ?_;rw[PU.aq,aB,br];simp only[bK,aW,Pg,vT,v1,PU.aq];rw[aB,rK gu];refine(congrArg (λz:PS=>(z.then _).fin) e6).trans ?_;rw[PU.aq,aB];refine(congrArg (λz:PS=>(z.then _).fin) X).trans ?_;rw[PU.aq,cw,aM,af];simp only[aw,ar,Pb];rw[af,e8];simp only[Pb,av,mk,Pg,PU.gz]
def Td(f:TU)(a b:Int):Prop:=[a,b]∈f\/[b,a]∈f
def Td.symm{f:TU}{a b:Int}(h:Td f a b):Td f b a:=h.elim .inr .inl
def rG{n:Int}{f:TU}(w:i3 n f){a b:Int}(h:Td f a b):a≠b/\(0<=a/\a<n)/\0<=b/\b<n:=by rcases h with h|h<;>obtain⟨x,y,e,i,j,l⟩:=w.tie _ h<;>injection e with e1 e<;>injection e with e2 _<;>subst e1 e2<;>ext
def f7{n v x:Int}{i:TU}(w:i3 n i):x∈wH v i↔Td i v x:=by
 unfold wH Td below above;rw[nt,CG,CG];constructor
 .rintro (⟨k,f,e⟩|⟨k,f,e⟩)<;>obtain⟨a,b,rfl,_⟩:=w.tie k f
  .by_cases z:b=v
   .simp[z]at e;subst e z;exact .inr f
   .simp[z]at e
  .by_cases z:a=v
   .simp[z]at e;subst e z;exact .inl f
   .simp[z]at e
 .rintro (h|h)
  .exact .inr ⟨_,h,by simp⟩
  .exact .inl ⟨_,h,by simp⟩
inductive Iw(ks:TU)(ps:TR)(a:Int):TR->Int->Prop where
 |one:Iw ks ps a [a] a
 |more{wy:TR}{e p:Int}:Iw ks ps a wy e->Td ks e p->p∈ps->p∉wy->(∀x∈wy,x≠e->¬Td ks x p)->Iw ks ps a (wy++[p]) p
inductive Rc(ks:TU)(ps:TR)(a:Int):Int->Prop where
 |base:Rc ks ps a a
 |step{x y:Int}:Rc ks ps a x->Td ks x y->y∈ps->Rc ks ps a y
def Iw.last{i:TU}{j:TR}{a e:Int}{f:TR}(h:Iw i j a f e):∃l,f=l++[e]:=by
 cases h with
 |one=>exact⟨[],rfl⟩
 |@more w e p=>exact⟨w,rfl⟩
def Iw.nd{i:TU}{r:TR}{a e:Int}{f:TR}(h:Iw i r a f e):f.Nodup:=by
 induction h with
 |one=>simp
 |@more f e p _ _ _ B _ u =>
  rw[Bg];refine⟨u,by simp,λx j y l z=>B ?_⟩
  have:y=p:=by simpa using l
  rw[<-this,<-z];exact j
def AG{a:TW}{d:D}:n_ (a++[d]) (-1)=J d:=by
 unfold n_ wS;rw[e_ (by decide),b_ (by simp;ext),A4]
 have:((-1:Int)+((a++[d]).length:Int)).toNat=a.length:=by simp;ext
 rw[this];simp
structure Bf(n:Nat)(ks:TU)(ps:TR)(a b:Int)(pd:TR)(qu:List (TR×Int))(sn:TR):Prop where
 eq:sn=pd++qu.map (·.2)
 nd:sn.Nodup
 bd:∀x∈sn,0<=x/\x<(n:Int)
 st:a∈sn
 gw:∀q∈qu,Iw ks ps a q.1 q.2/\∀x∈q.1,x≠q.2->x∈pd
 cl:∀x∈pd,∀y,Td ks x y->y∈ps->y∈sn
 nb:b∉pd
def bJ(a f ns:TR):TR:=ns.filter λp=>decide (p∈a) && !decide (p∈f)
def iB{a f ns:TR}{p:Int}:p∈bJ a f ns↔p∈ns/\p∈a/\p∉f:=by simp[bJ]
def Bf.len{n:Nat}{j:TU}{r:TR}{a b:Int}{i:TR}{f:List (TR×Int)}{u:TR}(h:Bf n j r a b i f u):i.length+f.length<=n:=by
 have:=List.Nodup.length_le_of_subset (l₂:=ij n) h.nd λx l=>bz.mpr (h.bd x l)
 rw[h.eq]at this;simpa [ij]using this
def Bf.step{n:Nat}{l:TU}{r:TR}{a b e:Int}{E u:TR}{O:List (TR×Int)}{j:TR}(w:i3 n l)(h:Bf n l r a b E ((u,e)::O) j)(ne:e≠b):Bf n l r a b (E++[e]) (O++(bJ r j (wH e l)).map λp=>(u++[p],p)) (j++bJ r j (wH e l)):=by
 obtain⟨U,F⟩:Iw l r a u e/\∀x∈u,x≠e->x∈E:=h.gw (u,e) pa;have W:e∈j:=by rw[h.eq];simp
 have G:∀x∈E,x∈j:=λx f=>by rw[h.eq];exact xn _ f
 refine⟨?_,?_,λx f=>?_,xn _ h.st,λq C=>?_,λx f y t py=>?_,λB=>?_⟩
 .have e1:=h.eq;generalize bJ r j (wH e l)=Z;rw[e1];simp[Function.comp_def]
 .rw[Bg];refine⟨h.nd,((kj (v:=e) w).1).filter _,λx f y S z=>?_⟩;subst z;exact(iB.mp S).2.2 f
 .rcases nt.mp f with f|f
  .exact h.bd x f
  .exact (rG w ((f7 w).mp (iB.mp f).1)).2.2
 .rcases nt.mp C with C|C
  .obtain⟨P,X⟩:=h.gw q (l7 _ C);exact⟨P,λx f i=>xn _ (X x f i)⟩
  .obtain⟨p,Q,rfl⟩:=ml.mp C;obtain⟨R,L,H⟩:=iB.mp Q;refine⟨.more U ((f7 w).mp R) L (λz=>?_) λx f i t=>H (h.cl x (F x f i) p t L),λx f i=>?_⟩
   .by_cases y:p=e
    .exact H (y▸W)
    .exact H (G p (F p z y))
   .rcases nt.mp f with f|f
    .by_cases y:x=e
     .subst y;simp
     .exact xn _ (F x f y)
    .exact absurd (by simpa using f) i
 .rcases nt.mp f with f|f
  .exact xn _ (h.cl x f y t py)
  .have:x=e:=by simpa using f
   subst this;by_cases z:y∈j
   .exact xn _ z
   .exact q0 _ (iB.mpr ⟨(f7 w).mpr t,py,z⟩)
 .rcases nt.mp B with B|B
  .exact h.nb B
  .have:b=e:=by simpa using B
   exact ne this.symm
def Bf.stop{n:Nat}{f:TU}{i:TR}{a b:Int}{l j:TR}(h:Bf n f i a b l [] j):¬Rc f i a b:=λr=>by
 have e:j=l:=by rw[h.eq];simp
 have:∀y,Rc f i a y->y∈j:=λy r=>by
  induction r with
  |base=>exact h.st
  |step _ t py u=>exact h.cl _ (e▸u) _ t py
 exact h.nb (e▸this b r)
def FN(q:TR×Int):D:=.lst (q.1.map .int)
abbrev AZ(n:Nat)(ks:TU)(ps:TR)(a b:Int)(qu:List (TR×Int))(sn:TR)(z6 z7:T9):aA:=[J (ai n ks),J (.lst (ps.map .int)),J (.int a),J (.int b),J (.lst (qu.map FN)),J (.lst (sn.map .int)),z6,z7]
abbrev RU:Xd [4,5]:=(r4 (kn (xB (ae (qr T) (aa 7) (aa 1))) (xB (ae (qr I) (aa 7) (aa 5)))) (aG (tr n3 5 (ac (aa 7) a_))
 (tr n3 4 (ac (ae bF (aa 6) (cF (ac (aa 7) a_))) a_))) i4)
abbrev Ph:Xd [4,5]:=(aG (kT 6 vv 4 (ac (xC (.int 0)) a_))
 (aG (r4 (xB (ae wv (ae ky (aa 6) (Bb jN (xC (.int 1)))) (aa 3))) (bu (aa 6)) i4)
 (cE (aH (au bg (ac (aa 0) (ac (ae ky (aa 6) (Bb jN (xC (.int 1)))) a_)))) (jj 7) RU)))
abbrev NJ:Xt [4,5]:=IL (aa 4)
def JC{n:Nat}{ks:TU}{ps:TR}{a b:Int}{qu:List (TR×Int)}{sn wy ns:TR}{z7:T9}{s:g_}(nd:ns.Nodup)(X:ns.length<=12)(Z:qu.length<=100)(l3:sn.length<=100)(W:wy.length<=100):
  ∃i,Cd (jj 7:Xg [4,5]).p RU.p (ns.map .int) (AZ n ks ps a b qu sn (J (.lst (wy.map .int))) z7) s=.nx (AZ n ks ps a b (qu++(bJ ps sn ns).map λp=>(wy++[p],p)) (sn++bJ ps sn ns) (J (.lst (wy.map .int))) i) s:=by
 obtain⟨E,f,e,i,rfl,rfl⟩:=bZ (g:=(jj 7:Xg [4,5]).p) (b:=RU.p)
  (λj env f=>∃i,env=AZ n ks ps a b (qu++(bJ ps sn (ns.take j)).map λp=>(wy++[p],p)) (sn++bJ ps sn (ns.take j)) (J (.lst (wy.map .int))) i/\f=s) (ns.map .int) 0 (AZ n ks ps a b qu sn (J (.lst (wy.map .int))) z7) s ⟨z7,by simp[bJ],rfl⟩ (λj env f d ⟨i,C,Q⟩ hd=>by
   rw[sf]at C ⊢;subst C Q;obtain⟨rfl,y⟩:=mP hd;have O:ns.getD j 0=ns[j]:=by simp[List.getD,y]
   rw[O];have P:ns.take (j+1)=ns.take j++[ns[j]]:=by rw[B9];simp[y]
   have F:ns[j]∉ns.take j:=λz=>by
    have:=nd
    rw[<-CF j ns,Bg]at this;exact this.2.2 _ z _ (by rw[Fe y];exact pa) rfl
   have al:(bJ ps sn (ns.take j)).length<=12:=by
    have:=B4 (λp=>decide (p∈ps) && !decide (p∈sn)) (ns.take j)
    have l:=List.length_take_le j ns;unfold bJ;rw[CH]at this;ext
   have U:=eA (neg:=T) (x:=ns[j]) (d:=.lst (ps.map .int)) (xs:=ps) rfl;have R:=eA (neg:=I) (x:=ns[j]) (d:=.lst ((sn++bJ ps sn (ns.take j)).map .int)) (xs:=sn++bJ ps sn (ns.take j)) rfl;refine⟨AZ n ks ps a b (qu++(bJ ps sn (ns.take j)).map λp=>(wy++[p],p)) (sn++bJ ps sn (ns.take j)) (J (.lst (wy.map .int))) (J (.int ns[j])),AZ n ks ps a b (qu++(bJ ps sn (ns.take (j+1))).map λp=>(wy++[p],p)) (sn++bJ ps sn (ns.take (j+1))) (J (.lst (wy.map .int))) (J (.int ns[j])),f,rfl,?_,_,rfl,rfl⟩;have S:bJ ps sn (ns.take (j+1))=bJ ps sn (ns.take j)++(if ns[j]∈ps/\ns[j]∉sn then [ns[j]]else []):=by unfold bJ;rw[P,List.filter_append];congr 1;by_cases u:ns[j]∈ps<;>by_cases B:ns[j]∈sn<;>simp[u,B]
   have G:ns[j]∈sn++bJ ps sn (ns.take j)↔ns[j]∈sn:=by rw[nt];exact⟨λh=>h.elim id λh=>absurd (iB.mp h).1 F,.inl⟩
   have L:(kn (xB (ae (qr T) (aa 7) (aa 1))) (xB (ae (qr I) (aa 7) (aa 5))):Xt [4,5]).p (AZ n ks ps a b (qu++(bJ ps sn (ns.take j)).map λp=>(wy++[p],p)) (sn++bJ ps sn (ns.take j)) (J (.lst (wy.map .int))) (J (.int ns[j]))) f=.ok (decide (ns[j]∈ps/\ns[j]∉sn)) f:=by
    simp only[IF,cu,aI,aw,ar,Pb,gc,U,R,Pf,Pl,pk,if_false,if_true];by_cases u:ns[j]∈ps
    .simp only[u,decide_true,if_true,true_and,decide_not];by_cases B:ns[j]∈sn<;>simp[G,B]
    .simp[u]
   rw[fH,L,Pg,S];by_cases z:ns[j]∈ps/\ns[j]∉sn
   .rw[b_ (by simpa using z),b_ z,aB];rw[cU (s1:=f) (as:=[.int ns[j]]) (ds:=(sn++bJ ps sn (ns.take j)).map .int) (ds':=(sn++(bJ ps sn (ns.take j)++[ns[j]])).map .int) (r:=.non) (by simp) rfl (by rw[iW (by simp;ext)];simp),PU.aq];have H:bF.p (.lst (wy.map .int)) (.lst [.int ns[j]])=J (.lst ((wy++[ns[j]]).map .int)):=by
     rw[fL (by simp;ext)];simp
    rw[cU (s1:=f) (as:=[.lst ((wy++[ns[j]]).map .int)]) (ds:=(qu++(bJ ps sn (ns.take j)).map λp=>(wy++[p],p)).map FN) (ds':=(qu++(bJ ps sn (ns.take j)++[ns[j]]).map λp=>(wy++[p],p)).map FN) (r:=.non) (by
     simp![vT,v1,aI,dk,BH,B8,show(0+1:Nat)<=100000 by decide,if_true,H,Pf]) rfl (by rw[iW (by simp;ext)];simp[FN])]
    rfl
   .rw[e_ (by simpa using z),e_ z,F3]
    rfl)
 rw[mm,sf,CZ]at e;exact⟨i,e⟩
def JD{n:Nat}{i:TU}{j:TR}{a b:Int}{s:g_}(w:i3 n i):∀(N:Nat)(G:TR)(B:List (TR×Int))(u:TR)(E C:T9),n-G.length+1<=N->Bf n i j a b G B u ->
  (∃f,df NJ.p Ph.p N (AZ n i j a b B u E C) s=.rt (.lst (f.map .int)) s/\Iw i j a f b)\/(∃F,df NJ.p Ph.p N (AZ n i j a b B u E C) s=.nx F s/\¬Rc i j a b):=by
 intro N
 induction N with
 |zero=>intro _ _ _ _ _ h;ext
 |succ N W =>
  intro G B u E C hd h;have L:=h.len;have n12:=w.n12
  cases B with
  |nil=>exact .inr ⟨AZ n i j a b [] u E C,by rw[df,show NJ.p (AZ n i j a b [] u E C) s=.ok T s by simp[jZ]];rfl,h.stop⟩
  |cons q B =>
   obtain⟨f,e⟩:=q;obtain⟨O,X⟩:Iw i j a f e/\∀x∈f,x≠e->x∈G:=h.gw (f,e) pa;have es:e∈u:=by rw[h.eq];simp
   have H:=h.bd e es;have tt:NJ.p (AZ n i j a b ((f,e)::B) u E C) s=.ok I s:=by simp[jZ]
   rw[df,tt,Pg,b_ rfl];obtain⟨w0,R⟩:=O.last;have P:jN.p (.int 1)=J (.int (-1)):=rfl;have Q:n_ (f.map D.int) (-1)=J (.int e):=by rw[R,CJ];exact AG
   have S:(kT 6 vv 4 (ac (xC (.int 0)) a_):Xd [4,5]).p (AZ n i j a b ((f,e)::B) u E C) s=.nx (AZ n i j a b B u (J (.lst (f.map .int))) C) s:=by refine Eq.trans (show _=BC vv 4 (ac (xC (.int 0)) a_:Xs [4,5]).p (AZ n i j a b ((f,e)::B) u E C) s (λr env s=>.nx (env.set 6 (J r)) s)from rfl) ?_;rw[nA (as:=[.int 0]) (s1:=s) (ds:=FN (f,e)::B.map FN) (r:=FN (f,e)) (ds':=B.map FN) (by simp) rfl rfl];rfl
   by_cases z:e=b
   .subst z;refine .inl ⟨f,?_,O⟩;rw[aB,S,PU.aq,aB,fH];simp only[cu,aI,aw,ar,Pb,rC,bK,aW,P,Pf,iZ,Q,nP,jd,decide_true,Pl,Pg,if_true,cw,PU.vf,pk,if_false];rfl
   .have wl:f.length<=100:=by
     have l:=List.Nodup.length_le_of_subset (l₂:=ij n) O.nd λx hx=>bz.mpr (by
      by_cases y:x=e
      .subst y;exact H
      .exact h.bd x (by rw[h.eq];exact xn _ (X x hx y)))
     simp[ij]at l;ext
    have sl:u.length<=100:=by
     have:=congrArg List.length h.eq
     simp at this L;ext
    have Z:(wH e i).length<=12:=vh (v:=e) w;obtain⟨U,ef⟩:=JC (n:=n) (ks:=i) (ps:=j) (a:=a) (b:=b) (qu:=B) (sn:=u) (wy:=f) (z7:=C) (s:=s) (kj (v:=e) w).1 Z (by simp at L;ext) sl wl;have st:Ph.p (AZ n i j a b ((f,e)::B) u E C) s=.nx (AZ n i j a b (B++(bJ j u (wH e i)).map λp=>(f++[p],p)) (u++bJ j u (wH e i)) (J (.lst (f.map .int))) U) s:=by rw[aB,S,PU.aq,aB,fH];simp only[cu,aI,aw,ar,Pb,rC,bK,aW,P,Pf,iZ,Q,nP,jd,z,decide_false,Pl,Pg,pk,if_false,im,PU.aq];rw[cQ];simp![dP,aM,aI,rC,bK,aW,P,Pf,iZ,Q,wL w H.1 H.2,yZ,Pg];exact ef
    rw[st];exact W (G++[e]) _ _ _ _ (by simp at L ⊢;ext) (h.step w z)
def EY{n:Nat}{f:TU}{ps:TR}{a b:Int}{s:g_}(w:i3 n f)(y:0<=a/\a<(n:Int)):
  (∃i,bf.p [ai n f,.lst (ps.map .int),.int a,.int b] s=.ok (.lst (i.map .int)) s/\Iw f ps a i b)\/(bf.p [ai n f,.lst (ps.map .int),.int a,.int b] s=.ok .non s/\¬Rc f ps a b):=by
 have B:Bf n f ps a b [] [([a],a)] [a]:=by
  refine⟨rfl,by simp,λx l=>?_,by simp,λq z=>?_,by simp,by simp⟩
  .have:x=a:=by simpa using l
   subst this;exact y
  .have:q=([a],a):=by simpa using z
   subst this;exact⟨.one,λx l j=>absurd (by simpa using l) j⟩
 have r:=JD (s:=s) w 400 [] [([a],a)] [a] Y Y (by have:=w.n12;simp;ext) B;have pre:bf.p [ai n f,.lst (ps.map .int),.int a,.int b] s=((df NJ.p Ph.p 400 (AZ n f ps a b [([a],a)] [a] Y Y) s).then (bu (xC .non):Xd [4,5]).p).fin:=by rw[nT (by rfl)];unfold cR;rw[show ll 8 [ai n f,.lst (ps.map .int),.int a,.int b]=[J (ai n f),J (.lst (ps.map .int)),J (.int a),J (.int b),Y,Y,Y,Y]from rfl];rw[aB,d3];simp![dk,BH,B8,show(0+1:Nat)<=100000 by decide,if_true,Pg,vT,v1,PU.aq,aB,d3];rw[rK gu];rfl
 rw[pre];rcases r with⟨i,r,t⟩|⟨u,r,t⟩
 .refine .inl ⟨i,?_,t⟩;rw[r];rfl
 .refine .inr ⟨?_,t⟩;rw[r];rfl
def px{α:Type}{f:α->Int}:∀{l m:List α},l.Pairwise (λa b=>f a<f b)->m.Pairwise (λa b=>f a<f b)->(∀x,x∈l↔x∈m)->l=m
 |[],[],_,_,_=>rfl
 |[],y::m,_,_,h=>absurd ((h y).mpr pa) (by simp)
 |x::l,[],_,_,h=>absurd ((h x).mp pa) (by simp)
 |x::l,y::m,j,r,h=>by
  rw[B5]at j r;have e:x=y:=by
   rcases l_.mp ((h x).mp pa)with z|z
   .exact z
   .rcases l_.mp ((h y).mpr pa)with u|u
    .exact u.symm
    .have:=r.1 x z;have:=j.1 y u;ext
  subst e;rw[px j.2 r.2 λz=>⟨λi=>?_,λi=>?_⟩]
  .rcases l_.mp ((h z).mp (l7 _ i))with q|q
   .subst q;have:=j.1 z i;ext
   .exact q
  .rcases l_.mp ((h z).mpr (l7 _ i))with q|q
   .subst q;have:=r.1 z i;ext
   .exact q
section
variable{ks:TU}{L M:TR}{a x y z:Int}{P Q:TU}
def Rc.trans(h:Rc ks L x y)(f:Rc ks L y z):Rc ks L x z:=by
 induction f with
 |base=>exact h
 |step _ t m i=>exact .step i t m
def Rc.mem(f:x∈L)(h:Rc ks L x y):y∈L:=by
 cases h with
 |base=>exact f
 |step _ _ m=>exact m
def Rc.symm(f:x∈L)(h:Rc ks L x y):Rc ks L y x:=by
 induction h with
 |base=>exact .base
 |step r t m i=>exact Rc.trans (.step .base t.symm (r.mem f)) i
def Rc.mono(s:∀x∈M,x∈L)(h:Rc ks M x y):Rc ks L x y:=by
 induction h with
 |base=>exact .base
 |step _ t m f=>exact .step f t (s _ m)
def Rc.back(c:∀x∈M,∀y,Rc ks L x y->y∈M)(f:x∈M)(h:Rc ks L x y):Rc ks M x y:=by
 induction h with
 |base=>exact .base
 |step r t m i=>exact .step i t (c x f _ (.step r t m))
structure Part(ks:TU)(L M:TR)(P:TU):Prop where
 ris:∀p∈P,p.Pairwise (·<·)
 ne:∀p∈P,p≠[]
 hd:P.Pairwise λp q=>p.headD 0<q.headD 0
 cl:∀p∈P,∀x∈p,∀y,y∈p↔Rc ks L x y
 all:∀x∈M,∃p∈P,x∈p
 sub:∀p∈P,∀x∈p,x∈M
def Part.len(h:Part ks L M P):P.length<=M.length:=by
 have nd:(P.map λp=>p.headD 0).Nodup:=J1.mpr (h.hd.imp λ{a b} h=>by ext)
 have:=List.Nodup.length_le_of_subset (l₂:=M) nd λx i=>by
  obtain⟨p,f,rfl⟩:=ml.mp i
  cases p with
  |nil=>exact absurd rfl (h.ne _ f)
  |cons a p=>exact h.sub _ f a pa
 simpa using this
open Classical in
def bD(ks:TU)(M:TR)(a:Int):TR:=M.filter λy=>decide (Rc ks M a y)
def A3(ks:TU):Nat->TR->TU
 |0,_=>[]
 |_+1,[]=>[]
 |f+1,a::l=>bD ks (a::l) a::A3 ks f ((a::l).filter λy=>!decide (y∈bD ks (a::l) a))
def mH:y∈bD ks M a↔y∈M/\Rc ks M a y:=by simp[bD]
def qC{l:TR}:∃r,bD ks (a::l) a=a::r:=by unfold bD;rw[R9 (by simpa using Rc.base)];exact⟨_,rfl⟩
def sF{l:TR}:((a::l).filter λy=>!decide (y∈bD ks (a::l) a))=l.filter λy=>!decide (y∈bD ks (a::l) a) :=
 R_ (by simp[mH,Rc.base])
def zJ:∀(f:Nat)(M:TR),M.length<=f->M.Pairwise (·<·)->(∀x∈M,x∈L)->(∀x∈M,∀y,Rc ks L x y->y∈M)->Part ks L M (A3 ks f M):=by
 intro f
 induction f with
 |zero =>
  intro M U _ _ _
  have:M=[]:=CT.mp (by ext)
  subst this;exact⟨by simp[A3],by simp[A3],by simp[A3],by simp[A3],by simp,by simp[A3]⟩
 |succ f X =>
  intro M U S E H
  cases M with
  |nil=>exact⟨by simp[A3],by simp[A3],by simp[A3],by simp[A3],by simp,by simp[A3]⟩
  |cons a l =>
   have R:a∈a::l:=pa;have key:∀y,y∈bD ks (a::l) a↔Rc ks L a y:=λy=>mH.trans ⟨λh=>h.2.mono E,λh=>⟨H a R y h,h.back H R⟩⟩;have B:∀y,y∈((a::l).filter λy=>!decide (y∈bD ks (a::l) a))↔y∈a::l/\¬Rc ks L a y:=λy=>by
    rw[y7,<-key];simp
   have j:=X ((a::l).filter λy=>!decide (y∈bD ks (a::l) a)) (by
    rw[sF]
    have:=B4 (λy=>!decide (y∈bD ks (a::l) a)) l
    simp at U;ext) (S.filter _) (λx u=>E x ((B x).mp u).1) (λx u y r=>by
    obtain⟨C,O⟩:=(B x).mp u
    exact(B y).mpr ⟨H x C y r,λq=>O (q.trans (r.symm (E x C)))⟩)
   have G:∀x y,Rc ks L a x->(Rc ks L a y↔Rc ks L x y):=λx y h=>⟨λF=>(h.symm (E a R)).trans F,λF=>h.trans F⟩;unfold A3;refine⟨λp i=>?_,λp i=>?_,?_,λp i=>?_,λx u=>?_,λp i x u=>?_⟩
   .rcases l_.mp i with rfl|i
    .exact S.filter _
    .exact j.ris p i
   .rcases l_.mp i with rfl|i
    .obtain⟨r,e⟩:=qC (ks:=ks) (a:=a) (l:=l);rw[e];simp
    .exact j.ne p i
   .refine B5.mpr ⟨λq W=>?_,j.hd⟩;obtain⟨r,e⟩:=qC (ks:=ks) (a:=a) (l:=l);rw[e]
    cases q with
    |nil=>exact absurd rfl (j.ne _ W)
    |cons b q =>
     obtain⟨C,O⟩:=(B b).mp (j.sub _ W b pa);show a<b;rcases l_.mp C with rfl|C
     .exact absurd .base O
     .exact (B5.mp S).1 b C
   .rcases l_.mp i with rfl|i
    .exact λx u y=>(key y).trans (G x y ((key x).mp u))
    .exact j.cl p i
   .by_cases z:Rc ks L a x
    .exact⟨_,pa,(key x).mpr z⟩
    .obtain⟨p,i,h⟩:=j.all x ((B x).mpr ⟨u,z⟩);exact⟨p,l7 _ i,h⟩
   .rcases l_.mp i with rfl|i
    .exact (mH.mp u).1
    .exact ((B x).mp (j.sub p i x u)).1
end
abbrev i_(p:TR):D:=.lst (p.map .int)
structure Sm(n:Nat)(qs:TR):Prop where
 n12:n<=12
 nd:qs.Nodup
 bd:∀x∈qs,0<=x/\x<(n:Int)
def Sm.len{n:Nat}{a:TR}(m:Sm n a):a.length<=n:=by
 have:=List.Nodup.length_le_of_subset (l₂:=ij n) m.nd λx f=>bz.mpr (m.bd x f)
 simpa [ij]using this
def zh(n:Nat)(a:TR):TR:=(ij n).filter λx=>!decide (x∈a)
def cP{n:Nat}{a:TR}{x:Int}:x∈zh n a↔(0<=x/\x<(n:Int))/\x∉a:=by simp[zh,bz]
def EZ{n:Nat}{f:TR}:(zh n f).Pairwise (·<·):=by unfold zh ij;exact(List.Pairwise.map (R:=λa b:Nat=>a<b) _ (λa b h=>by ext) N2).filter _
def k9{n:Nat}{a:TR}:(zh n a).length<=n:=by
 have:=B4 (λx=>!decide (x∈a)) (ij n)
 unfold zh;simpa [ij]using this
def c_(n:Nat)(a:TU)(f:TR):TU:=A3 a n (zh n f)
def bY{n:Nat}{ks:TU}{qs:TR}:Part ks (zh n qs) (zh n qs) (c_ n ks qs):=zJ n _ k9 EZ (λ_ h=>h) λ_ a _ r=>r.mem a
def pU{n:Nat}{f:TU}{a:TR}{s:g_}(m:Sm n a):bM.p [ai n f,.lst (a.map .int)] s=.ok .non s:=by have i:=m.len;have n12:=m.n12;have e1:=M1 (ns:=a) (by ext);rw[EL.mpr m.nd]at e1;rw[m6 (by rfl)];unfold cH;simp[ll,ai,se m.bd,fv,e1]
def cX(p:Int->Bool)(q:D->Bool):∀(ns:TR),(∀i∈ns,q (.int i)=p i)->(((ns.map D.int).filter q).map λx=>x)=(ns.filter p).map .int
 |[],_=>rfl
 |i::ns,h=>by
  have a:=cX p q ns λi f=>h i (l7 _ f);rw[n8,BI,BI,h i pa]
  cases p i with
  |true=>simp only[if_true,n8,a]
  |false=>simpa using a
def E0(p:Int->Bool):D->Bool
 |.int i=>p i
 |_=>T
open Classical in
theorem NK{n:Nat}{f:TU}{M:TR}{a b:Int}{s:g_}(w:i3 n f)(j:0<=a/\a<(n:Int)):((bf.p [ai n f,.lst (M.map .int),.int a,.int b] s).bind λx r=>PR.of ((Ko I).p x .non) r)=.ok (.bl (decide (Rc f M a b))) s:=by
 have of:∀i e,Iw f M a i e->Rc f M a e:=λi e h=>by
  induction h with
  |one=>exact .base
  |more _ t m _ _ l=>exact .step l t m
 rcases EY (ps:=M) (b:=b) (s:=s) w j with⟨i,e,h⟩|⟨e,h⟩
 .rw[e,decide_eq_true (of _ _ h)];rfl
 .rw[e,decide_eq_false h];rfl
abbrev Cw(n:Nat)(ks:TU)(qs:TR)(P:TU)(M:TR)(z:T9):aA:=[J (ai n ks),J (.lst (qs.map .int)),J (.lst (P.map i_)),J (.lst (M.map .int)),z]
abbrev Pj:Xt [2]:=IL (aa 3)
abbrev Tj:Xd [2]:=(aG (bn 4 (aJ 1 [0,3] (aH (aa 3)) (ws':=[]) (jj 0) (xB (ae (Ko I) (au bf (ac (aa 1) (ac (aa 2) (ac (ae ky (aa 2) (xC (.int 0))) (ac (aa 0) a_))))) (xC .non))) (aa 0)))
 (aG (tr n3 2 (ac (aa 4) a_))
 (bn 3 (aJ 1 [4] (aH (aa 3)) (ws':=[]) (jj 0) (xB (ae (qr I) (aa 0) (aa 1))) (aa 0)))))
def JE{n:Nat}{j:TU}{qs:TR}{s:g_}(w:i3 n j)(n12:n<=12):∀(f N:Nat)(M:TR)(P:TU)(z:T9),f<N->M.length<=f->(∀x∈M,0<=x/\x<(n:Int))->P.length+f<=100->M.length<=12 ->
  ∃E,df Pj.p Tj.p N (Cw n j qs P M z) s=.nx (Cw n j qs (P++A3 j f M) [] E) s:=by
 intro f
 induction f with
 |zero =>
  intro N M P z hN F _ _ _;obtain⟨N,rfl⟩:∃m,N=m+1:=⟨N-1,by ext⟩
  have:M=[]:=CT.mp (by ext)
  subst this;refine⟨z,?_⟩;rw[df,show Pj.p (Cw n j qs P [] z) s=.ok T s by simp[jZ]];simp[A3]
 |succ f Q =>
  intro N M P z hN F G U u;obtain⟨N,rfl⟩:∃m,N=m+1:=⟨N-1,by ext⟩
  cases M with
  |nil =>
   refine⟨z,?_⟩;rw[df,show Pj.p (Cw n j qs P [] z) s=.ok T s by simp[jZ]];simp[A3]
  |cons a l =>
   have R:Pj.p (Cw n j qs P (a::l) z) s=.ok I s:=by simp[jZ]
   have C:=cD (ws:=[2]) (ws':=[]) (env:=Cw n j qs P (a::l) z) (s:=s) (fm:=[0,3]) (i:=aH (aa 3)) (t:=xB (ae (Ko I) (au bf (ac (aa 1) (ac (aa 2) (ac (ae ky (aa 2) (xC (.int 0))) (ac (aa 0) a_))))) (xC .non))) (e:=aa 0) (ds:=(a::l).map .int) (open Classical in E0 λy=>decide (Rc j (a::l) a y)) (λx=>x) (by simp) (by simp at u ⊢;ext) (λx B=>by
    obtain⟨i,O,rfl⟩:=ml.mp B;refine⟨?_,λ_=>by simp⟩;have e:=NK (M:=a::l) (b:=i) (s:=s) w (G a pa);have L:n_ ((a::l).map D.int) 0=J (.int a):=ly;simp only[cu,aI,aM,af,aw,ar,n8,Bh,B2,B3,BG,Pb,bK,aW,ID,iZ,Pf,av]at e L ⊢;rw[L];simp only[Pf,Pb];rw[e]
    rfl)
   rw[cX (open Classical in λy=>decide (Rc j (a::l) a y)) _ _ λi _=>rfl]at C;have C:(aJ 1 [0,3] (aH (aa 3)) (ws':=[]) (jj 0) (xB (ae (Ko I) (au bf (ac (aa 1) (ac (aa 2) (ac (ae ky (aa 2) (xC (.int 0))) (ac (aa 0) a_))))) (xC .non))) (aa 0):Xe [2]).p (Cw n j qs P (a::l) z) s=.ok (i_ (bD j (a::l) a)) s:=C
   have H:=cD (ws:=[2]) (ws':=[]) (env:=Cw n j qs (P++[bD j (a::l) a]) (a::l) (J (i_ (bD j (a::l) a)))) (s:=s) (fm:=[4]) (i:=aH (aa 3)) (t:=xB (ae (qr I) (aa 0) (aa 1))) (e:=aa 0) (ds:=(a::l).map .int) (E0 λy=>!decide (y∈bD j (a::l) a)) (λx=>x) (by simp) (by simp at u ⊢;ext) (λx B=>by
    obtain⟨i,O,rfl⟩:=ml.mp B;have S:=eA (neg:=I) (x:=i) (d:=i_ (bD j (a::l) a)) (xs:=bD j (a::l) a) rfl;refine⟨?_,λ_=>by simp⟩;dsimp![gc,S]
    rfl)
   rw[cX (λy=>!decide (y∈bD j (a::l) a)) _ _ λi _=>rfl,sF]at H
   obtain⟨E,e⟩:=Q N (l.filter λy=>!decide (y∈bD j (a::l) a)) (P++[bD j (a::l) a]) (J (i_ (bD j (a::l) a))) (by ext) (by
    have:=B4 (λy=>!decide (y∈bD j (a::l) a)) l
    simp at F;ext) (λx B=>G x (l7 _ (y7.mp B).1)) (by rw[wO,List.length_singleton];ext) (by
    have:=B4 (λy=>!decide (y∈bD j (a::l) a)) l
    simp at u;ext)
   refine⟨E,?_⟩;rw[df,R,Pg,b_ rfl];have st:Tj.p (Cw n j qs P (a::l) z) s=.nx (Cw n j qs (P++[bD j (a::l) a]) (l.filter λy=>!decide (y∈bD j (a::l) a)) (J (i_ (bD j (a::l) a)))) s:=by rw[aB,br,C,Pg];simp only[vT,v1,PU.aq];rw[aB,cU (s1:=s) (as:=[i_ (bD j (a::l) a)]) (ds:=P.map i_) (ds':=(P++[bD j (a::l) a]).map i_) (r:=.non) (by simp) rfl (by rw[iW (by simp;ext)];simp),PU.aq,br];refine(congrArg (λz:PR D=>z.go _ _) H).trans ?_;rfl
   rw[st];refine Eq.trans e ?_;rw[B6];show _=PS.nx (Cw n j qs (P++bD j (a::l) a::A3 j f ((a::l).filter λy=>!decide (y∈bD j (a::l) a))) [] E) s;rw[sF];rfl
def mZ{n:Nat}{f:TU}{a:TR}{s:g_}(w:i3 n f)(m:Sm n a):bE.p [ai n f,.lst (a.map .int)] s=.ok (.lst ((c_ n f a).map i_)) s:=by
 have n12:=m.n12;rw[yA (by rfl)];unfold iI;rw[show ll 5 [ai n f,.lst (a.map .int)]=[J (ai n f),J (.lst (a.map .int)),Y,Y,Y]from rfl]
 have l:=cD (ws:=[2]) (ws':=[]) (env:=[J (ai n f),J (.lst (a.map .int)),J (.lst []),Y,Y]) (s:=s) (fm:=[1]) (i:=bQ xf (ac (ae ky (aa 0) (xC (.int 0))) a_)) (t:=xB (ae (qr I) (aa 0) (aa 1))) (e:=aa 0) (ds:=(ij n).map .int) (E0 λy=>!decide (y∈a)) (λx=>x) (by
  simp only[fC,af,aI,ar,Pb,bK,aW,ai,lh,ly,Pf,av]
  rw[jD (by ext),xp,kB];rfl) (by simp[ij];ext) (λx j=>by
   obtain⟨i,B,rfl⟩:=ml.mp j;have r:=eA (neg:=I) (x:=i) (d:=.lst (a.map .int)) (xs:=a) rfl;refine⟨?_,λ_=>by simp⟩;dsimp![gc,r]
   rfl)
 rw[cX (λy=>!decide (y∈a)) _ _ λi _=>rfl]at l;have u:(zh n a).length<=n:=k9;obtain⟨C,e⟩:=JE (qs:=a) (s:=s) w n12 n 400 (zh n a) [] Y (by ext) u (λx j=>(cP.mp j).1) (by simp;ext) (by ext);rw[aB,oG,aM,af];simp![pU m,Pg,PU.aq];rw[aB,d3];simp only[dk,av,Pb,B8,t_,if_true,Pg,vT,v1,PU.aq];rw[aB,br,l,Pg];simp only[vT,v1,PU.aq];rw[aB,rK gu];refine(congrArg (λz:PS=>(z.then _).fin) e).trans ?_;rw[PU.aq,o9 (d:=.lst ((c_ n f a).map i_)) rfl,PU.gz]
def ph(a:TU)(f p:TR):TR:=(fx f).filter λx=>(wH x a).any λy=>decide (y∈p)
def vd:∀(bs:List Bool),iG (bs.map .bl)=J bs
 |[]=>rfl
 |b::bs=>by rw[n8,iG,vd bs];rfl
def E1{n:Nat}{a:TU}{f p:TR}{s:g_}(w:i3 n a)(m:Sm n f):dQ.p [ai n a,.lst (f.map .int),i_ p] s=.ok (i_ (ph a f p)) s:=by
 have C:=m.len;have n12:=m.n12
 have q:=cD (ws:=[]) (ws':=[]) (env:=[J (ai n a),J (.lst (f.map .int)),J (i_ p)]) (s:=s) (fm:=[2,0]) (i:=aH (li eX (ac (aa 1) a_))) (t:=xB (li Ex (ac (aJ 1 [1] (aH (au bg (ac (aa 2) (ac (aa 0) a_)))) (ws':=[]) (jj 0) ka (ae (qr T) (aa 0) (aa 1))) a_))) (e:=aa 0) (ds:=(fx f).map .int) (E0 λx=>(wH x a).any λy=>decide (y∈p)) (λx=>x) (by
  simp![dP,cC,kK (show f.length<64 by ext),Pf];rfl) (by rw[mm,(cY f).length_eq];ext) (λx l=>by
   obtain⟨i,z,rfl⟩:=ml.mp l;have u:=m.bd i ((cY f).mem_iff.mp z)
   have r:=cD (ws:=[]) (ws':=[]) (env:=[J (.int i),J (i_ p),J (ai n a)]) (s:=s) (fm:=[1]) (i:=aH (au bg (ac (aa 2) (ac (aa 0) a_)))) (t:=ka) (e:=ae (qr T) (aa 0) (aa 1)) (ds:=(wH i a).map .int) (λ_=>I) (λx=>.bl (E0 (λy=>decide (y∈p)) x)) (by
    simp![dP,aM,wL w u.1 u.2];rfl) (by have:=vh (v:=i) w;rw[mm];exact m_ this (by decide)) (λx l=>by
     obtain⟨j,E,rfl⟩:=ml.mp l;have B:=eA (neg:=T) (x:=j) (d:=i_ p) (xs:=p) rfl;refine⟨rfl,λ_=>?_⟩;simp only[aI,aw,ar,n8,Bh,B2,B3,BG,Pb,gc,B,Pf]
     rfl)
   rw[dN,AL]at r;have e2:(wH i a).map ((λx:D=>D.bl (E0 (λy=>decide (y∈p)) x))∘D.int)=((wH i a).map λy=>decide (y∈p)).map .bl:=by rw[AL];rfl
   rw[e2]at r;have e3:Ex.p [.lst (((wH i a).map λy=>decide (y∈p)).map .bl)]=J (.bl ((wH i a).any λy=>decide (y∈p))):=by show((J (((wH i a).map λy=>decide (y∈p)).map D.bl)).bind iG).map _=_;rw[A4,vd];simp
   refine⟨?_,λ_=>by simp⟩;simp only[cu,cC,af,n8,Bh,B2,B3,BG];rw[r];simp only[Pb,av,e3,Pf,Pl]
   rfl)
 rw[cX (λx=>(wH x a).any λy=>decide (y∈p)) _ _ λi _=>rfl]at q;rw[uu (by rfl)];unfold fe;rw[show ll 3 [ai n a,.lst (f.map .int),i_ p]=[J (ai n a),J (.lst (f.map .int)),J (i_ p)]from rfl,cw,q];rfl
def qH{a:TW}:(i5 a).length=a.length:=by simp[i5]
def pS{a:TW}{j:Nat}{d:D}(e:(i5 a)[j]?=J d):∃x,a[j]?=J x/\d=.tup [.int (j:Int),x]:=by
 unfold i5 at e;rw[tx,List.getElem?_zipIdx]at e
 cases e1:a[j]? with
 |none=>rw[e1]at e;cases e
 |some x=>rw[e1]at e;simp at e;exact⟨x,rfl,e.symm⟩
def o7{ns:TR}{s:g_}(H:ns.length<=12):bB.p [.lst (ns.map .int)] s=.ok (.lst ((aV ns ns.length).map kD)) s:=by
 rw[pj (by rfl)];unfold dw;have G:ll 4 [D.lst (ns.map .int)]=[J (.lst (ns.map .int)),Y,Y,Y]:=rfl;obtain⟨z,a,e,f,l,rfl,C⟩:=bZ (g:=(Bm (vl (jj 2) (vl (jj 3) Bl)) 2:Xg [1]).p) (b:=(tr il 1 (ac (aJ 1 [3] (aH (Cu (aa 0) (B0 (ae bF (aa 2) (xC (.int 1)))) BZ)) (ws':=[]) (jj 0) ka (aX (ac (aa 1) (ac (aa 0) a_)))) a_):Xd [1]).p)
  (λj env a=>∃f l,env=[J (.lst (ns.map .int)),J (.lst ((aV ns j).map kD)),f,l]/\a=s) (i5 (ns.map .int)) 0 [J (.lst (ns.map .int)),J (.lst []),Y,Y] s ⟨Y,Y,rfl,rfl⟩ (λj env a d ⟨f,l,u,E⟩ hd=>by
   rw[sf]at u ⊢;subst u E;obtain⟨x,y,rfl⟩:=pS hd;obtain⟨rfl,L⟩:=mP y;have F:=gO H j
   have q:=cD (ws:=[1]) (ws':=[]) (env:=[J (.lst (ns.map .int)),J (.lst ((aV ns j).map kD)),J (.int (j:Int)),J (.int (ns.getD j 0))]) (s:=a) (fm:=[3]) (i:=(aH (Cu (aa 0) (B0 (ae bF (aa 2) (xC (.int 1)))) BZ))) (t:=ka) (e:=(aX (ac (aa 1) (ac (aa 0) a_)))) (ds:=(ns.drop (j+1)).map .int) (λ_=>I) (λx=>.tup [.int (ns.getD j 0),x]) (by
     have:=sX (ns:=ns) (j:=j+1) (by ext)
     push_cast at this
     simp[this]) (by simp;ext) (λx y=>⟨rfl,λ_=>by simp⟩)
   have e2:((((ns.drop (j+1)).map D.int).filter λ_=>I).map λx=>D.tup [.int (ns.getD j 0),x])=((ns.drop (j+1)).map λb=>[ns.getD j 0,b]).map kD:=by rw[dN,AL,AL];rfl
   rw[e2]at q;refine⟨[J (.lst (ns.map .int)),J (.lst ((aV ns j).map kD)),J (.int (j:Int)),J (.int (ns.getD j 0))],_,a,by simp,cU (s1:=a) (as:=[.lst (((ns.drop (j+1)).map λb=>[ns.getD j 0,b]).map kD)]) (ds:=(aV ns j).map kD) (ds':=(aV ns (j+1)).map kD) (r:=.non) (by rw[af,q];simp only[Pb,av]) rfl ?_,_,_,rfl,rfl⟩
   rw[gv (by simp;ext),jS,CJ])
 rw[qH,mm,sf,C]at e;have B:(dB 1 (cF a_):Xd [1]).p [J (.lst (ns.map .int)),Y,Y,Y] s=.nx [J (.lst (ns.map .int)),J (.lst []),Y,Y] s:=by simp
 rw[G,aB,B,PU.aq,aB,cQ,fC,af];simp only[ar,Pb,av,MV,Pf,Pg];rw[e,PU.aq,o9 (d:=.lst ((aV ns ns.length).map kD)) rfl,PU.gz]
def mV{n:Int}{d:D}{ks:TU}{s:g_}(e:RN d ks)(l:∀k∈ks,IsT n k)(r:ks.length<=100000)(hd:(SetT.oI (ks.map p_)).length<=66):
  bv.p [d] s=.ok (.tup ((bL (SetT.oI (ks.map p_))).map kD)) s:=by
 rw[pe (by rfl)];unfold dq
 have q:=cD (ws:=[]) (ws':=[]) (env:=ll 1 [d]) (s:=s) (fm:=[]) (i:=aH (aa 0)) (t:=ka) (e:=(aX (ac (li nr (ac (aa 0) a_)) (ac (li oE (ac (aa 0) a_)) a_)))) (ds:=ks.map kD) (λ_=>I) (λx=>match cM x with|some k=>kD (p_ k)|none=>.non) (by simp[ll,e]) (by simpa using r) (λx y=>by
   obtain⟨k,f,rfl⟩:=ml.mp y;obtain⟨a,b,rfl,_⟩:=l k f;refine⟨rfl,λ_=>?_⟩
   simp[kD,Ju,Jv,cM,bw,p_])
 have e2:(((ks.map kD).filter λ_=>I).map λx=>match cM x with|some k=>kD (p_ k)|none=>.non)=(ks.map p_).map kD:=by rw[dN,AL,AL];refine KD λk f=>?_;obtain⟨a,b,rfl,_⟩:=l k f;rfl
 rw[e2]at q
 have z:=FM (ks:=ks.map p_) ⟨λk f=>by
  obtain⟨u,j,rfl⟩:=ml.mp f;obtain⟨a,b,rfl,_⟩:=l u j
  simp[p_],hd⟩
 rw[cw,cC,af,cC,af,q];simp only[Pb,av,z,Pf,sO,Pg,PU.gz]
def ik{l k:TR}:k∈aV l l.length↔∃i j:Nat,i<j/\j<l.length/\k=[l.getD i 0,l.getD j 0]:=by
 unfold aV;rw[B7];constructor
 .rintro⟨i,_,h⟩;obtain⟨b,u,rfl⟩:=ml.mp h;obtain⟨j,r,f⟩:=CU u;rw[Bs]at r;rw[J4]at f;have a:i+1+j<l.length:=by ext
  exact⟨i,i+1+j,by ext,a,by simp[List.getD,a,f]⟩
 .rintro⟨i,j,y,a,rfl⟩;refine⟨i,by simp;ext,ml.mpr ⟨l.getD j 0,?_,rfl⟩⟩;refine N6.mpr ⟨j-(i+1),by rw[Bs];ext,?_⟩;rw[J4];simp[List.getD,a,show i+1+(j-(i+1))=j by ext]
def nC{n:Nat}{l:TR}(nd:l.Nodup)(bd:∀x∈l,0<=x/\x<(n:Int)):∀k∈aV l l.length,IsT n k:=λk u=>by
 obtain⟨i,j,y,a,rfl⟩:=ik.mp u;have f:=bd (l.getD i 0) (by simp[List.getD,show i<l.length by ext]);have r:=bd (l.getD j 0) (by simp[List.getD,a]);exact⟨_,_,rfl,f.1,f.2,r.1,r.2,λe=>by have:=oe nd (show i<l.length by ext) a e;ext⟩
def lw{a b:Int}(h:a<b):p_ [a,b]=[a,b]/\p_ [b,a]=[a,b]:=by
 constructor
 .simp[p_,show ¬b<a by ext,show b>a by ext]
 .simp[p_,h,show ¬a>b by ext]
def i8{l k:TR}(nd:l.Nodup):k∈(aV l l.length).map p_↔∃a b:Int,k=[a,b]/\a<b/\a∈l/\b∈l:=by
 rw[ml];constructor
 .rintro⟨P,G,rfl⟩;obtain⟨i,j,O,y,rfl⟩:=ik.mp G;have C:l.getD i 0∈l:=by simp[List.getD,show i<l.length by ext]
  have B:l.getD j 0∈l:=by simp[List.getD,y]
  have ne:l.getD i 0≠l.getD j 0:=λe=>by have:=oe nd (show i<l.length by ext) y e;ext
  by_cases z:l.getD i 0<l.getD j 0
  .exact⟨_,_,(lw z).1,z,C,B⟩
  .exact⟨_,_,(lw (show l.getD j 0<l.getD i 0 by ext)).2,by ext,B,C⟩
 .rintro⟨a,b,rfl,h,E,F⟩;obtain⟨i,r,L⟩:=CU E;obtain⟨j,u,H⟩:=CU F;have f:l.getD i 0=a:=by simp[List.getD,r,L]
  have gj:l.getD j 0=b:=by simp[List.getD,u,H]
  rcases PC i j with z|z | z
  .exact⟨_,ik.mpr ⟨i,j,z,u,rfl⟩,by rw[f,gj];exact(lw h).1⟩
  .subst z;rw[f]at gj;ext
  .exact⟨_,ik.mpr ⟨j,i,z,r,rfl⟩,by rw[f,gj];exact(lw h).2⟩
def zi(a:TU)(f p:TR):TR:=p++ph a f p
structure Gp(n:Nat)(g:TR):Prop where
 nd:g.Nodup
 bd:∀x∈g,0<=x/\x<(n:Int)
def Gp.len{n:Nat}{g:TR}(h:Gp n g)(n12:n<=12):g.length<=12:=by
 have:=List.Nodup.length_le_of_subset (l₂:=ij 12) h.nd λx a=>by
  rw[bz];have:=h.bd x a;ext
 simpa [ij]using this
def jE{l:TU}{j p:TR}{x:Int}:x∈ph l j p↔x∈j/\∃y∈p,y∈wH x l:=by
 unfold ph;rw[y7,(cY j).mem_iff,Od];constructor
 .rintro⟨a,y,f,i⟩;exact⟨a,y,of_decide_eq_true i,f⟩
 .rintro⟨a,y,f,i⟩;exact⟨a,y,i,decide_eq_true f⟩
def JF{n:Nat}{j:TU}{f p:TR}(m:Sm n f)(pn:p.Nodup)(i:∀x∈p,x∈zh n f):Gp n (zi j f p):=by
 refine⟨?_,λx a=>?_⟩
 .unfold zi;rw[Bg];refine⟨pn,((cY f).symm.nodup m.nd).filter _,λx a y l e=>?_⟩;subst e;exact(cP.mp (i x a)).2 (jE.mp l).1
 .rcases nt.mp a with a|a
  .exact (cP.mp (i x a)).1
  .exact m.bd x (jE.mp a).1
def dJ{n:Nat}{ks:TU}{f:TR}(m:Sm n f):∀p∈c_ n ks f,Gp n (zi ks f p):=λp i =>
 JF m ((bY.ris p i).imp λ{a b} h=>by ext) (bY.sub p i)
def bN(l:TR):TU:=aV l l.length
def Cg(n:Nat)(f:TU)(a:TR):TU:=bN a++(c_ n f a).flatMap λp=>bN (zi f a p)
def An(n:Nat)(a:TU)(f:TR):TU:=(bL (SetT.oI ((Cg n a f).map p_))).filter λk=>!decide (k∈a)
def tO{l:TR}(h:l.length<=12):(bN l).length<=144:=by
 have:=gO h l.length
 unfold bN;ext
def sG{f:TR->TU}:∀{P:TU},(∀p∈P,(f p).length<=144)->(P.flatMap f).length<=144*P.length
 |[],_=>by simp
 |p::P,h=>by
  have i:=h p pa;have j:=sG (P:=P) λq a=>h q (l7 _ a);rw[PD,wO,BH];ext
def sV{n:Nat}{ks:TU}{a:TR}(m:Sm n a):∀k∈Cg n ks a,IsT n k:=λk f=>by
 rcases nt.mp f with h|h
 .exact nC m.nd m.bd k h
 .obtain⟨p,i,h⟩:=B7.mp h;have g:=dJ m p i;exact nC g.nd g.bd k h
def iS(p:TR->Bool)(q:D->Bool):∀(l:TU),(∀k∈l,q (kD k)=p k)->((l.map kD).filter q)=(l.filter p).map kD
 |[],_=>rfl
 |i::l,h=>by
  have a:=iS p q l λi f=>h i (l7 _ f);rw[n8,BI,BI,h i pa]
  cases p i with
  |true=>simp only[if_true,n8,a]
  |false=>simpa using a
def NL(f:TR->Bool):D->Bool
 |.tup a=>(match bw a with
  |some p=>f p
  |none=>T)
 |_=>T
def jk{f:TR->Bool}{k:TR}:NL f (kD k)=f k:=by simp[NL,kD,xu]
def kH:∀a:TU,PU.oy (a.map kD)=I
 |[]=>rfl
 |k::a=>by
  have:∀k:TR,PU.oy (k.map .int)=I:=λk=>by
   induction k with
   |nil=>rfl
   |cons i k f=>simpa [PU.oy,PU.flat]using f
  simp only[n8,PU.oy,kD,PU.flat,this,kH a,Bool.and_self]
def sS{n:Nat}{l:TU}{a:TR}{s:g_}(w:i3 n l)(m:Sm n a):bC.p [ai n l,.lst (a.map .int)] s=.ok (.lst ((An n l a).map kD)) s:=by
 have n12:=m.n12;have H:a.length<=12:=m_ m.len n12;have S:(c_ n l a).length<=12:=m_ (bY (ks:=l)).len (m_ k9 n12);have gl:∀p∈c_ n l a,(bN (zi l a p)).length<=144:=λp y=>tO ((dJ m p y).len n12);have O:∀j,((c_ n l a).take j).length<=12:=λj=>by rw[CH];ext
 have G:∀j,(bN a++((c_ n l a).take j).flatMap λp=>bN (zi l a p)).length<=144*13:=λj=>by
  have h1:=tO H;have h2:=sG (P:=(c_ n l a).take j) (f:=λp=>bN (zi l a p)) λp y=>gl p (N5 y)
  have:=O j
  rw[wO];ext
 obtain⟨L,u,e,z,rfl,rfl⟩:=bZ (g:=(jj 3:Xg [2]).p) (b:=(tr il 2 (ac (au bB (ac (ae bF (aa 3) (au dQ (ac (aa 0) (ac (aa 1) (ac (aa 3) a_))))) a_)) a_):Xd [2]).p)
  (λj env u=>∃z,env=[J (ai n l),J (.lst (a.map .int)),J (.lst ((bN a++((c_ n l a).take j).flatMap λp=>bN (zi l a p)).map kD)),z]/\u=s) ((c_ n l a).map i_) 0 [J (ai n l),J (.lst (a.map .int)),J (.lst ((bN a).map kD)),Y] s ⟨Y,by simp,rfl⟩ (λj env u d ⟨z,C,W⟩ hd=>by
   rw[sf]at C ⊢;subst C W;rw[tx,t0]at hd;obtain⟨p,y,rfl⟩:=hd;have B:=Be y;have g:=dJ m p B;have ga:(p++ph l a p).length<=12:=g.len n12;have E:bN a++((c_ n l a).take (j+1)).flatMap (λp=>bN (zi l a p))=(bN a++((c_ n l a).take j).flatMap λp=>bN (zi l a p))++bN (zi l a p):=by rw[B9,y,List.flatMap_append,B6];simp
   have Q:=G j;generalize hF:(bN a++((c_ n l a).take j).flatMap λp=>bN (zi l a p))=F at Q E;have gp:=gl p B;refine⟨[J (ai n l),J (.lst (a.map .int)),J (.lst (F.map kD)),J (i_ p)],_,u,rfl,cU (s1:=u) (as:=[.lst ((bN (zi l a p)).map kD)]) (ds:=F.map kD) (ds':=(F++bN (zi l a p)).map kD) (r:=.non) ?_ rfl (by rw[gv (by rw[mm,mm];ext),CJ]),J (i_ p),by rw[E];rfl,rfl⟩;simp![aM,aI,E1 w m];rw[fL (by rw[mm,mm,<-wO];ext),<-CJ];simp only[Pf,Pb,o7 ga]
   rfl)
 rw[mm,sf,CZ]at e
 have Z:=mV (n:=n) (d:=.lst ((Cg n l a).map kD)) (ks:=Cg n l a) (s:=u) rfl (sV m) (by
  have:=G 12
  rw[CD S]at this
  unfold Cg;ext) (kN (n:=n) (by ext) (nH (sV m)))
 have q:=cD (ws:=[2]) (ws':=[]) (env:=[J (ai n l),J (.lst (a.map .int)),J (.lst ((Cg n l a).map kD)),z]) (s:=u) (fm:=[0]) (i:=aH (lF bv (ac (aa 2) a_))) (t:=xB (ae (qr I) (aa 0) (ae ky (aa 1) (xC (.int 1))))) (e:=aa 0) (ds:=(bL (SetT.oI ((Cg n l a).map p_))).map kD) (NL λk=>!decide (k∈l)) (λx=>x) (by
  simp![dP,uS,Z]
  rw[b_ (show BX (.tup _)=I from kH _)];rfl) (by
  rw[mm,(bP _).length_eq]
  have:=kN (n:=n) (by ext) (nH (sV (ks:=l) m));ext) (λx U=>by
   obtain⟨k,hk,rfl⟩:=ml.mp U;have X:=lE (neg:=I) (k:=k) (d:=.tup (l.map kD)) (ks:=l) rfl;refine⟨?_,λ_=>by simp⟩;have R:ky.p (ai n l) (.int 1)=J (.tup (l.map kD)):=by simp[ai]
   dsimp![bK,aW,R,gc,X,jk]
   rfl)
 rw[iS (λk=>!decide (k∈l)) _ _ λk _=>jk,Oh]at q;rw[uw (by rfl)];unfold fD;rw[show ll 4 [ai n l,.lst (a.map .int)]=[J (ai n l),J (.lst (a.map .int)),Y,Y]from rfl];rw[aB,oG,aM,af];simp![pU m,Pg,PU.aq];rw[aB,d3];simp![aM,o7 H,Pg,vT,v1,PU.aq];rw[aB,cQ];have ei:(aH (au bE (ac (aa 0) (ac (aa 1) a_))):Xi [2]).p [J (ai n l),J (.lst (a.map .int)),J (.lst ((aV a a.length).map kD)),Y] u=.ok ((c_ n l a).map i_) u:=by simp![dP,aM,mZ w m];rfl
 rw[ei,Pg];refine(congrArg (λz:PS=>(z.then _).fin) e).trans ?_;rw[PU.aq,cw];refine(congrArg (λz:PR D=>(z.go _ _).fin) q).trans ?_;rfl
def vN{n:Nat}{f:TU}{a:TR}{s:g_}(C:n<=12)(pm:a.Perm (ij n)):fG.p [ai n f,.lst (a.map .int)] s=.ok (.bl I) s:=by
 have r:a.length=n:=by have:=pm.length_eq;simpa [ij]using this
 rw[um (by rfl)];unfold fE
 have q:=cD (ws:=[]) (ws':=[]) (env:=[J (ai n f),J (.lst (a.map .int))]) (s:=s) (fm:=[0]) (i:=aH (aa 1)) (t:=ka) (e:=(au cG (ac (ae ky (aa 1) (xC (.int 0))) (ac (aa 0) a_)))) (ds:=a.map .int) (λ_=>I) (λ_=>.bl I) (by simp) (by simp;ext) (λx y=>by
   obtain⟨i,j,rfl⟩:=ml.mp y
   have:=bz.mp (pm.mem_iff.mp j)
   exact⟨rfl,λ_=>by simp[ai,vA,this.1,this.2]⟩)
 have e2:(((a.map D.int).filter λ_=>I).map λ_=>D.bl I)=List.replicate n (.bl I):=by rw[dN,AL];exact List.eq_replicate_iff.mpr ⟨by simp[r],by simp⟩
 rw[e2]at q;have z:∀m,iG (List.replicate m (.bl I))=J (List.replicate m I):=λm=>by
  induction m with
  |zero=>rfl
  |succ m l=>rw[N7,N7,iG,l];rfl
 have e3:IA.p [.lst (List.replicate n (.bl I))]=J (.bl I):=by show((J (List.replicate n (D.bl I))).bind iG).map _=_;rw[A4,z];simp
 have B:ll 2 [ai n f,.lst (a.map .int)]=[J (ai n f),J (.lst (a.map .int))]:=rfl;have u:(r4 (fM (xB (Bb (nc ["list"]) (aa 1)))) (bu (xC (.bl T))) i4:Xd []).p [J (ai n f),J (.lst (a.map .int))] s=.nx [J (ai n f),J (.lst (a.map .int))] s:=by simp[fv]
 rw[B,aB,u,PU.aq,aB,fH,tZ,cu,cC,af,q];simp![e3,Pf,Pl,CK,Pg,pk,if_false,im,PU.aq,cw,aI,cC];rw[kK (by ext),Ab pm];simp only[Pf,Pb,ai,bK,aW,lh,ly,av];rw[FK (by ext),xp,kB];simp[jv]
def qR{n:Nat}{f:TU}{a:TR}{s:g_}(i:n<=12)(pm:a.Perm (ij n)):du.p [ai n f,.lst (a.map .int)] s=.ok .non s:=by rw[pJ (by rfl)];unfold dh;simp[ll,vN i pm]
def RV(left:TR)(x:D):Bool:=match x with
 |.int i=>decide (i∈left)
 |_=>T
def E2(v:Int)(x:D):Bool:=match cM x with
 |some k=>!decide (v∈k)
 |none=>T
@[simp]theorem NM{left:TR}{i:Int}:RV left (.int i)=decide (i∈left):=rfl
@[simp]theorem JG{v:Int}{k:TR}:E2 v (kD k)=!decide (v∈k):=by simp[E2,jq]
def Cy(v:Int)(a:TU):TU:=a.filter λk=>!decide (v∈k)
def Bo(left:TR)(v:Int)(a:TU):TR:=(wH v a).filter λx=>decide (x∈left)
def mS(left:TR)(v:Int)(a:TU):TU:=bL (SetT.oI (Cy v a++aV (Bo left v a) (Bo left v a).length))
def nR{n v:Int}{left:TR}{f:TU}(w:i3 n f):(Bo left v f).Pairwise (·<·)/\(∀x∈Bo left v f,0<=x/\x<n)/\(Bo left v f).length<=12:=by
 obtain⟨nd,l⟩:=kj (v:=v) w;have ris:=EG (v:=v) w;have lt:(wH v f).Pairwise (·<·):=by
  refine(ris.and nd).imp λ{a b} h=>?_
  have:=h.1
  have:=h.2
  ext
 refine⟨lt.filter _,λx j=>l x (y7.mp j).1,?_⟩;have i:(Bo left v f).Nodup:=nd.filter _
 have:=List.Nodup.length_le_of_subset (l₂:=ij 12) i λx j=>by
  rw[bz]
  have:=l x (y7.mp j).1
  have:=w.n12
  ext
 simpa [ij]using this
def ji{n v:Int}{left:TR}{f:TU}(w:i3 n f):∀k∈Cy v f++aV (Bo left v f) (Bo left v f).length,∃a b:Int,k=[a,b]/\0<=a/\a<b/\b<n:=λk l=>by
 obtain⟨i,j,r⟩:=nR (v:=v) (left:=left) w;rcases nt.mp l with q|q
 .exact w.tie k (y7.mp q).1
 .exact vQ i j k q
def nF{n:Int}{f:TU}(j:∀k∈f,∃a b:Int,k=[a,b]/\0<=a/\a<b/\b<n):f.map p_=f:=by
 have:f.map p_=f.map id:=KD λk i=>by
  obtain⟨a,b,rfl,_,lt,_⟩:=j k i;exact yB lt
 rw[this,List.map_id]
def E3{n v:Int}{left:TR}{a:TU}(w:i3 n a):i3 n (mS left v a):=oZ w.n0 w.n12 (ji w)
def sM{v:Int}:∀(f:TU),(((f.map kD).filter (E2 v)).map λx=>x)=(Cy v f).map kD
 |[]=>rfl
 |k::f=>by
  have a:=sM (v:=v) f;unfold Cy at a ⊢;rw[n8,BI,BI,JG];by_cases z:v∈k
  .simp[z]at a ⊢;exact a
  .simp[z]at a ⊢;exact a
def pV{left:TR}:∀(ns:TR),(((ns.map D.int).filter (RV left)).map λx=>x)=(ns.filter λx=>decide (x∈left)).map D.int
 |[]=>rfl
 |i::ns=>by
  have a:=pV (left:=left) ns;rw[n8,BI,BI,NM];by_cases z:i∈left<;>simp[z]at a ⊢<;>exact a
def E4{n v:Int}{left:TR}{f:TU}{s:g_}(w:i3 n f)(j:0<=v)(hv:v<n):dg.p [ai n f,.lst (left.map .int),.int v] s=.ok (.lst ((aV (Bo left v f) (Bo left v f).length).map kD)) s:=by
 obtain⟨B,C,r⟩:=nR (v:=v) (left:=left) w;have z:(wH v f).length<=132:=by
  have:=dU w.n12 w.tie w.nd
  have a:(below v f).length<=f.length:=N0 _ _;have b:(above v f).length<=f.length:=N0 _ _;simp[wH];ext
 rw[oX (by rfl)];unfold di;have u:ll 3 [ai n f,.lst (left.map .int),.int v]=[J (ai n f),J (.lst (left.map .int)),J (.int v)]:=rfl
 have q:=cD (ws:=[]) (ws':=[]) (env:=[J (ai n f),J (.lst (left.map .int)),J (.int v)]) (s:=s) (fm:=[1]) (i:=aH (au bg (ac (aa 0) (ac (aa 2) a_)))) (t:=xB (ae (qr T) (aa 0) (aa 1))) (e:=aa 0) (ds:=(wH v f).map .int) (RV left) (λx=>x) (by simp[wL w j hv]) (by simp;ext) (λx l=>by
   obtain⟨i,y,rfl⟩:=ml.mp l
   exact⟨by simp[eA (d:=.lst (left.map .int)) rfl],λ_=>by simp⟩)
 rw[pV]at q;rw[u,cw,aM,af,q]
 have:=o7 (ns:=Bo left v f) (s:=s) r
 simp only[Pb,av];unfold Bo at this ⊢;rw[this];simp
def tz{n v:Int}{left:TR}{a:TU}{s:g_}(w:i3 n a)(j:0<=v)(hv:v<n)(f:∀x∈left,0<=x/\x<n):cW.p [ai n a,.lst (left.map .int),.int v] s=.ok (ai n (mS left v a)) s:=by
 have l:a.length<=66:=dU w.n12 w.tie w.nd;obtain⟨E,F,B⟩:=nR (v:=v) (left:=left) w;have G:=gO B (Bo left v a).length;have H:(Cy v a).length<=66:=m_ (B4 _ _) l;rw[qQ (by rfl)];unfold dC;have C:ll 4 [ai n a,.lst (left.map .int),.int v]=[J (ai n a),J (.lst (left.map .int)),J (.int v),Y]:=rfl
 have q:=cD (ws:=[]) (ws':=[]) (env:=[J (ai n a),J (.lst (left.map .int)),J (.int v),Y]) (s:=s) (fm:=[2]) (i:=aH (ae ky (aa 0) (xC (.int 1)))) (t:=xB (ae (qr I) (aa 1) (aa 0))) (e:=aa 0) (ds:=a.map kD) (E2 v) (λx=>x) (by simp[ai]) (by simp;ext) (λx y=>by
   obtain⟨k,L,rfl⟩:=ml.mp y
   exact⟨by simp[eA (d:=kD k) (xs:=k) rfl],λ_=>by simp⟩)
 rw[sM]at q;have r:=mV (n:=n) (d:=.lst ((Cy v a++aV (Bo left v a) (Bo left v a).length).map kD)) (s:=s) rfl (yf (ji w)) (by simp;ext) (by rw[nF (ji (v:=v) (left:=left) w)];exact kN w.n12 (ji w));rw[nF (ji (v:=v) (left:=left) w)]at r;have u:(cZ (au bc (ac (ae ky (aa 0) (xC (.int 0))) (ac (aa 2) a_))):Xd []).p [J (ai n a),J (.lst (left.map .int)),J (.int v),Y] s=.nx [J (ai n a),J (.lst (left.map .int)),J (.int v),Y] s:=by simp[ai,oP j hv]
 have z:(cZ (au bH (ac (ae ky (aa 0) (xC (.int 0))) (ac (aa 1) a_))):Xd []).p [J (ai n a),J (.lst (left.map .int)),J (.int v),Y] s=.nx [J (ai n a),J (.lst (left.map .int)),J (.int v),Y] s:=by simp[ai,se f]
 rw[C,aB,u,PU.aq,aB,z,PU.aq,aB,br,q];simp![Pg,PU.aq,vT,v1,cw,eB,aI,bK,aW,aM,E4 w j hv];rw[fL (by simp;ext)];rw[CJ]at r;simp only[Pf,Pb,r,av,ai,lh,ly];simp[mS]
def b7(f:TU)(a:TR):Nat->TU
 |0=>f
 |j+1=>mS (a.drop j) (a.getD j 0) (b7 f a j)
def b9(a:TU)(f:TR):Nat->TU
 |0=>a
 |j+1=>b9 a f j++b7 a f (j+1)
def fu(f:TU)(a:TR):TU:=bL (SetT.oI (b9 f a a.length))
def dZ{n:Int}{a:TU}{qs:TR}(w:i3 n a):∀j,i3 n (b7 a qs j)
 |0=>w
 |j+1=>E3 (dZ w j)
def hZ{n:Int}{i:TU}{qs:TR}(w:i3 n i):∀j,(∀k∈b9 i qs j,∃a b:Int,k=[a,b]/\0<=a/\a<b/\b<n)/\(b9 i qs j).length<=66+66*j
 |0=>⟨w.tie,by have:=dU w.n12 w.tie w.nd;simpa [b9]using this⟩
 |j+1=>by
  obtain⟨a,b⟩:=hZ (qs:=qs) w j;have f:=dZ (qs:=qs) w (j+1)
  have:=dU f.n12 f.tie f.nd
  refine⟨λk l=>?_,by rw[b9,wO];ext⟩;rw[b9]at l;rcases nt.mp l with q|q
  .exact a k q
  .exact f.tie k q
def mI{n:Int}{a:TU}{qs:TR}(w:i3 n a):i3 n (fu a qs):=oZ w.n0 w.n12 (hZ w _).1
def AA{n:Nat}{f:TU}{a:TR}{s:g_}(w:i3 n f)(o:Ord n a):fS.p [ai n f,.lst (a.map .int)] s=.ok (ai n (fu f a)) s:=by
 have X:f.length<=66:=dU w.n12 w.tie w.nd;have ql:=o.len;have n12:=o.n12;rw[yF (by rfl)];unfold ir;have W:ll 6 [ai n f,.lst (a.map .int)]=[J (ai n f),J (.lst (a.map .int)),Y,Y,Y,Y]:=rfl
 obtain⟨H,y,e,C,z,rfl,Q⟩:=bZ (g:=(Bm (vl (jj 4) (vl (jj 5) Bl)) 2:Xg [2]).p) (b:=(aG (bn 3 (au cW (ac (aa 3) (ac (Cu (aa 1) (B0 (aa 4)) BZ) (ac (aa 5) a_)))))
 (tr il 2 (ac (ae ky (aa 3) (xC (.int 1))) a_)):Xd [2]).p)
  (λj env y=>∃C z,env=[J (ai n f),J (.lst (a.map .int)),J (.lst ((b9 f a j).map kD)),J (ai n (b7 f a j)),C,z]/\y=s) (i5 (a.map .int)) 0 [J (ai n f),J (.lst (a.map .int)),J (.lst (f.map kD)),J (ai n f),Y,Y] s ⟨Y,Y,rfl,rfl⟩ (λj env y d ⟨C,z,G,R⟩ hd=>by
   rw[sf]at G ⊢;subst G R;obtain⟨x,E,rfl⟩:=pS hd;obtain⟨rfl,F⟩:=mP E;have U:=dZ (qs:=a) w j;have u:=dZ (qs:=a) w (j+1);have Z:=(hZ (qs:=a) w j).2;have l2:=dU u.n12 u.tie u.nd;have st:=tz (left:=a.drop j) (s:=y) U (o.at F).1 (o.at F).2 (λx E=>o.bd x (N4 E));have S:=sX (ns:=a) (j:=j) (by ext);refine⟨[J (ai n f),J (.lst (a.map .int)),J (.lst ((b9 f a j).map kD)),J (ai n (b7 f a j)),J (.int (j:Int)),J (.int (a.getD j 0))],[J (ai n f),J (.lst (a.map .int)),J (.lst ((b9 f a (j+1)).map kD)),J (ai n (b7 f a (j+1))),J (.int (j:Int)),J (.int (a.getD j 0))],y,by simp,?_,_,_,rfl,rfl⟩;rw[aB,br];simp![aM,vU,rm,rn,wF,S,Pf,st,Pg,vT,v1,PU.aq]
   rw[cU (s1:=y) (as:=[.tup ((b7 f a (j+1)).map kD)]) (ds:=(b9 f a j).map kD) (ds':=(b9 f a (j+1)).map kD) (r:=.non) (by simp[ai,b7]) rfl (by
    rw[yQ (by simp;ext),b9,CJ])]
   rfl)
 rw[qH,mm,sf,Q]at e;obtain⟨at',al⟩:=hZ (qs:=a) w a.length;have r:=mV (n:=n) (d:=.lst ((b9 f a a.length).map kD)) (s:=s) rfl (yf at') (by ext) (by rw[nF at'];exact kN w.n12 at');rw[nF at']at r;rw[W,aB,oG,aM,af];simp![qR o.n12 o.pm,Pg,PU.aq];rw[aB,d3,cC,af,aI];simp only[ar,Pb,bK,aW,ai,lh,L0,Pf,av];rw[EF (by simp;ext)];simp![Pf,Pg,vT,v1,PU.aq,aB,br,cQ,fC,MV];unfold ai at e;rw[e];simp![PU.aq,cw,eB,aI,bK,aW,lh,ly,Pf,uS];rw[r];have O:BX (D.tup ((bL (SetT.oI (b9 f a a.length))).map kD))=I:=by
  have L:∀k:TR,oy (k.map .int)=I:=λk=>by
   induction k with
   |nil=>rfl
   |cons i k B=>simp[oy,flat,B]
  have P:∀l:TU,oy (l.map kD)=I:=λl=>by
   induction l with
   |nil=>rfl
   |cons i k B=>simp[oy,flat,B,kD,L]
  simp[BX,flat,P]
 simp[O,fu]
def E5(a:TU)(x:D):Bool:=match cM x with
 |some k=>!decide (k∈a)
 |none=>T
@[simp]theorem JH{ks:TU}{k:TR}:E5 ks (kD k)=!decide (k∈ks):=by simp[E5,jq]
def i9(a:TU)(f:TR):TU:=(fu a f).filter λk=>!decide (k∈a)
def sZ{ks:TU}:∀(a:TU),(((a.map kD).filter (E5 ks)).map λx=>x)=(a.filter λk=>!decide (k∈ks)).map kD
 |[]=>rfl
 |k::a=>by
  have f:=sZ (ks:=ks) a;rw[n8,BI,BI,JH];by_cases z:k∈ks<;>simp[z]at f ⊢<;>exact f
def zX{n:Nat}{f:TU}{qs:TR}(w:i3 n f):(i9 f qs).length<=66/\∀k∈i9 f qs,∃a b:Int,k=[a,b]/\0<=a/\a<b/\b<(n:Int):=by have wf:=mI (qs:=qs) w;exact⟨m_ (B4 _ _) (dU wf.n12 wf.tie wf.nd),λk i=>wf.tie k (y7.mp i).1⟩
inductive Wy(ks:TU)(P:Int->Prop):Int->Int->Prop where
 |tie{a b:Int}:Td ks a b->Wy ks P a b
 |thru{a b c:Int}:Wy ks P a c->P c->Wy ks P c b->Wy ks P a b
def Wy.symm{f:TU}{P:Int->Prop}{a b:Int}(h:Wy f P a b):Wy f P b a:=by
 induction h with
 |tie t=>exact .tie t.symm
 |thru _ p _ i j=>exact .thru j p i
def Wy.mono{f:TU}{P Q:Int->Prop}(l:∀x,P x->Q x){a b:Int}(h:Wy f P a b):Wy f Q a b:=by
 induction h with
 |tie t=>exact .tie t
 |thru _ p _ i j=>exact .thru i (l _ p) j
def Wy.cut{f:TU}{P Q:Int->Prop}{v:Int}(y:∀x,Q x->P x\/x=v){a b:Int}(h:Wy f Q a b):Wy f P a b\/(Wy f P a v/\Wy f P v b):=by
 induction h with
 |tie t=>exact .inl (.tie t)
 |@thru a b c _ p _ i j =>
  rcases y _ p with p|rfl
  .rcases i with i|⟨l,z⟩<;>rcases j with j|⟨u,r⟩
   .exact .inl (.thru i p j)
   .exact .inr ⟨.thru i p u,r⟩
   .exact .inr ⟨l,.thru z p j⟩
   .exact .inr ⟨l,r⟩
  .exact .inr ⟨i.elim id (·.1),j.elim id (·.2)⟩
def wA{ns:TR}(u:ns.Pairwise (·<·)){a b:Int}:[a,b]∈aV ns ns.length↔a∈ns/\b∈ns/\a<b:=by
 unfold aV;rw[B7];constructor
 .rintro⟨i,f,h⟩;rw[C1]at f;obtain⟨c,r,e⟩:=ml.mp h;injection e with e1 e
  injection e with e2 _
  subst e1 e2;have e1:ns.getD i 0=ns[i]:=by simp[List.getD,f]
  rw[e1];obtain⟨j,l,y⟩:=CU r;rw[Bs]at l;rw[J4]at y;have lt:=CQ.mp u i (i+1+j) f (by ext) (by ext);rw[y]at lt;exact⟨PK f,N4 r,lt⟩
 .rintro⟨B,C,lt⟩;obtain⟨i,f,rfl⟩:=CU B;obtain⟨j,l,rfl⟩:=CU C;have E:i<j:=by
   rcases PC i j with z|z | z
   .exact z
   .subst z;ext
   .have:=CQ.mp u j i l f z;ext
  refine⟨i,C1.mpr f,ml.mpr ⟨ns[j],?_,by simp[List.getD,f]⟩⟩;rw[N6];exact⟨j-(i+1),by rw[Bs];ext,by rw[J4];congr 1;ext⟩
def kJ{n v:Int}{left:TR}{B:TU}(w:i3 n B){x y:Int}:Td (mS left v B) x y↔(Td B x y/\x≠v/\y≠v)\/(x≠y/\x∈left/\y∈left/\Td B v x/\Td B v y):=by
 obtain⟨C,E,F⟩:=nR (v:=v) (left:=left) w;have mem:∀a b:Int,[a,b]∈mS left v B↔([a,b]∈B/\a≠v/\b≠v)\/(a<b/\a∈left/\b∈left/\Td B v a/\Td B v b):=λa b=>by
  unfold mS;rw[(bP _).mem_iff,SetT.fY,nt,wA C];unfold Cy Bo;rw[y7,y7,y7,f7 w,f7 w];simp only[l_,J6,or_false,F0,decide_eq_false_iff_not,decide_eq_true_eq,not_or];constructor
  .rintro (⟨q,r,i⟩|⟨⟨j,l⟩,⟨u,f⟩,lt⟩)
   .exact .inl ⟨q,λz=>r z.symm,λz=>i z.symm⟩
   .exact .inr ⟨lt,l,f,j,u⟩
  .rintro (⟨q,r,i⟩|⟨lt,l,f,j,u⟩)
   .exact .inl ⟨q,λz=>r z.symm,λz=>i z.symm⟩
   .exact .inr ⟨⟨j,l⟩,⟨u,f⟩,lt⟩
 unfold Td;rw[mem,mem];constructor
 .rintro ((⟨q,r,i⟩|⟨lt,l,f,j,u⟩)|⟨q,r,i⟩|⟨lt,l,f,j,u⟩)
  .exact .inl ⟨.inl q,r,i⟩
  .exact .inr ⟨by ext,l,f,j,u⟩
  .exact .inl ⟨.inr q,i,r⟩
  .exact .inr ⟨by ext,f,l,u,j⟩
 .rintro (⟨q|q,r,i⟩|⟨ne,l,f,j,u⟩)
  .exact .inl (.inl ⟨q,r,i⟩)
  .exact .inr (.inl ⟨q,i,r⟩)
  .rcases Int.lt_or_gt_of_ne ne with lt|lt
   .exact .inl (.inr ⟨lt,l,f,j,u⟩)
   .exact .inr (.inr ⟨lt,f,l,u,j⟩)
def mK{n:Nat}{u:TU}{f:TR}(w:i3 n u)(nd:f.Nodup):∀j,j<=f.length->(∀x y:Int,x≠y->x∈f.drop j->y∈f.drop j->(Td (b7 u f j) x y↔Wy u (·∈f.take j) x y))/\∀x y:Int,x∈f.take j->¬Td (b7 u f j) x y
 |0,_=>by
  refine⟨λx y _ _ _=>⟨.tie,λh=>?_⟩,λx y h=>by simp at h⟩
  have:∀a b,Wy u (·∈f.take 0) a b->Td u a b:=λa b h=>by
   induction h with
   |tie t=>exact t
   |thru _ p=>simp at p
  exact this _ _ h
 |j+1,hj=>by
  obtain⟨F,io⟩:=mK w nd j (by ext);have l:j<f.length:=by ext
  have O:=dZ (qs:=f) w j;have S:f.getD j 0=f[j]:=by simp[List.getD,l]
  have G:f.drop j=f[j]::f.drop (j+1):=Fe l;have L:f.take (j+1)=f.take j++[f[j]]:=by rw[B9];simp[l]
  have Q:f[j]∉f.drop (j+1):=by
   have:=List.Nodup.sublist (Ob j f) nd
   rw[G]at this;exact(F4.mp this).1
  have dt:∀x,x∈f.take j->x∉f.drop j:=λx B C=>by
   have:=nd
   rw[<-CF j f,Bg]at this;exact this.2.2 x B x C rfl
  have mv:f[j]∈f.drop j:=by rw[G];exact pa
  have r:∀x,x∈f.drop (j+1)->x∈f.drop j:=λx h=>by rw[G];exact l7 _ h
  have X:∀x,x∈f.take (j+1)->x∈f.take j\/x=f[j]:=λx h=>by
   rw[L]at h;rcases nt.mp h with h|h
   .exact .inl h
   .exact .inr (by simpa using h)
  have H:∀x,x∈f.take j->x∈f.take (j+1):=λx h=>by rw[L];exact xn _ h
  have qv:f[j]∈f.take (j+1):=by rw[L];exact q0 _ pa
  refine⟨λx y ne i E=>?_,λx y i h=>?_⟩
  .have W:x≠f[j]:=λz=>Q (z▸i);have R:y≠f[j]:=λz=>Q (z▸E);rw[b7,kJ O,S];have P:=F x y ne (r x i) (r y E);have Z:=F f[j] x (Ne.symm W) mv (r x i);have U:=F f[j] y (Ne.symm R) mv (r y E);constructor
   .rintro (⟨h,_⟩|⟨_,_,_,B,C⟩)
    .exact (P.mp h).mono H
    .exact .thru ((Z.mp B).mono H).symm qv ((U.mp C).mono H)
   .intro h;rcases h.cut X with h|⟨B,C⟩
    .exact .inl ⟨P.mpr h,W,R⟩
    .exact .inr ⟨ne,r x i,r y E,Z.mpr B.symm,U.mpr C⟩
  .rw[b7,kJ O,S]at h;rcases X x i with i|rfl
   .rcases h with⟨h,_⟩|⟨_,h,_⟩
    .exact io x y i h
    .exact dt x i h
   .rcases h with⟨_,h,_⟩|⟨_,_,_,h,_⟩
    .exact h rfl
    .exact (rG O h).1 rfl
def mU{a:TU}{l:TR}{k:TR}:∀j,k∈b9 a l j↔∃i≤j,k∈b7 a l i
 |0=>⟨λh=>⟨0,ia _,h⟩,λ⟨i,f,h⟩=>by
  have z:i=0:=by ext
  subst z;exact h⟩
 |j+1=>by
  rw[b9,nt,mU j];constructor
  .rintro (⟨i,f,h⟩|h)
   .exact⟨i,by ext,h⟩
   .exact⟨j+1,ia _,h⟩
  .rintro⟨i,f,h⟩;by_cases z:i=j+1
   .subst z;exact .inr h
   .exact .inl ⟨i,by ext,h⟩
def xF{n:Nat}{u:TU}{f:TR}(w:i3 n u)(nd:f.Nodup){i j:Nat}{a b:Int}(B:f[i]?=J a)(C:f[j]?=J b)(ne:a≠b):Td (fu u f) a b↔Wy u (·∈f.take (min i j)) a b:=by
 obtain⟨L,S⟩:=qp.mp B;obtain⟨H,U⟩:=qp.mp C;have y:∀{m i:Nat}{a:Int},f[i]?=J a->m<=i->a∈f.drop m:=λ{m i a} h E=>by
  obtain⟨r,l⟩:=qp.mp h;rw[N6];exact⟨i-m,by rw[Bs];ext,by rw[J4,<-l];congr 1;ext⟩
 have mt:∀{m i:Nat}{a:Int},f[i]?=J a->i<m->a∈f.take m:=λ{m i a} h E=>by
  obtain⟨r,l⟩:=qp.mp h;rw[N6];exact⟨i,by rw[CH];ext,by rw[List.getElem_take];exact l⟩
 have mem:∀k,k∈fu u f↔∃m≤f.length,k∈b7 u f m:=λk=>by
  unfold fu;rw[(bP _).mem_iff,SetT.fY,mU]
 have R:Td (fu u f) a b↔∃m≤f.length,Td (b7 u f m) a b:=by
  unfold Td;rw[mem,mem];constructor
  .rintro (⟨m,r,l⟩|⟨m,r,l⟩)
   .exact⟨m,r,.inl l⟩
   .exact⟨m,r,.inr l⟩
  .rintro⟨m,r,l|l⟩
   .exact .inl ⟨m,r,l⟩
   .exact .inr ⟨m,r,l⟩
 rw[R];constructor
 .rintro⟨m,E,h⟩;obtain⟨G,F⟩:=mK w nd m E;have O:m<=i:=Nat.le_of_not_lt λz=>F a b (mt B z) h;have P:m<=j:=Nat.le_of_not_lt λz=>F b a (mt C z) h.symm;exact((G a b ne (y B O) (y C P)).mp h).mono λx Q=>(List.take_subset_take_left f (by ext)) Q
 .intro h;obtain⟨G,F⟩:=mK w nd (min i j) (by ext);exact⟨min i j,by ext,(G a b ne (y B (by ext)) (y C (by ext))).mpr h⟩
def JI{n:Nat}{a:TU}{f:TR}{s:g_}(w:i3 n a)(o:Ord n f):kq.p [ai n a,.lst (f.map .int)] s=.ok (.lst ((i9 a f).map kD)) s:=by
 have wf:=mI (qs:=f) w;have r:=dU wf.n12 wf.tie wf.nd;rw[ET (by rfl)];unfold kF;have l:ll 2 [ai n a,.lst (f.map .int)]=[J (ai n a),J (.lst (f.map .int))]:=rfl
 have q:=cD (ws:=[]) (ws':=[]) (env:=[J (ai n a),J (.lst (f.map .int))]) (s:=s) (fm:=[0]) (i:=aH (ae ky (au fS (ac (aa 0) (ac (aa 1) a_))) (xC (.int 1)))) (t:=xB (ae (qr I) (aa 0) (ae ky (aa 1) (xC (.int 1))))) (e:=aa 0) (ds:=(fu a f).map kD) (E5 a) (λx=>x) (by simp[AA w o];simp[ai]) (by simp;ext) (λx j=>by
   obtain⟨k,u,rfl⟩:=ml.mp j
   exact⟨by simp[ai,lE (d:=.tup (a.map kD)) rfl],λ_=>by simp⟩)
 rw[sZ]at q;rw[l,cw,q];rfl
abbrev tD(B:TU):D:=.dic B (B.map λ_=>.bl I)
def JJ{a b:Int}:cM (.tup [.int a,.int b])=J [a,b]:=rfl
def xK{B:TU}{k:TR}:D.dic (j_ B (B.map λ_=>D.bl I) k (.bl I)).1 (j_ B (B.map λ_=>D.bl I) k (.bl I)).2=tD (SetT.bh B k):=by
 have:(j_ B (B.map λ_=>D.bl I) k (.bl I)).1=SetT.bh B k/\(j_ B (B.map λ_=>D.bl I) k (.bl I)).2=(SetT.bh B k).map λ_=>.bl I:=by
  induction B with
  |nil=>exact⟨rfl,rfl⟩
  |cons x B j =>
   obtain⟨i,a⟩:=j;by_cases e:x=k
   .subst e
    have:SetT.bh (x::B) x=x::B:=by simp[SetT.bh]
    rw[this];simp[j_]
   .have f:SetT.bh (x::B) k=x::SetT.bh B k:=by
     unfold SetT.bh;by_cases h:k∈B
     .rw[b_ h,b_ (l7 _ h)]
     .rw[e_ h,e_ (by simp[h,Ne.symm e])];rfl
    rw[f];simp[j_,e,i,a]
 rw[this.1,this.2]
def FO:∀{B:TU}{k:TR},(Bk B (B.map λ_=>D.bl I) k).isSome=decide (k∈B)
 |[],k=>by simp[Bk]
 |x::B,k=>by
  have a:=FO (B:=B) (k:=k);unfold Bk;by_cases e:x=k
  .simp[e]
  .simp[e,Ne.symm e,a]
def NN{f:Bool}{a b:Int}{B:TU}:(ue f).p (.tup [.int a,.int b]) (tD B)=J (.bl (if f then !decide ([a,b]∈B)else decide ([a,b]∈B))):=by show(cM (.tup [.int a,.int b])).map (λi=>D.bl (if f then !(Bk B (B.map λ_=>D.bl I) i).isSome else(Bk B (B.map λ_=>D.bl I) i).isSome))=_;rw[JJ,KO,FO]
def stK(B:TU)(l:TU):TU:=l.foldl SetT.bh B
def oY{B l m:TU}:stK B (l++m)=stK (stK B l) m:=Pz
def oS{B l:TU}:(stK B l).length<=B.length+l.length:=by
 induction l generalizing B with
 |nil=>simp[stK]
 |cons k l a =>
  have f:(SetT.bh B k).length<=B.length+1:=by unfold SetT.bh;split<;>simp
  have i:=a (B:=SetT.bh B k);show(stK (SetT.bh B k) l).length<=_;rw[BH];ext
def Ap(f:TU)(a:Int)(l:TR):TU:=(l.filter λb=>decide (a<b/\[a,b]∉f)).map λb=>[a,b]
def Bp(f:TU)(g l:TR):TU:=l.flatMap λa=>Ap f a g
def sq(a:TU)(G:TU):TU:=G.flatMap λg=>Bp a g g
def uP{ks:TU}{a:Int}{l:TR}:(Ap ks a l).length<=l.length:=by unfold Ap;rw[mm];exact B4 _ _
def vM{ks:TU}{g:TR}:∀{l:TR},(Bp ks g l).length<=g.length*l.length
 |[]=>by simp[Bp]
 |a::l=>by
  have f:=uP (ks:=ks) (a:=a) (l:=g);have i:=vM (ks:=ks) (g:=g) (l:=l);have e:Bp ks g (a::l)=Ap ks a g++Bp ks g l:=rfl;rw[e,wO,BH,Nat.mul_add];ext
def JK{ks G:TU}{k:TR}:k∈sq ks G↔∃g∈G,∃a b:Int,k=[a,b]/\a<b/\a∈g/\b∈g/\k∉ks:=by
 unfold sq Bp Ap;rw[B7];refine exists_congr λg=>and_congr_right λ_=>?_;rw[B7];constructor
 .rintro⟨a,j,h⟩;obtain⟨b,u,rfl⟩:=ml.mp h;obtain⟨i,f⟩:=y7.mp u;have f:=of_decide_eq_true f;exact⟨a,b,rfl,f.1,j,i,f.2⟩
 .rintro⟨a,b,rfl,i,f,l,r⟩;exact⟨a,f,ml.mpr ⟨b,y7.mpr ⟨l,decide_eq_true ⟨i,r⟩⟩,rfl⟩⟩
def yS{B:TU}(a:∀k∈B,k≠[])(f:B.length<=66):eX.p [.lst (B.map kD)]=J (.lst ((bL B).map kD)):=by
 cases B with
 |nil =>
  have e1:bL []=[]:=CT.mp (by rw[(bP []).length_eq];rfl);have e2:fx []=[]:=CT.mp (by rw[(cY []).length_eq];rfl)
  have:=kK (ns:=[]) (by simp)
  rw[e2]at this;rw[e1];exact this
 |cons k B =>
  show(lN ((k::B).map kD)).map _=_;have e:bw ((k::B).map kD)=Y:=rfl;unfold lN;rw[e];dsimp only;rw[iT];dsimp only;rw[b_ ⟨a,f⟩];rfl
def xY:∀{l B:TU},(B++l).Nodup->stK B l=B++l
 |[],B,_=>by simp[stK]
 |k::l,B,h=>by
  have a:k∉B:=λz=>by
   rw[Bg]at h;exact h.2.2 k z k pa rfl
  have e:SetT.bh B k=B++[k]:=e_ a;show stK (SetT.bh B k) l=_;rw[e,xY (by rw[B6];exact h),B6];rfl
abbrev r_(n:Nat)(ks:TU)(qs:TR)(TT:TU)(L:T9)(z3 z5 z6 z7 z8:T9):aA:=[J (ai n ks),J (.lst (qs.map .int)),J (tD TT),z3,L,z5,z6,z7,z8]
abbrev RW:Xd [2,4]:=lC 2 (xC (.bl I)) (aa 3)
def JL{n:Nat}{ks:TU}{qs:TR}{z3 z4 z5 z6 z7 z8:T9}{s:g_}(w:i3 n ks):
  ∃f,(cE (aH (ae ky (aa 0) (xC (.int 1)))) (jj 3) RW:Xd [2,4]).p (r_ n ks qs [] z4 z3 z5 z6 z7 z8) s=.nx (r_ n ks qs ks z4 f z5 z6 z7 z8) s:=by
 have E:=dU w.n12 w.tie w.nd;obtain⟨r,a,e,f,rfl,rfl⟩:=bZ (g:=(jj 3:Xg [2,4]).p) (b:=RW.p) (λj env a=>∃z3,env=r_ n ks qs (stK [] (ks.take j)) z4 z3 z5 z6 z7 z8/\a=s) (ks.map kD) 0
  (r_ n ks qs [] z4 z3 z5 z6 z7 z8) s ⟨z3,rfl,rfl⟩ (λj env a d ⟨z3,i,z⟩ hd=>by
   rw[sf]at i ⊢;subst i z;rw[tx,t0]at hd;obtain⟨k,y,rfl⟩:=hd;have u:=oS (B:=[]) (l:=ks.take j);rw[CH,B8]at u;have e:RW.p (r_ n ks qs (stK [] (ks.take j)) z4 (J (kD k)) z5 z6 z7 z8) a=.nx (r_ n ks qs (SetT.bh (stK [] (ks.take j)) k) z4 (J (kD k)) z5 z6 z7 z8) a:=by show _=PS.nx [J (ai n ks),J (.lst (qs.map .int)),J (tD (SetT.bh (stK [] (ks.take j)) k)),_,_,_,_,_,_] a;rw[vw,<-xK];exact rN (v:=.bl I) (s1:=a) (s2:=a) (k:=kD k) (j:=k) (ks:=stK [] (ks.take j)) (ds:=(stK [] (ks.take j)).map λ_=>.bl I) rfl rfl (jq k) rfl (by ext)
   refine⟨_,_,a,rfl,e,J (kD k),?_,rfl⟩;rw[B9,y,Option.toList_some,oY]
   rfl)
 rw[mm,sf,CZ]at e;rw[xY (by simpa using w.nd)]at e;refine⟨f,?_⟩;rw[cQ];have C:(aH (ae ky (aa 0) (xC (.int 1))):Xi [2,4]).p (r_ n ks qs [] z4 z3 z5 z6 z7 z8) a=.ok (ks.map kD) a:=by simp[ai]
 rw[C,Pg];exact e
abbrev RX:Xd [2,4]:=(r4 (xB (ae BD (aa 7) (aa 8))) (lC 2 (xC (.bl I)) (aX (ac (aa 7) (ac (aa 8) a_)))) i4)
def JM{n:Nat}{ks TT:TU}{qs:TR}{a b:Int}{L z3 z5 z6:T9}{s:g_}(l:TT.length<100000):
  RX.p (r_ n ks qs TT L z3 z5 z6 (J (.int a)) (J (.int b))) s=.nx (r_ n ks qs (stK TT (Ap [] a [b])) L z3 z5 z6 (J (.int a)) (J (.int b))) s:=by
 have i:∀{x y:D}{s:g_},(if [x,y].length<=100000 then PR.ok (D.tup [x,y]) s else .bad)=.ok (.tup [x,y]) s:=λ{x y s}=>b_ (by simp);have f:(xB (ae BD (aa 7) (aa 8)):Xt [2,4]).p (r_ n ks qs TT L z3 z5 z6 (J (.int a)) (J (.int b))) s=.ok (decide (a<b)) s:=by simp
 rw[fH,f,Pg];by_cases z:a<b
 .rw[b_ (by simpa using z)];have e:Ap [] a [b]=[[a,b]]:=by simp[Ap,z]
  rw[e,vw];refine(rN (v:=.bl I) (s1:=s) (s2:=s) (k:=.tup [.int a,.int b]) (j:=[a,b]) (ks:=TT) (ds:=TT.map λ_=>.bl I) rfl ?_ rfl rfl l).trans ?_
  .simp![eB,i]
  .rw[xK];rfl
 .rw[e_ (by simpa using z)];have e:Ap [] a [b]=[]:=by simp[Ap,z]
  rw[e];rfl
abbrev Pk:Xd [2,4]:=(cE (aH (aa 6)) (jj 8) RX)
def JN{n:Nat}{ks TT:TU}{qs g:TR}{a:Int}{L z3 z5 z8:T9}{s:g_}(F:g.length<=12)(H:TT.length+12<100000):
  ∃i,Pk.p (r_ n ks qs TT L z3 z5 (J (i_ g)) (J (.int a)) z8) s=.nx (r_ n ks qs (stK TT (Ap [] a g)) L z3 z5 (J (i_ g)) (J (.int a)) i) s:=by
 obtain⟨u,f,e,i,rfl,rfl⟩:=bZ (g:=(jj 8:Xg [2,4]).p) (b:=RX.p) (λj env f=>∃z8,env=r_ n ks qs (stK TT (Ap [] a (g.take j))) L z3 z5 (J (i_ g)) (J (.int a)) z8/\f=s) (g.map .int) 0
  (r_ n ks qs TT L z3 z5 (J (i_ g)) (J (.int a)) z8) s ⟨z8,rfl,rfl⟩ (λj env f d ⟨z8,r,C⟩ hd=>by
   rw[sf]at r ⊢;subst r C;rw[tx,t0]at hd;obtain⟨b,y,rfl⟩:=hd;have G:=oS (B:=TT) (l:=Ap [] a (g.take j));have z:=uP (ks:=[]) (a:=a) (l:=g.take j);rw[CH]at z;have e:=JM (n:=n) (ks:=ks) (qs:=qs) (TT:=stK TT (Ap [] a (g.take j))) (a:=a) (b:=b) (L:=L) (z3:=z3) (z5:=z5) (z6:=J (i_ g)) (s:=f) (by ext);refine⟨_,_,f,rfl,e,J (.int b),?_,rfl⟩;rw[B9,y]
   have:Ap [] a (g.take j++[b])=Ap [] a (g.take j)++Ap [] a [b]:=by simp[Ap]
   show _=r_ n ks qs (stK TT (Ap [] a (g.take j++[b]))) _ _ _ _ _ _
   rw[this,oY])
 rw[mm,sf,CZ]at e;refine⟨i,?_⟩;rw[cQ];have E:(aH (aa 6):Xi [2,4]).p (r_ n ks qs TT L z3 z5 (J (i_ g)) (J (.int a)) z8) f=.ok (g.map .int) f:=rfl;rw[E,Pg];exact e
def JO{n:Nat}{ks TT:TU}{qs g:TR}{L z3 z5 z7 z8:T9}{s:g_}(u:g.length<=12)(P:TT.length+200<100000):
  ∃r f,(cE (aH (aa 6)) (jj 7) Pk:Xd [2,4]).p (r_ n ks qs TT L z3 z5 (J (i_ g)) z7 z8) s=.nx (r_ n ks qs (stK TT (Bp [] g g)) L z3 z5 (J (i_ g)) r f) s:=by
 obtain⟨z,i,e,r,f,rfl,rfl⟩:=bZ (g:=(jj 7:Xg [2,4]).p) (b:=Pk.p) (λj env i=>∃z7 z8,env=r_ n ks qs (stK TT (Bp [] g (g.take j))) L z3 z5 (J (i_ g)) z7 z8/\i=s) (g.map .int) 0
  (r_ n ks qs TT L z3 z5 (J (i_ g)) z7 z8) s ⟨z7,z8,rfl,rfl⟩ (λj env i d ⟨z7,z8,y,E⟩ hd=>by
   rw[sf]at y ⊢;subst y E;rw[tx,t0]at hd;obtain⟨a,C,rfl⟩:=hd;have H:=oS (B:=TT) (l:=Bp [] g (g.take j));have O:=vM (ks:=[]) (g:=g) (l:=g.take j);have l3:(g.take j).length<=12:=by rw[CH];ext
   have G:g.length*(g.take j).length<=12*12:=Nat.mul_le_mul u l3;obtain⟨f,e⟩:=JN (n:=n) (ks:=ks) (qs:=qs) (TT:=stK TT (Bp [] g (g.take j))) (a:=a) (g:=g) (L:=L) (z3:=z3) (z5:=z5) (z8:=z8) (s:=i) u (by ext);refine⟨_,_,i,rfl,e,J (.int a),f,?_,rfl⟩;rw[B9,C]
   have:Bp [] g (g.take j++[a])=Bp [] g (g.take j)++Ap [] a g:=by simp[Bp]
   show _=r_ n ks qs (stK TT (Bp [] g (g.take j++[a]))) _ _ _ _ _ _
   rw[this,oY])
 rw[mm,sf,CZ]at e;refine⟨r,f,?_⟩;rw[cQ];have F:(aH (aa 6):Xi [2,4]).p (r_ n ks qs TT L z3 z5 (J (i_ g)) z7 z8) i=.ok (g.map .int) i:=rfl;rw[F,Pg];exact e
def Lk(a TT:TU):Prop:=∀k,k∈TT↔k∈a
def NO{n:Int}{TT:TU}(f:∀k∈TT,∃a b:Int,k=[a,b]/\0<=a/\a<b/\b<n){u v:Int}:p_ [u,v]∈TT↔Td TT u v:=by
 rcases Int.lt_trichotomy u v with z|z | z
 .rw[(lw z).1];exact⟨.inl,λh=>h.elim id λh=>by obtain⟨a,b,e,_,i,_⟩:=f _ h;injection e with e1 e;injection e with e2 _;ext⟩
 .subst z;refine⟨λh=>?_,λh=>?_⟩
  .have:p_ [u,u]=[u,u]:=by simp[p_]
   rw[this]at h;exact .inl h
  .have h:[u,u]∈TT:=h.elim id id;obtain⟨a,b,e,_,i,_⟩:=f _ h;injection e with e1 e;injection e with e2 _;ext
 .rw[(lw z).2];exact⟨.inr,λh=>h.elim (λh=>by obtain⟨a,b,e,_,i,_⟩:=f _ h;injection e with e1 e;injection e with e2 _;ext) id⟩
def NP{A B:TU}(h:Lk A B){x y:Int}:Td B x y↔Td A x y:=or_congr (h _) (h _)
section
variable{n:Nat}{ks:TU}{qs:TR}
def FP(nd:qs.Nodup){j:Nat}(a:j<qs.length):qs[j]∉qs.drop (j+1):=by
 have:=List.Nodup.sublist (Ob j qs) nd
 rw[Fe a]at this;exact(F4.mp this).1
def uN(w:i3 n ks)(nd:qs.Nodup):∀j,j<=qs.length->∀x y,x∈qs.drop j->y∈qs.drop j->(Td (b9 ks qs j) x y↔Td (b7 ks qs j) x y)
 |0,_,_,_,_,_=>Iff.rfl
 |j+1,C,x,y,f,i=>by
  have a:j<qs.length:=by ext
  have r:qs.getD j 0=qs[j]:=by simp[List.getD,a]
  have l:∀x,x∈qs.drop (j+1)->x∈qs.drop j:=λx h=>by rw[Fe a];exact l7 _ h
  have u:=uN w nd j (by ext) x y (l x f) (l y i);have B:Td (b9 ks qs (j+1)) x y↔Td (b9 ks qs j) x y\/Td (b7 ks qs (j+1)) x y:=by
   unfold Td;rw[b9,nt,nt];constructor
   .rintro ((h|h) | (h|h))
    .exact .inl (.inl h)
    .exact .inr (.inl h)
    .exact .inl (.inr h)
    .exact .inr (.inr h)
   .rintro ((h|h) | (h|h))
    .exact .inl (.inl h)
    .exact .inr (.inl h)
    .exact .inl (.inr h)
    .exact .inr (.inr h)
  rw[B,u];refine⟨λh=>h.elim (λh=>?_) id,.inr⟩;rw[b7,kJ (dZ w j),r];exact .inl ⟨h,λz=>FP nd a (z▸f),λz=>FP nd a (z▸i)⟩
def Ch(TT:TU)(qs:TR)(j:Nat):TR:=(qs.drop (j+1)).filter λu=>decide (p_ [u,qs.getD j 0]∈TT)
def zC(w:i3 n ks)(nd:qs.Nodup){TT:TU}{j:Nat}(H:j<qs.length)(h:Lk (b9 ks qs j) TT):Lk (b9 ks qs (j+1)) (stK TT (Bp [] (Ch TT qs j) (Ch TT qs j))):=by
 have C:qs.getD j 0=qs[j]:=by simp[List.getD,H]
 have at':=(hZ (qs:=qs) w j).1;have Z:∀k∈TT,∃a b:Int,k=[a,b]/\0<=a/\a<b/\b<(n:Int):=λk W=>at' k ((h k).mp W);have r:qs.drop j=qs[j]::qs.drop (j+1):=Fe H;have B:∀x,x∈qs.drop (j+1)->x∈qs.drop j:=λx h=>by rw[r];exact l7 _ h
 have mv:qs[j]∈qs.drop j:=by rw[r];exact pa
 have i:=dZ (qs:=qs) w j;have f:∀u,u∈Ch TT qs j↔u∈qs.drop (j+1)/\Td (b7 ks qs j) qs[j] u:=λu=>by
  unfold Ch;rw[y7,decide_eq_true_iff,NO Z,NP h,C];refine and_congr_right λX=>?_;rw[uN w nd j (by ext) u qs[j] (B u X) mv];exact⟨Td.symm,Td.symm⟩
 have sq:∀k,k∈Bp [] (Ch TT qs j) (Ch TT qs j)↔∃a b:Int,k=[a,b]/\a<b/\a∈Ch TT qs j/\b∈Ch TT qs j:=λk=>by
  have:=JK (ks:=[]) (G:=[Ch TT qs j]) (k:=k)
  simpa [Law.sq]using this
 intro k;unfold stK;rw[SetT.qt,h k,sq,b9,nt];refine⟨λq=>q.elim .inl ?_,λq=>q.elim .inl λq=>?_⟩
 .rintro⟨a,b,rfl,L,l,E⟩;obtain⟨R,U⟩:=(f a).mp l;obtain⟨b1,b2⟩:=(f b).mp E;refine .inr ?_
  have:Td (b7 ks qs (j+1)) a b:=by rw[b7,kJ i,C];exact .inr ⟨by ext,B a R,B b b1,U,b2⟩
  refine this.elim id λz=>?_;obtain⟨x,y,e,_,S,_⟩:=(dZ (qs:=qs) w (j+1)).tie _ z;injection e with e1 e;injection e with e2 _;ext
 .obtain⟨a,b,rfl,_,L,_⟩:=(dZ (qs:=qs) w (j+1)).tie _ q;have t:Td (b7 ks qs (j+1)) a b:=.inl q;rw[b7,kJ i,C]at t;rcases t with⟨t,_⟩|⟨_,l,E,F,P⟩
  .left
   have:[a,b]∈b7 ks qs j:=t.elim id λz=>by
    obtain⟨x,y,e,_,S,_⟩:=i.tie _ z;injection e with e1 e;injection e with e2 _;ext
   exact(mU j).mpr ⟨j,ia _,this⟩
  .right;have Q:∀x,x∈qs.drop j->Td (b7 ks qs j) qs[j] x->x∈qs.drop (j+1):=λx O t=>by
    rw[r]at O;exact(l_.mp O).resolve_left λz=>(rG i t).1 z.symm
   exact⟨a,b,rfl,L,(f a).mpr ⟨Q a l F,F⟩,(f b).mpr ⟨Q b E P,P⟩⟩
end
abbrev Tk:Xd [2,4]:=(aG (kT 5 vv 4 (ac (xC (.int 0)) a_))
 (aG (bn 6 (aJ 1 [2,5] (aH (aa 4)) (ws':=[1]) (jj 0) (xB (ae (ue T) (aX (ac (li km (ac (aa 0) (ac (aa 2) a_))) (ac (li kh (ac (aa 0) (ac (aa 2) a_))) a_))) (aa 1))) (aa 0)))
 (cE (aH (aa 6)) (jj 7) Pk)))
abbrev RY:Xt [2,4]:=xB (ae BS (aa 4) (cF a_))
section
variable{n:Nat}{ks:TU}{qs:TR}
structure Fl(n:Nat)(ks:TU)(qs:TR)(j:Nat)(TT:TU):Prop where
 lk:Lk (b9 ks qs j) TT
 nd:TT.Nodup
def Fl.tie{j:Nat}{TT:TU}(w:i3 n ks)(f:Fl n ks qs j TT):∀k∈TT,∃a b:Int,k=[a,b]/\0<=a/\a<b/\b<(n:Int):=λk i=>(hZ (qs:=qs) w j).1 k ((f.lk k).mp i)
def Fl.len{j:Nat}{TT:TU}(w:i3 n ks)(f:Fl n ks qs j TT):TT.length<=66:=dU w.n12 (f.tie w) f.nd
def AJ{B:TU}{k:TR}(h:B.Nodup):(SetT.bh B k).Nodup:=by
 unfold SetT.bh;split
 .exact h
 .rename_i z
  rw[Bg];refine⟨h,by simp,λx a y f e=>z ?_⟩;rw[Fg.mp f]at e;exact e▸a
def uU:∀{l B:TU},B.Nodup->(stK B l).Nodup
 |[],_,h=>h
 |k::l,B,h=>uU (l:=l) (AJ h)
def JP{TT:TU}{j:Nat}{z3 z5 z6 z7 z8:T9}{s:g_}(w:i3 n ks)(o:Ord n qs)(B:j<qs.length)(f:Fl n ks qs j TT):
  ∃F E C a l,Tk.p (r_ n ks qs TT (J (i_ (qs.drop j))) z3 z5 z6 z7 z8) s=.nx (r_ n ks qs F (J (i_ (qs.drop (j+1)))) z3 E C a l) s/\Fl n ks qs (j+1) F:=by
 have n12:=o.n12;have Q:=o.len;have nd:qs.Nodup:=o.pm.symm.nodup (fU n);have H:qs.drop j=qs.getD j 0::qs.drop (j+1):=by rw[Fe B];simp[List.getD,B]
 have G:(kT 5 vv 4 (ac (xC (.int 0)) a_):Xd [2,4]).p (r_ n ks qs TT (J (i_ (qs.drop j))) z3 z5 z6 z7 z8) s=.nx (r_ n ks qs TT (J (i_ (qs.drop (j+1)))) z3 (J (.int (qs.getD j 0))) z6 z7 z8) s:=by refine Eq.trans (show _=BC vv 4 (ac (xC (.int 0)) a_:Xs [2,4]).p (r_ n ks qs TT (J (i_ (qs.drop j))) z3 z5 z6 z7 z8) s (λr env s=>.nx (env.set 5 (J r)) s)from rfl) ?_;rw[H,nA (as:=[.int 0]) (s1:=s) (ds:=.int (qs.getD j 0)::(qs.drop (j+1)).map .int) (r:=.int (qs.getD j 0)) (ds':=(qs.drop (j+1)).map .int) (by simp) rfl rfl];rfl
 have P:∀{x y:D}{s:g_},(if [x,y].length<=100000 then PR.ok (D.tup [x,y]) s else .bad)=.ok (.tup [x,y]) s:=λ{x y s}=>b_ (by simp)
 have q:=cD (ws:=[2,4]) (ws':=[1]) (env:=r_ n ks qs TT (J (i_ (qs.drop (j+1)))) z3 (J (.int (qs.getD j 0))) z6 z7 z8) (s:=s) (fm:=[2,5]) (i:=aH (aa 4)) (t:=xB (ae (ue T) (aX (ac (li km (ac (aa 0) (ac (aa 2) a_))) (ac (li kh (ac (aa 0) (ac (aa 2) a_))) a_))) (aa 1))) (e:=aa 0) (ds:=(qs.drop (j+1)).map .int) (E0 λu=>decide (p_ [u,qs.getD j 0]∈TT)) (λx=>x) rfl (by rw[mm,Bs];ext) (λx O=>by
  obtain⟨u,R,rfl⟩:=ml.mp O;refine⟨?_,λ_=>by simp⟩;simp![cu,aI,eB,cC,n8,Bh,B2,B3,BG,EA,EB,Pf,P,NN,Pl]
  rfl)
 rw[cX (λu=>decide (p_ [u,qs.getD j 0]∈TT)) _ _ λi _=>rfl]at q;have gl:(Ch TT qs j).length<=12:=m_ (B4 _ _) (by rw[Bs];ext);obtain⟨a,l,e⟩:=JO (n:=n) (ks:=ks) (TT:=TT) (qs:=qs) (g:=Ch TT qs j) (L:=J (i_ (qs.drop (j+1)))) (z3:=z3) (z5:=J (.int (qs.getD j 0))) (z7:=z7) (z8:=z8) (s:=s) gl (by have:=f.len w;ext);refine⟨_,J (.int (qs.getD j 0)),J (i_ (Ch TT qs j)),a,l,?_,zC w nd B f.lk,uU f.nd⟩;rw[aB,G,PU.aq,aB,br];refine(congrArg (λz:PR D=>(z.go _ _).then _) q).trans ?_;rw[Pg,PU.aq];exact e
def JQ{z3:T9}{s:g_}(w:i3 n ks)(o:Ord n qs):∀(f N j:Nat)(TT:TU)(i r a l:T9),f<N->j+f=qs.length->Fl n ks qs j TT ->
  ∃u L B C G,df RY.p Tk.p N (r_ n ks qs TT (J (i_ (qs.drop j))) z3 i r a l) s=.nx (r_ n ks qs u (J (i_ [])) z3 L B C G) s/\Fl n ks qs qs.length u:=by
 intro f
 induction f with
 |zero =>
  intro N j TT i r a l hN hf y;obtain⟨N,rfl⟩:∃m,N=m+1:=⟨N-1,by ext⟩;have ej:j=qs.length:=by ext
  subst ej;rw[PF];have O:=jv (neg:=I) (xs:=[]) (ys:=[]);have E:RY.p (r_ n ks qs TT (J (i_ [])) z3 i r a l) s=.ok T s:=by simp only[cu,aI,aw,ar,Pb,dk,av,B8,t_,if_true,nK];rw[show Am I (i_ []) (.lst [])=_ from O];rfl
  exact⟨TT,i,r,a,l,by rw[df,E];rfl,y⟩
 |succ f R =>
  intro N j TT i r a l hN hf y;obtain⟨N,rfl⟩:∃m,N=m+1:=⟨N-1,by ext⟩;have Q:j<qs.length:=by ext
  have O:=jv (neg:=I) (xs:=qs.drop j) (ys:=[]);have ne:qs.drop j≠[]:=λz=>by have:=congrArg List.length z;rw[Bs,B8]at this;ext
  have E:RY.p (r_ n ks qs TT (J (i_ (qs.drop j))) z3 i r a l) s=.ok I s:=by simp only[cu,aI,aw,ar,Pb,dk,av,B8,t_,if_true,nK];rw[show Am I (i_ (qs.drop j)) (.lst [])=_ from O];simp only[if_true,decide_eq_false ne,Of];rfl
  obtain⟨u,S,X,P,y8,e,H⟩:=JP (z3:=z3) (z5:=i) (z6:=r) (z7:=a) (z8:=l) (s:=s) w o Q y;obtain⟨U,W,x6,x7,Z,e2,F⟩:=R N (j+1) u S X P y8 (by ext) (by ext) H;refine⟨U,W,x6,x7,Z,?_,F⟩;rw[df,E,Pg,b_ rfl,e];exact e2
def zW{s:g_}(w:i3 n ks)(o:Ord n qs):fo.p [ai n ks,.lst (qs.map .int)] s=.ok (.lst ((i9 ks qs).map kD)) s:=by
 have n12:=o.n12;have Q:=o.len;obtain⟨j,e1⟩:=JL (n:=n) (ks:=ks) (qs:=qs) (z3:=Y) (z4:=Y) (z5:=Y) (z6:=Y) (z7:=Y) (z8:=Y) (s:=s) w;obtain⟨TT,C,P,y,E,e2,f⟩:=JQ (z3:=j) (s:=s) w o qs.length 400 0 ks Y Y Y Y (by ext) (by ext) ⟨λ_=>Iff.rfl,w.nd⟩;rw[PX]at e2;have G:=f.len w
 have u:=yS (B:=TT) (λk l=>by
  obtain⟨a,b,rfl,_⟩:=f.tie w k l
  simp) G
 have ld:oD.p [tD TT]=J (.lst (TT.map kD)):=b_ (by ext);have r:bL TT=fu ks qs:=by refine oC ((Kv f.nd (gB _)).mpr λk=>?_);rw[SetT.fY];exact f.lk k
 rw[r]at u
 have q:=cD (ws:=[2,4]) (ws':=[]) (env:=r_ n ks qs TT (J (i_ [])) j C P y E) (s:=s) (fm:=[0]) (i:=aH (li eX (ac (li oD (ac (aa 2) a_)) a_))) (t:=xB (ae (qr I) (aa 0) (ae ky (aa 1) (xC (.int 1))))) (e:=aa 0) (ds:=(fu ks qs).map kD) (NL λk=>!decide (k∈ks)) (λx=>x) (by
  simp![dP,cC,ld,Pf,u];rfl) (by
  rw[mm,<-r,(bP _).length_eq];ext) (λx H=>by
   obtain⟨k,l,rfl⟩:=ml.mp H;have L:=lE (neg:=I) (k:=k) (d:=.tup (ks.map kD)) (ks:=ks) rfl;refine⟨?_,λ_=>by simp⟩;have F:ky.p (ai n ks) (.int 1)=J (.tup (ks.map kD)):=by simp[ai]
   dsimp![bK,aW,F,gc,L,jk]
   rfl)
 rw[iS (λk=>!decide (k∈ks)) _ _ λk _=>jk,Oh]at q;have O:lu.p [i_ qs]=J (i_ qs):=ED (by rw[mm];ext);rw[ul (by rfl)];unfold ft;rw[show ll 9 [ai n ks,.lst (qs.map .int)]=[J (ai n ks),J (.lst (qs.map .int)),Y,Y,Y,Y,Y,Y,Y]from rfl];rw[aB,d3,IE];simp only[Pg,vT,v1,PU.aq];rw[aB];refine(congrArg (λz:PS=>(z.then _).fin) e1).trans ?_;rw[PU.aq,aB,d3];simp![cC,O,Pf,Pg,vT,v1,PU.aq];rw[aB,rK gu];refine(congrArg (λz:PS=>(z.then _).fin) e2).trans ?_;rw[PU.aq,cw];refine(congrArg (λz:PR D=>(z.go _ _).fin) q).trans ?_;rfl
def zG{f:Bool}{ks:TU}:Am f (.lst (ks.map kD)) (.lst (ks.map kD))=J (.bl (!f)):=by obtain⟨a,b⟩:=m8 ks;obtain⟨i,l⟩:=mw ks;have j:=kL (show(PyData.list (ks.map λk=>PyData.tuple (k.map .int))).canLay0=I by simpa [PyData.canLay0]using i) (by simp only[PyData.depth];ext);simp only[Am,py,a,KO];rw[b_ ⟨⟨by simp only[wr];ext,by simp only[wr];ext⟩,j,j⟩,SeqAt.eqv_refl _ (by simpa [PyData.canLay0]using i)];cases f<;>rfl
def uH{B:TU}{s:g_}(w:i3 n ks)(o:Ord n qs)(h:∀k∈i9 ks qs,k∈B):cq.p [ai n ks,.lst (qs.map .int),.lst (B.map kD)] s=.ok (.bl I) s:=by
 have u:=(zX (qs:=qs) w).1
 have q:=cD (ws:=[]) (ws':=[]) (env:=[J (ai n ks),J (.lst (qs.map .int)),J (.lst (B.map kD)),J (.lst ((i9 ks qs).map kD))]) (s:=s) (fm:=[2]) (i:=aH (aa 3)) (t:=xB (ae (qr I) (aa 0) (aa 1))) (e:=aa 0) (ds:=(i9 ks qs).map kD) (NL λk=>!decide (k∈B)) (λx=>x) rfl (by rw[mm];ext) (λx j=>by
   obtain⟨k,a,rfl⟩:=ml.mp j;have l:=lE (neg:=I) (k:=k) (d:=.lst (B.map kD)) (ks:=B) rfl;refine⟨?_,λ_=>by simp⟩;dsimp![gc,l,jk]
   rfl)
 rw[iS (λk=>!decide (k∈B)) _ _ λk _=>jk,Oh,Se.mpr λk a z=>by simp[h k a]at z,Bh]at q;have r:EK.p (.lst []) (.lst [])=J (.bl I):=(IU rfl).trans (jv (neg:=T) (xs:=[]) (ys:=[]));have f:(if([]:TW).length<=100000 then PR.ok (D.lst []) s else .bad)=.ok (.lst []) s:=b_ (by decide);rw[vZ (by rfl)];unfold gD;rw[show ll 4 [ai n ks,.lst (qs.map .int),.lst (B.map kD)]=[J (ai n ks),J (.lst (qs.map .int)),J (.lst (B.map kD)),Y]from rfl];rw[aB,br];simp![aM,JI w o,Pg,vT,v1,PU.aq];rw[cw,Ez,aI];simp![aM,zW w o,nP,zG,Pf,Of];simp only[Pl,Pb,if_true];rw[aI,q];simp only[Pb,dk,av,f,r,Pf,Pl,Pg,PU.gz]
end
section
variable{n:Nat}{ks:TU}{qs os:TR}
def yD{p:TR}{u:Int}(w:i3 n ks)(j:p∈c_ n ks qs)(i:u∈p)(x:Int):x∈zi ks qs p↔Rc ks (zh n qs) u x\/(x∈qs/\∃y,Rc ks (zh n qs) u y/\Td ks y x):=by have cl:=(bY (n:=n) (ks:=ks) (qs:=qs)).cl p j u i;unfold zi;rw[nt,cl,jE];refine or_congr_right (and_congr_right λ_=>⟨λ⟨y,a,f⟩=>⟨y,(cl y).mp a,((f7 w).mp f).symm⟩,λ⟨y,a,f⟩=>⟨y,(cl y).mpr a,(f7 w).mpr f.symm⟩⟩)
def oR(m:Sm n qs){k:TR}:k∈(Cg n ks qs).map p_↔∃a b:Int,k=[a,b]/\a<b/\((a∈qs/\b∈qs)\/∃p∈c_ n ks qs,a∈zi ks qs p/\b∈zi ks qs p):=by
 unfold Cg;rw[CJ,nt];constructor
 .rintro (h|h)
  .obtain⟨a,b,rfl,j,f,i⟩:=(i8 m.nd).mp h;exact⟨a,b,rfl,j,.inl ⟨f,i⟩⟩
  .obtain⟨r,hf,y⟩:=ml.mp h;obtain⟨p,l,hf⟩:=B7.mp hf;obtain⟨a,b,rfl,j,f,i⟩:=(i8 (dJ m p l).nd).mp (ml.mpr ⟨r,hf,y⟩);exact⟨a,b,rfl,j,.inr ⟨p,l,f,i⟩⟩
 .rintro⟨a,b,rfl,j,⟨f,i⟩|⟨p,l,f,i⟩⟩
  .exact .inl ((i8 m.nd).mpr ⟨a,b,rfl,j,f,i⟩)
  .obtain⟨r,u,y⟩:=ml.mp ((i8 (dJ m p l).nd).mpr ⟨a,b,rfl,j,f,i⟩);exact .inr (ml.mpr ⟨r,B7.mpr ⟨p,l,u⟩,y⟩)
def uO{k:TR}:k∈An n ks qs↔k∈(Cg n ks qs).map p_/\k∉ks:=by unfold An;rw[y7,(bP _).mem_iff,SetT.fY];simp
def NQ(w:i3 n ks){P:Int->Prop}(B:∀x,P x->x∉qs){a b:Int}(h:Wy ks P a b):a∈zh n qs->Rc ks (zh n qs) a b\/(b∈qs/\∃y,Rc ks (zh n qs) a y/\Td ks y b):=by
 induction h with
 |@tie a b t =>
  intro f;by_cases q:b∈qs
  .exact .inr ⟨q,a,.base,t⟩
  .exact .inl (.step .base t (cP.mpr ⟨(rG w t).2.2,q⟩))
 |@thru a b c _ r _ j C =>
  intro f;have i:Rc ks (zh n qs) a c:=(j f).elim id λz=>absurd z.1 (B c r);rcases C (i.mem f)with h|⟨l,y,u,E⟩
  .exact .inl (i.trans h)
  .exact .inr ⟨l,y,i.trans u,E⟩
def CP(qs os:TR):Prop:=∀(i j:Nat)(a b:Int),os[i]?=J a->os[j]?=J b->a∉qs->b∈qs->i<j
def yh{F B:TR}(r:∀x∈F,x∉qs)(y:∀x∈B,x∈qs):CP qs (F++B):=λi j a b f l na u=>by
 have C:i<F.length:=by
  by_cases z:i<F.length
  .exact z
  .rw[Bq (by ext)]at f;exact absurd (y a (Be f)) na
 by_cases z:j<F.length
 .rw[we z]at l;exact absurd u (r b (Be l))
 .ext
def sj(w:i3 n ks)(o:Ord n os)(m:Sm n qs)(U:CP qs os):∀k∈i9 ks os,k∈An n ks qs:=λk hk=>by
 obtain⟨O,Z⟩:=y7.mp hk;have E:k∉ks:=by simpa using Z
 obtain⟨a,b,rfl,R,b2,W⟩:=(mI (qs:=os) w).tie k O;have nd:os.Nodup:=o.pm.symm.nodup (fU n);have at':∀x:Int,0<=x->x<(n:Int)->∃i:Nat,os[i]?=J x:=λx C F=>zm.mp (o.pm.mem_iff.mpr (bz.mpr ⟨C,F⟩));obtain⟨i,G⟩:=at' a R (by ext);obtain⟨j,H⟩:=at' b (by ext) W;have L:=(xF w nd G H (by ext)).mp (.inl O);rw[uO];refine⟨(oR m).mpr ⟨a,b,rfl,b2,?_⟩,E⟩;by_cases q:a∈qs/\b∈qs
 .exact .inl q
 .right;have hP:∀x,x∈os.take (min i j)->x∉qs:=λx B S=>by
   obtain⟨l,r⟩:=zm.mp B;rw[List.getElem?_take]at r
   split at r
   .rename_i lt
    by_cases u:a∈qs
    .have:=U j l b x H r (λz=>q ⟨u,z⟩) S
     ext
    .have:=U i l a x G r u S
     ext
   .cases r
  have P:=bY (n:=n) (ks:=ks) (qs:=qs);have go:∀x y:Int,Wy ks (·∈os.take (min i j)) x y->x∈zh n qs->∃p∈c_ n ks qs,x∈zi ks qs p/\y∈zi ks qs p:=λx y h B=>by
   obtain⟨p,f,Q⟩:=P.all x B;exact⟨p,f,(yD w f Q x).mpr (.inl .base),(yD w f Q y).mpr (NQ w hP h B)⟩
  by_cases u:a∈qs
  .obtain⟨p,f,h3,X⟩:=go b a L.symm (cP.mpr ⟨⟨by ext,W⟩,λz=>q ⟨u,z⟩⟩);exact⟨p,f,X,h3⟩
  .exact go a b L (cP.mpr ⟨⟨R,by ext⟩,u⟩)
def sK{α:Type}(p:α->Bool):∀l:List α,(l.filter p).length+(l.filter λx=>!p x).length=l.length
 |[]=>rfl
 |x::l=>by
  have a:=sK p l;rw[BI,BI];cases e:p x<;>simp<;>ext
def xS(w:i3 n ks){UU:TU}(a:UU.Nodup)(i:∀k,k∈UU↔k∈(Cg n ks qs).map p_)(f:∀k∈ks,k∈UU):(An n ks qs).length+ks.length=UU.length:=by
 have e1:(An n ks qs).length=(UU.filter λk=>!decide (k∈ks)).length:=by
  refine((Kv (((bP _).symm.nodup (gB _)).filter _) (a.filter _)).mpr λk=>?_).length_eq
  have:=uO (n:=n) (ks:=ks) (qs:=qs) (k:=k)
  unfold An at this;rw[this,y7,i];simp
 have e2:ks.length=(UU.filter λk=>decide (k∈ks)).length:=by refine((Kv w.nd (a.filter _)).mpr λk=>?_).length_eq;rw[y7];exact⟨λh=>⟨f k h,decide_eq_true h⟩,λh=>of_decide_eq_true h.2⟩
 have:=sK (λk=>decide (k∈ks)) UU
 ext
def cnt(l:Nat):Nat->Nat
 |0=>0
 |j+1=>cnt l j+(l-(j+1))
def pH{l:TR}:∀j,(aV l j).length=cnt l.length j
 |0=>by simp[aV,cnt]
 |j+1=>by rw[jS,wO,pH j,mm,Bs,cnt]
def ud(l:Nat)(h:l<=12):((l:Int)*((l:Int)-1)).fdiv 2=(cnt l l:Int):=by
 have:∀a:Fin 13,((a.1:Int)*((a.1:Int)-1)).fdiv 2=(cnt a.1 a.1:Int):=by decide
 exact this ⟨l,by ext⟩
def uI{l:TR}(h:l.Pairwise (·<·)):(bN l).Nodup:=by
 have nd:l.Nodup:=h.imp λ{a b} h=>by ext
 have key:∀j,j<=l.length->(aV l j).Nodup/\∀k∈aV l j,∃i<j,∃b,k=[l.getD i 0,b]:=by
  intro j
  induction j with
  |zero=>intro _;exact⟨by simp[aV],by simp[aV]⟩
  |succ j C =>
   intro G;obtain⟨B,u⟩:=C (by ext);rw[jS];constructor
   .rw[Bg];refine⟨B,J1.mpr ((nd.sublist (Ob _ _)).imp λ{a b} h e=>h (by simpa using e)),λx F y E e=>?_⟩;obtain⟨i,z,b,rfl⟩:=u x F;obtain⟨H,_,rfl⟩:=ml.mp E;injection e with e1 _
    have:=oe nd (show i<l.length by ext) (show j<l.length by ext) e1
    ext
   .intro k f;rcases nt.mp f with f|f
    .obtain⟨i,z,r⟩:=u k f;exact⟨i,by ext,r⟩
    .obtain⟨b,_,rfl⟩:=ml.mp f;exact⟨j,by ext,b,rfl⟩
 exact(key l.length (ia _)).1
def eP{l k:TR}(h:l.Pairwise (·<·)):k∈bN l↔∃a b:Int,k=[a,b]/\a<b/\a∈l/\b∈l:=by
 constructor
 .intro E;obtain⟨i,j,B,r,rfl⟩:=ik.mp E;have lt:=CQ.mp h i j (by ext) r B;refine⟨l.getD i 0,l.getD j 0,rfl,?_,?_,?_⟩
  .simpa [List.getD,show i<l.length by ext,r]using lt
  .simp[List.getD,show i<l.length by ext]
  .simp[List.getD,r]
 .rintro⟨a,b,rfl,L,y,C⟩;obtain⟨i,u,H⟩:=CU y;obtain⟨j,f,G⟩:=CU C;have F:l.getD i 0=a:=by simp[List.getD,u,H]
  have gj:l.getD j 0=b:=by simp[List.getD,f,G]
  refine ik.mpr ⟨i,j,?_,f,by rw[F,gj]⟩;rcases PC i j with z|z | z
  .exact z
  .subst z;ext
  .have:=CQ.mp h j i f u z
   ext
def oM(n:Nat):(ij n).Pairwise (·<·):=by unfold ij;exact List.Pairwise.map (R:=λa b:Nat=>a<b) _ (λa b h=>by ext) N2
def E6(w:i3 n ks)(n12:n<=12):((An n ks (ij n)).length:Int)=((n:Int)*((n:Int)-1)).fdiv 2-ks.length:=by
 have m:Sm n (ij n):=⟨n12,fU n,λx f=>bz.mp f⟩;have u:zh n (ij n)=[]:=Se.mpr λx f z=>by simp[f]at z
 have j:c_ n ks (ij n)=[]:=by unfold c_;rw[u];cases n<;>rfl
 have:=xS (qs:=ij n) w (UU:=bN (ij n)) (uI (oM n)) (λk=>by
  rw[oR m,eP (oM n),j]
  simp) λk l=>by
   obtain⟨a,b,rfl,i,r,y⟩:=w.tie k l;exact(eP (oM n)).mpr ⟨a,b,rfl,r,bz.mpr ⟨i,by ext⟩,bz.mpr ⟨by ext,y⟩⟩
 have c:=ud n n12;have e:(bN (ij n)).length=cnt n n:=by unfold bN;rw[pH];simp[ij]
 rw[c];ext
def vH(n12:n<=12):Sm n []:=⟨n12,.nil,by simp⟩
def je{p:TR}:zi ks [] p=p:=by
 have:ph ks [] p=[]:=List.eq_nil_iff_forall_not_mem.mpr λx a=>by have:=(jE.mp a).1;simp at this
 unfold zi;rw[this,F3]
def E7(P:TU)(f:∀p∈P,p.Pairwise (·<·))(r:P.Pairwise λp q=>∀x∈p,x∉q):(P.flatMap bN).Nodup:=by
 induction P with
 |nil=>simp
 |cons p P z =>
  rw[B5]at r;rw[PD,Bg];refine⟨uI (f p pa),z (λq i=>f q (l7 _ i)) r.2,λx B y l e=>?_⟩;subst e;obtain⟨q,i,l⟩:=B7.mp l;obtain⟨a,b,rfl,_,u,_⟩:=(eP (f p pa)).mp B;obtain⟨E,C,e,_,j,_⟩:=(eP (f q (l7 _ i))).mp l;injection e with e1 _
  subst e1;exact r.1 q i a u j
def zy(w:i3 n ks)(n12:n<=12):((An n ks []).length:Int)=((c_ n ks []).map λp=>((p.length:Int)*((p.length:Int)-1)).fdiv 2).sum-ks.length:=by
 have m:=vH n12;have P:=bY (n:=n) (ks:=ks) (qs:=[]);have O:(c_ n ks []).Pairwise λp q=>∀x∈p,x∉q:=P.hd.imp_of_mem λ{p q} j z h x L H=>by
  have e:p=q:=px (f:=id) (P.ris p j) (P.ris q z) λy=>(P.cl p j x L y).trans (P.cl q z x H y).symm;subst e;ext
 have G:∀p∈c_ n ks [],p.length<=12:=λp j=>by
  have g:=dJ (ks:=ks) m p j;rw[je]at g;exact g.len n12
 have mem:∀k,k∈(c_ n ks []).flatMap bN↔k∈(Cg n ks []).map p_:=λk=>by
  rw[oR m,B7];constructor
  .rintro⟨p,j,h⟩;obtain⟨a,b,rfl,u,l,r⟩:=(eP (P.ris p j)).mp h;exact⟨a,b,rfl,u,.inr ⟨p,j,by rw[je];exact l,by rw[je];exact r⟩⟩
  .rintro⟨a,b,rfl,u,⟨h,_⟩|⟨p,j,l,r⟩⟩
   .cases h
   .rw[je]at l r;exact⟨p,j,(eP (P.ris p j)).mpr ⟨a,b,rfl,u,l,r⟩⟩
 have:=xS (qs:=[]) w (E7 _ P.ris O) mem λk B=>by
  obtain⟨a,b,rfl,u,l,r⟩:=w.tie k B;have E:a∈zh n []:=cP.mpr ⟨⟨u,by ext⟩,by simp⟩;obtain⟨p,j,C⟩:=P.all a E;refine(B7).mpr ⟨p,j,(eP (P.ris p j)).mpr ⟨a,b,rfl,l,C,(P.cl p j a C b).mpr (.step .base (.inl B) (cP.mpr ⟨⟨by ext,r⟩,by simp⟩))⟩⟩
 have s:∀Q:TU,(∀p∈Q,p.length<=12)->((Q.flatMap bN).length:Int)=(Q.map λp=>((p.length:Int)*((p.length:Int)-1)).fdiv 2).sum:=by
  intro Q
  induction Q with
  |nil=>intro _;rfl
  |cons p Q F =>
   intro h;have i:=F λq z=>h q (l7 _ z);have c:=ud p.length (h p pa);have e:(bN p).length=cnt p.length p.length:=pH _;rw[PD,wO,n8,List.sum_cons,<-i,c];ext
 rw[<-s _ G];ext
def tq(p:Int->Bool):∀l:TR,((l.filter p)++l.filter λx=>!p x).Perm l
 |[]=>.nil
 |x::l=>by
  have a:=tq p l;rw[BI,BI];cases e:p x
  .simpa [e]using(J7).trans (a.cons x)
  .simpa [e]using a.cons x
def Ae{s:g_}(z:n<=12)(m:Sm n qs):∃os C,c7.p [.pen,ai n ks,.lst (qs.map .int)] s=.ok (i_ os) C/\Ord n os/\CP qs os:=by
 obtain⟨a,j,F,o⟩:=o8 (n:=n) (s:=s) z;have H:=o.len;refine⟨(a.filter λx=>!decide (x∈qs))++a.filter λx=>decide (x∈qs),j,?_,⟨z,?_⟩,yh (λx f=>?_) λx f=>?_⟩
 .have r:=cD (ws:=[]) (ws':=[]) (env:=[J .pen,J (ai n ks),J (i_ qs),J (i_ a)]) (s:=j) (fm:=[2]) (i:=aH (aa 3)) (t:=xB (ae (qr I) (aa 0) (aa 1))) (e:=aa 0) (ds:=a.map .int) (E0 λy=>!decide (y∈qs)) (λx=>x) rfl (by rw[mm];ext) (λx f=>by
   obtain⟨i,B,rfl⟩:=ml.mp f;have l:=eA (neg:=I) (x:=i) (d:=i_ qs) (xs:=qs) rfl;refine⟨?_,λ_=>by simp⟩;dsimp![gc,l]
   rfl)
  rw[cX (λy=>!decide (y∈qs)) _ _ λi _=>rfl]at r
  have u:=cD (ws:=[]) (ws':=[]) (env:=[J .pen,J (ai n ks),J (i_ qs),J (i_ a)]) (s:=j) (fm:=[2]) (i:=aH (aa 3)) (t:=xB (ae (qr T) (aa 0) (aa 1))) (e:=aa 0) (ds:=a.map .int) (E0 λy=>decide (y∈qs)) (λx=>x) rfl (by rw[mm];ext) (λx f=>by
   obtain⟨i,B,rfl⟩:=ml.mp f;have l:=eA (neg:=T) (x:=i) (d:=i_ qs) (xs:=qs) rfl;refine⟨?_,λ_=>by simp⟩;dsimp![gc,l]
   rfl)
  rw[cX (λy=>decide (y∈qs)) _ _ λi _=>rfl]at u;have G:=B4 (λy=>!decide (y∈qs)) a;have L:=B4 (λy=>decide (y∈qs)) a;rw[uF (by rfl)];unfold fB;rw[show ll 4 [D.pen,ai n ks,.lst (qs.map .int)]=[J .pen,J (ai n ks),J (i_ qs),Y]from rfl];rw[aB,br];have E:ky.p (ai n ks) (.int 0)=J (.int n):=by simp[ai]
  simp![aM,aI,bK,aW,E,Pf,F,Pg,vT,v1,PU.aq];rw[cw,aI,r,Pb,u,Pb,fL (by rw[mm,mm];ext),<-CJ];rfl
 .have:=tq (λx=>!decide (x∈qs)) a
  simp only[Bool.not_not]at this;exact this.trans o.pm
 .simpa using(y7.mp f).2
 .simpa using(y7.mp f).2
def sT(m:Sm n qs):Ord n ((c_ n ks qs).flatten++qs)/\CP qs ((c_ n ks qs).flatten++qs):=by
 have P:=bY (n:=n) (ks:=ks) (qs:=qs);have mem:∀x,x∈(c_ n ks qs).flatten↔x∈zh n qs:=λx=>by
  rw[List.mem_flatten];exact⟨λ⟨p,j,h⟩=>P.sub p j x h,λh=>let⟨p,j,i⟩:=P.all x h;⟨p,j,i⟩⟩
 have G:(c_ n ks qs).Pairwise λp q=>∀x∈p,x∉q:=P.hd.imp_of_mem λ{p q} j l h x F E=>by
  have e:p=q:=px (f:=id) (P.ris p j) (P.ris q l) λy=>(P.cl p j x F y).trans (P.cl q l x E y).symm;subst e;ext
 have z:∀Q:TU,(∀p∈Q,p.Nodup)->(Q.Pairwise λp q=>∀x∈p,x∉q)->Q.flatten.Nodup:=by
  intro Q
  induction Q with
  |nil=>intro _ _;simp
  |cons p Q C =>
   intro B u;rw[B5]at u;rw[List.flatten_cons,Bg];refine⟨B p pa,C (λq l=>B q (l7 _ l)) u.2,λx i y r e=>?_⟩;subst e;obtain⟨q,l,r⟩:=List.mem_flatten.mp r;exact u.1 q l x i r
 have nd:((c_ n ks qs).flatten++qs).Nodup:=by rw[Bg];refine⟨z _ (λp j=>(P.ris p j).imp λ{a b} h=>by ext) G,m.nd,λx i y r e=>?_⟩;subst e;exact(cP.mp ((mem x).mp i)).2 r
 refine⟨⟨m.n12,(Kv nd (fU n)).mpr λx=>?_⟩,yh (λx i=>(cP.mp ((mem x).mp i)).2) λx i=>i⟩;rw[nt,mem,cP,bz];constructor
 .rintro (h|h)
  .exact h.1
  .exact m.bd x h
 .intro h;by_cases q:x∈qs
  .exact .inr q
  .exact .inl ⟨h,q⟩
def E8(o:Ord n os):Ord n os.reverse/\CP [] os.reverse:=⟨⟨o.n12,(List.reverse_perm os).trans o.pm⟩,λi j a b _ _ _ h=>by cases h⟩
abbrev eT(n:Nat)(ks:TU)(qs:TR)(z5 z6 z7 z8:T9):aA:=[Y,Y,J .pen,J (ai n ks),J (i_ qs),z5,z6,z7,z8,Y,Y,Y,Y]
abbrev oH:Xd [6]:=(aG (aG (bn 7 (cF a_))
 (cE (aH (au bE (ac (aa 3) (ac (aa 4) a_)))) (jj 8) (bn 7 (ae bF (aa 7) (aa 8)))))
 (tr n3 6 (ac (ae bF (aa 7) (aa 4)) a_)))
def NR{O:TU}{z5:T9}{s:g_}(w:i3 n ks)(m:Sm n qs)(L:O.length<=2):∃B f,oH.p (eT n ks qs z5 (J (.lst (O.map i_))) Y Y) s=.nx (eT n ks qs z5 (J (.lst ((O++[(c_ n ks qs).flatten++qs]).map i_))) B f) s:=by
 have P:=bY (n:=n) (ks:=ks) (qs:=qs);have C:=(sT (ks:=ks) m).1.len;rw[wO]at C;have n12:=m.n12;have i:∀j,((c_ n ks qs).take j).flatten.length<=12:=λj=>by
  have:((c_ n ks qs).take j).flatten.length+((c_ n ks qs).drop j).flatten.length=(c_ n ks qs).flatten.length:=by rw[<-wO,<-List.flatten_append,CF]
  ext
 obtain⟨y,a,e,f,rfl,rfl⟩:=bZ (g:=(jj 8:Xg [6]).p) (b:=(bn 7 (ae bF (aa 7) (aa 8)):Xd [6]).p) (λj env a=>∃f,env=eT n ks qs z5 (J (.lst (O.map i_))) (J (i_ ((c_ n ks qs).take j).flatten)) f/\a=s) ((c_ n ks qs).map i_) 0
  (eT n ks qs z5 (J (.lst (O.map i_))) (J (i_ [])) Y) s ⟨Y,rfl,rfl⟩ (λj env a d ⟨f,l,G⟩ hd=>by
   rw[sf]at l ⊢;subst l G;rw[tx,t0]at hd;obtain⟨p,E,rfl⟩:=hd;have u:((c_ n ks qs).take (j+1)).flatten=((c_ n ks qs).take j).flatten++p:=by rw[B9,E,List.flatten_append];simp
   have F:=i (j+1);rw[u,wO]at F;refine⟨eT n ks qs z5 (J (.lst (O.map i_))) (J (i_ ((c_ n ks qs).take j).flatten)) (J (i_ p)),_,a,rfl,?_,J (i_ p),rfl,rfl⟩;rw[br,aI];simp only[aw,ar,Pb];rw[fL (by rw[mm,mm];ext),<-CJ,<-u]
   rfl)
 rw[mm,sf,CZ]at e;refine⟨J (i_ (c_ n ks qs).flatten),f,?_⟩;rw[aB,aB,br];simp only[dk,av,Pb,B8,t_,if_true,Pg,vT,v1,PU.aq];rw[cQ];have H:(aH (au bE (ac (aa 3) (ac (aa 4) a_))):Xi [6]).p (eT n ks qs z5 (J (.lst (O.map i_))) (J (.lst [])) Y) a=.ok ((c_ n ks qs).map i_) a:=by simp![dP,aM,mZ w m];rfl
 rw[H,Pg];refine(congrArg (λz:PS=>z.then _) e).trans ?_;rw[PU.aq];refine(cU (s1:=a) (as:=[i_ ((c_ n ks qs).flatten++qs)]) (ds:=O.map i_) (ds':=(O++[(c_ n ks qs).flatten++qs]).map i_) (r:=.non) ?_ rfl (by rw[iW (by rw[mm];ext)];simp)).trans rfl;simp![aI];rw[fL (by rw[mm,mm];ext),<-CJ];rfl
abbrev eR(n:Nat)(ks:TU)(qs:TR)(os:TU)(z9 z10 z11 z12:T9):aA:=[Y,Y,J .pen,J (ai n ks),Y,J (.lst ((An n ks qs).map kD)),J (.lst (os.map i_)),Y,Y,z9,z10,z11,z12]
open Classical in
theorem yx(l:Nat)(h:l<=12):t8.p (.int l) (.int ((l:Int)-1))=J (.int ((l:Int)*((l:Int)-1))):=by show(if IntMulOk (l:Int) ((l:Int)-1)then J (D.int ((l:Int)*((l:Int)-1)))else Y)=_;exact b_ (IntMulOk.of_left (intBits_le_64 (by ext) (by ext)))
def FQ(l:Nat)(h:l<=12):MB.p (.int ((l:Int)*((l:Int)-1))) (.int 2)=J (.int (((l:Int)*((l:Int)-1)).fdiv 2)):=by show(if(2:Int)≠0/\Builtin.divisionGoesByPylong ((l:Int)*((l:Int)-1)) 2=T then J (D.int (((l:Int)*((l:Int)-1)).fdiv 2))else Y)=_;exact b_ ⟨by decide,PyProof.noPylong_of_log2 (by decide)⟩
def RZ{a:TW}:iK a Y (J 2)=a.take 2:=by
 rw[show(2:Int)=((2:Nat):Int)from rfl];unfold iK;rw[HT.mJ,HT.oT,PX,P0];by_cases z:2<=a.length
 .rw[Fi z]
 .rw[KN (by ext),CD (by ext),CD (by ext)]
def E9{O:TU}{s:g_}(w:i3 n ks)(m:Sm n qs)(hO:∀os∈O,Ord n os/\CP qs os)(l3:O.length<=3):∃E,fT.p (eR n ks qs O Y Y Y Y) s=.nx E s:=by
 have n12:=m.n12;have kl:=dU w.n12 w.tie w.nd;have H:=vH (n:=n) n12;have mu:Sm n (ij n):=⟨n12,fU n,λx U=>bz.mp U⟩;obtain⟨e1,r,q1,a,rfl,rfl⟩:=bZ (g:=(jj 9:Xg []).p) (b:=(r4 (fM (xB (au cq (ac (aa 3) (ac (aa 9) (ac (aa 5) a_)))))) (bu (xC (.bl T))) i4:Xd []).p) (λj env f=>∃a,env=eR n ks qs O a Y Y Y/\f=s) (O.map i_) 0
  (eR n ks qs O Y Y Y Y) s ⟨Y,rfl,rfl⟩ (λj env f d ⟨a,R,W⟩ hd=>by
   subst R W;rw[tx,t0]at hd;obtain⟨os,L,rfl⟩:=hd;obtain⟨G,h2⟩:=hO os (Be L);have Q:=uH (s:=f) w G (sj w G m h2);refine⟨eR n ks qs O (J (i_ os)) Y Y Y,eR n ks qs O (J (i_ os)) Y Y Y,f,rfl,?_,J (i_ os),rfl,rfl⟩;rw[fH,tZ,cu]
   simp![aM,Q,Pl,CK,Pg,pk,if_false,im])
 have B:ky.p (ai n ks) (.int 0)=J (.int n):=by simp[ai]
 have F:ky.p (ai n ks) (.int 1)=J (.tup (ks.map kD)):=by simp[ai]
 have lt:∀(X:TW),dz.p [.tup X]=J (.int X.length):=λ_=>rfl;have Z:∀(X:TW),dz.p [.lst X]=J (.int X.length):=λ_=>rfl;have q2:(bn 10 (ae cz (ae MB (ae t8 (ae ky (aa 3) (xC (.int 0))) (ae cz (ae ky (aa 3) (xC (.int 0))) (xC (.int 1)))) (xC (.int 2))) (li dz (ac (ae ky (aa 3) (xC (.int 1))) a_))):Xd []).p (eR n ks qs O a Y Y Y) r=.nx (eR n ks qs O a (J (.int (((n:Int)*((n:Int)-1)).fdiv 2-ks.length))) Y Y) r:=by rw[br];simp![aI,cC,bK,aW,B,F,Pf,ib,yx n n12,FQ n n12,lt,mm,Pg];rfl
 have al:=E6 w n12;have q3:(r4 (xB (ae BS (li dz (ac (au bC (ac (aa 3) (ac (li Kp (ac (ae ky (aa 3) (xC (.int 0))) a_)) a_))) a_)) (aa 10))) (bu (xC (.bl T))) i4:Xd []).p (eR n ks qs O a (J (.int (((n:Int)*((n:Int)-1)).fdiv 2-ks.length))) Y Y) r=.nx (eR n ks qs O a (J (.int (((n:Int)*((n:Int)-1)).fdiv 2-ks.length))) Y Y) r:=by
  have lr:Kp.p [.int (n:Int)]=J (.lst ((ij n).map .int)):=by rw[FK (by ext),xp,kB]
  rw[fH,cu,aI];simp![cC,aM,aI,bK,aW,B,Pf,lr,sS w mu,Z,mm,nK,jd,al,decide_true,CK,if_true,Pl,Pg,pk,if_false,im]
 have q4:(bn 11 (au bC (ac (aa 3) (ac (cF a_) a_))):Xd []).p (eR n ks qs O a (J (.int (((n:Int)*((n:Int)-1)).fdiv 2-ks.length))) Y Y) r=.nx (eR n ks qs O a (J (.int (((n:Int)*((n:Int)-1)).fdiv 2-ks.length))) (J (.lst ((An n ks []).map kD))) Y) r:=by have cm:=sS (s:=r) w H;rw[Bh]at cm;rw[br];simp![aM,dk,B8,t_,if_true,cm,Pg];rfl
 obtain⟨e5,u,q5,y,rfl,rfl⟩:=bZ (g:=(jj 9:Xg []).p) (b:=(r4 (fM (xB (au cq (ac (aa 3) (ac (O8 (aa 9) BZ (B0 (Bb jN (xC (.int 1))))) (ac (aa 11) a_)))))) (bu (xC (.bl T))) i4:Xd []).p) (λj env f=>∃a,env=eR n ks qs O a (J (.int (((n:Int)*((n:Int)-1)).fdiv 2-ks.length))) (J (.lst ((An n ks []).map kD))) Y/\f=r) ((O.take 2).map i_) 0
  (eR n ks qs O a (J (.int (((n:Int)*((n:Int)-1)).fdiv 2-ks.length))) (J (.lst ((An n ks []).map kD))) Y) r ⟨a,rfl,rfl⟩ (λj env f d ⟨a,R,W⟩ hd=>by
   subst R W;rw[tx,t0]at hd;obtain⟨os,L,rfl⟩:=hd;obtain⟨G,_⟩:=hO os (N5 (Be L));obtain⟨h3,h4⟩:=E8 G;have Q:=uH (s:=f) w h3 (sj w h3 H h4);have rv:IT (i_ os) Y (J (-1))=J (i_ os.reverse):=by unfold IT;dsimp only;rw[b_ ⟨(λk (h:(Y:T4)=J k)=>nomatch h),rfl⟩];show J (D.lst (os.map D.int).reverse)=_;rw[<-List.map_reverse]
   refine⟨eR n ks qs O (J (i_ os)) _ _ Y,eR n ks qs O (J (i_ os)) _ _ Y,f,rfl,?_,J (i_ os),rfl,rfl⟩;have ng:jN.p (.int 1)=J (.int (-1)):=rfl;rw[fH,tZ,cu]
   simp![aM,M0,rn,rm,rC,bK,aW,ng,Pf,rv,Q,Pl,CK,Pg,pk,if_false,im])
 have hl:∀p∈c_ n ks [],p.length<=12:=λp P=>by
  have g:=dJ (ks:=ks) H p P;rw[je]at g;exact g.len n12
 have pl:(c_ n ks []).length<=12:=m_ (bY (ks:=ks)).len (m_ k9 n12);have pc:=mZ (s:=u) w H;rw[Bh]at pc
 have q6:=cD (ws:=[]) (ws':=[]) (env:=eR n ks qs O y (J (.int (((n:Int)*((n:Int)-1)).fdiv 2-ks.length))) (J (.lst ((An n ks []).map kD))) Y) (s:=u) (fm:=[]) (i:=aH (au bE (ac (aa 3) (ac (cF a_) a_)))) (t:=ka) (e:=ae MB (ae t8 (li dz (ac (aa 0) a_)) (ae cz (li dz (ac (aa 0) a_)) (xC (.int 1)))) (xC (.int 2))) (ds:=(c_ n ks []).map i_) (λ_=>I) (λx=>match x with|.lst C=>.int (((C.length:Int)*((C.length:Int)-1)).fdiv 2)|_=>.non) (by
  simp![dP,aM,dk,B8,t_,if_true,pc];rfl) (by rw[mm];ext) (λx U=>by
   obtain⟨p,P,rfl⟩:=ml.mp U;refine⟨rfl,λ_=>?_⟩;have l:=hl p P
   simp![aI,cC,bK,aW,Z,mm,Pf,ib,yx p.length l,FQ p.length l])
 have e6:((((c_ n ks []).map i_).filter λ_=>I).map λx:D=>match x with|.lst C=>D.int (((C.length:Int)*((C.length:Int)-1)).fdiv 2)|_=>.non)=((c_ n ks []).map λp=>((p.length:Int)*((p.length:Int)-1)).fdiv 2).map .int:=by rw[dN,AL,AL];refine KD λp _=>?_;simp
 rw[e6]at q6;have nl:=zy w n12;refine⟨eR n ks qs O y (J (.int (((n:Int)*((n:Int)-1)).fdiv 2-ks.length))) (J (.lst ((An n ks []).map kD))) (J (.lst (((c_ n ks []).map λp=>((p.length:Int)*((p.length:Int)-1)).fdiv 2).map .int))),?_⟩;unfold fT;rw[aB,cQ];have ei:(aH (aa 6):Xi []).p (eR n ks qs O Y Y Y Y) u=.ok (O.map i_) u:=rfl;rw[ei,Pg];refine(congrArg (λz:PS=>z.then _) q1).trans ?_;rw[PU.aq,aB,q2,PU.aq,aB,q3,PU.aq,aB,q4,PU.aq,aB,cQ];have S:(aH (Cu (aa 6) BZ (B0 (xC (.int 2)))):Xi []).p (eR n ks qs O a (J (.int (((n:Int)*((n:Int)-1)).fdiv 2-ks.length))) (J (.lst ((An n ks []).map kD))) Y) u=.ok ((O.take 2).map i_) u:=by simp only[dP,vU,aw,ar,rn,rm,bK,aW,Pb,wF,Pf,RZ,<-List.map_take];rfl
 rw[S,Pg];refine(congrArg (λz:PS=>z.then _) q5).trans ?_;rw[PU.aq,aB,br];refine(congrArg (λz:PR D=>(z.go _ _).then _) q6).trans ?_;rw[Pg,PU.aq,fH,cu,aI];simp![cC,aI,bK,aW,Z,lt,vT,v1,mm,Pf,Js,F,ib,nK,jd,nl,decide_true,CK,if_true,Pl,Pg,pk,if_false,im]
end
def wX{lo:Int}{c i:Nat}{x:PV}(h:(bG lo c)[i]?=J x):x=.int (lo+i)/\i<c:=by
 unfold bG at h;rw[tx,t0]at h;obtain⟨k,f,rfl⟩:=h
 have:=qp.mp f
 obtain⟨a,b⟩:=this;simp at a b;subst b;exact⟨rfl,a⟩
def vW{c i:Nat}{x:PV}(h:(bG 0 c)[i]?=J x):x=.int (i:Int)/\i<c:=by have:=wX h;simpa using this
def vI{ns:TR}{k:Nat}(a:k<ns.length):n_ (ns.map PV.int) (k:Int)=J (.int ns[k]):=L2.ie (by simp[a])
def tK{h:MH}:q7 (.int 10) (.int 18) h=.ok (.int (10^18)) h:=ub (by decide)
def AT{h:MH}:q7 (.int 10) (.int 15) h=.ok (.int (10^15)) h:=ub (by decide)
def zP{h:MH}{ns:TR}{k:Nat}(hk:k<64):∃m c:Int,fZ [.frl (ns.map .int),.int k] h=.ok (.loc h.length) (h++[.lst [.int m,.int c,.int 0]]):=by
 unfold fZ;have G:∀{i:Int}{h:MH},ki (.int 7919) (.int i) h=.ok (.int (7919*i)) h:=hX (by decide);have W:∀{i:Int}{h:MH},ki (.int 48271) (.int i) h=.ok (.int (48271*i)) h:=hX (by decide);have P:∀{i:Int}{h:MH},ki (.int 40009) (.int i) h=.ok (.int (40009*i)) h:=hX (by decide);have O:∀{a b c:PV}{h:MH},o_ [a,b,c] h=.ok (.loc h.length) (h++[.lst [a,b,c]]):=wt (by simp)
 have fin:∀cell:Int,∃m c:Int,(aO (Bi (mB (az Co (v2 A5 (ao (ag 2) h8)) (az q7 (mC (.int 10)) (mC (.int 18))))) (b8 (d6 (ao (mC (.int 1)) (ao (v2 A5 (ao (ag 2) h8)) (ao (mC (.int 0)) h8))))) lB)
   (b8 (d6 (ao (mC (.int 0)) (ao (az kx (az lT (ag 2) (mC (.int 2147483587))) (az ki (mC (.int 40009)) (ag 1))) (ao (mC (.int 0)) h8)))))) [J (.frl (ns.map .int)),J (.int k),J (.int cell)] h=.rt (.loc h.length) (h++[.lst [.int m,.int c,.int 0]]):=λcell=>by
  by_cases z:(10:Int)^18<=(if cell<0 then -cell else cell)
  .exact⟨1,(if cell<0 then -cell else cell),by simp[tK,O,z,-Int.reducePow]⟩
  .exact⟨0,cell.fmod 2147483587+40009*k,by simp[tK,O,z,P,fN,-Int.reducePow]⟩
 have l:∀cell:Int,∃m c:Int,((aO (Bi (mB (az Co (v2 A5 (ao (ag 2) h8)) (az q7 (mC (.int 10)) (mC (.int 18))))) (b8 (d6 (ao (mC (.int 1)) (ao (v2 A5 (ao (ag 2) h8)) (ao (mC (.int 0)) h8))))) lB)
   (b8 (d6 (ao (mC (.int 0)) (ao (az kx (az lT (ag 2) (mC (.int 2147483587))) (az ki (mC (.int 40009)) (ag 1))) (ao (mC (.int 0)) h8)))))) [J (.frl (ns.map .int)),J (.int k),J (.int cell)] h).fin=.ok (.loc h.length) (h++[.lst [.int m,.int c,.int 0]]):=λcell=>by
  obtain⟨m,c,q⟩:=fin cell;exact⟨m,c,by rw[q];rfl⟩
 have j:∀cell:Int,(aO (aZ 2 (az kx (az ki (mC (.int 7919)) (ag 1)) (mC (.int 11))))
 (Bi (mB (az Ck (ag 1) (v2 A6 (ao (v2 o0 (ao (ag 0) h8)) (ao (mC (.int 63)) h8))))) (aZ 2 (az bI (ag 0) (ag 1))) (Bi (mB (az Cm (v2 o0 (ao (ag 0) h8)) (mC (.int 0)))) (aZ 2 (az kx (az lT (az bI (ag 0) (az lT (ag 1) (v2 A6 (ao (v2 o0 (ao (ag 0) h8)) (ao (mC (.int 63)) h8))))) (az q7 (mC (.int 10)) (mC (.int 15)))) (az ki (mC (.int 48271)) (ag 1)))) lB))) [J (.frl (ns.map .int)),J (.int k),Y] h=.nx [J (.frl (ns.map .int)),J (.int k),J (.int cell)] h ->
   ∃m c:Int,eO 3 2 xk [.frl (ns.map .int),.int k] h=.ok (.loc h.length) (h++[.lst [.int m,.int c,.int 0]]):=λcell q=>by
  obtain⟨m,c,U⟩:=l cell;refine⟨m,c,(lK (by rfl)).trans ?_⟩;rw[<-U];unfold xk;simp only[dW]at q ⊢;have Z:ce 3 [PV.frl (ns.map .int),PV.int k]=[J (.frl (ns.map .int)),J (.int k),Y]:=rfl;rw[Z];generalize (aZ 2 (az kx (az ki (mC (.int 7919)) (ag 1)) (mC (.int 11)))) [J (.frl (ns.map .int)),J (.int k),Y] h=S at q ⊢
  cases S with
  |nx Z1 B =>
   simp only[MM.aq,dW]at q ⊢;rw[q];rfl
  |_=>cases q
 have u:∃f:Nat,(if(63:Int)<(ns.length:Int)then(63:Int)else(ns.length:Int))=(f:Int)/\f<=ns.length/\(0<ns.length->0<f):=by
  by_cases z:(63:Int)<(ns.length:Int)
  .exact⟨63,by rw[b_ z];rfl,by ext,by ext⟩
  .exact⟨ns.length,by rw[e_ z],by ext,by ext⟩
 obtain⟨f,C,E,r⟩:=u;by_cases B:k<f
 .refine j (ns[k]'(by ext)) ?_;simp[G,C,B,vI (show k<ns.length by ext)]
 .by_cases y:0<ns.length
  .have F:(f:Int)≠0:=by have:=r y;ext
   have L:k % f<ns.length:=rc (Nat.mod_lt _ (r y)) E;have X:(k:Int).fmod (f:Int)=((k % f:Nat):Int):=by rw[Pq _ (by ext)];rfl
   refine j ((ns[k % f]'L).fmod (10^15)+48271*k) ?_;have R:((10:Int)^15)≠0:=by decide
   have H:=vI L;rw[Int.natCast_emod]at H;simp[G,C,B,y,fN F,X,H,AT,fN R,W,-Int.reducePow]
  .have Q:ns=[]:=CT.mp (by ext);refine j (7919*k+11) ?_;have z:¬((k:Int)<(f:Int)):=by ext
   simp[G,C,z,y]
def KS(Z:ls)(o:SOut):Prop:=match o with
 |.nx a _=>a.length=Z.length/\a[0]?=Z[0]?
 |.bk a _=>a.length=Z.length/\a[0]?=Z[0]?
 |.ct a _=>a.length=Z.length/\a[0]?=Z[0]?
 |_=>True
def KS.of{Z f:ls}{o:SOut}(h:f.length=Z.length/\f[0]?=Z[0]?)(k:KS f o):KS Z o:=by
 cases o with
 |nx a b=>exact⟨k.1.trans h.1,k.2.trans h.2⟩
 |bk a b=>exact⟨k.1.trans h.1,k.2.trans h.2⟩
 |ct a b=>exact⟨k.1.trans h.1,k.2.trans h.2⟩
 |_=>trivial
def K0(m:mh):Prop:=∀Z h,KS Z (m Z h)
def xz:K0 lB:=λZ h=>⟨rfl,rfl⟩
def E_{α:Type}{m:Mx α}{k:α->mh}(f:∀v,K0 (k v)):K0 (w_ m k):=λZ h=>by
 unfold w_
 cases m Z h with
 |ok v a=>exact f v Z a
 |_=>trivial
def NS{m:Mx PV}:K0 (b8 m):=λZ h=>by
 unfold b8
 cases m Z h with
 |ok v a=>trivial
 |_=>trivial
def rH{i:Nat}{v:PV}{Z:ls}(h:i≠0):(Z.set i (J v)).length=Z.length/\(Z.set i (J v))[0]?=Z[0]?:=⟨by simp,tu h⟩
def NT{i:Nat}{m:Mx PV}(h:i≠0):K0 (aZ i m):=E_ λv Z a=>rH h
def NU{a b:mh}(j:K0 a)(l:K0 b):K0 (aO a b):=λZ h=>by
 have:=j Z h
 unfold aO
 cases e:a Z h with
 |nx i f=>rw[e]at this;exact KS.of this (l i f)
 |bk i f=>rw[e]at this;exact this
 |ct i f=>rw[e]at this;exact this
 |_=>trivial
def R0{c:Mx Bool}{a b:mh}(f:K0 a)(i:K0 b):K0 (Bi c a b):=E_ λx=>by
 cases x
 .exact i
 .exact f
def JR{m:Mx PV}:K0 (gU m):=E_ λ_=>xz
def R1{l:MIt}{i:Nat}{b:mh}(j:i≠0)(y:K0 b):∀xs:TN,K0 (v9 l (AN i) b xs):=by
 intro xs
 induction xs with
 |nil =>
  intro Z h;unfold v9;split
  .exact⟨rfl,rfl⟩
  .trivial
 |cons x r u =>
  intro Z h;unfold v9;split
  .show KS Z (match b (Z.set i (J x)) h with
    |.nx f a=>v9 l (AN i) b r f a
    |.ct f a=>v9 l (AN i) b r f a
    |.bk f a=>.nx f a
    |.rt v a=>.rt v a
    |.exc e f a=>.exc e f a
    |.rse e f a=>.rse e f a
    |.bad=>.bad)
   have k:=(y (Z.set i (J x)) h)
   cases e:b (Z.set i (J x)) h with
   |nx f a=>rw[e]at k;exact KS.of (rH j) (KS.of k (u f a))
   |ct f a=>rw[e]at k;exact KS.of (rH j) (KS.of k (u f a))
   |bk f a=>rw[e]at k;exact KS.of (rH j) k
   |_=>trivial
  .trivial
def NV{f:Mx MIt}{i:Nat}{b:mh}(a:i≠0)(j:K0 b):K0 (iJ f (AN i) b):=E_ λl=>R1 a j l.xs
section
variable{ws:TV}
def gh{a b:Xd ws}(i:K0 a.m)(f:K0 b.m):K0 (aG a b).m:=NU i f
def j9{i:Nat}{e:Xe ws}{a:ws.contains i=T}{f:e.fz=I}(h:i≠0):K0 (bn i e a f).m:=NT h
def rD{t:Xt ws}{e:Xe ws}:K0 (r4 t (bu e) i4).m:=R0 NS xz
def sk{a:Xi ws}{i:Nat}{f:ws.contains i=T}{b:Xd ws}{j:a.fz=I}(h:i≠0)(l:K0 b.m):K0 (cE a (jj i f) b j).m:=NV h l
def NW{o:Ce}{i:Nat}{a:Xs ws}{f:ws.contains i=I}{j:a.fz=I}:K0 (tr o i a f j).m:=JR
end
def yK{h:MH}{p:Nat}{s:g_}(pn:bT h p s):∀o∈[p],o<h.length:=λo a=>by
 have:o=p:=by simpa using a
 subst this;exact ba pn
def AM{n:Int}{a:TU}:flat (ai n a)=I:=by simp[ai,flat,oy,kH]
def nJ{p:Nat}{h:MH}{Z:ls}{E:aA}{s:g_}(pn:bT h p s)(f:Z.length=E.length)(r:∀(i:Nat) d,E[i]?=J (J d)->∃v,Z[i]?=J (J v)/\Rp p h [p] d v):PU.Cx p h h.length [p] [p] [] Z E s :=
 ⟨yK pn,λ_ h=>h,yK pn,by simp,ia _,pn,f,λi d e _=>r i d e,λi _ _ a=>by cases a⟩
def vV{e:Xe []}{p:Nat}{h:MH}{Z:ls}{E:aA}{s s':g_}{d:D}(j:e.fz=I)(c:PU.Cx p h h.length [p] [p] [] Z E s)(i:e.p E s=.ok d s'):∃v a,e.m Z h=.ok v a/\KB p h a/\bT a p s'/\Rp p a [p] d v:=by have k:=e.ok c;rw[i]at k;obtain⟨v,a,e,kb,f,_,r,_⟩:=k;exact⟨v,a,e,kb,f,r j⟩
def JS{e:Xe []}{p:Nat}{h:MH}{Z:ls}{E:aA}{s u:g_}{j:TW}(B:e.fr=I)(c:PU.Cx p h h.length [p] [p] [] Z E s)(y:e.p E s=.ok (.lst j) u):∃l xs a,e.m Z h=.ok (.loc l) a/\KB p h a/\bT a p u/\h.length<=l/\a[l]?=J (.lst xs)/\Rps p a [l,p] j xs:=by have k:=e.ok c;rw[y]at k;obtain⟨v,a,e,kb,i,_,_,f⟩:=k;obtain⟨l,xs,rfl,z,g,r⟩:=f B Y j rfl;exact⟨l,xs,a,e,kb,i,z,g,r⟩
abbrev Pm(B:TU):D:=.lst (B.map kD)
def qq{a b c:mh}:aO (aO a b) c=aO a (aO b c):=by funext Z h;unfold aO;cases a Z h<;>rfl
abbrev X3:Xe []:=au ig (ac (aa 2) (ac (ae ky (cF (ac (xC (.int 12)) (ac (xC (.int 8)) a_))) (aa 1)) a_))
abbrev X4:Xe []:=Cu (au ck (ac (aa 2) (ac (ae ky (aa 3) (xC (.int 0))) a_))) BZ (B0 (au aR (ac (aa 2) (ac (ae bF (ae ky (aa 3) (xC (.int 0))) (xC (.int 1))) a_))))
abbrev X5:Xe []:=au bC (ac (aa 3) (ac (aa 4) a_))
abbrev X6:Xe []:=aJ 1 [2,3,4] (bQ xf (ac (xC (.int 2)) a_)) (ws':=[]) (jj 0) ka (au c7 (ac (aa 1) (ac (aa 2) (ac (aa 3) a_))))
abbrev n5:mh:=(aO (aZ 3 X3.m)
 (aO (aZ 4 X4.m)
 (aO (aZ 5 X5.m)
 (aO (aZ 6 X6.m)
 (aO oH.m fT.m)))))
def zD:Cv=aO (iJ (jV (ao (mC (.int 2)) h8)) (AN 1) (aO (aZ 2 (bS fZ (ao (ag 0) (ao (ag 1) h8)))) n5)) (b8 (mC (.bl I))):=by
 have e:aO oH.m fT.m=aO (aZ 7 (d6 h8)) (aO (iJ (iw (bS bE.m (ao (ag 3) (ao (ag 4) h8)))) (AN 8) (aZ 7 (az kx (ag 7) (ag 8)))) (aO (gU (Cb fP (ag 6) (ao (az kx (ag 7) (ag 4)) h8))) fT.m)):=by have q:oH.m=aO (aO (aZ 7 (d6 h8)) (iJ (iw (bS bE.m (ao (ag 3) (ao (ag 4) h8)))) (AN 8) (aZ 7 (az kx (ag 7) (ag 8))))) (gU (Cb fP (ag 6) (ao (az kx (ag 7) (ag 4)) h8))):=rfl;rw[q,qq,qq]
 unfold n5;rw[e];rfl
section
variable{n:Nat}{s:g_}{ks:TU}{qs:TR}
def R3{c:Nat}(z:c<2){z0:T9}{r:aA}:∃(n:Nat)(ks:TU)(a:g_),X3.p (z0::J (.int (c:Int))::J .pen::r) s=.ok (ai n ks) a/\n<=12/\i3 n ks:=by
 have u:∀{x y:D}{s:g_},(if [x,y].length<=100000 then PR.ok (D.lst [x,y]) s else .bad)=.ok (.lst [x,y]) s:=λ{x y s}=>b_ (by simp);obtain⟨M,e,l⟩:∃M:Int,ky.p (.lst [.int 12,.int 8]) (.int (c:Int))=J (.int M)/\0<=M/\M<=12:=by
  have:c=0\/c=1:=by ext
  rcases this with rfl|rfl
  .exact⟨12,by rw[iZ];rfl,by decide,by decide⟩
  .exact⟨8,by rw[iZ];rfl,by decide,by decide⟩
 obtain⟨n,ks,f,j,i,w⟩:=NI (M:=M) (s:=s) l;refine⟨n,ks,f,?_,i,w⟩;simp![aM,aI,dk,bK,aW,u,e,Pf,j]
def R4{z0 z1:T9}{r:aA}(a:n<=12):∃qs l,X4.p (z0::z1::J .pen::J (ai n ks)::r) s=.ok (i_ qs) l/\Sm n qs:=by obtain⟨f,i,B,o⟩:=o8 (n:=n) (s:=s) a;obtain⟨d,u,y,C,z⟩:=dI (s:=i) (size:=(n:Int)+1) (by ext) (by ext);have nd:f.Nodup:=o.pm.symm.nodup (fU n);refine⟨f.take d.toNat,u,?_,a,nd.sublist (Py _ _),λx j=>o.bd x (N5 j)⟩;simp![vU,aM,aI,bK,aW,ai,lh,ly,Pf,B,rn,rm,ic,z,wF,Jx y]
def Tl(n:Nat)(qs:TR)(y:D):Prop:=∃os,y=i_ os/\Ord n os/\CP qs os
def FR:∀{ys:TW},(∀y∈ys,Tl n qs y)->∃O:TU,ys=O.map i_/\∀os∈O,Ord n os/\CP qs os
 |[],_=>⟨[],rfl,(λ_ h=>nomatch h)⟩
 |y::ys,h=>by
  obtain⟨O,e,j⟩:=FR (ys:=ys) λy i=>h y (l7 _ i);obtain⟨k,rfl,a⟩:=h y (by simp);exact⟨k::O,by rw[e];rfl,λx f=>(l_.mp f).elim (λq=>q▸a) (j x)⟩
def R5{z0 z1:T9}{r:aA}(m:Sm n qs):∃(O:TU)(f:g_),X6.p (z0::z1::J .pen::J (ai n ks)::J (i_ qs)::r) s=.ok (.lst (O.map i_)) f/\O.length<=2/\∀os∈O,Ord n os/\CP qs os:=by
 obtain⟨C,f,q,j,u⟩:=gW (ws:=[]) (ws':=[]) (env:=z0::z1::J .pen::J (ai n ks)::J (i_ qs)::r) (s:=s) (s0:=s) (fm:=[2,3,4]) (i:=bQ xf (ac (xC (.int 2)) a_)) (t:=ka) (e:=au c7 (ac (aa 1) (ac (aa 2) (ac (aa 3) a_)))) (ds:=cK 0 2) (Tl n qs) (by
  simp only[fC,af,bK,aW,Pb,av]
  rw[jD (by ext)];rfl) (by rw[cN];ext) (λx B s=>by
   obtain⟨os,z,y,o,a⟩:=Ae (ks:=ks) (s:=s) m.n12 m;refine⟨I,s,rfl,λ_=>⟨_,z,?_,os,rfl,o,a⟩⟩
   simp![aM,n8,Bh,B2,B3,BG,y])
 rw[cN]at j;obtain⟨O,rfl,l⟩:=FR u;rw[mm]at j;exact⟨O,f,q,j,l⟩
def NX:K0 oH.m:=gh (gh (j9 (by decide)) (sk (by decide) (j9 (by decide)))) NW
def Fa:K0 fT.m:=gh (sk (by decide) rD) (gh (j9 (by decide)) (gh rD (gh (j9 (by decide)) (gh (sk (by decide) rD) (gh (j9 (by decide)) rD)))))
def JT{h:MH}{a b:Int}{c:Nat}{z0:Option PV}{r:List (Option PV)}(hc:c<2)(hr:r.length=10):∃Z' h',n5 (z0::J (.int (c:Int))::J (.loc h.length)::r) (h++[.lst [.int a,.int b,.int 0]])=.nx Z' h'/\Z'.length=13/\Z'[0]?=J z0:=by
 match r,hr with
 |[a3,a4,a5,a6,L,F,P,y,u,l],_ =>
  have ab:bT (h++[.lst [.int a,.int b,.int 0]]) h.length (a,b,0):=L8;generalize h++[MO.lst [.int a,.int b,.int 0]]=g0 at *;generalize h.length=p at *;have R:∀{k i:Nat}{d:D},(List.replicate k (Y:T9))[i]?=J (J d)->False:=λ{k i d} e=>by
   rw[FU]at e
   split at e<;>cases e
  obtain⟨n,ks,s1,q1,hn,w⟩:=R3 (s:=(a,b,0)) hc (z0:=Y) (r:=[Y,Y,Y,Y,Y,Y,Y,Y,Y,Y])
  obtain⟨H,g1,e1,k1,a0,G⟩:=vV (e:=X3) (Z:=[z0,J (.int (c:Int)),J (.loc p),a3,a4,a5,a6,L,F,P,y,u,l]) rfl (nJ ab rfl λi d e=>by
   match i,e with
   |0,e=>cases e
   |1,e=>cases e;exact⟨_,rfl,rfl⟩
   |2,e=>cases e;exact⟨_,rfl,rfl⟩
   |i+3,e=>exact(R (k:=10) e).elim) q1
  have G:∀g O,Rp p g O (ai n ks) H:=λg O=>G.flat AM;obtain⟨qs,s2,q2,m⟩:=R4 (ks:=ks) (z0:=Y) (z1:=Y) (r:=[Y,Y,Y,Y,Y,Y,Y,Y,Y]) (s:=s1) hn
  obtain⟨v4,g2,e2,k2,aj,X⟩:=vV (e:=X4) (Z:=[z0,J (.int (c:Int)),J (.loc p),J H,a4,a5,a6,L,F,P,y,u,l]) rfl (nJ a0 rfl λi d e=>by
   match i,e with
   |0,e=>cases e
   |1,e=>cases e
   |2,e=>cases e;exact⟨_,rfl,rfl⟩
   |3,e=>cases e;exact⟨_,rfl,G _ _⟩
   |i+4,e=>exact(R (k:=9) e).elim) q2
  obtain⟨v5,g3,e3,k3,S,r5⟩:=vV (e:=X5) (Z:=[z0,J (.int (c:Int)),J (.loc p),J H,J v4,a5,a6,L,F,P,y,u,l]) (E:=[Y,Y,J .pen,J (ai n ks),J (i_ qs),Y,Y,Y,Y,Y,Y,Y,Y]) (d:=Pm (An n ks qs)) (s':=s2) rfl (nJ aj rfl λi d e=>by
   match i,e with
   |0,e=>cases e
   |1,e=>cases e
   |2,e=>cases e;exact⟨_,rfl,rfl⟩
   |3,e=>cases e;exact⟨_,rfl,G _ _⟩
   |4,e=>cases e;exact⟨_,rfl,X⟩
   |i+5,e=>exact(R (k:=8) e).elim) (by simp[sS w m])
  have X:=X.mv (k3.mv (by simp));obtain⟨O,s4,q4,l2,hO⟩:=R5 (ks:=ks) (z0:=Y) (z1:=Y) (r:=[Y,Y,Y,Y,Y,Y,Y,Y]) (s:=s2) m
  obtain⟨U,ah,g4,e4,k4,an,f6,b6,c6⟩:=JS (e:=X6) (Z:=[z0,J (.int (c:Int)),J (.loc p),J H,J v4,J v5,a6,L,F,P,y,u,l]) rfl (nJ S rfl λi d e=>by
   match i,e with
   |0,e=>cases e
   |1,e=>cases e
   |2,e=>cases e;exact⟨_,rfl,rfl⟩
   |3,e=>cases e;exact⟨_,rfl,G _ _⟩
   |4,e=>cases e;exact⟨_,rfl,X⟩
   |i+5,e=>exact(R (k:=8) e).elim) q4
  have W:=ba S;have t6:=ba b6
  have mO:Mv [p] g3 [U,p] g4:=⟨λi B no=>k4.keep i B (by simpa using no),λo f=>by
   rcases l_.mp f with z|z
   .subst z;exact .inr f6
   .exact .inl z⟩
  obtain⟨z7,z8,q5⟩:=NR (O:=O) (z5:=J (Pm (An n ks qs))) (s:=s4) w m l2;have cx:PU.Cx p g4 g3.length [p] [U,p] [6] [z0,J (.int (c:Int)),J (.loc p),J H,J v4,J v5,J (.loc U),L,F,P,y,u,l] (eT n ks qs (J (Pm (An n ks qs))) (J (.lst (O.map i_))) Y Y) s4:=by
   refine⟨λo f=>?_,λo f=>l7 _ f,λo f=>?_,by simp,k4.len,an,rfl,λi d e B=>?_,λi d e B=>?_⟩
   .rcases l_.mp f with z|z
    .subst z;exact t6
    .rw[Fg.mp z];exact rc W k4.len
   .rw[Fg.mp f];exact W
   .match i,e,B with
    |0,e,_=>cases e
    |1,e,_=>cases e
    |2,e,_=>cases e;exact⟨_,rfl,rfl⟩
    |3,e,_=>cases e;exact⟨_,rfl,G _ _⟩
    |4,e,_=>cases e;exact⟨_,rfl,X.mv mO⟩
    |5,e,_=>cases e;exact⟨_,rfl,r5.mv mO⟩
    |6,_,B=>exact absurd (show 6∈[6] by simp) B
    |i+7,e,_=>exact(R (k:=6) e).elim
   .have:i=6:=by simpa using B
    subst this;cases e;exact⟨U,Y,ah,O.map i_,rfl,rfl,by simp,f6,b6,c6⟩
  have k:=oH.ok cx λi j B hj ne _ _ _ _ _ _=>by
   have h1:i=6:=by simpa using B
   have h2:j=6:=by simpa using hj
   exact absurd (h1.trans h2.symm) ne
  rw[q5]at k;obtain⟨Z5,C,e5,O5,a2,Q,_⟩:=k;have K5:=NX [z0,J (.int (c:Int)),J (.loc p),J H,J v4,J v5,J (.loc U),L,F,P,y,u,l] g4;rw[e5]at K5;have pO:p∈O5:=Q.sub p (by simp);have mp:∀{d:D}{v:PV},Rp p C O5 d v->Rp p C [p] d v:=λr=>r.mv ⟨λ_ _ _=>rfl,λo f=>by rw[Fg.mp f];exact .inl pO⟩;obtain⟨x3,y3,al⟩:=Q.sr.fz 3 (ai n ks) rfl (by simp);obtain⟨x5,y5,ay⟩:=Q.sr.fz 5 (Pm (An n ks qs)) rfl (by simp);obtain⟨x2,y2,ax⟩:=Q.sr.fz 2 .pen rfl (by simp);obtain⟨n6,kd,xs,ds,ed,y6,be,bi,h6,r6⟩:=Q.sr.ow 6 _ rfl (by simp);obtain⟨rfl,rfl⟩:=fc ed;replace h6:C[n6]?=J (.lst xs):=h6;have as:Rp p C [p] (.lst ((O++[(c_ n ks qs).flatten++qs]).map i_)) (.loc n6):=⟨n6,xs,rfl,by simp;ext,h6,r6.mv ⟨λ_ _ _=>rfl,λo f=>by rw[Fg.mp f];exact .inl pO⟩⟩;have am:∀os∈O++[(c_ n ks qs).flatten++qs],Ord n os/\CP qs os:=λos f=>by
   rcases nt.mp f with h|h
   .exact hO os h
   .rw[Fg.mp h];exact sT m
  obtain⟨a1,q6⟩:=E9 (O:=O++[(c_ n ks qs).flatten++qs]) (s:=s4) w m am (by simp;ext);have ap:PU.Cx p C C.length [p] [p] [] Z5 (eR n ks qs (O++[(c_ n ks qs).flatten++qs]) Y Y Y Y) s4:=nJ Q.pen (by rw[K5.1];rfl) λi d e=>by
   match i,e with
   |0,e=>cases e
   |1,e=>cases e
   |2,e=>cases e;exact⟨x2,y2,mp ax⟩
   |3,e=>cases e;exact⟨x3,y3,mp al⟩
   |4,e=>cases e
   |5,e=>cases e;exact⟨x5,y5,mp ay⟩
   |6,e=>cases e;exact⟨_,y6,as⟩
   |i+7,e=>exact(R (k:=6) e).elim
  have k6:=fT.ok ap λi j B _ _ _ _ _ _ _ _=>by cases B
  rw[q6]at k6;obtain⟨Z6,g6,e6,_⟩:=k6;have K6:=Fa Z5 C;rw[e6]at K6;refine⟨Z6,g6,?_,K6.1.trans K5.1,K6.2.trans K5.2⟩;unfold n5;rw[dW,lx,e1,aF];simp only[vT,v1,MM.aq];rw[dW,lx,e2,aF];simp only[vT,v1,MM.aq];rw[dW,lx,e3,aF];simp only[vT,v1,MM.aq];rw[dW,lx,e4,aF];simp only[vT,v1,MM.aq];rw[dW];refine(congrArg (λz:SOut=>z.then _) e5).trans ?_;rw[MM.aq];exact e6
end
def Cz{Z:ls}{x:Option PV}(h:Z.length=13)(a:Z[0]?=J x):∃f i r,Z=x::f::i::r/\r.length=10:=by
 match Z,h with
 |b0::l::j::r,h =>
  cases a;exact⟨l,j,r,rfl,by simpa using h⟩
def CA(ns:TR)(W:ns.length<=63):∃f,BV [.frl (ns.map .int)] []=.ok (.bl I) f:=by
 unfold BV;rw[lK (by rfl),zD];have Q:ce 13 [PV.frl (ns.map .int)]=[J (.frl (ns.map .int)),Y,Y,Y,Y,Y,Y,Y,Y,Y,Y,Y,Y]:=rfl;rw[Q];obtain⟨U,f,e,C,i⟩:=vo (it:=⟨bG 0 2,[]⟩) (g:=AN 1) (b:=aO (aZ 2 (bS fZ (ao (ag 0) (ao (ag 1) h8)))) n5)
  (λj Z h=>Z.length=13/\Z[0]?=J (J (.frl (ns.map .int)))) (bG 0 2) 0 [J (.frl (ns.map .int)),Y,Y,Y,Y,Y,Y,Y,Y,Y,Y,Y,Y] [] ⟨rfl,rfl⟩ (λ_ _ _ _=>DC.mpr trivial) (λm Z h x ⟨u,F⟩ G=>by
   obtain⟨S,E,r,rfl,H⟩:=Cz u F;obtain⟨rfl,l⟩:=vW G;obtain⟨a,b,y⟩:=zP (h:=h) (ns:=ns) (k:=m) (by ext);obtain⟨L,B,e2,R,O⟩:=JT (h:=h) (a:=a) (b:=b) (c:=m) (z0:=J (.frl (ns.map .int))) (r:=r) l H;refine⟨_,_,L,B,rfl,?_,R,O⟩;rw[dW];have e1:aZ 2 (bS fZ (ao (ag 0) (ao (ag 1) h8))) (J (.frl (ns.map .int))::J (.int (m:Int))::E::r) h=.nx (J (.frl (ns.map .int))::J (.int (m:Int))::J (.loc h.length)::r) (h++[.lst [.int a,.int b,.int 0]]):=by simp -implicitDefEqProofs [y]
   refine(congrArg (λz:SOut=>z.then _) e1).trans ?_;rw[MM.aq]
   exact e2)
 refine⟨f,?_⟩;have P:jV (ao (mC (.int 2)) h8) [J (.frl (ns.map .int)),Y,Y,Y,Y,Y,Y,Y,Y,Y,Y,Y,Y] []=.ok ⟨bG 0 2,[]⟩ []:=by simp -implicitDefEqProofs
 rw[dW,DA,P,aF,e,MM.aq];rfl
end Law
namespace Law
open PySem.Spec PyProof.Rows L2 MM
set_option maxHeartbeats 4000000
def v6(i:Nat):Stmt:=PySem.Challenge.pw_fewfills_k26_whole_fill_is_among_them.main.body.getD i (.Pass ⟨0,0,0,0⟩)
structure Cl(K:hU)(mg:Ca):Prop where
 r_NoOrder:∃C,Cr K mg "NoOrder" C
 r_NoParting:∃C,Cr K mg "NoParting" C
 r_NoPlace:∃C,Cr K mg "NoPlace" C
def Tn(K:hU):Prop:=∀(mg:Ca)(base:Heap),K.In base->base.Ns mainGlobals mg->Cl K mg
def JU{K:hU}{f:Addr}{a:Addr}{i:Addr}(u:PySem.W.nsIn K mainGlobals "NoOrder"=J (J (.ref f)))(l:PySem.W.nsIn K mainGlobals "NoParting"=J (J (.ref a)))(C:PySem.W.nsIn K mainGlobals "NoPlace"=J (J (.ref i)))(B:PySem.W.excIn K f DG "ValueError.__new__"=I)(j:PySem.W.excIn K a DG "ValueError.__new__"=I)(z:PySem.W.excIn K i DG "ValueError.__new__"=I)(X:PySem.W.findIn K (.ref f) "__getattribute__"=J (J (.builtin "BaseException.__getattribute__")))(S:PySem.W.findIn K (.ref f) "__class__"=J (J (.builtin "object.__class__")))(P:PySem.W.findIn K (.ref f) "__getattr__"=J Y)(W:PySem.W.mroIn K f (.type "object")=J I)(U:PySem.W.mroIn K f (.type "BaseException")=J I)(M:PySem.W.findIn K (.ref a) "__getattribute__"=J (J (.builtin "BaseException.__getattribute__")))(F:PySem.W.findIn K (.ref a) "__class__"=J (J (.builtin "object.__class__")))(H:PySem.W.findIn K (.ref a) "__getattr__"=J Y)(L:PySem.W.mroIn K a (.type "object")=J I)(G:PySem.W.mroIn K a (.type "BaseException")=J I)(R:PySem.W.findIn K (.ref i) "__getattribute__"=J (J (.builtin "BaseException.__getattribute__")))(Q:PySem.W.findIn K (.ref i) "__class__"=J (J (.builtin "object.__class__")))(O:PySem.W.findIn K (.ref i) "__getattr__"=J Y)(ab:PySem.W.mroIn K i (.type "object")=J I)(Z:PySem.W.mroIn K i (.type "BaseException")=J I):Tn K:=λmg base kin ns=>by
 have y:=PySem.W.mg_of kin ns u;have r:=PySem.W.mg_of kin ns l;have E:=PySem.W.mg_of kin ns C;exact⟨⟨_,y,B⟩,⟨_,r,j⟩,⟨_,E,z⟩⟩
local macro_rules | `(tactic| contradiction)=>do let q <-[`w_var,`M3,`Rk,`M4,`M5,`Nc,`I_,`Rm,`Ja,`Jb,`Rx,`ND,`Ry,`Rz,`Nr,`Nk,`M6,`M7,`M8,`IY,`EM,`M9,`IZ,`M_,`Na,`Nb,`Rn,`w_rv,`Ro,`Rq,`Jl,`Nx,`Ny,`RB,`Ji,`w_tchain,`Jj,`RD,`Jk,`w_and,`Nu,`w_or,`Nv,`Nw,`RG,`RE,`RF,`RI,`RJ,`NA,`Nz,`RK,`gM,`eS,`NB,`Jn,`RL,`NC,`RM,`w_set,`Jp,`Jr,`RC,`Nt,`Ao,`AH,`Ay,`Jh,`Jo,`w_pass,`EQ,`Nd,`Nf,`j_Mul,`j_Fd,`Rr,`Rs,`Rt,`Ru,`Rv,`Nh,`Ng,`NE,`Rw,`Ni,`Nl,`Nm,`Jd,`Je,`Nj,`Jc,`EN,`No,`Np,`Au,`ES,`b_sum,`Nq,`Jf,`Jg].foldrM (λn t=>`(tactic| first | apply $(Lean.mkIdent n) | $t:tactic)) (<-`(tactic| fail));`(tactic| (first | assumption | (apply Jm;assumption;(intro env h;cases env;cases h;first | rfl | with_unfolding_all rfl)) | (apply Jq;assumption;(intro env h;cases env;cases h;first | rfl | with_unfolding_all rfl)) | with_reducible $q:tactic | exact rfl | decide +kernel | refine λY c=>⟨?_,?_,?_⟩ | (intro _;rfl) | exact λ_ _=>rfl | exact Cj _ | omega | exact⟨⟨rfl,rfl⟩,rfl,rfl,rfl⟩ | with_unfolding_all rfl) <;> contradiction)
abbrev g8:Stmt:=v6 6
abbrev hJ:Stmt:=v6 8
abbrev eL:Stmt:=v6 9
abbrev dX:Stmt:=v6 10
abbrev eE:Stmt:=v6 11
abbrev fy:Stmt:=v6 12
abbrev gT:Stmt:=v6 13
abbrev eD:Stmt:=v6 14
abbrev eJ:Stmt:=v6 16
abbrev eK:Stmt:=v6 17
abbrev ff:Stmt:=v6 18
abbrev jw:Stmt:=v6 19
abbrev oB:Stmt:=v6 20
abbrev d4:Stmt:=v6 22
abbrev dA:Stmt:=v6 24
abbrev jK:Stmt:=v6 25
abbrev g9:Stmt:=v6 26
abbrev gX:Stmt:=v6 27
abbrev lM:Stmt:=v6 29
abbrev u9:TQ:=["_law_script","_law_k","_law_cell"]
abbrev vq:TQ:=["min","len","abs"]
abbrev Fb:TQ:=["_law_script","_law_k"]
def Fc(Bz:Sc X lM)(g:Gd X u9 vq k)(i:j3 X)(n0:Nn X "abs")(f:Nn X "len")(a:Nn X "min"):Bw X (aK lM) xk :=
 (mj.h (wm (BQ g 2 (u_ (aL cV (aL fb aC (kV g 1)) aC)))
 (wm (A9 (gS (Ks Fv (kV g 1) (BU g 0 (sI g) a ot (aE (BU g 1 ec f d8 (aE (kV g 0) aP)) (aE aC aP)))) (mj.h (A_ (BQ g 2 (u_ (Bc (kV g 0) (kV g 1)))))) (mj.h (A_ (A9 (gS (Ks Fw (BU g 1 ec f d8 (aE (kV g 0) aP)) aC) (mj.h (A_ (BQ g 2 (u_ (aL cV (aL d9 (Bc (kV g 0) (aL d9 (kV g 1) (BU g 0 (sI g) a ot (aE (BU g 1 ec f d8 (aE (kV g 0) aP)) (aE aC aP))))) (aL yu aC aC)) (aL fb aC (kV g 1))))))) eY))))))
 (wm (A9 (gS (Ks LK (BU g 2 ze n0 xU (aE (kV g 2) aP)) (aL yu aC aC)) (mj.h (A_ (Ct (OX (fg (u_ aC) (fg (u_ (BU g 2 ze n0 xU (aE (kV g 2) aP))) (fg (u_ aC) nW))))))) eY))
 (A_ (Ct (OX (fg (u_ aC) (fg (u_ (aL cV (aL d9 (kV g 2) aC) (aL fb aC (kV g 1)))) (fg (u_ aC) nW))))))))))
abbrev j4:Stmt:=v6 30
abbrev tj:TQ:=["_law_pen_here","_law_size","_law_number","_law_drawn"]
abbrev tT:TQ:=[]
abbrev AF:TQ:=["_law_pen_here","_law_size"]
def zu(Bz:Sc X j4)(g:Gd X tj tT k)(a:j3 X):Bw X (aK j4) vS :=
 (mj.h (wm (A9 (tJ (aL cV (Bc (kV g 0) aC) aC) (yT (kV g 0) aC)))
 (wm (A9 (gS (Ks (rE g.room) (Bc (kV g 0) aC) aC) (mj.h (wm (BQ g 3 (u_ (aL d9 (Bc (kV g 0) aC) (kV g 1))))
 (wm (A9 (tJ (aL rB (Bc (kV g 0) aC) (kV g 1)) (yT (kV g 0) aC)))
 (A_ (Ct (u_ (kV g 3))))))) eY))
 (wm (BQ g 2 (u_ (aL d9 (aL fb (aL cV (aL cV (Bc (kV g 0) aC) (aL fb aC (Bc (kV g 0) aC))) aC) aC) aC)))
 (wm (BQ g 2 (u_ (aL d9 (aL fb (kV g 2) (aL cV (aL cV (aL d9 (kV g 2) aC) (Bc (kV g 0) aC)) aC)) aC)))
 (A_ (Ct (u_ (aL d9 (aL rB (aL d9 (aL fb (kV g 2) (aL cV (aL d9 (kV g 2) aC) aC)) aC) aC) (kV g 1))))))))))
abbrev i6:Stmt:=v6 31
abbrev jC:Stmt:=v6 32
abbrev iV:Stmt:=v6 33
abbrev lO:Stmt:=v6 34
abbrev gZ:Stmt:=v6 35
abbrev gQ:Stmt:=v6 36
abbrev i7:Stmt:=v6 37
abbrev nh:Stmt:=v6 38
abbrev FS:TQ:=["_law_script","_law_turn","_law_pen_here","_law_web_here","_law_some","_law_told","_law_orders","_law_last","_law_piece","_law_order_here","_law_lacking","_law_whole","_law_within"]
abbrev FT:TQ:=["range","_law_pen","_law_web","_law_order","_law_draw","may_come","pieces","_law_among","len","list","sum"]
abbrev CC:TQ:=["_law_script"]
def NY(Bz:Sc X nh)(g:Gd X FS FT k)(M:j3 X)(u:Cal X "pieces" ["web","some"] bE.m k)(r:Cal X "_law_among" ["_law_web_here","_law_order_here","_law_told"] cq.m k)(a:Cal X "may_come" ["web","some"] bC.m k)(F:Cal X "_law_behind" ["_law_pen_here","_law_web_here","_law_some"] c7.m k)(H:Cal X "_law_order" ["_law_pen_here","_law_n"] ck.m k)(G:Cal X "_law_draw" ["_law_pen_here","_law_size"] dO k)(B:Cal X "_law_web" ["_law_pen_here","_law_most"] ig.m k)(E:Cal X "_law_pen" ["_law_script","_law_k"] fZ k)(f:Nn X "range")(l:Nn X "len")(C:Nn X "sum")(L:Nn X "list"):Bw X (aK nh) Cv :=
 (mj.h (wm (A9 (kA g (Tb g 0 f (aE aC aP)) (Kr g 1) (mj.h (wm (BQ g 2 (u_ (Cf g 1 E (aE (kV g 0) (aE (kV g 1) aP)))))
 (wm (BQ g 3 (u_ (Cf g 2 B (aE (kV g 2) (aE (Bc (lb.h (OX (fg (u_ aC) (fg (u_ aC) nW)))) (kV g 1)) aP)))))
 (wm (BQ g 4 (u_ (wR (Cf g 3 H (aE (kV g 2) (aE (Bc (kV g 3) aC) aP))) lG (lI (Cf g 4 G (aE (kV g 2) (aE (aL cV (Bc (kV g 3) aC) aC) aP)))))))
 (wm (BQ g 5 (u_ (Cf g 5 a (aE (kV g 3) (aE (kV g 4) aP)))))
 (wm (A9 (Tc g Bz 6 ["_law_k"] ["_law_pen_here","_law_web_here","_law_some"] ["_law_behind"] [2,3,4] (Tb g 0 f (aE aC aP)) λz y g=>⟨(Kr g 0),o3,(Cf g 0 (y.c F) (aE (kV g 1) (aE (kV g 2) (aE (kV g 3) aP))))⟩))
 (wm (BQ g 7 (u_ (om aP)))
 (wm (A9 (kA g (k7 (Cf g 6 u (aE (kV g 3) (aE (kV g 4) aP)))) (Kr g 8) (mj.h (A_ (BQ g 7 (u_ (aL cV (kV g 7) (kV g 8))))))))
 (wm (A9 (pB (FA qk pZ qe (kV g 6) (aE (aL cV (kV g 7) (kV g 4)) aP))))
 (wm (A9 (kA g (k7 (kV g 6)) (Kr g 9) (mj.h (A_ (A9 (gS (sv (sL (Cf g 7 r (aE (kV g 3) (aE (kV g 9) (aE (kV g 5) aP)))))) (mj.h (A_ (Ct (u_ lc)))) eY))))))
 (wm (BQ g 10 (u_ (aL kf (aL rB (aL fb (Bc (kV g 3) aC) (aL kf (Bc (kV g 3) aC) aC)) aC) (BU g 8 ec l d8 (aE (Bc (kV g 3) aC) aP)))))
 (wm (A9 (gS (Ks (xm g.room) (BU g 8 ec l d8 (aE (Cf g 5 a (aE (kV g 3) (aE (rO g (i:=9) (j:=0) rfl L rfl f (aE (Bc (kV g 3) aC) aP)) aP))) aP)) (kV g 10)) (mj.h (A_ (Ct (u_ lc)))) eY))
 (wm (BQ g 11 (u_ (Cf g 5 a (aE (kV g 3) (aE (om aP) aP)))))
 (wm (A9 (kA g (k7 (wR (kV g 6) lG (lI aC))) (Kr g 9) (mj.h (A_ (A9 (gS (sv (sL (Cf g 7 r (aE (kV g 3) (aE (Ii (kV g 9) lG (lI (Fs xT aC))) (aE (kV g 11) aP)))))) (mj.h (A_ (Ct (u_ lc)))) eY))))))
 (wm (A9 (Tc g Bz 12 ["_law_piece"] [] ["len"] [] (k7 (Cf g 6 u (aE (kV g 3) (aE (om aP) aP)))) λz y g=>⟨(Kr g 0),o3,(aL rB (aL fb (BU g 0 ec (y.n l) d8 (aE (kV g 0) aP)) (aL kf (BU g 0 ec (y.n l) d8 (aE (kV g 0) aP)) aC)) aC)⟩))
 (A_ (A9 (gS (Ks (xm g.room) (BU g 8 ec l d8 (aE (kV g 11) aP)) (aL kf (BU g 10 (Ip g) C Jt (aE (kV g 12) aP)) (BU g 8 ec l d8 (aE (Bc (kV g 3) aC) aP)))) (mj.h (A_ (Ct (u_ lc)))) eY))))))))))))))))))))
 (A_ (Ct (u_ lc)))))
def JV:jo "law" nh CC:=λ_ _ _ _ _ _=>Rf λ_=>rfl
abbrev jG:TQ:=["thing"]
def wn{K:hU}(c:Wc X P w K mg base jG jG 0 (ak g8))(d:j3 X)(a:Zn K "isinstance")(i:Zn K "bool")(f:Zn K "int"):mj X (aK g8) fI.m:=by unfold fI;apply gM<;>contradiction
abbrev jy:TQ:=["n","thing"]
def wJ{K:hU}(c:Wc X P w K mg base jy jy 1 (ak hJ))(d:j3 X)(a:FnAt P w K mg base "is_whole" Ps0 e9.m 1):mj X (aK hJ) fh.m:=by unfold fh;apply gM<;>contradiction
abbrev gK:TQ:=["n","thing"]
def qY{K:hU}(c:Wc X P w K mg base gK gK 2 (ak eL))(d:j3 X)(r_NoPlace:Pc K mg "NoPlace")(a:FnAt P w K mg base "is_place" Ps1 cG.m 2):mj X (aK eL) dn.m:=by unfold dn;apply gM<;>contradiction
abbrev fK:TQ:=["n","things","thing"]
def pI{K:hU}(c:Wc X P w K mg base fK fK 3 (ak dX))(d:j3 X)(a:FnAt P w K mg base "check_place" Ps2 bc.m 3):mj X (aK dX) cT.m:=by unfold cT;apply gM<;>contradiction
abbrev gI:TQ:=["pairs"]
def qT{K:hU}(c:Wc X P w K mg base gI gI 0 (ak eE))(d:j3 X)(f:Zn K "sorted")(a:Zn K "set")(l:Zn K "max")(j:Zn K "min")(i:Zn K "tuple"):mj X (aK eE) dq.m:=by unfold dq;apply gM<;>contradiction
abbrev iM:TQ:=["web","v","below","above"]
def rQ{K:hU}(c:Wc X P w K mg base iM iM 3 (ak fy))(d:j3 X)(a:FnAt P w K mg base "check_place" Ps2 bc.m 3):mj X (aK fy) dH.m:=by unfold dH;apply eS<;>contradiction
abbrev jO:TQ:=["web","thing"]
def wP{K:hU}(c:Wc X P w K mg base jO jO 2 (ak gT))(d:j3 X)(f:Zn K "sorted")(j:Zn K "list")(a:Zn K "range")(i:Zn K "all")(l:Zn K "isinstance")(r:FnAt P w K mg base "is_place" Ps1 cG.m 2):mj X (aK gT) fE.m:=by unfold fE;apply eS<;>contradiction
abbrev gG:TQ:=["web","thing"]
def qO{K:hU}(c:Wc X P w K mg base gG gG 3 (ak eD))(d:j3 X)(r_NoOrder:Pc K mg "NoOrder")(a:FnAt P w K mg base "is_order" Ps6 fG.m 3):mj X (aK eD) dh.m:=by unfold dh;apply gM<;>contradiction
abbrev gN:TQ:=["places","pairs","k","a"]
def qW{K:hU}(c:Wc X P w K mg base gN gN 0 (ak eJ))(d:j3 X)(a:Zn K "enumerate"):mj X (aK eJ) dw.m:=by unfold dw;apply eS<;>contradiction
abbrev gH:TQ:=["web","left","v"]
def qZ{K:hU}(c:Wc X P w K mg base gH gH 4 (ak eK))(d:j3 X)(f:FnAt P w K mg base "neighbours" Ps5 bg.m 4)(a:FnAt P w K mg base "pairs_among" Ps8 bB.m 1):mj X (aK eK) di.m:=by unfold di;apply gM<;>contradiction
abbrev iH:TQ:=["web","left","v","others"]
def sB{K:hU}(c:Wc X P w K mg base iH iH 5 (ak ff))(d:j3 X)(f:FnAt P w K mg base "pairs_round" Ps9 dg.m 5)(i:FnAt P w K mg base "rising_once" Ps4 bv.m 1)(j:FnAt P w K mg base "check_places" Ps3 bH.m 4)(a:FnAt P w K mg base "check_place" Ps2 bc.m 3):mj X (aK ff) dC.m:=by unfold dC;apply eS<;>contradiction
abbrev mL:TQ:=["web","order","ties","now","k","v"]
def zA{K:hU}(c:Wc X P w K mg base mL mL 6 (ak jw))(d:j3 X)(l:Zn K "enumerate")(f:Zn K "list")(j:FnAt P w K mg base "rising_once" Ps4 bv.m 1)(a:FnAt P w K mg base "struck_out" Ps10 cW.m 6)(i:FnAt P w K mg base "check_order" Ps7 du.m 4):mj X (aK jw) ir.m:=by unfold ir;apply eS<;>contradiction
abbrev uj:TQ:=["web","order"]
def JW{K:hU}(c:Wc X P w K mg base uj uj 7 (ak oB))(d:j3 X)(a:FnAt P w K mg base "filled" Ps11 fS.m 7):mj X (aK oB) kF.m:=by unfold kF;apply gM<;>contradiction
abbrev fQ:TQ:=["web","places","a","b","ways","seen","way","place"]
def o4{K:hU}(c:Wc X P w K mg base fQ fQ 4 (ak d4))(d:j3 X)(a:FnAt P w K mg base "neighbours" Ps5 bg.m 4):mj X (aK d4) cR.m:=by unfold cR;apply eS<;>contradiction
abbrev fA:TQ:=["web","some"]
def nN{K:hU}(c:Wc X P w K mg base fA fA 4 (ak dA))(d:j3 X)(f:Zn K "len")(a:Zn K "set")(i:Zn K "isinstance")(j:Zn K "list")(r_NoParting:Pc K mg "NoParting")(l:FnAt P w K mg base "check_places" Ps3 bH.m 4):mj X (aK dA) cH.m:=by unfold cH;apply eS<;>contradiction
abbrev mD:TQ:=["web","some","found","left","piece"]
def zn{K:hU}(c:Wc X P w K mg base mD mD 5 (ak jK))(d:j3 X)(f:Zn K "range")(a:FnAt P w K mg base "shortest_way" Ps13 bf.m 5)(i:FnAt P w K mg base "check_parting" Ps14 bM.m 5):mj X (aK jK) iI.m:=by unfold iI;apply eS<;>contradiction
abbrev jF:TQ:=["web","some","piece"]
def xl{K:hU}(c:Wc X P w K mg base jF jF 4 (ak g9))(d:j3 X)(a:Zn K "sorted")(f:Zn K "any")(i:FnAt P w K mg base "neighbours" Ps5 bg.m 4):mj X (aK g9) fe.m:=by unfold fe;apply gM<;>contradiction
abbrev jW:TQ:=["web","some","pairs","piece"]
def wu{K:hU}(c:Wc X P w K mg base jW jW 6 (ak gX))(d:j3 X)(l:FnAt P w K mg base "rising_once" Ps4 bv.m 1)(f:FnAt P w K mg base "pieces" Ps15 bE.m 6)(a:FnAt P w K mg base "shore_of" Ps16 dQ.m 5)(j:FnAt P w K mg base "pairs_among" Ps8 bB.m 1)(i:FnAt P w K mg base "check_parting" Ps14 bM.m 5):mj X (aK gX) fD.m:=by unfold fD;apply eS<;>contradiction
abbrev ku:TQ:=["_law_pen_here","_law_n","_law_found","_law_k"]
def yJ{K:hU}(c:Wc X P w K mg base ku ku 1 (ak i6))(d:j3 X)(a:Zn K "range")(f:FnAt P w K mg base "_law_draw" Ps19 dO 1):mj X (aK i6) gn.m:=by unfold gn;apply eS<;>contradiction
abbrev m4:TQ:=["_law_n","_law_pairs"]
def zR{K:hU}(c:Wc X P w K mg base m4 m4 0 (ak jC))(d:j3 X)(f:Zn K "sorted")(a:Zn K "set")(l:Zn K "max")(j:Zn K "min")(i:Zn K "tuple"):mj X (aK jC) iq.m:=by unfold iq;apply gM<;>contradiction
abbrev j8:TQ:=["_law_ring"]
def yn{K:hU}(c:Wc X P w K mg base j8 j8 0 (ak iV))(d:j3 X)(a:Zn K "range")(f:Zn K "len"):mj X (aK iV) gC.m:=by unfold gC;apply gM<;>contradiction
abbrev pD:TQ:=["_law_pen_here","_law_most","_law_n","_law_order_here","_law_way","_law_cut","_law_pairs","_law_a","_law_at","_law_size","_law_some"]
def Fd{K:hU}(c:Wc X P w K mg base pD pD 2 (ak lO))(d:j3 X)(a:Zn K "range")(r:Zn K "list")(l:FnAt P w K mg base "_law_made" Ps21 iO.m 1)(f:FnAt P w K mg base "_law_draw" Ps19 dO 1)(j:FnAt P w K mg base "_law_round" Ps22 eW.m 1)(i:FnAt P w K mg base "_law_order" Ps20 ck.m 2):mj X (aK lO) jm.m:=by unfold jm;apply eS<;>contradiction
abbrev jL:TQ:=["_law_web_here","_law_order_here","_law_ties","_law_pair","_law_left","_law_v","_law_near","_law_a","_law_b"]
def wc{K:hU}(c:Wc X P w K mg base jL jL 0 (ak gZ))(d:j3 X)(i:Zn K "list")(a:Zn K "sorted")(j:Zn K "max")(f:Zn K "min"):mj X (aK gZ) ft.m:=by unfold ft;apply eS<;>contradiction
abbrev jH:TQ:=["_law_pen_here","_law_web_here","_law_some","_law_drawn"]
def wK{K:hU}(c:Wc X P w K mg base jH jH 2 (ak gQ))(d:j3 X)(a:FnAt P w K mg base "_law_order" Ps20 ck.m 2):mj X (aK gQ) fB.m:=by unfold fB;apply eS<;>contradiction
abbrev kE:TQ:=["_law_web_here","_law_order_here","_law_told","_law_found"]
def yM{K:hU}(c:Wc X P w K mg base kE kE 8 (ak i7))(d:j3 X)(f:FnAt P w K mg base "_law_filled" Ps24 fo.m 1)(a:FnAt P w K mg base "fill" Ps12 kq.m 8):mj X (aK i7) gD.m:=by unfold gD;apply eS<;>contradiction
def JX{K:hU}(b:Ba P w K mg base)(D0:f_ K "is_whole" g8)(D1:f_ K "is_place" hJ)(D2:f_ K "check_place" eL)(D3:f_ K "check_places" dX)(D4:f_ K "rising_once" eE)(D5:f_ K "neighbours" fy)(D6:f_ K "is_order" gT)(D7:f_ K "check_order" eD)(D8:f_ K "pairs_among" eJ)(D9:f_ K "pairs_round" eK)(bm:f_ K "struck_out" ff)(b1:f_ K "filled" jw)(Q:f_ K "fill" oB)(b3:f_ K "shortest_way" d4)(R:f_ K "check_parting" dA)(as:f_ K "pieces" jK)(E:f_ K "shore_of" g9)(ca:f_ K "may_come" gX)(al:f_ K "_law_pen" lM)(H:f_ K "_law_draw" j4)(O:f_ K "_law_order" i6)(M:f_ K "_law_made" jC)(b4:f_ K "_law_round" iV)(ab:f_ K "_law_web" lO)(ah:f_ K "_law_filled" gZ)(be:f_ K "_law_behind" gQ)(ay:f_ K "_law_among" i7)(bi:f_ K "law" nh)(z0:Zn K "abs")(z1:Zn K "all")(z2:Zn K "any")(z3:Zn K "bool")(z4:Zn K "enumerate")(z5:Zn K "int")(z6:Zn K "isinstance")(C:Zn K "len")(u:Zn K "list")(z9:Zn K "max")(i:Zn K "min")(a:Zn K "range")(l:Zn K "set")(f:Zn K "sorted")(ax:Zn K "sum")(B:Zn K "tuple")(cl:Cl K mg):FnAt P w K mg base "law" CC BV 10:=by
 have a0:=wx (F:=e9) jG b D0 λX c d=>wn c d z6 z3 z5;have a1:=wx (F:=cG) jy b D1 λX c d=>wJ c d  a0;have a2:=wx (F:=bc) gK b D2 λX c d=>qY c d  ⟨cl.r_NoPlace⟩ a1;have a3:=wx (F:=bH) fK b D3 λX c d=>pI c d  a2;have L:=wx (F:=bv) gI b D4 λX c d=>qT c d f l z9 i B;have W:=wx (F:=bg) iM b D5 λX c d=>rQ c d  a2;have a6:=wx (F:=fG) jO b D6 λX c d=>wP c d f u a z1 z6 a1;have a7:=wx (F:=du) gG b D7 λX c d=>qO c d  ⟨cl.r_NoOrder⟩ a6;have a8:=wx (F:=bB) gN b D8 λX c d=>qW c d z4;have a9:=wx (F:=dg) gH b D9 λX c d=>qZ c d  W a8;have cb:=wx (F:=cW) iH b bm λX c d=>sB c d  a9 L a3 a2;have b0:=wx (F:=fS) mL b b1 λX c d=>zA c d z4 u L cb a7;have Z:=wx (F:=kq) uj b Q λX c d=>JW c d  b0;have S:=wx (F:=bf) fQ b b3 λX c d=>o4 c d  W;have y:=wx (F:=bM) fA b R λX c d=>nN c d C l z6 u ⟨cl.r_NoParting⟩ a3;have z:=wx (F:=bE) mD b as λX c d=>zn c d a S y;have bt:=wx (F:=dQ) jF b E λX c d=>xl c d f z2 W;have b2:=wx (F:=bC) jW b ca λX c d=>wu c d  L z bt a8 y;have b5:=Rh (k:=0) (N:=u9) (G:=vq) (ps:=Fb) b al λX e h g d=>Fc h g d (e.n z0) (e.n C) (e.n i);have r:=Rh (k:=0) (N:=tj) (G:=tT) (ps:=AF) b H λX e h g d=>zu h g d;have j:=wx (F:=ck) ku b O λX c d=>yJ c d a r;have ap:=wx (F:=iO) m4 b M λX c d=>zR c d f l z9 i B;have an:=wx (F:=eW) j8 b b4 λX c d=>yn c d a C;have aj:=wx (F:=ig) pD b ab λX c d=>Fd c d a u ap r an j;have b6:=wx (F:=fo) jL b ah λX c d=>wc c d u f z9 i;have bj:=wx (F:=c7) jH b be λX c d=>wK c d  j;have U:=wx (F:=cq) kE b ay λX c d=>yM c d  b6 Z;have am:=Rh (k:=9) (N:=FS) (G:=FT) (ps:=CC) b bi λX e h g d=>NY h g d (z.c e) (U.c e) (b2.c e) (bj.c e) (j.c e) (r.c e) (aj.c e) (b5.c e) (e.n a) (e.n C) (e.n ax) (e.n u);exact am
end Law
namespace PySem.W.Fast
def tw5764026398247760326:=0
def tw3439224713356117012:=0
def tw1351834556160664331:=0
def tw7509693757414695883:=0
def tw2102400134482010245:=0
def tw13434424626893138352:=0
def tw11056124441541499573:=0
def tw15337669257861767046:=0
def tw10984943141838640586:=0
def tw6645716299039522201:=0
def tw2088297674481822846:=0
def tw18012802161638735088:=0
def tw6298232909482293045:=0
def tw1189660814759110364:=0
def tw11296315412791273319:=0
def tw3391611465752541726:=0
def tw14644282082345005679:=0
def tw13079256547306653453:=0
def tw866076453180044820:=0
def tw1617496173521714214:=0
def tw250149379164424263:=0
def tw14511324656938744928:=0
def tw4745008416307044542:=0
def tw10595127919335722076:=0
def tw10497812943117235081:=0
def tw11302363980248702444:=0
def tw11404707276318169725:=0
def tw14965283127472006788:=0
def tw11601501692831427410:=0
def tw17280987745266194483:=0
def tw7254108370291610957:=0
def tw4915596188498122248:=0
def tw3887516105833457071:=0
def tw6523734479391037028:=0
def tw15861861176872968345:=0
def tw8117011208530351987:=0
def tw12476688363600059174:=0
def tw3342653376571064965:=0
def tw10256906447572100875:=0
def tw7976861180698925814:=0
def tw11707090109546154306:=0
def tw16747758276415328400:=0
def tw10659544700526813722:=0
def tw8200379203079826435:=0
def tw13365563262361203418:=0
def tw1816087316225340236:=0
def tw806487520773973630:=0
def tw6307646173413593900:=0
def tw15248402819301479041:=0
def tw13979049771586308732:=0
def tw5715424772096829305:=0
def tw4207005838761672280:=0
def tw8896979137239991444:=0
def tw16312399446561330852:=0
def tw392705302248698477:=0
def tw15236815798123458029:=0
def tw15517492967486289474:=0
def tw8949957430593816059:=0
def tw9539426071758484567:=0
def tw6458505622106257393:=0
def tw11617507338442102599:=0
def tw5459036707860309260:=0
def tw12080644691956157506:=0
def tw2058000686755398398:=0
def tw1769779893440086116:=0
def tw11698012103657052026:=0
def tw13772586475612735858:=0
def tw530903938103279624:=0
def tw15228193330476497546:=0
def tw14201470177935999114:=0
def tw5091093022541180662:=0
def tw16702451942112293144:=0
def tw18261375898770981619:=0
def tw9566643864778390267:=0
def tw15130819696621682506:=0
def tw15590817406810354739:=0
def tw11031356851235320867:=0
def tw15965928209781473329:=0
def tw7577860870447779570:=0
def tw10311239122216871083:=0
def tw10327168418366999702:=0
def tw6483548797555384151:=0
def tw419589693157246942:=0
def tw702311659016316005:=0
def tw13391102758480081078:=0
def tw10914816815310950704:=0
def tw16286234220705843059:=0
def tw4929988045852231709:=0
def tw10369011352586561247:=0
def tw11601508737219787759:=0
def tw24929926391111123:=0
def tw16267827404048328557:=0
def tw8996682635038711469:=0
def tw17880712883024798126:=0
def tw8137199149100196121:=0
def tw10920943412139649158:=0
def tw9322709292208286828:=0
def tw15050526534426579873:=0
def tw5459659310755496121:=0
def tw363774724634252970:=0
def tw5873467314472378155:=0
def tw14227738822163723271:=0
def tw1625272950068852758:=0
def tw16524299971270110393:=0
def tw1771516921261445324:=0
def tw3806145281483175455:=0
def tw8883477267109879465:=0
def tw8362901964306820443:=0
def tw1139020021267859931:=0
def tw3251815018363998286:=0
def tw12559526425423907196:=0
def tw1852242764358767478:=0
def tw16569063754768700091:=0
def tw8097603920770536793:=0
def tw657651723543157987:=0
def tw883416327382332100:=0
def tw13107916311243935240:=0
def tw16726365511060181057:=0
def tw4936053469401168788:=0
def tw17013950063670273846:=0
def tw15124051851709000283:=0
def tw16290313223574040693:=0
def tw2114445357920630099:=0
def tw12687227152805467104:=0
def tw12498760622745244967:=0
def tw13643836823607450602:=0
def tw9696112589472686114:=0
def tw2917853391619004764:=0
def tw14043124853447521768:=0
def tw8019610568587869160:=0
def tw8488800217584585362:=0
def tw15359896182475009838:=0
def tw5729047833845682441:=0
def tw4143250909828297763:=0
def tw3068138625650590030:=0
def tw14471857194395277244:=0
end PySem.W.Fast
open PySem PySem.W PyProof.Rows
local macro_rules | `(tactic| and_intros) => `(tactic| (dsimp only [L2.oi]; first | k_is | (refine' MM.Cp ?a ?l ?c ?k; (case a => k_is); (case l => k_is); (case c => k_is); (case k => k_is))))
set_option maxRecDepth 100000 in
set_option maxHeartbeats 0 in
theorem PySem.Challenge.cw_fewfills_k26_whole_fill_is_among_them_holds : PySem.Challenge.rw_fewfills_k26_whole_fill_is_among_them.Holds := by
  w_on; o_law; k_head; (case hw=>w_witness2)
  k_fill
  refine MM.Hh (l:=PySem.Challenge.rw_fewfills_k26_whole_fill_is_among_them) (k:=10) (x:="_law_script") (F:=Law.BV) rfl rfl ⟨rfl,by decide,by decide,rfl⟩ (fun w h Y=>PySem.W.kIn_of Y) ?F Law.CA
  case F=>
    intro w mg fa h KX G hmg
    have Dlaw:MM.f_ (L2.oi KX) "law" Law.nh:=by and_intros
    have D0:MM.f_ (L2.oi KX) "is_whole" Law.g8:=by and_intros
    have D1:MM.f_ (L2.oi KX) "is_place" Law.hJ:=by and_intros
    have D2:MM.f_ (L2.oi KX) "check_place" Law.eL:=by and_intros
    have D3:MM.f_ (L2.oi KX) "check_places" Law.dX:=by and_intros
    have D4:MM.f_ (L2.oi KX) "rising_once" Law.eE:=by and_intros
    have D5:MM.f_ (L2.oi KX) "neighbours" Law.fy:=by and_intros
    have D6:MM.f_ (L2.oi KX) "is_order" Law.gT:=by and_intros
    have D7:MM.f_ (L2.oi KX) "check_order" Law.eD:=by and_intros
    have D8:MM.f_ (L2.oi KX) "pairs_among" Law.eJ:=by and_intros
    have D9:MM.f_ (L2.oi KX) "pairs_round" Law.eK:=by and_intros
    have D10:MM.f_ (L2.oi KX) "struck_out" Law.ff:=by and_intros
    have D11:MM.f_ (L2.oi KX) "filled" Law.jw:=by and_intros
    have D12:MM.f_ (L2.oi KX) "fill" Law.oB:=by and_intros
    have D13:MM.f_ (L2.oi KX) "shortest_way" Law.d4:=by and_intros
    have D14:MM.f_ (L2.oi KX) "check_parting" Law.dA:=by and_intros
    have D15:MM.f_ (L2.oi KX) "pieces" Law.jK:=by and_intros
    have D16:MM.f_ (L2.oi KX) "shore_of" Law.g9:=by and_intros
    have D17:MM.f_ (L2.oi KX) "may_come" Law.gX:=by and_intros
    have D18:MM.f_ (L2.oi KX) "_law_pen" Law.lM:=by and_intros
    have D19:MM.f_ (L2.oi KX) "_law_draw" Law.j4:=by and_intros
    have D20:MM.f_ (L2.oi KX) "_law_order" Law.i6:=by and_intros
    have D21:MM.f_ (L2.oi KX) "_law_made" Law.jC:=by and_intros
    have D22:MM.f_ (L2.oi KX) "_law_round" Law.iV:=by and_intros
    have D23:MM.f_ (L2.oi KX) "_law_web" Law.lO:=by and_intros
    have D24:MM.f_ (L2.oi KX) "_law_filled" Law.gZ:=by and_intros
    have D25:MM.f_ (L2.oi KX) "_law_behind" Law.gQ:=by and_intros
    have D26:MM.f_ (L2.oi KX) "_law_among" Law.i7:=by and_intros
    have Z27:PySem.W.nsIn (L2.oi KX) mainGlobals "abs" = some none:=by and_intros
    have Z28:PySem.W.nsIn (L2.oi KX) mainGlobals "all" = some none:=by and_intros
    have Z29:PySem.W.nsIn (L2.oi KX) mainGlobals "any" = some none:=by and_intros
    have Z30:PySem.W.nsIn (L2.oi KX) mainGlobals "bool" = some none:=by and_intros
    have Z31:PySem.W.nsIn (L2.oi KX) mainGlobals "enumerate" = some none:=by and_intros
    have Z32:PySem.W.nsIn (L2.oi KX) mainGlobals "int" = some none:=by and_intros
    have Z33:PySem.W.nsIn (L2.oi KX) mainGlobals "isinstance" = some none:=by and_intros
    have Z34:PySem.W.nsIn (L2.oi KX) mainGlobals "len" = some none:=by and_intros
    have Z35:PySem.W.nsIn (L2.oi KX) mainGlobals "list" = some none:=by and_intros
    have Z36:PySem.W.nsIn (L2.oi KX) mainGlobals "max" = some none:=by and_intros
    have Z37:PySem.W.nsIn (L2.oi KX) mainGlobals "min" = some none:=by and_intros
    have Z38:PySem.W.nsIn (L2.oi KX) mainGlobals "range" = some none:=by and_intros
    have Z39:PySem.W.nsIn (L2.oi KX) mainGlobals "set" = some none:=by and_intros
    have Z40:PySem.W.nsIn (L2.oi KX) mainGlobals "sorted" = some none:=by and_intros
    have Z41:PySem.W.nsIn (L2.oi KX) mainGlobals "sum" = some none:=by and_intros
    have Z42:PySem.W.nsIn (L2.oi KX) mainGlobals "tuple" = some none:=by and_intros
    have CL:Law.Tn (L2.oi KX):=by
      dsimp only [L2.oi]
      refine' Law.JU ?p0 ?p1 ?p2 ?p3 ?p4 ?p5 ?p6 ?p7 ?p8 ?p9 ?p10 ?p11 ?p12 ?p13 ?p14 ?p15 ?p16 ?p17 ?p18 ?p19 ?p20
      (case p0=>k_is)
      (case p1=>k_is)
      (case p2=>k_is)
      (case p3=>k_exc)
      (case p4=>k_exc)
      (case p5=>k_exc)
      (case p6=>k_is)
      (case p7=>k_is)
      (case p8=>k_is)
      (case p9=>k_is)
      (case p10=>k_is)
      (case p11=>k_is)
      (case p12=>k_is)
      (case p13=>k_is)
      (case p14=>k_is)
      (case p15=>k_is)
      (case p16=>k_is)
      (case p17=>k_is)
      (case p18=>k_is)
      (case p19=>k_is)
      (case p20=>k_is)
    exact MM.Hg Dlaw Law.JV hmg KX G fun base kb nb=>Law.JX ⟨kb,nb⟩ D0 D1 D2 D3 D4 D5 D6 D7 D8 D9 D10 D11 D12 D13 D14 D15 D16 D17 D18 D19 D20 D21 D22 D23 D24 D25 D26 Dlaw Z27 Z28 Z29 Z30 Z31 Z32 Z33 Z34 Z35 Z36 Z37 Z38 Z39 Z40 Z41 Z42  (CL _ _ kb nb)
