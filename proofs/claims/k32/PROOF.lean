import PyProof.Rows.All
import Wide.All
import OpenK.AllK
import Wide.FinOn
import Lean
import PyProof.EqAt
import PyProof.EqKinds
import PyProof.TupleCall
import PyProof.ReprRoads
import PyProof.FitsInt
import PyProof.FitsBits
import PyProof.Rows.IntMath
import PyProof.ConsumeWalk
import PyProof.WalkInts
import PyProof.ListRange
import PySem.SetTable
import PyProof.SetKind
import PyProof.TupleKey
import PyProof.DictKinds
import PyProof.IsRules
import PyProof.Rows.SetFrom
import PyProof.CollectIter
import PyProof.ForAny
import PyProof.Rows.SortRuns
import PyProof.Rows.SortKey
import KE.KSortTup
import PyProof.ZipIter
import PyProof.Draws
import PyProof.EnumMake
import PyProof.TupleIter
import PyProof.P3Eq
import PyProof.StrCalls2
import PyProof.StrCalls3
import PyProof.FString
import PyProof.AttrMissHeap
import PyProof.DictUpdate
import PyProof.DictRoads
import KE.KDictOf
import PyProof.Walks
import PyProof.SetRoads
import PyProof.Rows.SeqMore
import KE.KDictList
import PyProof.DictItems
import KE.KPairComp
import PyProof.MeetsSeq
import PyProof.Rows.Chain
import PyProof.ListMulRoad
import PyProof.FactsAll.tuple_2
import OpenK.KCls
import PyProof.InstStoreFacts
import KE.KRevIter
import PyProof.StrWalks
import PyProof.StrCalls5
import PyProof.StrOps
import KE.KIntText
import PyProof.Rows.StrNews2
import PyProof.SliceStr2
import PyProof.StrBlockI
import PyProof.Truth
import OpenK.KWalk
import PySem.Challenge.RW_fewfills_k32_noughts_to_strike_by
set_option Elab.async false
set_option bootstrap.genMatcherCode false
set_option compiler.extract_closed false
set_option genSizeOf false
set_option linter.all false
set_option maxRecDepth 100000
noncomputable section
local macro_rules|`(command|def $i:declId $s:optDeclSig $v:declVal)=>`(command|noncomputable def $i:declId $s:optDeclSig $v:declVal)
local macro_rules|`(command|abbrev $i:declId $s:optDeclSig $v:declVal)=>`(command|noncomputable abbrev $i:declId $s:optDeclSig $v:declVal)
open PySem
abbrev _root_.RM:=List Str
abbrev _root_.RN:=List Int
abbrev _root_.RQ:=List Nat
abbrev _root_.RT:=List Addr
abbrev _root_.RU:=List Value
abbrev _root_.RV:=List (Addr×Obj)
abbrev _root_.RW:=Option Value
abbrev _root_.RX:=Option Int
abbrev _root_.RZ:=List Expr
abbrev _root_.RC:=Value->Shared->Prop
abbrev _root_.RD:=Str->Option Value
abbrev _root_.RF:=List Stmt
abbrev _root_.RG:=Option Addr
abbrev g_:=@PySem.W.Frag
abbrev mA:=@List.getElem?_set_ne
abbrev pj:=@List.getElem?_eq_some_iff
abbrev n4:=@List.mem_cons_of_mem
abbrev qp:=@List.getElem?_append_left
abbrev qr:=@Heap.get?_push_of_some
abbrev i_:=@wpAny_bind
abbrev c_:=@if_pos
abbrev tf:=@List.mem_append_right
abbrev u_:=@List.getElem?_set_self
abbrev r_:=@Nat.lt_of_lt_of_le
abbrev n8:=@List.mem_cons
abbrev mm:=@Nat.le_refl
abbrev tr:=@List.set_cons_zero
abbrev va:=@List.set_cons_succ
abbrev tx:=@List.getElem?_map
abbrev Ah:=@List.getElem?_eq_getElem
abbrev pk:=@List.map_cons
abbrev hI:=@if_neg
abbrev pa:=@Heap.lt_size
abbrev Ai:=@Option.map_eq_some_iff
abbrev pu:=@Nat.le_trans
abbrev AE:=@List.getElem?_append_right
abbrev Al:=@List.mem_of_getElem?
abbrev zD:=@List.size_toArray
abbrev Am:=@Bool.false_eq_true
abbrev pz:=@wpAny_pure
abbrev AB:=@Heap.get?_push_size
abbrev yP:=@List.length_map
abbrev vp:=@List.mem_map
abbrev Aj:=@List.nodup_cons
abbrev Ax:=@List.length_cons
abbrev wm:=@Nat.ne_of_lt
abbrev AC:=@Bool.and_eq_true
abbrev wr:=@List.map_map
abbrev Bf:=@List.getElem?_eq_none
abbrev A6:=@List.mem_cons_self
abbrev Bx:=@List.mem_append_left
abbrev AS:=@List.mem_append
abbrev A7:=@List.append_assoc
abbrev AH:=@Nat.lt_irrefl
abbrev A8:=@List.mem_filter
abbrev BF:=@List.map_congr_left
abbrev EX:=@List.getElem?_replicate
abbrev DO:=@List.mem_of_mem_drop
abbrev By:=@List.append_nil
abbrev Ig:=@List.getElem?_cons_zero
abbrev BG:=@List.lookup_cons
abbrev BH:=@Option.bind_some
abbrev IK:=@List.drop_eq_getElem_cons
abbrev EY:=@List.length_append
abbrev DP:=@List.not_mem_nil
abbrev EZ:=@Int.toNat_natCast
abbrev Ih:=@List.replicate_succ
abbrev DQ:=@Option.map_some
abbrev L0:=@Int.fmod_eq_emod_of_nonneg
abbrev IL:=@List.length_replicate
abbrev IM:=@List.contains_iff_mem
abbrev BI:=@Bool.not_true
abbrev DR:=@List.mem_range
abbrev DS:=@Int.natAbs_mul
abbrev IN:=@List.getElem?_zipIdx
abbrev Ii:=@List.getElem?_inj
abbrev L4:=@Option.bind_eq_some_iff
abbrev IQ:=@Heap.get?_update_ne
abbrev Ij:=@Option.getD_some
abbrev IR:=@List.mem_filterMap
abbrev IS:=@Int.emod_lt_of_pos
abbrev DT:=@Nat.ne_of_gt
abbrev L5:=@Heap.get?_update_self
abbrev DU:=@List.map_nil
abbrev IT:=@List.ext_getElem?
abbrev L6:=@Heap.get?_none_of_le
abbrev Ik:=@Heap.size_push
abbrev IU:=@List.length_take
abbrev IV:=@List.nodup_range
abbrev L7:=@List.getElem_of_mem
abbrev E0:=@Nat.le_of_lt
abbrev L8:=@List.mem_singleton
abbrev L9:=@List.contains_cons
abbrev Nh:=@List.filter_cons_of_pos
abbrev Ni:=@List.filter_cons_of_neg
abbrev IW:=@Int.emod_nonneg
abbrev IY:=@Int.natCast_mul
abbrev IZ:=@Int.mul_ne_zero
abbrev Nj:=@Heap.get?_update_other
abbrev Nk:=@List.take_of_length_le
abbrev Nl:=@List.pairwise_lt_range
abbrev L_:=@List.nodup_append
abbrev E1:=@Nat.le_succ
abbrev Ma:=@List.length_range
abbrev I_:=@Bool.not_false
abbrev Nm:=@List.length_filter_le
abbrev Mb:=@List.length_drop
abbrev Mc:=@Nat.lt_succ_self
abbrev No:=@List.getElem?_of_mem
abbrev Nq:=@Nat.pow_le_pow_right
abbrev Nr:=@List.filterMap_cons
abbrev Md:=@List.length_set
abbrev Me:=@List.find?_cons
abbrev Mf:=@Nat.min_eq_left
abbrev Mh:=@List.map_append
abbrev Mi:=@Nat.mul_ne_zero
abbrev Nt:=@List.filter_eq_self
abbrev Qb:=@List.getD_eq_getElem?_getD
abbrev Nu:=@Bool.false_ne_true
abbrev Nv:=@List.getElem?_take
abbrev Nw:=@List.getElem?_drop
abbrev Mj:=@List.drop_zero
abbrev Nx:=@Nat.lt_succ_of_lt
abbrev Qc:=@Nat.gcd_pos_of_pos_right
abbrev Ny:=@List.drop_sublist
abbrev Nz:=@List.getElem_drop
abbrev Ja:=@Nat.zero_le
abbrev Jb:=@List.map_id
abbrev Qd:=@Int.eq_ofNat_of_zero_le
abbrev Qe:=@List.getElem?_cons_succ
abbrev NA:=@List.all_eq_true
abbrev NB:=@List.cons_append
abbrev NC:=@Nat.mul_lt_mul''
abbrev Qf:=@List.range_succ_eq_map
abbrev Qg:=@List.drop_of_length_le
abbrev ND:=@List.of_mem_zip
abbrev Qh:=@Array.getElem?_modify
abbrev Qi:=@List.mem_iff_getElem?
abbrev Mk:=@Nat.lt_trans
abbrev NE:=@List.length_nil
abbrev NF:=@List.nil_append
abbrev NG:=@List.any_cons
abbrev NH:=@Bool.or_true
abbrev NJ:=@List.all_map
abbrev NK:=@Nat.zero_add
noncomputable section
local macro_rules | `(tactic| ext) => `(tactic| omega)
local instance (priority:=1) cdec (p:Prop):Decidable p:=Classical.propDecidable p
local macro_rules | `(⋯) => `(by lia)
open Option renaming some->J,none->Y
open Bool renaming true->I,false->T
namespace L2
open PySem.Spec PyProof.Rows
abbrev q_:=Sum Int Str
def qW:q_->Value->Bool
 |.inl k,v=>Value.isInt k v
 |.inr x,v=>Value.isStrOf x v
def NL(w:World):q_->Int
 |.inl k=>hashInt k
 |.inr x=>hashStr w x
def bY:∀{k:q_}{v:Value},qW k v=I->(∃i t,k=Sum.inl i/\v=Value.int i t)\/(∃x t,k=Sum.inr x/\v=Value.str x t)
 |.inl i,v,h=>by
  obtain⟨t,e⟩:=Value.isInt_shape h;exact .inl ⟨i,t,rfl,e⟩
 |.inr x,v,h=>by
  obtain⟨t,e⟩:=Value.isStrOf_shape h;exact .inr ⟨x,t,rfl,e⟩
def xT(i:Int)(t:Tok):qW (.inl i) (.int i t)=I:=by simp[qW,Value.isInt]
def E2(a b:Int):decide ((Sum.inl a:q_)=Sum.inl b)=(a==b):=by
 by_cases e:a=b
 .subst e;simp
 .have h:¬(Sum.inl a:q_)=Sum.inl b:=λq=>e (Sum.inl.inj q);rw[decide_eq_false h];exact(beq_eq_false_iff_ne.mpr e).symm
def E3(a b:Str):decide ((Sum.inr a:q_)=Sum.inr b)=decide (a=b):=by simp
def E4(a:Int)(b:Str):decide ((Sum.inl a:q_)=Sum.inr b)=T:=decide_eq_false (λq=>nomatch q)
def E5(a:Str)(b:Int):decide ((Sum.inr a:q_)=Sum.inl b)=T:=decide_eq_false (λq=>nomatch q)
def eX(prog:Program)(w:World):PySem.KeyKind prog w q_ where
 is:=qW
 hash:=NL w
 inj:=λv a b B l=>by
  rcases bY B with⟨i,t,rfl,rfl⟩|⟨x,t,rfl,rfl⟩
  .rcases bY l with⟨j,u,rfl,e⟩|⟨y,u,rfl,e⟩
   .injection e with e1 _;rw[e1]
   .exact nomatch e
  .rcases bY l with⟨j,u,rfl,e⟩|⟨y,u,rfl,e⟩
   .exact nomatch e
   .injection e with e1 _;rw[e1]
 byValue:=λk v h=>by
  rcases bY h with⟨i,t,rfl,rfl⟩|⟨x,t,rfl,rfl⟩<;>rfl
 pyHash:=λhv h=>by
  rcases bY hv with⟨i,t,rfl,rfl⟩|⟨x,t,rfl,rfl⟩
  .exact wpAny_pyHash_int h
  .exact wpAny_pyHash_str h
 eqBool:=λz hv h=>by
  rcases bY z with⟨i,t,rfl,rfl⟩|⟨x,t,rfl,rfl⟩
  .rcases bY hv with⟨j,u,rfl,rfl⟩|⟨y,u,rfl,rfl⟩
   .rw[E2]at h;exact wpAny_eqBool_int h
   .rw[E4]at h;exact SeqAt.EqAt.int_str i t y u _ _ _ _ h
  .rcases bY hv with⟨j,u,rfl,rfl⟩|⟨y,u,rfl,rfl⟩
   .rw[E5]at h;exact SeqAt.EqAt.str_int x t j u _ _ _ _ h
   .rw[E3]at h;exact wpAny_eqBool_str h
 «strs»:=λk x t v h=>by
  rcases bY h with⟨i,u,rfl,e⟩|⟨y,u,rfl,e⟩
  .exact nomatch e
  .injection e with e1 _
   subst e1;cases v<;>rfl
def eA(prog:Program)(w:World)(i:Int)(t:Tok):(eX prog w).is (.inl i) (.int i t)=I:=xT i t
inductive V where
 |non | bl (b:Bool) | int (i:Int) | str (x:Str) | byt (b:Array UInt8) | flt (b:UInt64) | ref (a:Addr) | ty (n:String)
 deriving DecidableEq
def aQ:V->Value->Prop
 |.non,u=>u=Value.none
 |.bl b,u=>u=Value.bool b
 |.int i,u=>∃t,u=Value.int i t
 |.str x,u=>∃t,u=Value.str x t
 |.byt b,u=>∃t,u=Value.bytes b t
 |.flt b,u=>∃t,u=Value.float b t
 |.ref a,u=>u=Value.ref a
 |.ty n,u=>u=Value.type n
abbrev aL:List V->RU->Prop:=Paired aQ
def aL.length(r:aL xs us):xs.length=us.length:=Paired.length r
def aL.get{xs:List V}{a:RU}{i:Nat}{x:V}(r:aL xs a)(e:xs[i]?=J x):∃u,a[i]?=J u/\aQ x u:=by
 induction r generalizing i with
 |nil=>cases e
 |cons r t j =>
  cases i with
  |zero=>cases e;exact⟨_,rfl,r⟩
  |succ i=>have z:=@j i e;exact z
def aL.set(r:aQ x u)(i:Nat)(q:aL xs us):aL (xs.set i x) (us.set i u):=by
 induction q generalizing i with
 |nil=>exact .nil
 |cons a t j =>
  cases i with
  |zero=>exact .cons r t
  |succ i=>exact .cons a (j i)
def aL.append(r:aL xs us)(s:aL ys ws):aL (xs++ys) (us++ws):=by
 induction r with
 |nil=>exact s
 |cons r t a=>exact .cons r a
def aL.take(n:Nat)(r:aL xs us):aL (xs.take n) (us.take n):=by
 induction r generalizing n with
 |nil=>cases n<;>exact .nil
 |cons a t i =>
  cases n with
  |zero=>exact .nil
  |succ n=>exact .cons a (i n)
def aL.drop(n:Nat)(r:aL xs us):aL (xs.drop n) (us.drop n):=by
 induction r generalizing n with
 |nil=>cases n<;>exact .nil
 |cons a t i =>
  cases n with
  |zero=>exact .cons a t
  |succ n=>exact i n
def gP:Option V->RW->Prop
 |some v,J u=>aQ v u
 |none,Y=>True
 |_,_=>False
def KV{κ:Type}:List (κ×V)->List (κ×Value)->Prop:=Paired λ(p:κ×V)(q:κ×Value)=>p.1=q.1/\aQ p.2 q.2
def kV:q_->V
 |.inl i=>.int i
 |.inr x=>.str x
inductive HO where
 |lst(xs:List V)
 |tup(xs:List V)
 |dK(kvs:List (q_×V)) | dT (kvs:List (List q_×V))
 |set(S:Int->Bool)(n:Nat)
 |ins(C dx:Addr)(fs:List (Str×V))
 |own(x:Addr)
 |xd(fs:List (Str×V))
 |met(f x:Addr)
 |rng(lo hi:Int)
 |frz(o:Obj)(u:HO)
 |tbl(ps:Array Value)
 |ext(φ:Heap->Prop)
abbrev Hp:=Addr->Option HO
def upd(H:Hp)(a:Addr)(o:HO):Hp:=λb=>if b=a then J o else H b
def aN:upd H a o a=J o:=by unfold upd;rw[c_ rfl]
def aB(h:b≠a):upd H a o b=H b:=by unfold upd;rw[hI h]
def br{H:Hp}{a b:Addr}{o:HO}(h:H a=J o)(i:H b=Y):a≠b:=by intro e;subst e;rw[h]at i;cases i
def iq(h:Heap)(a:Addr)(i:Array Value):Prop:=∃o,h.get? a=J o/\o.cls=.type "tuple"/\(∃n,o.data=.seq i n)/\o.dict=Y
def iq.tup(t:iq h a its):IsTup h a its:=let⟨o,e,c,d,_⟩:=t;⟨o,e,c,d⟩
def iq.lt(t:iq h a its):a<h.objs.size:=t.tup.lt
def iq.new(h:Heap)(a:Array Value):iq (h.push { cls:=.type "tuple",data:=.seq a}) h.objs.size a:=⟨_,AB h rfl,rfl,⟨_,rfl⟩,rfl⟩
section
variable(P:Program)(w:World)
def ObjOk(H:Hp)(h:Heap)(a:Addr):HO->Prop
 |.lst xs=>xs.length<=sizeLine/\∃(i:RU) (n:Nat),aL xs i/\h.get? a=J { cls:=.type "list",data:=.seq i.toArray n}
 |.tup xs=>xs.length<=sizeLine/\∃i:RU,aL xs i/\iq h a i.toArray
 |.dK j=>j.length<=sizeLine/\(a==sysModules)=T/\∃B,KV j B/\h.DictOf (eX P w) a B
 |.dT j=>j.length<=sizeLine/\(a==sysModules)=T/\∃xs:List (List q_×Addr×Value),
   Paired (λ(p:List q_×V)(q:List q_×Addr×Value)=>p.1=q.1/\H q.2.1=J (.tup (p.1.map kV))/\aQ p.2 q.2.2) j xs /\
   ∃o z M,h.get? a=J o/\o.ExactDict/\o.data=.dict z M/\z.toList=xs.map (entryOfKey (tupleKind (eX P w)))/\(xs.map (·.1)).Nodup
 |.set S n=>h.SetOf (intKind P w) a S n
 |.ins C y fs=>H y=J (.own a)/\fs.length<=1000/\y≠a/\h.get? a=J (PySem.W.instObj C y) /\
   ∃l,h.Ns1 y l/\(∀f,gP (fs.lookup f) (l f))/\PySem.Within l (fs.map (·.1))
 |.own _=>∃o,h.get? a=J o
 |.xd fs=>∃l,h.Ns1 a l/\∀f,gP (fs.lookup f) (l f)
 |.rng lo L=>∃t u v,h.get? a=J { cls:=.type "range",data:=.fields #[.int lo t,.int L u,.int 1 v]}
 |.frz o u=>h.get? a=J o/\ObjOk H h a u
 |.tbl G=>h.get? a=J { cls:=.none,data:=.fields G}
 |.met f x=>h.get? a=J (PySem.W.methodObj (.ref f) (.ref x))
 |.ext φ=>φ h/\(∃o,h.get? a=J o)/\∀F E:Heap,φ F->(∀o,F.get? a=J o->E.get? a=J o)->φ E
def HOk(H:Hp)(h:Heap):Prop:=∀a o,H a=J o->ObjOk P w H h a o
end
section
variable{P:Program}{w:World}{H H':Hp}{h h':Heap}{a:Addr}{o:HO}
def ObjOk.lt(x:ObjOk P w H h a o):a<h.objs.size:=by
 cases o with
 |lst xs=>obtain⟨_,_,_,_,e⟩:=x;exact pa e
 |tup xs=>obtain⟨_,_,_,p⟩:=x;exact p.lt
 |dK i=>obtain⟨_,_,_,_,o,_,_,e,_⟩:=x;exact pa e
 |dT i=>obtain⟨_,_,_,_,o,_,_,e,_⟩:=x;exact pa e
 |set S n=>obtain⟨o,_,_,_,e,_⟩:=x;exact pa e
 |ins C z fs=>obtain⟨_,_,_,e,_⟩:=x;exact pa e
 |own y=>obtain⟨_,e⟩:=x;exact pa e
 |xd fs=>obtain⟨_,⟨_,_,_,e,_⟩,_⟩:=x;exact pa e
 |rng lo l=>obtain⟨_,_,_,e⟩:=x;exact pa e
 |frz B u=>obtain⟨e,_⟩:=x;exact pa e
 |tbl j=>exact pa (x)
 |met f y=>exact pa (x)
 |ext φ=>obtain⟨_,⟨_,e⟩,_⟩:=x;exact pa e
def Paired.mapP{α β:Type}{F G:α->β->Prop}{i:List α}{j:List β}(r:Paired F i j)(f:∀a b,F a b->G a b):Paired G i j:=by
 induction r with
 |nil=>exact .nil
 |cons r t l=>exact .cons (f _ _ r) l
def ObjOk.stay(x:ObjOk P w H h a o)(k:∀b u,(b=a\/H b=J (.own a))->h.get? b=J u->h'.get? b=J u)(L:∀b,H b=J (.own a)->H' b=J (.own a))(Q:∀b xs,H b=J (.tup xs)->H' b=J (.tup xs)):ObjOk P w H' h' a o:=by
 induction o with
 |lst xs=>obtain⟨z,B,n,r,e⟩:=x;exact⟨z,B,n,r,k _ _ (.inl rfl) e⟩
 |tup xs=>obtain⟨z,B,r,i,e,c⟩:=x;exact⟨z,B,r,i,k _ _ (.inl rfl) e,c⟩
 |dK G=>obtain⟨z,y,O,r,i,j,l,e,c⟩:=x;exact⟨z,y,O,r,i,j,l,k _ _ (.inl rfl) e,c⟩
 |dT G =>
  obtain⟨z,y,xs,r,i,j,l,e,c⟩:=x;exact⟨z,y,xs,Paired.mapP r λp q z=>⟨z.1,Q _ _ z.2.1,z.2.2⟩,i,j,l,k _ _ (.inl rfl) e,c⟩
 |set S n=>obtain⟨i,j,l,t,e,c⟩:=x;exact⟨i,j,l,t,k _ _ (.inl rfl) e,c⟩
 |ins C W fs =>
  obtain⟨d,z,ne,e,E,⟨F,j,l,e2,c⟩,r⟩:=x;exact⟨L _ d,z,ne,k _ _ (.inl rfl) e,E,⟨F,j,l,k _ _ (.inr d) e2,c⟩,r⟩
 |own y=>obtain⟨i,e⟩:=x;exact⟨i,k _ _ (.inl rfl) e⟩
 |xd fs=>obtain⟨E,⟨F,j,l,e,c⟩,r⟩:=x;exact⟨E,⟨F,j,l,k _ _ (.inl rfl) e,c⟩,r⟩
 |rng lo U=>obtain⟨t,u,v,e⟩:=x;exact⟨t,u,v,k _ _ (.inl rfl) e⟩
 |frz i u M=>obtain⟨e,q⟩:=x;exact⟨k _ _ (.inl rfl) e,M q⟩
 |tbl R =>
  have e:=x;exact k a _ (.inl rfl) e
 |met f y =>
  have e:=x;exact k a _ (.inl rfl) e
 |ext φ=>obtain⟨p,⟨o,e⟩,st⟩:=x;exact⟨st _ _ p λo q=>k _ _ (.inl rfl) q,⟨o,k _ _ (.inl rfl) e⟩,st⟩
def HOk.lt(x:HOk P w H h)(e:H a=J o):a<h.objs.size:=(x a o e).lt
def HOk.fresh(x:HOk P w H h)(e:h.objs.size<=a):H a=Y:=by
 cases q:H a with
 |none=>rfl
 |some u=>exact absurd (r_ (x.lt q) e) (AH _)
def HOk.kept(x:HOk P w H h)(k:∀b u,h.get? b=J u->h'.get? b=J u):HOk P w H h':=λa o e =>
 (x a o e).stay (λb u _ q=>k b u q) (λ_ q=>q) λ_ _ q=>q
def HOk.laid(x:HOk P w H h)(k:∀b u,h.get? b=J u->h'.get? b=J u)(l:h.objs.size<=a)(new:ObjOk P w (upd H a o) h' a o):HOk P w (upd H a o) h':=λb u e=>by
 have i:=x.fresh l;by_cases j:b=a
 .subst j;rw[aN]at e;cases e;exact new
 .rw[aB j]at e;exact(x b u e).stay (λc v _ q=>k c v q) (λc q=>by rw[aB (br q i)];exact q) λc xs q=>by rw[aB (br q i)];exact q
end
def Rd(H:Hp)(a:Addr)(u:HO):Prop:=H a=J u\/∃o,H a=J (.frz o u)
def Rd.ok(r:Rd H a u)(x:HOk P w H h):ObjOk P w H h a u:=by
 rcases r with r|⟨o,r⟩
 .exact x a u r
 .obtain⟨_,q⟩:=x a _ r;exact q
def Ml:Option HO->Prop
 |some (.lst _)=>True
 |some (.dK _)=>True
 |some (.dT _)=>True
 |some (.set _ _)=>True
 |some (.ins _ _ _)=>True
 |some (.ext _)=>True
 |_=>False
section
variable{P:Program}{w:World}{H:Hp}{h h':Heap}{x e:Addr}{o':HO}
def HOk.write(ok:HOk P w H h)(l:Ml (H x))(F:e=x\/H e=J (.own x))(k:∀b u,b≠e->h.get? b=J u->h'.get? b=J u)(C:∃u,h'.get? e=J u)(new:ObjOk P w (upd H x o') h' x o'):HOk P w (upd H x o') h':=λb u q=>by
 have j:∀c y,H c=J (.own y)->c≠x:=λc y r z=>by subst z;rw[r]at l;exact l
 have i:∀c xs,H c=J (.tup xs)->c≠x:=λc xs r z=>by subst z;rw[r]at l;exact l
 by_cases B:b=x
 .subst B;rw[aN]at q;cases q;exact new
 .rw[aB B]at q;by_cases a:b=e
  .have E:H b=J (.own x):=by
    rcases F with z|z
    .exact absurd (a.trans z) B
    .rw[a];exact z
   rw[q]at E;cases E;obtain⟨v,hv⟩:=C;exact⟨v,by rw[a];exact hv⟩
  .refine (ok b u q).stay (λc v G r=>k c v ?_ r) (λc r=>by rw[aB (j c b r)];exact r) λc xs r=>by rw[aB (i c xs r)];exact r
   grind
end
structure Un(fs ex:RT)(H H':Hp)(h h':Heap):Prop where
 keep:∀b o,h.get? b=J o->H b=Y->b∉fs->b∉ex->h'.get? b=J o
 slot:∀b o,h.get? b=J o->H b=Y->b∈fs->b∉ex->∃sl,h'.get? b=J { o with slots:=sl}
 free:∀b o,h.get? b=J o->H b=Y->b∉ex->H' b=Y
 there:∀b o,h.get? b=J o->b∉ex->∃o',h'.get? b=J o'
 tups:∀b xs,H b=J (.tup xs)->H' b=J (.tup xs)
 frzs:∀b o u,H b=J (.frz o u)->H' b=J (.frz o u)
 tbls:∀b ps,H b=J (.tbl ps)->∃more,H' b=J (.tbl (ps++more))
section
variable{fs fs' ex ex':RT}{H H1 H2:Hp}{h h1 h2 h':Heap}{a x e:Addr}{o:HO}
def Un.any(u:Un fs ex H H1 h h1)(q:h.get? b=J ob)(n:H b=Y)(i:b∉ex):∃sl,h1.get? b=J { ob with slots:=sl}:=by
 by_cases j:b∈fs
 .exact u.slot b ob q n j i
 .exact⟨ob.slots,u.keep b ob q n j i⟩
def Un.kept(k:∀b u,h.get? b=J u->h'.get? b=J u):Un fs ex H H h h' :=
 ⟨λb i q _ _ _=>k b i q,λb i q _ _ _=>⟨i.slots,k b i q⟩,λ_ _ _ n _=>n,λb i q _=>⟨i,k b i q⟩,λ_ _ q=>q,λ_ _ _ q=>q,λ_ j q=>⟨#[],by rw[q];simp⟩⟩
def Un.refl:Un fs ex H H h h:=Un.kept λ_ _ q=>q
def Un.laid(k:∀b u,h.get? b=J u->h'.get? b=J u)(j:h.objs.size<=a)(i:H a=Y):Un fs ex H (upd H a o) h h' where
 keep:=λb u q _ _ _=>k b u q
 slot:=λb u q _ _ _=>⟨u.slots,k b u q⟩
 free:=λb u q n _=>by rw[aB (wm (r_ (pa q) j))];exact n
 there:=λb u q _=>⟨u,k b u q⟩
 tups:=λb xs q=>by rw[aB (br q i)];exact q
 frzs:=λb u xs q=>by rw[aB (br q i)];exact q
 tbls:=λb l q=>⟨#[],by rw[aB (br q i),q];simp⟩
def Un.write(j:Ml (H x))(E:e=x\/H e=J (.own x))(k:∀b u,b≠e->h.get? b=J u->h'.get? b=J u)(l:∃u,h'.get? e=J u):Un fs ex H (upd H x o) h h':=by
 have C:∀b,H b=Y->b≠x:=λb n z=>by subst z;rw[n]at j;exact j
 have y:∀b,H b=Y->b≠e:=λb n z=>by
  simp_all
 have hm:∀b u,H b=J u->¬Ml (J u)->b≠x:=λb u q B z=>by subst z;rw[q]at j;exact B j
 refine⟨λb u q n _ _=>k b u (y b n) q,λb u q n _ _=>⟨u.slots,k b u (y b n) q⟩,λb u q n _=>by rw[aB (C b n)];exact n,λb u q _=>?_,
  λb xs q=>by rw[aB (hm b _ q λz=>z)];exact q,λb u xs q=>by rw[aB (hm b _ q λz=>z)];exact q,λb F q=>⟨#[],by rw[aB (hm b _ q λz=>z),q];simp⟩⟩
 by_cases i:b=e
 .subst i;exact l
 .exact⟨u,k b u i q⟩
end
def Mm(h:Heap)(H:Hp):RT:=(List.range h.objs.size).filter λa=>(H a).isSome
def kj(h:Heap)(H:Hp):Heap:=PySem.W.hideAll h (Mm h H)
def wR(h:Heap)(H:Hp):(kj h H).objs.size=h.objs.size:=PySem.W.hideAll_size _ _
def zK(e:h.get? b=J o)(n:H b=Y):(kj h H).get? b=J o :=
 PySem.W.hideAll_get _ e λhm=>by
  have q:=(A8.mp hm).2;rw[n]at q;simp at q
def BJ(e:(kj h H).get? b=J o):h.get? b=J o/\H b=Y:=by
 have a:=PySem.W.of_hideAll (Mm h H) e;refine⟨a,?_⟩
 cases q:H b with
 |none=>rfl
 |some x =>
  have hm:b∈Mm h H:=A8.mpr ⟨DR.mpr (pa a),by simp[q]⟩;have z:(kj h H).get? b=Y:=PySem.W.hideAll_none (Mm h H) hm;rw[z]at e;cases e
structure Mod(K:g_)(mg:RD)(base:Heap):Prop where
 kin:K.In base
 glob:base.Ns mainGlobals mg
 blt:∃mb,base.Ns builtinsNs mb/\∀x:Str,x≠"__name__"->mb x=bootBuiltins x
 nolimit:base.NoLimit
 seer:base.NoSeer
structure Cx where
 prog:Program
 w:World
 K:g_
 mg:Str->RW
 base:Heap
 A:Around
 N:RM
 s₀:Shared
 H₀:Hp
 env:Env
 outer:List Env
 stack:List Env
 ex:RT
 fn:Str->Bool
 calm:Bool
 pn:RV
 xe:Value->Shared->Prop
def wv(l:List Env):RT:=l.filterMap (·.frame)
abbrev Cx.fs(X:Cx):RT:=wv X.outer
def Il(a:Scope)(x:Str):Prop:=a.names.lookup x=J .local\/a.names.lookup x=J .cell\/a.names.lookup x=J .free
def Loc(a:Scope)(x:Str):Prop:=a.names.lookup x=J .local\/a.names.lookup x=J .cell
def Look(env:Env)(h:Heap)(m:RD)(x:Str)(u:Value):Prop :=
 (env.kindOf x=J .local/\m x=J u)\/((env.kindOf x=J .cell\/env.kindOf x=J .free)/\∃c,env.cells.lookup x=J c/\h.IsCell c (J u))
structure Cx.Ok(X:Cx):Prop where
 mod:Mod X.K X.mg X.base
 kind:X.env.scope.kind=.function
 glob:X.env.globals=mainGlobals
 blt:X.env.builtins=builtinsNs
 above:X.s₀.heap.objs.size<=X.env.locals
 inj:∀x y c,X.env.cells.lookup x=J c->X.env.cells.lookup y=J c->x=y
 has:∀x,(X.env.kindOf x=J .cell\/X.env.kindOf x=J .free)->∃c,X.env.cells.lookup x=J c
 cab:∀x c,X.fn x=I->X.env.cells.lookup x=J c->X.s₀.heap.objs.size<=c
 hd:X.calm=I->X.A.handled=Y
 frames:X.A.frames=J X.stack
 stk:X.stack=X.outer\/(X.stack=X.env::X.outer/\X.env.frame=J X.env.locals)
 exf:∀b∈X.ex,b≠X.env.locals/\∀x c,X.env.cells.lookup x=J c->c≠b
 bs:∀b o,X.base.get? b=J o->X.s₀.heap.get? b=J o/\X.H₀ b=Y
 bsz:X.base.objs.size<=X.s₀.heap.objs.size
 noex:∀b o,X.base.get? b=J o->b∉X.ex
 exfs:∀b∈X.ex,b∉X.fs
 funs:X.s₀.heap.FunFrames X.base X.outer
 frf:∀b∈X.fs,X.H₀ b=Y
 tree:X.prog.given.tree=Y
 top:∃e l,X.stack=e::l/\e.scope.isGenerator=T/\e.scope.isCoroutine=T/\e.builtins=builtinsNs/\e.globals=mainGlobals
structure Inv(X:Cx)(J4:RV)(Z:List (Option V))(H:Hp)(s:Shared):Prop where
 ok:X.Ok
 os:s.os=X.s₀.os
 bare:AllBare s.gens
 base:Un X.fs X.ex X.H₀ H X.s₀.heap s.heap
 loc:∃m,s.heap.Ns X.env.locals m/\∀(i:Nat)(x:Str)(v:V),X.N[i]?=J x->Z[i]?=J (J v)->Il X.env.scope x->∃u,aQ v u/\Look X.env s.heap m x u
 cell:∀x c,X.env.cells.lookup x=J c->∃v,s.heap.IsCell c v
 free:H X.env.locals=Y
 freeC:∀x c,X.env.cells.lookup x=J c->H c=Y
 pin:∀p∈X.pn++J4,s.heap.get? p.1=J p.2/\H p.1=Y/\p.1≠X.env.locals/\p.1∉X.fs/\∀v,p.2.data≠.cell v
 hok:HOk X.prog X.w H s.heap
 len:Z.length=X.N.length
section
variable{X:Cx}{J4:List (Addr × Obj)}{Z:List (Option V)}{H H':Hp}{s:Shared}{h':Heap}
def Cx.Ok.nofr(ok:X.Ok)(e:X.base.get? b=J o):b∉X.fs:=λa=>by
 have:=(ok.funs.mem a).1
 rw[e]at this;cases this
def Inv.bs(a:Inv X J4 Z H s):∀b o,X.base.get? b=J o->s.heap.get? b=J o/\H b=Y:=λb o e =>
 ⟨a.base.keep b o (a.ok.bs b o e).1 (a.ok.bs b o e).2 (a.ok.nofr e) (a.ok.noex b o e),a.base.free b o (a.ok.bs b o e).1 (a.ok.bs b o e).2 (a.ok.noex b o e)⟩
def Inv.bk(a:Inv X J4 Z H s):∀b o,X.base.get? b=J o->s.heap.get? b=J o:=λb o e=>(a.bs b o e).1
def Inv.mod(a:Inv X J4 Z H s):Mod X.K X.mg X.base:=a.ok.mod
def Inv.kIn(a:Inv X J4 Z H s):X.K.In s.heap:=a.ok.mod.kin.keeps a.bk
def Inv.nolimit(a:Inv X J4 Z H s):s.heap.NoLimit:=a.ok.mod.nolimit.keeps a.bk
def Inv.lt(a:Inv X J4 Z H s):X.env.locals<s.heap.objs.size:=let⟨_,i,_⟩:=a.loc;i.lt
def Inv.sz(a:Inv X J4 Z H s):X.s₀.heap.objs.size<=s.heap.objs.size:=pu a.ok.above (E0 a.lt)
def Inv.nofs(i:Inv X J4 Z H s){a:Addr}(h:s.heap.objs.size<=a):a∉X.fs:=λl=>by
 obtain⟨_,o,j,_⟩:=i.ok.funs.mem l;exact absurd (r_ (pa j) (pu i.sz h)) (AH _)
def Inv.cne(a:Inv X J4 Z H s):∀x c,X.env.cells.lookup x=J c->c≠X.env.locals:=λx c e z=>by
 obtain⟨v,o,l,hd⟩:=a.cell x c e;obtain⟨m,⟨y,u,B,j,i,_⟩,_⟩:=a.loc;rw[z,j]at l;cases l;rw[i]at hd;cases hd
def Inv.funs(a:Inv X J4 Z H s):s.heap.FunFrames X.base X.outer:=by
 have all:∀(l:List Env),(∀b∈wv l,b∈X.fs)->X.s₀.heap.FunFrames X.base l->s.heap.FunFrames X.base l:=by
  intro l
  induction l with
  |nil=>intro _ _;trivial
  |cons env r B =>
   intro j hl;obtain⟨C,⟨L,o,hf,y,u,hd⟩,hr⟩:=hl;have hL:=j L (by unfold wv;rw[Nr,hf];exact A6);obtain⟨sl,e⟩:=a.base.slot L o u (a.ok.frf L hL) hL λz=>a.ok.exfs L z hL;exact⟨C,⟨L,_,hf,y,e,hd⟩,B (λb i=>j b (by unfold wv;rw[Nr,hf];exact n4 _ i)) hr⟩
 exact all X.outer (λ_ i=>i) a.ok.funs
def Inv.stack(a:Inv X J4 Z H s):s.heap.FunFrames X.base X.stack:=by
 rcases a.ok.stk with e|⟨e,hf⟩
 .rw[e];exact a.funs
 .rw[e];obtain⟨m,i,_⟩:=a.loc;refine .cons (by rw[a.ok.kind];decide) hf i ?_ a.funs;exact L6 (pu a.ok.bsz a.ok.above)
def Inv.stkSub(i:Inv X J4 Z H s):∀b∈wv X.stack,b∈X.env.locals::X.fs:=λb a=>by
 rcases i.ok.stk with e|⟨e,hf⟩
 .rw[e]at a;exact n4 _ a
 .rw[e]at a;unfold wv at a;rw[Nr,hf]at a;exact a
def Inv.stkFree(a:Inv X J4 Z H s):∀b∈wv X.stack,H b=Y:=λb i=>by
 rcases n8.mp (a.stkSub b i)with e|i
 .rw[e];exact a.free
 .obtain⟨_,o,j,_⟩:=a.ok.funs.mem i;exact a.base.free b o j (a.ok.frf b i) λz=>a.ok.exfs b z i
def Inv.step{g':Array GenState}{t':Nat}{d':Drawn}{ch:RT}(a:Inv X J4 Z H s)(C:∀b∈ch,(b∈X.ex\/X.s₀.heap.objs.size<=b)/\b≠X.env.locals/\(∀x c,X.env.cells.lookup x=J c->c≠b)/\∀p∈X.pn++J4,p.1≠b)(keep:∀b o,b≠X.env.locals->b∉X.fs->b∉ch->s.heap.get? b=J o->H b=Y->h'.get? b=J o)(slot:∀b o,b≠X.env.locals->b∈X.fs->b∉ch->s.heap.get? b=J o->H b=Y->∃sl,h'.get? b=J { o with slots:=sl})(free:∀b o,b∉ch->s.heap.get? b=J o->H b=Y->H' b=Y)(there:∀b o,b∉ch->s.heap.get? b=J o->∃M,h'.get? b=J M)(tups:∀b xs,H b=J (.tup xs)->H' b=J (.tup xs))(frzs:∀b o u,H b=J (.frz o u)->H' b=J (.frz o u))(tbls:∀b P,H b=J (.tbl P)->∃L,H' b=J (.tbl (P++L)))(ns:∀m,s.heap.Ns X.env.locals m->h'.Ns X.env.locals m)(hok:HOk X.prog X.w H' h')(hg:AllBare g'):
  Inv X J4 Z H' { s with heap:=h',gens:=g',drawn:=d',toks:=t'}:=by
 have O:∀b o,X.s₀.heap.get? b=J o->b≠X.env.locals:=λb o e=>wm (r_ (pa e) a.ok.above);have E:∀b o,X.s₀.heap.get? b=J o->b∉X.ex->b∉ch:=λb o e j F=>by
  rcases(C b F).1 with z|z
  .exact j z
  .exact absurd (r_ (pa e) z) (AH _)
 have y:∀x c,X.env.cells.lookup x=J c->∀v,s.heap.IsCell c v->h'.IsCell c v:=λx c e v ⟨o,G,hd⟩=>by
  have B:c∉ch:=λz=>(C c z).2.2.1 x c e rfl;by_cases S:c∈X.fs
  .obtain⟨sl,q⟩:=slot c o (a.cne x c e) S B G (a.freeC x c e);exact⟨_,q,hd⟩
  .exact⟨o,keep c o (a.cne x c e) S B G (a.freeC x c e),hd⟩
 refine⟨a.ok,a.os,hg,⟨λb o e n F j=>?_,λb o e n F j=>?_,λb o e n j=>?_,λb o e j=>?_,λb xs e=>tups b xs (a.base.tups b xs e),λb o xs e=>frzs b o xs (a.base.frzs b o xs e),λb P e=>?_⟩,?_,λx c e=>?_,?_,λx c e=>?_,λp R=>?_,hok,a.len⟩
 .exact keep b o (O b o e) F (E b o e j) (a.base.keep b o e n F j) (a.base.free b o e n j)
 .obtain⟨sl,e1⟩:=a.base.slot b o e n F j;obtain⟨Q,e2⟩:=slot b _ (O b o e) F (E b o e j) e1 (a.base.free b o e n j);exact⟨Q,e2⟩
 .obtain⟨M,e1⟩:=a.base.there b o e j;exact free b M (E b o e j) e1 (a.base.free b o e n j)
 .obtain⟨M,e1⟩:=a.base.there b o e j;exact there b M (E b o e j) e1
 .obtain⟨m1,e1⟩:=a.base.tbls b P e;obtain⟨W,e2⟩:=tbls b _ e1;exact⟨m1++W,by rw[e2,Array.append_assoc]⟩
 .obtain⟨m,hn,hl⟩:=a.loc;refine⟨m,ns m hn,λi x v e1 e2 e3=>?_⟩;obtain⟨u,r,l⟩:=hl i x v e1 e2 e3;refine⟨u,r,?_⟩;rcases l with l|⟨k,c,e,z⟩
  .exact .inl l
  .exact .inr ⟨k,c,e,y x c e _ z⟩
 .obtain⟨v,z⟩:=a.cell x c e;exact⟨v,y x c e v z⟩
 .obtain⟨m,⟨o,_,_,G,_⟩,_⟩:=a.loc;exact free _ o (λz=>(C _ z).2.1 rfl) G a.free
 .obtain⟨v,o,G,hd⟩:=a.cell x c e;exact free c o (λz=>(C c z).2.2.1 x c e rfl) G (a.freeC x c e)
 .obtain⟨e,n,ne,U,d⟩:=a.pin p R;have B:p.1∉ch:=λz=>(C p.1 z).2.2.2 p R rfl;exact⟨keep p.1 p.2 ne U B e n,free p.1 p.2 B e n,ne,U,d⟩
def Inv.un{t':Nat}(a:Inv X J4 Z H s)(u:Un X.fs [] H H' s.heap h')(hok:HOk X.prog X.w H' h'):Inv X J4 Z H' { s with heap:=h',toks:=t'}:=by
 obtain⟨m,⟨o,E,G,B,r⟩,_⟩:=id a.loc;obtain⟨sl,hL⟩:=u.any B a.free (by simp)
 exact a.step (g':=s.gens) (d':=s.drawn) (ch:=[]) (λ_ z=>nomatch z) (λb o _ y _ e n=>u.keep b o e n y (by simp)) (λb o _ y _ e n=>u.slot b o e n y (by simp)) (λb o _ e n=>u.free b o e n (by simp)) (λb o _ e=>u.there b o e (by simp)) u.tups u.frzs u.tbls (λF hm=>by
  obtain⟨L,j,l,i,C⟩:=hm;rw[B]at i;cases i
  exact⟨_,j,l,hL,C⟩) hok a.bare
def Inv.call{g':Array GenState}{t':Nat}{d':Drawn}{E:RT}(a:Inv X J4 Z H s)(u:Un (wv X.stack) E H H' s.heap h')(hok:HOk X.prog X.w H' h')(hg:AllBare g')(l:∀b∈E,(b∈X.ex\/X.s₀.heap.objs.size<=b)/\b≠X.env.locals/\(∀x c,X.env.cells.lookup x=J c->c≠b)/\∀p∈X.pn++J4,p.1≠b):
  Inv X J4 Z H' { s with heap:=h',gens:=g',drawn:=d',toks:=t'}:=by
 obtain⟨m,⟨o,L,O,C,r⟩,_⟩:=id a.loc;obtain⟨sl,hL⟩:=u.any C a.free λz=>(l _ z).2.1 rfl
 exact a.step l (λb o hL F i e n=>u.keep b o e n (λz=>(n8.mp (a.stkSub b z)).elim hL F) i) (λb o _ _ i e n=>u.any e n i) (λb o i e n=>u.free b o e n i) (λb o i e=>u.there b o e i) u.tups u.frzs u.tbls (λM hm=>by
  obtain⟨P,y,B,j,G⟩:=hm;rw[C]at j;cases j
  exact⟨_,y,B,hL,G⟩) hok hg
def Inv.turned{t':Nat}{a:Addr}(i:Inv X J4 Z H s)(k:∀b o,b≠a->s.heap.get? b=J o->h'.get? b=J o)(C:H a=Y)(hL:a≠X.env.locals)(M:a∈X.ex\/X.s₀.heap.objs.size<=a)(L:∀x c,X.env.cells.lookup x=J c->c≠a)(y:∀p∈X.pn++J4,p.1≠a):Inv X J4 Z H { s with heap:=h',toks:=t'}:=by
 have l:∀b u,H b=J u->b≠a:=λb u e z=>by rw[z,C]at e;cases e
 refine i.step (g':=s.gens) (d':=s.drawn) (ch:=[a]) (λb G=>?_) (λb o _ _ j e _=>k b o (λz=>j (by simp[z])) e) (λb o _ _ j e _=>⟨o.slots,k b o (λz=>j (by simp[z])) e⟩) (λ_ _ _ _ n=>n)
  (λb o j e=>⟨o,k b o (λz=>j (by simp[z])) e⟩) (λ_ _ e=>e) (λ_ _ _ e=>e) (λb O e=>⟨#[],by rw[e];simp⟩) (λm hm=>?_) (λb u e=>?_) i.bare
 .have e:b=a:=by simpa using G
  subst e;exact⟨M,hL,L,y⟩
 .obtain⟨o,E,F,B,r⟩:=hm;exact⟨o,E,F,k _ o (Ne.symm hL) B,r⟩
 .refine (i.hok b u e).stay (λc v j q=>k c v ?_ q) (λ_ q=>q) λ_ _ q=>q;rcases j with z|z
  .rw[z];exact l b u e
  .exact l c _ z
def Inv.tok(a:Inv X J4 Z H s)(t:Nat):Inv X J4 Z H { s with toks:=t}:=a.un (h':=s.heap) (t':=t) Un.refl a.hok
def Inv.kept(a:Inv X J4 Z H s)(k:∀b u,s.heap.get? b=J u->h'.get? b=J u):Inv X J4 Z H { s with heap:=h',toks:=t'}:=a.un (Un.kept k) (a.hok.kept k)
def Inv.laid{a:Addr}{o:HO}{t':Nat}(i:Inv X J4 Z H s)(k:∀b u,s.heap.get? b=J u->h'.get? b=J u)(j:s.heap.objs.size<=a)(new:ObjOk X.prog X.w (upd H a o) h' a o):
  Inv X J4 Z (upd H a o) { s with heap:=h',toks:=t'}:=i.un (Un.laid k j (i.hok.fresh j)) (i.hok.laid k j new)
def Inv.write(i:Inv X J4 Z H s)(j:Ml (H x))(l:e=x\/H e=J (.own x))(k:∀b u,b≠e->s.heap.get? b=J u->h'.get? b=J u)(a:∃u,h'.get? e=J u)(new:ObjOk X.prog X.w (upd H x o) h' x o):Inv X J4 Z (upd H x o) { s with heap:=h',toks:=t'}:=i.un (Un.write j l k a) (i.hok.write j l k a new)
def Inv.pins_of(a:Inv X J4 Z H s)(h:∀p∈i,s.heap.get? p.1=J p.2/\H p.1=Y/\p.1≠X.env.locals/\p.1∉X.fs/\∀v,p.2.data≠.cell v):Inv X i Z H s :=
 ⟨a.ok,a.os,a.bare,a.base,a.loc,a.cell,a.free,a.freeC,λp j=>(AS.mp j).elim (λz=>a.pin p (Bx _ z)) (h p),a.hok,a.len⟩
def mP{N:RM}(hN:N.Nodup){i j:Nat}{x:Str}(a:N[i]?=J x)(b:N[j]?=J x):i=j:=by obtain⟨u,e1⟩:=pj.mp a;obtain⟨l,e2⟩:=pj.mp b;exact(List.getElem_inj hN).mp (e1.trans e2.symm)
def wY{M:Model}{A:Around}{E:RC}{i:Nat}{x:Str}{v:V}{u:Value}{Q:Unit->Shared->Prop}(l:Inv X J4 Z H s)(hN:X.N.Nodup)(hi:X.N[i]?=J x)(G:Loc X.env.scope x)(r:aQ v u)(h:∀s',Inv X J4 (Z.set i (J v)) H s'->(∃a,Heap.SameBut a s.heap s'.heap/\(a=X.env.locals\/X.env.cells.lookup x=J a))->Q () s')(hf:X.fn x=I\/X.env.scope.names.lookup x=J .local:=by first | exact .inl rfl | exact .inr rfl | assumption):wpAny M A (storeName X.env x u) Q E s:=by
 obtain⟨m,hn,hl⟩:=id l.loc;have al:(X.env.scope.kind == .class||(X.env.scope.kind == .module&&X.env.locals != X.env.globals))=T:=by rw[l.ok.kind];rfl
 have O:i<Z.length:=by rw[l.len];exact(pj.mp hi).1
 have cne:=l.cne;have C:∀{a:Addr}{h':Heap},(∃o,s.heap.get? a=J o/\H a=Y)->Heap.SameBut a s.heap h'->HOk X.prog X.w H h':=λ{a h'} ha B b ob e=>by
  obtain⟨_,_,L⟩:=ha;refine(l.hok b ob e).stay (λc w' F q=>(B.2 c ?_).trans q) (λ_ q=>q) λ_ _ q=>q;rintro rfl;rcases F with rfl|F
  .rw[L]at e;cases e
  .rw[L]at F;cases F
 rcases G with P|P
 .refine wpAny_storeName_local P hn (λh' an B=>?_) al;obtain⟨oL,_,_,ap,_⟩:=id hn;refine h _ ⟨l.ok,l.os,l.bare,⟨λb o e n U G=>?_,λb o e n U G=>?_,l.base.free,λb o e G=>?_,l.base.tups,l.base.frzs,l.base.tbls⟩,⟨_,an,λj y v' e1 e2 e3=>?_⟩,λy c e=>?_,l.free,l.freeC,λp hp=>?_,C ⟨oL,ap,l.free⟩ B,by simpa using l.len⟩ ⟨_,B,.inl rfl⟩
  .exact (B.2 b (wm (r_ (pa e) l.ok.above))).trans (l.base.keep b o e n U G)
  .obtain⟨sl,e1⟩:=l.base.slot b o e n U G;exact⟨sl,(B.2 b (wm (r_ (pa e) l.ok.above))).trans e1⟩
  .obtain⟨o',e1⟩:=l.base.there b o e G;exact⟨o',(B.2 b (wm (r_ (pa e) l.ok.above))).trans e1⟩
  .by_cases S:j=i
   .subst S;rw[hi]at e1;cases e1;rw[u_ O]at e2;cases e2;exact⟨u,r,.inl ⟨P,by simp⟩⟩
   .rw[mA (Ne.symm S)]at e2;obtain⟨u',r',q⟩:=hl j y v' e1 e2 e3;refine⟨u',r',?_⟩;rcases q with⟨k,e⟩|⟨k,c,e,z⟩
    .refine .inl ⟨k,?_⟩
     have:y≠x:=λe=>S (mP hN e1 (e▸hi))
     simp[this,e]
    .exact .inr ⟨k,c,e,z.sameBut B (cne y c e)⟩
  .obtain⟨w',z⟩:=l.cell y c e;exact⟨w',z.sameBut B (cne y c e)⟩
  .obtain⟨e,n,ne,nf,d⟩:=l.pin p hp;exact⟨(B.2 p.1 ne).trans e,n,ne,nf,d⟩
 .have R:X.fn x=I:=by
   rcases hf with z|z
   .exact z
   .rw[z]at P;cases P
  obtain⟨c,F⟩:=l.ok.has x (.inl P);obtain⟨w',z⟩:=l.cell x c F;refine wpAny_storeName_cell l.ok.kind P F z (λh' ab B=>?_);obtain⟨oc,ak,W⟩:=id z;refine h { s with heap:=h'} ⟨l.ok,l.os,l.bare,⟨λb o e n U G=>?_,λb o e n U G=>?_,l.base.free,λb o e G=>?_,l.base.tups,l.base.frzs,l.base.tbls⟩,⟨m,hn.sameBut B (Ne.symm (cne x c F)),λj y v' e1 e2 e3=>?_⟩,λy c' e=>?_,l.free,l.freeC,λp hp=>?_,C ⟨oc,ak,l.freeC x c F⟩ B,by simpa using l.len⟩ ⟨c,B,.inr F⟩
  .exact (B.2 b (wm (r_ (pa e) (l.ok.cab x c R F)))).trans (l.base.keep b o e n U G)
  .obtain⟨sl,e1⟩:=l.base.slot b o e n U G;exact⟨sl,(B.2 b (wm (r_ (pa e) (l.ok.cab x c R F)))).trans e1⟩
  .obtain⟨o',e1⟩:=l.base.there b o e G;exact⟨o',(B.2 b (wm (r_ (pa e) (l.ok.cab x c R F)))).trans e1⟩
  .by_cases S:j=i
   .subst S;rw[hi]at e1;cases e1;rw[u_ O]at e2;cases e2;exact⟨u,r,.inr ⟨.inl P,c,F,ab⟩⟩
   .rw[mA (Ne.symm S)]at e2;obtain⟨u',r',q⟩:=hl j y v' e1 e2 e3;refine⟨u',r',?_⟩;rcases q with q|⟨k,c',e,z'⟩
    .exact .inl q
    .refine .inr ⟨k,c',e,z'.sameBut B ?_⟩;rintro rfl;exact S (mP hN e1 (l.ok.inj _ _ _ e F▸hi))
  .by_cases ai:c'=c
   .subst ai;exact⟨_,ab⟩
   .obtain⟨w2,z2⟩:=l.cell y c' e;exact⟨w2,z2.sameBut B ai⟩
  .obtain⟨e,n,ne,nf,d⟩:=l.pin p hp;refine⟨(B.2 p.1 ?_).trans e,n,ne,nf,d⟩;intro q;rw[q,ak]at e;have q':oc=p.2:=Option.some.inj e;exact d w' (by rw[<-q'];exact W)
def fN(j:Inv X J4 Z H s)(hN:X.N.Nodup)(z:X.N[i]?=J x)(y:Loc X.env.scope x)(r:aQ v u)(h:∀a,Inv X J4 (Z.set i (J v)) H a->Q () a)(hf:X.fn x=I\/X.env.scope.names.lookup x=J .local:=by first | exact .inl rfl | exact .inr rfl | assumption):wpAny M A (storeName X.env x u) Q E s :=
 wY j hN z y r (λa l _=>h a l) hf
def Inv.call'(i:Inv X J4 Z H s)(l:s'.os=s.os)(u:Un (wv X.stack) ch H H' s.heap s'.heap)(hok:HOk X.prog X.w H' s'.heap)(hg:AllBare s'.gens)(a:∀b∈ch,(b∈X.ex\/X.s₀.heap.objs.size<=b)/\b≠X.env.locals/\(∀x c,X.env.cells.lookup x=J c->c≠b)/\∀p∈X.pn++J4,p.1≠b):Inv X J4 Z H' s':=by
 obtain⟨h',j,z,y,B⟩:=s';have e:=l;subst e;exact i.call (g':=j) (t':=y) (d':=z) u hok hg a
end
abbrev XK:=Value->RG->Hp->Prop
abbrev St:=List (Option V)
abbrev VK:=V->Hp->Prop
abbrev TE:=St->Hp->VK->Prop
abbrev TT:=St->Hp->(Bool->Hp->Prop)->Prop
abbrev TA:=St->Hp->(List V->Hp->Prop)->Prop
structure Ends where
 nx:St->Hp->Prop
 rt:VK
 bk:St->Hp->Prop:=λ_ _=>False
 ct:St->Hp->Prop:=λ_ _=>False
abbrev TS:=Ends->St->Hp->Prop
inductive EP(X:Cx)(J4:RV)(Z:St)(Q:VK)(u:Value)(s':Shared):Prop
 |mk(v:V)(H':Hp)(i:Inv X J4 Z H' s')(r:aQ v u)(q:Q v H'):EP X J4 Z Q u s'
inductive TP(X:Cx)(J4:RV)(Z:St)(Q:Bool->Hp->Prop)(b:Bool)(s':Shared):Prop
 |mk(H':Hp)(i:Inv X J4 Z H' s')(q:Q b H'):TP X J4 Z Q b s'
inductive AP(X:Cx)(J4:RV)(Z:St)(Q:List V->Hp->Prop)(us:RU)(s':Shared):Prop
 |mk(vs:List V)(H':Hp)(i:Inv X J4 Z H' s')(r:aL vs us)(q:Q vs H'):AP X J4 Z Q us s'
inductive SN(X:Cx)(J4:RV)(Q:St->Hp->Prop)(s':Shared):Prop
 |mk(Z':St)(H':Hp)(i:Inv X J4 Z' H' s')(q:Q Z' H'):SN X J4 Q s'
inductive SR(X:Cx)(J4:RV)(Q:VK)(u:Value)(s':Shared):Prop
 |mk(v:V)(Z':St)(H':Hp)(i:Inv X J4 Z' H' s')(r:aQ v u)(q:Q v H'):SR X J4 Q u s'
def SP(X:Cx)(i:RV)(D:Ends)(f:Flow)(a:Shared):Prop :=
 match f with
 |.next=>SN X i D.nx a
 |.brk=>SN X i D.bk a
 |.cont=>SN X i D.ct a
 |.ret u=>SR X i D.rt u a
def PE(X:Cx)(e:Expr)(t:TE):Prop :=
 ∀(a:RV)(s:Shared)(Z:St)(H:Hp)(Q:VK),Inv X a Z H s->t Z H Q->wpAny (model X.prog X.w) X.A (eval e X.env) (EP X a Z Q) X.xe s
def PT(X:Cx)(e:Expr)(t:TT):Prop :=
 ∀(a:RV)(s:Shared)(Z:St)(H:Hp)(Q:Bool->Hp->Prop),Inv X a Z H s->t Z H Q->wpAny (model X.prog X.w) X.A (isTrue e X.env (eval e X.env)) (TP X a Z Q) X.xe s
def PW(X:Cx)(e:Expr)(t:TT):Prop :=
 ∀(a:Sem Value)(i:RV)(s:Shared)(Z:St)(H:Hp)(Q:Bool->Hp->Prop),Inv X i Z H s->t Z H Q->wpAny (model X.prog X.w) X.A (isTrue e X.env a) (TP X i Z Q) X.xe s
def PW.pt(h:PW X e t):PT X e t:=h _
def PA(X:Cx)(j:RZ)(t:TA):Prop :=
 ∀(a:Pos)(i:RV)(s:Shared)(Z:St)(H:Hp)(Q:List V->Hp->Prop),Inv X i Z H s->t Z H Q->wpAny (model X.prog X.w) X.A (spliced (backTo a (starEach j X.env))) (AP X i Z Q) X.xe s
def PS(X:Cx)(st:Stmt)(t:TS):Prop :=
 ∀(a:RV)(s:Shared)(Z:St)(H:Hp)(D:Ends),Inv X a Z H s->t D Z H->wpAny (model X.prog X.w) X.A (exec st X.env) (SP X a D) X.xe s
def PSs(X:Cx)(st:RF)(t:TS):Prop :=
 ∀(a:RV)(s:Shared)(Z:St)(H:Hp)(D:Ends),Inv X a Z H s->t D Z H->wpAny (model X.prog X.w) X.A (execs st X.env) (SP X a D) X.xe s
def j_(h:wpAny M A t Q E s)(i:∀a s,Q a s->Q' a s):wpAny M A t Q' E s:=wpAny_mono h i λ_ _ x=>x
section
variable{X:Cx}
def sD(i:Nat):TE:=λZ H Q=>∃v,Z[i]?=J (J v)/\Q v H
def tC(v:V):TE:=λ_ H Q=>Q v H
def gz{i:Nat}{x:Str}{pos:Pos}(hN:X.N[i]?=J x)(hv:Il X.env.scope x)(hd:(x==("__debug__":Str))=T:=by decide)(z:(x==("__classdict__":Str))=T:=by decide):PE X (.Name x pos) (sD i):=by
 intro E s Z H Q a h;obtain⟨v,e,h⟩:=h;obtain⟨m,C,hl⟩:=a.loc;obtain⟨u,r,l⟩:=hl i x v hN e hv;have fin:EP X E Z Q u s:=⟨v,H,a,r,h⟩;rcases l with⟨y,hm⟩|⟨y,c,B,j⟩
 .exact wpAny_Name (wpAny_loadName_local a.ok.kind y C hm fin) hd
 .rcases y with y|y
  .exact wpAny_Name (wpAny_loadName_cell a.ok.kind y B j fin) hd
  .exact wpAny_Name (wpAny_loadName_free a.ok.kind y B j fin z) hd
def E6{i j pos}:PE X (.Constant (.int i) j pos) (tC (.int i)):=λ_ _ _ H _ a h=>wpAny_Constant_int ⟨.int i,H,a.tok _,⟨_,rfl⟩,h⟩
def Jc{b j pos}:PE X (.Constant (.bool b) j pos) (tC (.bl b)):=λ_ _ _ H _ a h=>Constant_bool ⟨.bl b,H,a,rfl,h⟩
def E7{j pos}:PE X (.Constant .none j pos) (tC .non):=λ_ _ _ H _ a h=>Constant_none ⟨.non,H,a,rfl,h⟩
def E8{x j pos}:PE X (.Constant (.str x) j pos) (tC (.str x)):=λ_ _ _ H _ a h=>Calls.Constant_str ⟨.str x,H,a.tok _,⟨_,rfl⟩,h⟩
def Gl(X:Cx)(x:Str):Prop:=X.env.kindOf x=J .globalImplicit
def jg{E:RC}{j:RV}{s:Shared}{Z:St}{H:Hp}{x:Str}{u:Value}{i:Pos}{Q:RC}(a:Inv X j Z H s)(hg:Gl X x)(hm:X.mg x=J u)(h:Q u s)(hd:(x==("__debug__":Str))=T:=by decide):wpAny (model X.prog X.w) X.A (eval (.Name x i) X.env) Q E s :=
 Calls.Name_function_global a.ok.kind hg (Calls.loadGlobal_global (by rw[a.ok.glob];exact a.mod.glob.keeps a.bk) hm h) hd
def jh{E:RC}{l:RV}{s:Shared}{Z:St}{H:Hp}{x:Str}{u:Value}{i:Pos}{Q:RC}(a:Inv X l Z H s)(hg:Gl X x)(hm:X.mg x=Y)(hv:bootBuiltins x=J u)(h:Q u s)(j:x≠"__name__":=by decide)(hd:(x==("__debug__":Str))=T:=by decide):wpAny (model X.prog X.w) X.A (eval (.Name x i) X.env) Q E s:=by
 obtain⟨mb,z,y⟩:=a.mod.blt;exact Calls.Name_function_global a.ok.kind hg (Calls.loadGlobal_builtin (by rw[a.ok.glob];exact a.mod.glob.keeps a.bk) hm (by rw[a.ok.blt];exact z.keeps a.bk) ((y x j).trans hv) h) hd
def pD(hg:Gl X x)(hm:X.mg x=J u)(r:aQ v u)(hd:(x==("__debug__":Str))=T:=by decide):PE X (.Name x pos) (tC v) :=
 λ_ _ _ H _ a h=>jg a hg hm ⟨v,H,a,r,h⟩ hd
def uP{x:Str}{v:V}{u:Value}{i:Pos}(hg:Gl X x)(hm:X.mg x=Y)(hv:bootBuiltins x=J u)(r:aQ v u)(j:x≠"__name__":=by decide)(hd:(x==("__debug__":Str))=T:=by decide):PE X (.Name x i) (tC v) :=
 λ_ _ _ H _ a h=>jh a hg hm hv ⟨v,H,a,r,h⟩ j hd
variable{a b:Expr}{ta tb:TE}{pos:Pos}
def tB(t:TE):TT:=λZ H Q=>t Z H λx i=>∃c,x=.bl c/\Q c i
def E9(h:PE X e t)(B:∀i,isTrue e X.env i=(do let v <-i;standAt e.pos;holding [v] (truthy v)):=by intro _;rfl):PT X e (tB t):=by intro y s Z H Q j hw;refine isTrue_plain (j_ (h y s Z H _ j hw) λv E ⟨x,z,l,u,C⟩=>?_) (B _);obtain⟨d,rfl,q⟩:=C;cases u;exact wpAny_truthy_bool ⟨z,l,q⟩
variable{tA tB':TT}{rest:RZ}
def NM(t u:TT):TT:=λZ H Q=>t Z H λc i=>if c=I then u Z i Q else Q T i
def QS(t u:TT):TT:=λZ H Q=>t Z H λc i=>if c=I then Q I i else u Z i Q
def NN(t:TT):TT:=λZ H Q=>t Z H λc i=>Q (!c) i
def BK(l:PT X a tA):PW X (.BoolOp .And [a] pos) tA:=by
 intro y j s Z H Q i h;refine isTrue_and (j_ (l j s Z H Q i h) λc u e=>?_)
 cases c with
 |true=>exact isTrue_and_nil e
 |false=>exact e
def E_(l:PT X a tA):PW X (.BoolOp .Or [a] pos) tA:=by
 intro y j s Z H Q i h;refine isTrue_or (j_ (l j s Z H Q i h) λc u e=>?_)
 cases c with
 |false=>exact isTrue_or_nil e
 |true=>exact e
def Fa(C:PT X a tA)(E:PW X (.BoolOp .And (b::rest) pos) tB'):PW X (.BoolOp .And (a::b::rest) pos) (NM tA tB'):=by
 intro B u s Z H Q i h;refine isTrue_and (j_ (C u s Z H _ i h) λc z ⟨l,y,j⟩=>?_)
 cases c with
 |true=>exact E B u z Z l Q y j
 |false=>exact⟨l,y,j⟩
def Jd(C:PT X a tA)(E:PW X (.BoolOp .Or (b::rest) pos) tB'):PW X (.BoolOp .Or (a::b::rest) pos) (QS tA tB'):=by
 intro B u s Z H Q i h;refine isTrue_or (j_ (C u s Z H _ i h) λc z ⟨l,y,j⟩=>?_)
 cases c with
 |true=>exact⟨l,y,j⟩
 |false=>exact E B u z Z l Q y j
def Fb(l:PT X a tA):PT X (.UnaryOp .Not a pos) (NN tA):=by intro u s Z H Q i h;exact isTrue_not (j_ (l u s Z H (λc j=>Q (!c) j) i h) λ_ _ ⟨j,y,q⟩=>⟨j,y,q⟩)
def Je(ta tb:TE):TE:=λZ H Q=>ta Z H λx i=>∃c,x=.bl c/\if c=I then tb Z i Q else Q (.bl T) i
def NQ(ta tb:TE):TE:=λZ H Q=>ta Z H λx i=>∃c,x=.bl c/\if c=I then Q (.bl I) i else tb Z i Q
def Jf(ta:TE):TE:=λZ H Q=>ta Z H λx i=>∃c,x=.bl c/\Q (.bl (!c)) i
def Fc{op}(h:PE X a t):PE X (.BoolOp op [a] pos) t:=λj s Z H Q i hw=>BoolOp_one (h j s Z H Q i hw)
def Fd(E:PE X a ta)(C:PE X (.BoolOp .And (b::rest) pos) tb):PE X (.BoolOp .And (a::b::rest) pos) (Je ta tb):=by
 intro u s Z H Q j h;refine BoolOp_and (j_ (E u s Z H _ j h) λv z ⟨x,y,l,B,i⟩=>?_);obtain⟨c,rfl,i⟩:=i;cases B;refine wpAny_truthy_bool ?_
 cases c with
 |true=>exact C u z Z y Q l i
 |false=>exact⟨.bl T,y,l,rfl,i⟩
def Jg(E:PE X a ta)(C:PE X (.BoolOp .Or (b::rest) pos) tb):PE X (.BoolOp .Or (a::b::rest) pos) (NQ ta tb):=by
 intro u s Z H Q j h;refine BoolOp_or (j_ (E u s Z H _ j h) λv z ⟨x,y,l,B,i⟩=>?_);obtain⟨c,rfl,i⟩:=i;cases B;refine wpAny_truthy_bool ?_
 cases c with
 |false=>exact C u z Z y Q l i
 |true=>exact⟨.bl I,y,l,rfl,i⟩
def Fe(y:PE X a ta):PE X (.UnaryOp .Not a pos) (Jf ta):=by intro z s Z H Q i h;refine UnaryOp_ (j_ (y z s Z H _ i h) λv C ⟨x,l,B,u,j⟩=>?_);obtain⟨c,rfl,j⟩:=j;cases u;exact not_of (wpAny_truthy_bool ⟨.bl (!c),l,B,rfl,j⟩)
def QT(t:TT)(ta tb:TE):TE:=λZ H Q=>t Z H λc i=>if c=I then ta Z i Q else tb Z i Q
def yM(E:PT X c tA)(B:PE X a ta)(C:PE X b tb):PE X (.IfExp c a b pos) (QT tA ta tb):=by
 intro j s Z H Q i h;refine wpAny_IfExp (j_ (E j s Z H _ i h) λd l ⟨y,z,u⟩=>?_)
 cases d with
 |true=>exact B j l Z y Q z u
 |false=>exact C j l Z y Q z u
end
def SqL(K:g_)(H:Hp)(a:Addr)(xs:List V):Prop :=
 Rd H a (.lst xs) \/
  ∃(o:Obj) (i:Array Value) (n:Nat),K.lookup a=J o/\o.cls=.type "list"/\o.dict=Y/\o.data=.seq i n/\i.size<=sizeLine/\aL xs i.toList
def SqT(K:g_)(H:Hp)(a:Addr)(xs:List V):Prop :=
 Rd H a (.tup xs) \/
  ∃(o:Obj) (i:Array Value) (n:Nat),K.lookup a=J o/\o.cls=.type "tuple"/\(o.data=.seq i n/\o.dict=Y)/\i.size<=sizeLine/\aL xs i.toList
def NR:Value->Option V
 |.none=>J .non
 |.bool b=>J (.bl b)
 |.int i _=>J (.int i)
 |.str x _=>J (.str x)
 |.bytes b _=>J (.byt b)
 |.float b _=>J (.flt b)
 |.ref a=>J (.ref a)
 |.type n=>J (.ty n)
 |_=>Y
def aQ.abs(r:aQ x u):NR u=J x:=by
 cases x with
 |non=>cases r;rfl
 |bl _=>cases r;rfl
 |int _=>obtain⟨t,rfl⟩:=r;rfl
 |str _=>obtain⟨t,rfl⟩:=r;rfl
 |byt _=>obtain⟨t,rfl⟩:=r;rfl
 |flt _=>obtain⟨t,rfl⟩:=r;rfl
 |ref _=>cases r;rfl
 |ty _=>cases r;rfl
def aQ.inj(r:aQ x u)(q:aQ y u):x=y:=Option.some.inj (r.abs.symm.trans q.abs)
def aL.inj(r:aL xs us)(q:aL ys us):xs=ys:=by
 induction r generalizing ys with
 |nil=>cases q;rfl
 |cons r t a=>cases q with|cons i j=>rw[r.inj i,a j]
section
variable{X:Cx}{J4:List (Addr × Obj)}{Z:St}{H:Hp}{s:Shared}{a:Addr}{xs ys:List V}
def SqL.of{K:g_}(h:H a=J (.lst xs)):SqL K H a xs:=.inl (.inl h)
def SqT.of{K:g_}(h:H a=J (.tup xs)):SqT K H a xs:=.inl (.inl h)
def Inv.list(j:Inv X J4 Z H s)(h:SqL X.K H a xs):∃i:RU,aL xs i/\PlainL s.heap a i.toArray/\xs.length<=sizeLine:=by
 rcases h with h|⟨o,i,n,u,y,hd,l,B,r⟩
 .obtain⟨z,i,n,r,e⟩:=h.ok j.hok;exact⟨i,r,⟨_,n,e,rfl,rfl,rfl⟩,z⟩
 .refine⟨i.toList,r,⟨o,n,j.kIn a o u,y,hd,by simpa using l⟩,?_⟩;have e:=r.length
  grind
def Inv.tupleN(j:Inv X J4 Z H s)(h:SqT X.K H a xs):∃i:RU,aL xs i/\iq s.heap a i.toArray/\xs.length<=sizeLine:=by
 rcases h with h|⟨o,i,n,u,y,l,B,r⟩
 .obtain⟨z,i,r,p⟩:=h.ok j.hok;exact⟨i,r,p,z⟩
 .refine⟨i.toList,r,⟨o,j.kIn a o u,y,⟨n,by simpa using l.1⟩,l.2⟩,?_⟩;have e:=r.length
  grind
def Inv.tuple(j:Inv X J4 Z H s)(h:SqT X.K H a xs):∃i:RU,aL xs i/\IsTup s.heap a i.toArray/\xs.length<=sizeLine :=
 let⟨i,r,p,z⟩:=j.tupleN h
 ⟨i,r,p.tup,z⟩
def Inv.list_inj(i:Inv X J4 Z H s)(h:SqL X.K H a xs)(z:SqL X.K H a ys):xs=ys:=by
 obtain⟨l,r,⟨o,n,e,_,_,d⟩,_⟩:=i.list h;obtain⟨j,B,⟨E,C,u,_,_,y⟩,_⟩:=i.list z;rw[e]at u;cases u;rw[d]at y;injection y with d1 _
 have:l=j:=by simpa using congrArg Array.toList d1
 subst this;exact r.inj B
def Inv.tuple_inj(i:Inv X J4 Z H s)(h:SqT X.K H a xs)(z:SqT X.K H a ys):xs=ys:=by
 obtain⟨l,r,⟨o,e,_,n,d⟩,_⟩:=i.tuple h;obtain⟨j,B,⟨E,u,_,C,y⟩,_⟩:=i.tuple z;rw[e]at u;cases u;rw[d]at y;injection y with d1 _
 have:l=j:=by simpa using congrArg Array.toList d1
 subst this;exact r.inj B
end
abbrev Cx.wish(X:Cx)(E:RC):Cx:={ X with xe:=E}
abbrev Cx.nox(X:Cx):Cx:=X.wish λ_ _=>False
def Cx.Ok.wish{X:Cx}(ok:X.Ok)(E:RC):(X.wish E).Ok :=
 ⟨ok.mod,ok.kind,ok.glob,ok.blt,ok.above,ok.inj,ok.has,ok.cab,ok.hd,ok.frames,ok.stk,ok.exf,ok.bs,ok.bsz,ok.noex,ok.exfs,ok.funs,ok.frf,ok.tree,ok.top⟩
def Cx.Ok.unwish{X:Cx}{E:RC}(ok:(X.wish E).Ok):X.Ok :=
 ⟨ok.mod,ok.kind,ok.glob,ok.blt,ok.above,ok.inj,ok.has,ok.cab,ok.hd,ok.frames,ok.stk,ok.exf,ok.bs,ok.bsz,ok.noex,ok.exfs,ok.funs,ok.frf,ok.tree,ok.top⟩
section
variable{X:Cx}{J4:List (Addr × Obj)}{Z:St}{H:Hp}{s:Shared}{E:RC}
def Inv.wish(a:Inv X J4 Z H s)(E:RC):Inv (X.wish E) J4 Z H s:=⟨a.ok.wish E,a.os,a.bare,a.base,a.loc,a.cell,a.free,a.freeC,a.pin,a.hok,a.len⟩
def Inv.unwish(a:Inv (X.wish E) J4 Z H s):Inv X J4 Z H s:=⟨a.ok.unwish,a.os,a.bare,a.base,a.loc,a.cell,a.free,a.freeC,a.pin,a.hok,a.len⟩
def SP.unwish(h:SP (X.wish E) J4 D f s'):SP X J4 D f s':=by
 cases f with
 |next=>obtain⟨j,i,a,q⟩:=h;exact⟨j,i,a.unwish,q⟩
 |brk=>obtain⟨j,i,a,q⟩:=h;exact⟨j,i,a.unwish,q⟩
 |cont=>obtain⟨j,i,a,q⟩:=h;exact⟨j,i,a.unwish,q⟩
 |ret u=>obtain⟨v,j,i,a,r,q⟩:=h;exact⟨v,j,i,a.unwish,r,q⟩
def PSs.nox{st:RF}{t:TS}(h:PSs X.nox st t):PSs X st t:=λJ4 s Z H D a hw =>
 wpAny_mono (h J4 s Z H D (a.wish _) hw) (λ_ _ q=>q.unwish) λ_ _ z=>False.elim z
end
section
variable{X:Cx}{st:Stmt}{rest:RF}{t u:TS}{e:Expr}{te:TE}{pos:Pos}
def Jh:TS:=λD Z H=>D.nx Z H
def Ji(t u:TS):TS:=λD Z H=>t { D with nx:=u D} Z H
def BL:PSs X [] Jh:=λ_ _ Z H _ a h=>wpAny_execs_nil ⟨Z,H,a,h⟩
def mK(B:PS X st t)(z:PSs X rest u):PSs X (st::rest) (Ji t u):=by
 intro i s Z H D a h;refine wpAny_execs_cons (j_ (B i s Z H { D with nx:=u D} a h) λf j q=>?_)
 cases f with
 |next =>
  obtain⟨C,l,y,q⟩:=q;exact z i j C l D y q
 |ret v=>exact q
 |brk=>exact q
 |cont=>exact q
def lH(i:PS X st t):PSs X [st] t:=by
 intro j s Z H D a h;refine wpAny_execs_cons (j_ (i j s Z H D a h) λf l q=>?_)
 cases f with
 |next=>exact wpAny_execs_nil q
 |ret v=>exact q
 |brk=>exact q
 |cont=>exact q
def Inv.quiet{i:RV}{Z:St}{H:Hp}{s:Shared}(a:Inv X i Z H s):interactive X.env=T:=by simp[interactive,a.ok.kind]
def DV(te:TE):TS:=λD Z H=>te Z H λ_ a=>D.nx Z a
def uz(i:PE X e te)(j:swapsWith e Y pos.line X.env=pure T:=by rfl):PS X (.Expr e pos) (DV te):=by intro z s Z H D a h;exact wpAny_Expr_any (j_ (i z s Z H _ a h) λv C ⟨x,y,B,E,l⟩=>⟨Z,y,B,l⟩) a.quiet j
def NS(te:TE):TS:=λD Z H=>te Z H D.rt
def Ff(i:PE X e te):PS X (.Return (J e) pos) (NS te):=by intro z s Z H D a h;exact wpAny_Return_some (j_ (i z s Z H _ a h) λv C ⟨x,l,B,y,j⟩=>⟨x,Z,l,B,y,j⟩)
def NT(c:TT)(t u:TS):TS:=λD Z H=>c Z H λb a=>if b=I then t D Z a else u D Z a
def Jj(F:PT X c tc)(C:PSs X a t)(E:PSs X b u):PS X (.If c a b pos) (NT tc t u):=by
 intro j s Z H D i h;refine wpAny_If (j_ (F j s Z H _ i h) λd l ⟨z,B,y⟩=>?_)
 cases d with
 |true=>exact C j l Z z D B y
 |false=>exact E j l Z z D B y
end
abbrev TG:=V->St->Hp->(St->Hp->Prop)->Prop
abbrev Im:=List V->St->Hp->(St->Hp->Prop)->Prop
def PG(X:Cx)(a:Expr)(t:TG):Prop :=
 ∀(i:RV)(s:Shared)(Z:St)(H:Hp)(v:V)(u:Value)(Q:St->Hp->Prop),Inv X i Z H s->aQ v u->t v Z H Q ->
  wpAny (model X.prog X.w) X.A (assign a X.env u) (λ_ j=>SN X i Q j) X.xe s
def PGs(X:Cx)(l:RZ)(t:Im):Prop :=
 ∀(j:RV)(s:Shared)(Z:St)(H:Hp)(a:List V)(i:RU)(Q:St->Hp->Prop),Inv X j Z H s->aL a i->t a Z H Q ->
  wpAny (model X.prog X.w) X.A (assignInOrder ((assignEach l X.env).map (·.2)) i) (λ_ u=>SN X j Q u) X.xe s
abbrev Jk:=V->V->V->Hp->(Hp->Prop)->Prop
inductive SE(X:Cx)(J4:RV)(Z:St)(Q:Hp->Prop)(s':Shared):Prop
 |mk(H':Hp)(i:Inv X J4 Z H' s')(q:Q H'):SE X J4 Z Q s'
def Jl(X:Cx)(t:Jk):Prop :=
 ∀(j:RV)(s:Shared)(Z:St)(H:Hp)(o i v:V)(ov a u:Value)(Q:Hp->Prop),Inv X j Z H s->aQ o ov->aQ i a->aQ v u->t o i v H Q ->
  wpAny (model X.prog X.w) X.A (setItem ov a u) (λ_ l=>SE X j Z Q l) X.xe s
section
variable{X:Cx}{pos:Pos}
def DW(i:Nat):TG:=λv Z H Q=>Q (Z.set i (J v)) H
def uj(hN:X.N.Nodup)(y:X.N[i]?=J x)(l:Loc X.env.scope x)(hf:X.fn x=I\/X.env.scope.names.lookup x=J .local:=by first | exact .inl rfl | exact .inr rfl | assumption):PG X (.Name x pos) (DW i):=by intro B s Z H v u Q a r h;exact wpAny_assign_Name (fN a hN y l r (λz j=>⟨_,H,j,h⟩) hf)
def NU:Im:=λa Z H Q=>a=[]/\Q Z H
def Jm(t:TG)(u:Im):Im:=λa Z H Q=>∃v r,a=v::r/\t v Z H λj i=>u r j i Q
def BM:PGs X [] NU:=by intro l s Z H i j Q a r h;obtain⟨e,h⟩:=h;subst e;cases r;exact assignInOrder_nil ⟨Z,H,a,h⟩
def zN(F:PG X e t)(E:PGs X es u)(B:(assignEach (e::es) X.env).map (·.2)=assign e X.env::(assignEach es X.env).map (·.2):=by rfl):PGs X (e::es) (Jm t u):=by
 intro i s Z H M O Q a r h;obtain⟨v,L,e1,h⟩:=h;subst e1
 cases r with
 |cons r G =>
  rw[B];refine assignInOrder_cons (j_ (F i s Z H _ _ _ a r h) λ_ j ⟨y,z,l,C⟩=>?_);exact E i j y z _ _ Q l G C
def NV(K:g_)(n:Nat)(t:Im):TG:=λv Z H Q=>∃a xs,v=.ref a/\SqT K H a xs/\xs.length=n/\t xs Z H Q
def Fg{j:RZ}{k:Nat}{t:Im}{n:Nat}(G:X.calm=I)(h:PGs X j t)(E:(assignEach j X.env).length=n:=by rfl)(l:(assignEach j X.env).findIdx? (·.1)=Y:=by rfl):PG X (.Tuple j k pos) (NV X.K n t):=by
 intro F s Z H v u Q i r hw;obtain⟨a,xs,e1,z,hl,hw⟩:=hw;subst e1;cases r;obtain⟨B,y,M,P⟩:=i.tuple z;refine assign_Tuple_tuple (i.ok.hd G) M (by simp[E,<-hl,y.length]) l λO L=>?_;have C:=i.kept (t':=s.toks) λb o e=>L b o (wm (pa e)) e;exact h F _ Z H xs _ Q C (by simpa using y) hw
def NW(to a:TE)(t:Jk):TG:=λv Z H Q=>to Z H λo u=>a Z u λi j=>t o i v j λl=>Q Z l
def Fh(G:PE X o to)(O:PE X i ti)(U:Jl X t)(ha:∀v,assign (.Subscript o i pos) X.env v=(do
   let ov <-holding [v] (eval o X.env)
   let a <-holding [v,ov] (eval i X.env)
   standAt pos
   holding [v,ov,a] (setItem ov a v)
   release [v,ov,a] []):=by intro _;rfl):PG X (.Subscript o i pos) (NW to ti t):=by
 intro l s Z H v u Q j r h;refine i_ (wpAny_holding (j_ (G l s Z H _ j h) λov z ⟨x,R,F,L,q1⟩=>?_));refine i_ (wpAny_holding (j_ (O l z Z R _ F q1) λa S ⟨y,W,B,r2,M⟩=>?_));refine i_ (wpAny_standAt (i_ (wpAny_holding (j_ (U l S Z W x y v ov a u _ B L r2 r M) λ_ s3 ⟨C,E,P⟩=>?_))));exact wpAny_release ⟨Z,C,E,P⟩
def Jn(a:TE)(g:TG):TS:=λD Z H=>a Z H λx i=>g x Z i D.nx
def Fi(z:PE X e te)(hg:PG X tg g)(B:swapsWithSole [tg] e pos.line X.env=pure T:=by rfl)(hw:swappedStores [tg] e X.env=pure Y:=by rfl)(E:(assignEach [tg] X.env).map (·.2)=[assign tg X.env]:=by rfl):PS X (.Assign [tg] e pos) (Jn te g):=by
 intro i s Z H D a h;refine wpAny_Assign_stores (j_ (z i s Z H _ a h) λv j ⟨x,y,l,u,C⟩=>?_) B hw;rw[E];exact j_ (hg i j Z y x v _ l u C) λ_ F q=>q
def nk(hN:X.N.Nodup)(B:X.N[i]?=J x)(E:Loc X.env.scope x)(F:PE X e te)(G:swapsWith e (J (.Name x pos')) pos.line X.env=pure T:=by rfl)(hf:X.fn x=I\/X.env.scope.names.lookup x=J .local:=by first | exact .inl rfl | exact .inr rfl | assumption):
  PS X (.Assign [.Name x pos'] e pos) (Jn te (DW i)):=by
 intro z s Z H D a h;refine wpAny_Assign_Name (j_ (F z s Z H _ a h) λv M ⟨y,C,l,u,L⟩=>?_) G;exact fN l hN B E u (λO j=>⟨_,C,j,L⟩) hf
def NX(i j:Nat)(a:TA):TS:=λD Z H=>a Z H λl u=>∃v w,l=[v,w]/\D.nx ((Z.set i (J v)).set j (J w)) u
def Fj{kt k2 pt2}(hc:X.calm=I)(hN:X.N.Nodup)(hi:X.N[i]?=J x)(hj:X.N[j]?=J y)(E:i≠j)(P:X.env.scope.names.lookup x=J .local)(M:X.env.scope.names.lookup y=J .local)(ha:PA X [a,b] ta)(hw:swappedStores [.Tuple [.Name x px,.Name y py] kt pt] (.Tuple [a,b] k2 pt2) X.env=pure (J [x,y]))(hs:swapsWithSole [.Tuple [.Name x px,.Name y py] kt pt] (.Tuple [a,b] k2 pt2) pos.line X.env=pure T:=by rfl):
  PS X (.Assign [.Tuple [.Name x px,.Name y py] kt pt] (.Tuple [a,b] k2 pt2) pos) (NX i j ta):=by
 intro G s Z H D z h;refine i_ (wpAny_standAt ?_);refine i_ (pz ?_);refine i_ (Tuple_ (j_ (ha _ G s Z H _ z h) λus l ⟨vs,O,U,r1,F⟩=>?_));obtain⟨v,w,e1,F⟩:=F;subst e1;obtain⟨B,u,rfl,rv,rw'⟩:∃B u,us=[B,u]/\aQ v B/\aQ w u:=by
  cases r1 with
  |cons p q =>
   cases q with
   |cons p' Q =>
    cases Q;exact⟨_,_,rfl,p,p'⟩
 refine wpAny_newObj_type ?_ (by show 2<=sizeLine;decide);have R:Inv X G Z O { l with heap:=l.heap.push { cls:=.type "tuple",data:=.seq [B,u].toArray}}:=U.kept (t':=l.toks) λb o e=>qr _ e;rw[hw];show wpAny (model X.prog X.w) X.A (do rule "assign.swapped-stores";let items <-unpackItems (.ref l.heap.objs.size) 2 Y;assignInOrder [λv=>bindName X.env y v,λv=>bindName X.env x v] items.reverse;pure Flow.next) _ _ _;refine i_ (wpAny_rule (i_ (unpackItems_tuple (items:=#[B,u]) (z.ok.hd hc) (IsTup.new l.heap _) λW C=>?_)));have S:=R.kept (h':=W) (t':=l.toks) λb o e=>C b o (wm (pa e)) e;refine i_ (assignInOrder_cons (wpAny_bindName (fN S hN hj (.inl M) rw' (λs2 I4=>?_) (.inr M))));refine assignInOrder_cons (wpAny_bindName (fN I4 hN hi (.inl P) rv (λs3 L=>assignInOrder_nil (pz ?_)) (.inr P)));rw[List.set_comm _ _ (Ne.symm E)]at L;exact⟨_,O,L,F⟩
def Fk(c:TT)(u:TS):TS:=λD Z H=>∃W:Nat->St->Hp->Prop,(∃m,W m Z H)/\∀m Z H,W m Z H ->
 c Z H λb j=>if b=I then ∃N:St->Hp->Prop,(∀l a,N l a->∃i,i<m/\W i l a)/\u { D with nx:=N,ct:=N,bk:=D.nx} Z j else D.nx Z j
def zo(M:PassesOwn (model X.prog X.w) X.A X.env X.xe)(hc:PT X c tc)(hb:PSs X body tb):PS X (.While c body [] pos) (Fk tc tb):=by
 intro B s Z H D z h;obtain⟨W,⟨S,w0⟩,turn⟩:=h;refine wpAny_While (codeAny_whileLoop (λn s'=>∃Q G,Inv X B Q G s'/\W n Q G) ?_ S ⟨Z,H,z,w0⟩);rintro n R ⟨l,O,U,w1⟩;refine wpAny_passesOwn M (j_ (hc B R l O _ U (turn n l O w1)) λb s2 ⟨P,L,j⟩=>?_)
 cases b with
 |true =>
  obtain⟨N,hN,j⟩:=j;refine wpAny_passesOwn M (j_ (hb B s2 l P _ L j) λf s3 u=>?_)
  cases f with
  |next =>
   obtain⟨i,a,y,E⟩:=u;obtain⟨C,hm,F⟩:=hN i a E;exact⟨C,hm,i,a,y,F⟩
  |cont =>
   obtain⟨i,a,y,E⟩:=u;obtain⟨C,hm,F⟩:=hN i a E;exact⟨C,hm,i,a,y,F⟩
  |brk=>exact u
  |ret v=>exact u
 |false =>
  exact wpAny_execs_nil ⟨l,P,L,j⟩
end
structure It where
 go:Nat->Hp->Prop
 yld:Nat->Hp->V->Hp->Prop
 stop:Nat->Hp->Prop
def i8(X:Cx)(a:RV)(H:Hp)(b:Addr):Prop :=
 H b=Y/\b≠X.env.locals/\b∉X.fs/\(b∈X.ex\/X.s₀.heap.objs.size<=b)/\(∀x c,X.env.cells.lookup x=J c->c≠b)/\∀p∈X.pn++a,p.1≠b
def Inv.fpOk{X:Cx}{j:RV}{Z:St}{H H':Hp}{s:Shared}{b:Addr}(a:Inv X j Z H s)(i:s.heap.objs.size<=b)(u:H' b=Y):i8 X j H' b:=by
 refine⟨u,DT (r_ a.lt i),a.nofs i,.inr (pu a.sz i),λx c e z=>?_,λp l z=>?_⟩
 .obtain⟨v,q⟩:=a.cell x c e;exact absurd (r_ q.lt (by rw[z];exact i)) (AH _)
 .exact absurd (r_ (pa (a.pin p l).1) (by rw[z];exact i)) (AH _)
inductive Qj(X:Cx)(J4:RV)(Z:St)(u:Value)(Y:V->Hp->Prop)(n:Heap->Prop)(fp:RT)(s2:Shared):Prop
 |mk(x:V)(H':Hp)(i:Inv X J4 Z H' s2)(r:aQ x u)(y:Y x H')(t:n s2.heap)(f:∀b∈fp,H' b=none):Qj X J4 Z u Y n fp s2
structure Bg(P:Program)(w:World)(K:g_)(tg:Expr)(J:It)(fp:RT)(it:Addr)(tn:Nat->Heap->Prop):Prop where
 mem:it∈fp
 obj:∀i h,tn i h->∀b∈fp,∃o,h.get? b=some o/\∀v,o.data≠.cell v
 keep:∀i h h',tn i h->(∀b∈fp,∀o,h.get? b=some o->h'.get? b=some o)->tn i h'
 item:∀(X:Cx),X.prog=P->X.w=w->X.K=K->X.calm=I->∀(i:Nat)(J4:RV)(s:Shared)(Z:St)(H:Hp)(E:RC),Inv X J4 Z H s->(∀b∈fp,i8 X J4 H b)->tn i s.heap->J.go i H ->
  wpAny (model P w) X.A (pyNext (.ref it)) (λr s1=>∃u,r=some u /\
   wpAny (model P w) X.A (letOwnedTupleGo tg (.ref it) u) (λ_ s2=>Qj X J4 Z u (J.yld i H) (tn (i+1)) fp s2) E s1) E s
 done:∀(X:Cx),X.prog=P->X.w=w->X.K=K->X.calm=I->∀(i:Nat)(J4:RV)(s:Shared)(Z:St)(H:Hp)(E:RC),Inv X J4 Z H s->(∀b∈fp,i8 X J4 H b)->tn i s.heap->J.stop i H ->
  wpAny (model P w) X.A (pyNext (.ref it)) (λr s1=>r=Y/\Inv X J4 Z H s1) E s
 self:∀(A:Around)(i:Nat)(s:Shared)(Q:RC)(E:RC),tn i s.heap->Q (.ref it) s->wpAny (model P w) A (pyIter (.ref it)) Q E s
abbrev TI:=St->Hp->(It->Hp->Prop)->Prop
inductive NY(X:Cx)(J4:RV)(Z:St)(tg:Expr)(R:It->Hp->Prop)(itv:Value)(s2:Shared):Prop
 |mk(it:Addr)(fp:RT)(tn:Nat->Heap->Prop)(J:It)(H':Hp)(e:itv=.ref it)(i:Inv X J4 Z H' s2)(t:Bg X.prog X.w X.K tg J fp it tn)(n:tn 0 s2.heap)(f:∀b∈fp,i8 X J4 H' b)(r:R J H'):NY X J4 Z tg R itv s2
def PI(X:Cx)(u a:Expr)(l:TI):Prop :=
 ∀(i:RV)(s:Shared)(Z:St)(H:Hp)(R:It->Hp->Prop),Inv X i Z H s->l Z H R ->
  wpAny (model X.prog X.w) X.A (eval a X.env) (λv j=>wpAny (model X.prog X.w) X.A (pyIter v) (NY X i Z u R) X.xe j) X.xe s
def ve(i:s.heap.get? it=J o)(l:o.cls=.type n)(hd:o.data=.fields vs)(j:["enumerate","zip","dict_itemiterator","dict_reverseitemiterator","odict_iterator","itertools.zip_longest","itertools.pairwise"].contains n=T)(a:Q () s):wpAny M A (letOwnedTupleGo tg (.ref it) u) Q E s:=by
 cases tg<;>first
  |exact pz a
  | (cases u<;>first
    |exact pz a
    | (refine i_ (wpAny_load i ?_)
       rw[l,hd];show wpAny M A (if(["enumerate","zip","dict_itemiterator","dict_reverseitemiterator","odict_iterator","itertools.zip_longest","itertools.pairwise"].contains n&&vs[0]? == J (rawInt _))=I then _ else _) Q E s;rw[hI (by intro h;rw[j]at h;cases h)]
       exact pz a))
def NZ(K:g_)(a:Addr):It :=
 ⟨λi H=>∃xs x,SqL K H a xs/\xs[i]?=J x,λi H x j=>j=H/\∀xs,SqL K H a xs->xs[i]?=J x,λi H=>∃xs,SqL K H a xs/\xs.length<=i⟩
def Qk(K:g_)(a:Addr):It :=
 ⟨λi H=>∃xs x,SqT K H a xs/\xs[i]?=J x,λi H x j=>j=H/\∀xs,SqT K H a xs->xs[i]?=J x,λi H=>∃xs,SqT K H a xs/\xs.length<=i⟩
def Mn(lo:Int)(n:Nat):It:=⟨λi _=>i<n,λi H x a=>a=H/\x=.int (lo+i),λi _=>n<=i⟩
def xK{P:Program}{w:World}{K:g_}{tg:Expr}(a l:Addr):Bg P w K tg (NZ K a) [l] l (λi h=>h.IsListIter l a i) where
 mem:=by simp
 obj:=λi h st b y=>by
  have e:b=l:=by simpa using y
  subst e;obtain⟨o,e,c,d⟩:=st;exact⟨o,e,λv z=>by rw[d]at z;cases z⟩
 keep:=λi h h' st k=>st.at λo e=>k l (by simp) o e
 item:=by intro X U hw O hc i J4 s Z H E j hf st hg;subst U hw O;obtain⟨xs,x,C,S⟩:=hg;obtain⟨L,R,p,hz⟩:=j.list C;obtain⟨u,hu,ru⟩:=R.get S;obtain⟨F,G,f2,W,M,Q⟩:=hf l (by simp);refine wpAny_pyNext_list_item st p.isList (by simpa using hu) λh' B sb=>?_;have I1:=j.turned (t':=s.toks) (λb o y e=>(sb.2 b y).trans e) F G W M Q;obtain⟨o,e,c,d⟩:=id B;exact⟨u,rfl,ve e c d (by decide) ⟨x,H,I1,ru,⟨rfl,λys hy=>by rw[j.list_inj hy C];exact S⟩,B,λb y=>(hf b y).1⟩⟩
 done:=by intro X U hw O hc i J4 s Z H E j hf st hg;subst U hw O;obtain⟨xs,C,S⟩:=hg;obtain⟨L,R,p,hz⟩:=j.list C;obtain⟨F,G,f2,W,M,Q⟩:=hf l (by simp);have hl:=R.length;exact wpAny_pyNext_list_end (j.ok.hd hc) st p.isList (by simp;lia) λh' eb=>⟨rfl,j.turned (t':=s.toks) (λb o y e=>eb b o y e) F G W M Q⟩
 self:=λ_ _ _ _ _ st h=>wpAny_pyIter_listiter st h
def vH{P:Program}{w:World}{K:g_}{tg:Expr}(a l:Addr):Bg P w K tg (Qk K a) [l] l (λi h=>h.IsTupleIter l a i) where
 mem:=by simp
 obj:=λi h st b y=>by
  have e:b=l:=by simpa using y
  subst e;obtain⟨o,e,c,d⟩:=st;exact⟨o,e,λv z=>by rw[d]at z;cases z⟩
 keep:=λi h h' st k=>st.at λo e=>k l (by simp) o e
 item:=by intro X U hw O hc i J4 s Z H E j hf st hg;subst U hw O;obtain⟨xs,x,C,S⟩:=hg;obtain⟨L,R,p,hz⟩:=j.tuple C;obtain⟨u,hu,ru⟩:=R.get S;obtain⟨F,G,f2,W,M,Q⟩:=hf l (by simp);refine wpAny_pyNext_tuple_item st (p) (by simpa using hu) λh' B sb=>?_;have I1:=j.turned (t':=s.toks) (λb o y e=>(sb.2 b y).trans e) F G W M Q;obtain⟨o,e,c,d⟩:=id B;exact⟨u,rfl,ve e c d (by decide) ⟨x,H,I1,ru,⟨rfl,λys hy=>by rw[j.tuple_inj hy C];exact S⟩,B,λb y=>(hf b y).1⟩⟩
 done:=by intro X U hw O hc i J4 s Z H E j hf st hg;subst U hw O;obtain⟨xs,C,S⟩:=hg;obtain⟨L,R,p,hz⟩:=j.tuple C;obtain⟨F,G,f2,W,M,Q⟩:=hf l (by simp);have hl:=R.length;exact wpAny_pyNext_tuple_end (j.ok.hd hc) st (p) (by simp;lia) λh' eb=>⟨rfl,j.turned (t':=s.toks) (λb o y e=>eb b o y e) F G W M Q⟩
 self:=λ_ _ _ _ _ st h=>wpAny_pyIter_tupleiter st h
def vJ{P:Program}{w:World}{K:g_}{tg:Expr}(j:Addr)(lo:Int)(n:Nat):Bg P w K tg (Mn lo n) [j] j (λi h=>IsRangeIter h j (lo+(i:Nat)*1) ((n:Int)-(i:Nat)) 1) where
 mem:=by simp
 obj:=λi h st b l=>by
  have e:b=j:=by simpa using l
  subst e
  exact⟨_,st,λv z=>by
   have U:=z
   cases U⟩
 keep:=λi h F st k=>k j (by simp) _ st
 item:=by intro X R hw O L i Q s Z H E a hf st hg;subst R hw O;obtain⟨y,B,f2,M,C,G⟩:=hf j (by simp);have W:=Walks.range (prog:=X.prog) (w:=X.w) (a.ok.hd L) j lo 1 n;refine W.item i s _ _ hg st λv F tk hv u kk=>?_;obtain⟨t,rfl⟩:=hv;have S:Inv X Q Z H { s with heap:=F,toks:=tk}:=a.turned (λb o l e=>kk b o (by simpa using l) e) y B M C G;refine⟨_,rfl,ve u rfl rfl (by decide) ⟨.int (lo+i),H,S,⟨t,?_⟩,⟨rfl,rfl⟩,u,λb l=>(hf b l).1⟩⟩;rw[Int.mul_one]
 done:=by intro X R hw O L i Q s Z H E a hf st hg;obtain⟨y,B,f2,M,C,G⟩:=hf j (by simp);exact wpAny_pyNext_range_end (a.ok.hd L) st (by have:n<=i:=hg;lia) λF eb=>⟨rfl,a.turned (t':=s.toks) (λb o l e=>eb b o l e) y B M C G⟩
 self:=λ_ _ _ _ _ st h=>wpAny_pyIter_rangeiter st h
section
variable{X:Cx}{tg:Expr}
def Jo(K:g_)(tl:TE):TI:=λZ H R=>tl Z H λx i=>∃a,x=.ref a/\(∃xs,SqL K i a xs)/\R (NZ K a) i
def N0(K:g_)(tl:TE):TI:=λZ H R=>tl Z H λx i=>∃a,x=.ref a/\(∃xs,SqT K i a xs)/\R (Qk K a) i
def BN{l:Expr}{tl:TE}(hl:PE X l tl):PI X tg l (Jo X.K tl):=by
 intro C s Z H R u h;refine j_ (hl C s Z H _ u h) λv i ⟨x,E,j,B,G⟩=>?_;obtain⟨a,e,⟨xs,y⟩,q⟩:=G;subst e;cases B;obtain⟨z,L,p,M⟩:=j.list y;refine wpAny_pyIter_list p.isList ?_;refine⟨i.heap.objs.size,[i.heap.objs.size],_,_,E,rfl,j.kept (t':=i.toks) λb o e=>qr _ e,xK a _,⟨_,AB _ rfl,rfl,rfl⟩,λb F=>?_,q⟩;have e:b=i.heap.objs.size:=by simpa using F
 subst e;exact j.fpOk (mm _) (j.hok.fresh (mm _))
def Fl{l:Expr}{tl:TE}(hl:PE X l tl):PI X tg l (N0 X.K tl):=by
 intro C s Z H R u h;refine j_ (hl C s Z H _ u h) λv i ⟨x,E,j,B,G⟩=>?_;obtain⟨a,e,⟨xs,y⟩,q⟩:=G;subst e;cases B;obtain⟨z,L,p,M⟩:=j.tuple y;refine wpAny_pyIter_tuple (p) ?_;refine⟨i.heap.objs.size,[i.heap.objs.size],_,_,E,rfl,j.kept (t':=i.toks) λb o e=>qr _ e,vH a _,⟨_,AB _ rfl,rfl,rfl⟩,λb F=>?_,q⟩;have e:b=i.heap.objs.size:=by simpa using F
 subst e;exact j.fpOk (mm _) (j.hok.fresh (mm _))
def yR{l:RV}{Z:St}{H:Hp}{s:Shared}{R:It->Hp->Prop}{E:RC}{lo a:Int}{t u v:Tok}{tk:Nat}(j:Inv X l Z H s)(F:-(2^62)<=lo)(C:lo<2^62)(y:-(2^62)<=a)(z:a<2^62)(q:R (Mn lo (a-lo).toNat) H):wpAny (model X.prog X.w) X.A (pyIter (.ref s.heap.objs.size)) (NY X l Z tg R) E { s with heap:=s.heap.push { cls:=.type "range",data:=.fields #[.int lo t,.int a u,.int 1 v]},toks:=tk}:=by
 refine wpAny_pyIter_range (IsRange.new ..) (small_one F C y z) ?_;have i:Inv X l Z H { s with heap:=s.heap.push { cls:=.type "range",data:=.fields #[.int lo t,.int a u,.int 1 v]},toks:=tk}:=j.kept λb o e=>qr _ e
 refine⟨(s.heap.push { cls:=.type "range",data:=.fields #[.int lo t,.int a u,.int 1 v]}).objs.size,[(s.heap.push { cls:=.type "range",data:=.fields #[.int lo t,.int a u,.int 1 v]}).objs.size],_,_,H,rfl,
  i.kept (t':=tk) λb o e=>qr _ e,vJ _ lo (a-lo).toNat,?_,λb B=>?_,q⟩
 .have e1:lo+((0:Nat):Int)*1=lo:=by simp
  have e2:(((a-lo).toNat:Nat):Int)-((0:Nat):Int)=Builtin.Range.rangeSize lo a 1:=by rw[rangeSize_one];split<;>lia
  rw[e1,e2];exact AB _ rfl
 .have e:b=(s.heap.push { cls:=.type "range",data:=.fields #[.int lo t,.int a u,.int 1 v]}).objs.size:=by simpa using B
  subst e;exact i.fpOk (mm _) (i.hok.fresh (mm _))
def Jp(a:TA):TI:=λZ H R=>a Z H λi l=>∃j:Int,i=[.int j] /\ -(2^62)<=j/\j<2^62/\R (Mn 0 j.toNat) l
def wu{a:Expr}{y:TA}{p i:Pos}(hg:Gl X "range")(hm:X.mg "range"=Y)(L:PA X [a] y)(F:starEach [a] X.env=[(T,eval a X.env)]:=by rfl):PI X tg (.Call (.Name "range" p) [a] [] i) (Jp y):=by
 intro C s Z H R l h;refine Call_ (jh l hg hm boot_range (PyProof.Rows.callWith_type1 (j_ (L i C s Z H _ l h) λQ M ⟨P,O,z,B,u⟩=>?_) F rfl));obtain⟨j,e,u,E,q⟩:=u;subst e
 cases B with
 |cons r G =>
  cases G;obtain⟨t,rfl⟩:=r;exact call_range_1 (yR z ⋯ ⋯ u E (by simpa using q))
def N3(B:TI)(g:TG)(z:TS):TS:=λD Z H=>B Z H λa E=>∃W:Nat->Nat->St->Hp->Prop,(∃m,W 0 m Z E)/\∀i m Z H,W i m Z H ->
 (a.stop i H/\D.nx Z H)\/(a.go i H/\∃N:St->Hp->Prop,(∀u j,N u j->∃l,l<m/\W (i+1) l u j)/\∀x j,a.yld i H x j->g x Z j λy C=>z { D with nx:=N,ct:=N,bk:=D.nx} y C)
def kR(a:RT)(h:Heap):RV:=a.filterMap λb=>(h.get? b).map λo=>(b,o)
def gV(a:b∈fp)(e:h.get? b=J o):(b,o)∈kR fp h:=IR.mpr ⟨b,a,by rw[e];rfl⟩
def xm(i:p∈kR fp h):p.1∈fp/\h.get? p.1=J p.2:=by
 obtain⟨b,j,e⟩:=IR.mp i
 cases q:h.get? b with
 |none=>rw[q]at e;cases e
 |some o =>
  rw[q]at e;have a:=Option.some.inj e;subst a;exact⟨j,q⟩
def Inv.pinned{j:RV}{Z:St}{H:Hp}{s:Shared}{i:RT}(a:Inv X j Z H s)(hf:∀b∈i,i8 X j H b)(u:∀b∈i,∃o,s.heap.get? b=J o/\∀v,o.data≠.cell v):Inv X (j++kR i s.heap) Z H s :=
 a.pins_of λp y=>(AS.mp y).elim (λz=>a.pin p (tf _ z)) λz=>by
  obtain⟨l,e⟩:=xm z;obtain⟨B,C,F,_⟩:=hf p.1 l;obtain⟨o,E,d⟩:=u p.1 l
  simp_all
def Inv.unpinned{J4 pl:RV}{Z:St}{H:Hp}{s:Shared}(a:Inv X (J4++pl) Z H s):Inv X J4 Z H s:=a.pins_of λp i=>a.pin p (tf _ (Bx _ i))
def Fm(M:PassesOwn (model X.prog X.w) X.A X.env X.xe)(hc:X.calm=I)(hi:PI X tg iter wi)(hg:PG X tg g)(B:PSs X body tb)(hs:∀x,foldedSetIterable iter X.env x=pure x:=by intro _;rfl):PS X (.For tg iter body [] pos) (N3 wi g tb):=by
 intro F s Z H D ai h;refine wpAny_For (j_ (hi F s Z H _ ai h) λv s1 h1=>j_ h1 λap s2 h2=>?_) hs;obtain⟨it,R,tn,an,H2,e,I2,a,ak,f2,W,⟨m0,w0⟩,turn⟩:=h2;subst e;have y:∀{C:Hp},(∀b∈R,C b=Y)->∀b∈R,i8 X F C b:=λhn b B=>⟨hn b B,(f2 b B).2⟩;refine codeAny_forLoop_any (λn s'=>∃i S C,Inv X F S C s'/\tn i s'.heap/\(∀b∈R,C b=Y)/\W i n S C) ?_ m0 ⟨0,Z,H2,I2,ak,λb B=>(f2 b B).1,w0⟩;rintro n s3 ⟨i,O,U,I3,P,L,w3⟩;rcases turn i n O U w3 with⟨stop,qn⟩|⟨go,N,hN,step⟩
 .refine wpAny_passesOwn M (j_ (a.done X rfl rfl rfl hc i F s3 O U X.xe I3 (y L) P stop) λr s4 ⟨hr,I4⟩=>?_);subst hr;exact wpAny_execs_nil ⟨O,U,I4,qn⟩
 .refine wpAny_passesOwn M (j_ (a.item X rfl rfl rfl hc i F s3 O U X.xe I3 (y L) P go) λr s4 ⟨u,hr,h4⟩=>?_);subst hr;refine wpAny_passesOwn M (j_ h4 λ_ s5 ⟨x,H5,I5,r5,y5,G,al⟩=>?_);have ab:=I5.pinned (y al) (a.obj _ _ G);refine wpAny_passesOwn M (j_ (hg _ s5 O H5 x u _ ab r5 (step x H5 y5)) λ_ s6 ⟨Z6,H6,I6,q6⟩=>?_);refine wpAny_passesOwn M (j_ (B _ s6 Z6 H6 _ I6 q6) λf s7 E=>?_);have again:∀{z:St}{j:Hp},Inv X (F++kR R s5.heap) z j s7->N z j->∃m,m<n/\∃i S C,Inv X F S C s7/\tn i s7.heap/\(∀b∈R,C b=Y)/\W i m S C:=λ{z j} l Q=>by
   obtain⟨m',hm,w7⟩:=hN z j Q;refine⟨m',hm,i+1,z,j,l.unpinned,a.keep _ _ _ G λb B o e=>(l.pin (b,o) (tf _ (tf _ (gV B e)))).1,λb B=>?_,w7⟩;obtain⟨o,e,d⟩:=a.obj _ _ G b B;exact(l.pin (b,o) (tf _ (tf _ (gV B e)))).2.1
  cases f with
  |next=>obtain⟨z,j,l,Q⟩:=E;exact again l Q
  |cont=>obtain⟨z,j,l,Q⟩:=E;exact again l Q
  |brk=>obtain⟨z,j,l,E⟩:=E;exact⟨z,j,l.unpinned,E⟩
  |ret v=>obtain⟨x7,z,j,l,r7,E⟩:=E;exact⟨x7,z,j,l.unpinned,r7,E⟩
end
abbrev R2:=V->V->Hp->VK->Prop
def OpR(X:Cx)(f:Value->Value->Sem Value)(r:R2):Prop :=
 ∀(a:RV)(s:Shared)(Z:St)(H:Hp)(x y:V)(v u:Value)(Q:VK),Inv X a Z H s->aQ x v->aQ y u->r x y H Q ->
  wpAny (model X.prog X.w) X.A (f v u) (EP X a Z Q) X.xe s
def Mo(X:Cx)(f:Value->Sem Value)(r:V->Hp->VK->Prop):Prop :=
 ∀(a:RV)(s:Shared)(Z:St)(H:Hp)(x:V)(v:Value)(Q:VK),Inv X a Z H s->aQ x v->r x H Q ->
  wpAny (model X.prog X.w) X.A (f v) (EP X a Z Q) X.xe s
def c6(X:Cx)(f:Value)(r:List V->Hp->VK->Prop):Prop :=
 ∀(i:RV)(s:Shared)(Z:St)(H:Hp)(xs:List V)(a:RU)(Q:VK),Inv X i Z H s->aL xs a->r xs H Q ->
  wpAny (model X.prog X.w) X.A (call f a) (EP X i Z Q) X.xe s
def N4(X:Cx)(r:V->Hp->(Bool->Hp->Prop)->Prop):Prop :=
 ∀(a:RV)(s:Shared)(Z:St)(H:Hp)(x:V)(v:Value)(Q:Bool->Hp->Prop),Inv X a Z H s->aQ x v->r x H Q ->
  wpAny (model X.prog X.w) X.A (truthy v) (TP X a Z Q) X.xe s
def Jq(r:R2)(i a:TE):TE:=λZ H Q=>i Z H λx l=>a Z l λy j=>r x y j Q
def QU(r:V->Hp->VK->Prop)(a:TE):TE:=λZ H Q=>a Z H λx i=>r x i Q
def rI(C:Int->Int->Prop)(g:Int->Int->V):R2:=λx y H Q=>∃i j,x=.int i/\y=.int j/\C i j/\Q (g i j) H
def BO(g:Int->Int->V):R2:=λx y H Q=>∃i j,x=.int i/\y=.int j/\Q (g i j) H
def rU(g:Int->V):V->Hp->VK->Prop:=λx H Q=>∃i,x=.int i/\Q (g i) H
section
variable{X:Cx}{a b c:Expr}{ta tb tc:TE}{pos:Pos}
def Fo(W:PE X a ta)(P:PE X b tb){z:RV}{s:Shared}{Z:St}{H:Hp}{R:V->V->Hp->Prop}(C:Inv X z Z H s)(h:ta Z H λx E=>tb Z E λy i=>R x y i){Q:RC}{f:Value->Value->Sem Value}(hf:∀v u B x y i,Inv X z Z i B->aQ x v->aQ y u->R x y i->wpAny (model X.prog X.w) X.A (f v u) Q X.xe B):
  wpAny (model X.prog X.w) X.A (eval a X.env) (λv l=>wpAny (model X.prog X.w) X.A (eval b X.env) (λu j=>wpAny (model X.prog X.w) X.A (f v u) Q X.xe j) X.xe l) X.xe s:=by
 refine j_ (W z s Z H _ C h) λv F ⟨x,E,L,M,S⟩=>?_;refine j_ (P z F Z E _ L S) λu B ⟨y,i,G,U,O⟩=>?_;exact hf v u B x y i G M U O
def Jr{j:Operator}{r:R2}(z:OpR X (binaryOp j) r)(M:PE X a ta)(G:PE X b tb):PE X (.BinOp a j b pos) (Jq r ta tb):=by intro C s Z H Q i h;exact wpAny_BinOp (Fo M G i h λv u F x y L l B E q=>z C F Z L x y v u Q l B E q)
def Js(u:Mo X (unaryOp op) r)(C:PE X a ta):PE X (.UnaryOp op a pos) (QU r ta):=by intro j s Z H Q i h;exact UnaryOp_ (j_ (C j s Z H _ i h) λv l ⟨x,z,E,B,y⟩=>u j l Z z x v Q E B y)
def QV{f:Value->Value->Sem Value}{C:Int->Int->Prop}{g:Int->Int->Int}(rule:∀(i j:Int)(t u:Tok)(s:Shared)(Q:RC)(E:RC),C i j->Q (.int (g i j) s.toks) { s with toks:=s.toks+1}->wpAny (model X.prog X.w) X.A (f (.int i t) (.int j u)) Q E s):
  OpR X f (rI C λi j=>.int (g i j)):=by
 intro L s Z H x y v u Q l B G h;obtain⟨i,j,rfl,rfl,F,q⟩:=h;obtain⟨t,rfl⟩:=B;obtain⟨z,rfl⟩:=G;exact rule i j t z s _ _ F ⟨.int (g i j),H,l.tok _,⟨_,rfl⟩,q⟩
def Jt{f:Value->Value->Sem Value}{g:Int->Int->Int}(rule:∀(i j:Int)(t u:Tok)(s:Shared)(Q:RC)(E:RC),Q (.int (g i j) s.toks) { s with toks:=s.toks+1}->wpAny (model X.prog X.w) X.A (f (.int i t) (.int j u)) Q E s):
  OpR X f (BO λi j=>.int (g i j)):=by
 intro F s Z H x y v u Q l B C h;obtain⟨i,j,rfl,rfl,q⟩:=h;obtain⟨t,rfl⟩:=B;obtain⟨z,rfl⟩:=C;exact rule i j t z s _ _ ⟨.int (g i j),H,l.tok _,⟨_,rfl⟩,q⟩
def BP{f:Value->Value->Sem Value}{g:Int->Int->Bool}(rule:∀(i j:Int)(t u:Tok)(s:Shared)(Q:RC)(E:RC),Q (.bool (g i j)) s->wpAny (model X.prog X.w) X.A (f (.int i t) (.int j u)) Q E s):
  OpR X f (BO λi j=>.bl (g i j)):=by
 intro F s Z H x y v u Q l B C h;obtain⟨i,j,rfl,rfl,q⟩:=h;obtain⟨t,rfl⟩:=B;obtain⟨z,rfl⟩:=C;exact rule i j t z s _ _ ⟨.bl (g i j),H,l,rfl,q⟩
def fL(i j:Int):Prop:=0<=j/\j<=1000000/\i.natAbs<2^64
def Fp:OpR X (binaryOp .Add) (BO λi j=>.int (i+j)):=Jt λ_ _ _ _ _ _ _ q=>add_int q
def Fq:OpR X (binaryOp .Sub) (BO λi j=>.int (i-j)):=Jt λ_ _ _ _ _ _ _ q=>sub_int q
def Fs:OpR X (binaryOp .Pow) (rI fL λi j=>.int (i^j.toNat)):=QV λ_ _ _ _ _ _ _ l q=>pow_int_small l.1 l.2.1 l.2.2 q
def QW{f:Value->Sem Value}{g:Int->Int}(rule:∀(i:Int)(t:Tok)(s:Shared)(Q:RC)(E:RC),Q (.int (g i) s.toks) { s with toks:=s.toks+1}->wpAny (model X.prog X.w) X.A (f (.int i t)) Q E s):
  Mo X f (rU λi=>.int (g i)):=by
 intro u s Z H x v Q j l h;obtain⟨i,rfl,q⟩:=h;obtain⟨t,rfl⟩:=l;exact rule i t s _ _ ⟨.int (g i),H,j.tok _,⟨_,rfl⟩,q⟩
def Ft:Mo X (unaryOp .USub) (rU λi=>.int (-i)):=QW λ_ _ _ _ _ q=>neg_int q
def Fv{l:RV}{Z:St}{H:Hp}{s:Shared}{Q:VK}{k j:Bool}(i:Inv X l Z H s)(q:Q (.bl k) H)(e:k=j):EP X l Z Q (.bool j) s:=by subst e;exact⟨.bl k,H,i,rfl,q⟩
def Ju:OpR X (compareOp .Lt) (BO λi j=>.bl (decide (i<j))):=BP λ_ _ _ _ _ _ _ q=>lt_int q
def Jv:OpR X (compareOp .LtE) (BO λi j=>.bl (decide (i<=j))):=BP λ_ _ _ _ _ _ _ q=>le_int q
def Jw:OpR X (compareOp .Gt) (BO λi j=>.bl (decide (j<i))):=BP λ_ _ _ _ _ _ _ q=>gt_int q
def Jx:OpR X (compareOp .GtE) (BO λi j=>.bl (decide (j<=i))):=BP λ_ _ _ _ _ _ _ q=>ge_int q
def Fw:OpR X (compareOp .Is) (λx y H Q=>y=.non/\Q (.bl (decide (x=.non))) H):=by
 intro z s Z H x y v u Q i j l h;obtain⟨rfl,q⟩:=h;cases l;refine is_none_gen (Fv i q ?_);cases x<;>first
  |(obtain⟨t,rfl⟩:=j;rfl)
def Bh(b:Expr)(h:op≠.In:=by decide)(i:op≠.NotIn:=by decide):behindInMarks op b=T:=by
 have e1:(op==CmpOp.In)=T:=by cases op<;>first | rfl | exact absurd rfl h
 have e2:(op==CmpOp.NotIn)=T:=by cases op<;>first | rfl | exact absurd rfl i
 cases b<;>simp[behindInMarks,e1,e2]
def BQ{j:CmpOp}{r:R2}(z:OpR X (compareOp j) r)(M:PE X a ta)(G:PE X b tb)(hm:behindInMarks j b=T):PE X (.Compare a [j] [b] pos) (Jq r ta tb):=by intro C s Z H Q i h;exact wpAny_Compare1 (Fo M G i h λv u F x y L l B E q=>z C F Z L x y v u Q l B E q) hm
def Jy(t:TE):TT:=λZ H Q=>t Z H λx i=>∃k,x=.bl k/\Q k i
def BR(G:OpR X (compareOp op) r)(S:PE X a ta)(W:PE X b tb)(hm:behindInMarks op b=T):PT X (.Compare a [op] [b] pos) (Jy (Jq r ta tb)):=by
 intro j s Z H Q i h
 refine wpAny_isTrue_Compare1 (j_ (S j s Z H _ i h) λv l ⟨x,R,F,L,q1⟩=>j_ (W j l Z R _ F q1) λu U ⟨y,H2,B,r2,O⟩ =>
  j_ (G j U Z H2 x y v u _ B L r2 O) λc s3 ⟨z,C,E,M,k,e,P⟩=>?_) hm
 subst e;cases M;exact wpAny_truthy_bool ⟨C,E,P⟩
def xE(r l:R2)(ta tb tc:TE):TE:=λZ H Q=>ta Z H λx B=>tb Z B λy u=>r x y u λz i=>∃k,z=.bl k /\
 (if k=I then tc Z i λj C=>l y j C Q else Q (.bl T) i)
def zu(O:OpR X (compareOp op) r)(j:OpR X (compareOp op') r')(ha:PE X a ta)(hb:PE X b tb)(hc:PE X c tc)(hm:lastMarks [op,op'] [b,c]=T:=by with_unfolding_all rfl):PE X (.Compare a [op,op'] [b,c] pos) (xE r r' ta tb tc):=by
 intro i s Z H Q l h
 refine Compare_chain (j_ (ha i s Z H _ l h) λv G ⟨x,H1,M,R,q1⟩=>chain_link (j_ (hb i G Z H1 _ M q1) λu s2 ⟨y,H2,L,F,q2⟩ =>
  j_ (O i s2 Z H2 x y v u _ L R F q2) λd U ⟨z,B,C,W,k,e,E⟩=>?_)) hm
 subst e;cases W;refine wpAny_truthy_bool ?_
 cases k with
 |false=>exact ite_ff ⟨.bl T,B,C,rfl,E⟩
 |true=>exact ite_tt (chain_last (j_ (hc i U Z B _ C E) λw' s4 ⟨S,H4,I4,P,q4⟩=>j i s4 Z H4 y S u w' Q I4 F P q4))
def Jz(K:g_)(x:V)(H:Hp)(k:Bool):Prop :=
 match x with
 |.non=>k=T
 |.bl b=>k=b
 |.int i=>k=(i != 0)
 |.str y=>y.length<=sizeLine/\k=((y.length:Int) != 0)
 |.byt y=>y.size<=sizeLine/\k=((y.size:Int) != 0)
 |.ref p=>(∃xs,SqL K H p xs/\k=!xs.isEmpty)\/(∃xs,SqT K H p xs/\k=!xs.isEmpty)\/∃j,H p=J (.dK j)/\k=!j.isEmpty
 |_=>False
def vt{κ:Type}{i:List (κ×V)}{j:List (κ×Value)}(r:KV i j):(!j.isEmpty)=!i.isEmpty:=by cases r<;>rfl
def nM(r:aL xs its):(!its.toArray.isEmpty)=!xs.isEmpty:=by cases r<;>simp
def nX:(sizeLine:Nat)<2^63:=by rw[sizeLine_eq];decide
def rQ:N4 X (λx H Q=>∃k,Jz X.K x H k/\Q k H):=by
 intro O s Z H x v Q j B h;obtain⟨k,e,q⟩:=h;have P:sizeLine=16777216:=sizeLine_eq
 cases x with
 |non =>
  cases B;have l:k=T:=e;subst l;exact truthy_none ⟨H,j,q⟩
 |bl b =>
  cases B;have l:k=b:=e;subst l;exact wpAny_truthy_bool ⟨H,j,q⟩
 |int i =>
  obtain⟨t,rfl⟩:=B;have l:k=(i != 0):=e;subst l;exact PySem.P.truthy_int ⟨H,j,q⟩
 |str y =>
  obtain⟨t,rfl⟩:=B;obtain⟨M,l⟩:y.length<=sizeLine/\k=((y.length:Int) != 0):=e;subst l;exact PySem.P.truthy_str ⋯ ⟨H,j.tok _,q⟩
 |byt y =>
  obtain⟨t,rfl⟩:=B;obtain⟨M,l⟩:y.size<=sizeLine/\k=((y.size:Int) != 0):=e;subst l;exact PySem.W.truthy_bytes ⋯ ⟨H,j.tok _,q⟩
 |ref p =>
  cases B;have l:(∃xs,SqL X.K H p xs/\k=!xs.isEmpty)\/(∃xs,SqT X.K H p xs/\k=!xs.isEmpty)\/∃u,H p=J (.dK u)/\k=!u.isEmpty:=e;rcases l with⟨xs,C,l⟩|⟨xs,C,l⟩|⟨u,C,l⟩
  .subst l;obtain⟨F,r,G,L⟩:=j.list C;have z:=r.length;exact wpAny_truthy_list G.isList (by simp only[zD];lia) ⟨H,j.tok _,by rw[nM r];exact q⟩
  .subst l;obtain⟨F,r,G,L⟩:=j.tuple C;have z:=r.length;exact truthy_tuple G (by simp only[zD];lia) ⟨H,j.tok _,by rw[nM r];exact q⟩
  .subst l;obtain⟨L,hS,E,r,m⟩:u.length<=sizeLine/\(p==sysModules)=T/\∃E,KV u E/\s.heap.DictOf (eX X.prog X.w) p E:=j.hok p _ C;have z:u.length=E.length:=Paired.length r;exact wpAny_truthy_dict hS m ⋯ ⟨H,j.tok _,by rw[vt r];exact q⟩
 |_=>exact(show False from e).elim
def zj(G:PE X a ta)(E:∀i,isTrue a X.env i=(do let v <-i;standAt a.pos;holding [v] (truthy v))):
  PT X a (λZ H Q=>ta Z H λx l=>∃k,Jz X.K x l k/\Q k l):=by
 intro u s Z H Q j h;exact isTrue_plain (j_ (G u s Z H _ j h) λv y ⟨x,C,z,B,F⟩=>rQ u y Z C x v Q z B F) (E _)
def vC:OpR X (binaryOp .Add) (λx y H Q=>∃i j,x=.str i/\y=.str j/\i.length+j.length<=sizeLine/\Q (.str (i++j)) H):=by intro F s Z H x y v u Q l B C h;obtain⟨i,j,rfl,rfl,E,q⟩:=h;obtain⟨t,rfl⟩:=B;obtain⟨z,rfl⟩:=C;exact add_str (λz tk=>⟨.str (i++j),H,l.tok _,⟨_,rfl⟩,q⟩) E
def iQ(r:aL [x] us):∃u,us=[u]/\aQ x u:=by
 cases r with
 |cons i j=>cases j;exact⟨_,rfl,i⟩
def vals2(r:aL [x,y] us):∃u i,us=[u,i]/\aQ x u/\aQ y i:=by
 cases r with
 |cons l z =>
  cases z with
  |cons B j=>cases j;exact⟨_,_,rfl,l,B⟩
def zy:c6 X (.builtin "abs") (λxs H Q=>∃i,xs=[.int i]/\Q (.int (if i<0 then -i else i)) H):=by intro y s Z H xs l Q j r h;obtain⟨i,rfl,q⟩:=h;obtain⟨u,rfl,t,rfl⟩:=iQ r;exact call_abs_int λu tk=>⟨.int (if i<0 then -i else i),H,j.tok _,⟨_,rfl⟩,q⟩
def wL(z:X.calm=I):c6 X (.builtin "max") (λxs H Q=>∃i j,xs=[.int i,.int j]/\Q (.int (if j>i then j else i)) H):=by
 intro E s Z H xs G Q l r h;obtain⟨i,j,rfl,q⟩:=h;obtain⟨u,F,rfl,⟨t,rfl⟩,⟨B,rfl⟩⟩:=vals2 r;refine max_two_ints (l.ok.hd z) λC tk k=>⟨_,H,l.kept k,?_,q⟩;by_cases y:j>i
 .rw[c_ y,c_ y];exact⟨_,rfl⟩
 .rw[hI y,hI y];exact⟨_,rfl⟩
def wn(z:X.calm=I):c6 X (.builtin "min") (λxs H Q=>∃i j,xs=[.int i,.int j]/\Q (.int (if j<i then j else i)) H):=by
 intro E s Z H xs G Q l r h;obtain⟨i,j,rfl,q⟩:=h;obtain⟨u,F,rfl,⟨t,rfl⟩,⟨B,rfl⟩⟩:=vals2 r;refine min_two_ints (l.ok.hd z) λC tk k=>⟨_,H,l.kept k,?_,q⟩;by_cases y:j<i
 .rw[c_ y,c_ y];exact⟨_,rfl⟩
 .rw[hI y,hI y];exact⟨_,rfl⟩
def qj:c6 X (.type "int") (λxs H Q=>(∃i,xs=[.int i]/\Q (.int i) H)\/∃k,xs=[.bl k]/\Q (.int (if k then 1 else 0)) H):=by
 intro z s Z H xs y Q j r h;rcases h with⟨i,rfl,q⟩|⟨k,rfl,q⟩
 .obtain⟨u,rfl,t,rfl⟩:=iQ r;exact call_int_int ⟨.int i,H,j,⟨_,rfl⟩,q⟩
 .obtain⟨u,rfl,l⟩:=iQ r;cases l;exact call_int_bool ⟨.int (if k then 1 else 0),H,j.tok _,⟨_,rfl⟩,q⟩
def N5(K:g_)(x:V)(H:Hp)(n:Nat):Prop :=
 match x with
 |.str y=>y.length<=sizeLine/\n=y.length
 |.byt y=>y.size<=sizeLine/\n=y.size
 |.ref p=>(∃xs,SqL K H p xs/\n=xs.length)\/∃xs,SqT K H p xs/\n=xs.length
 |_=>False
def jX:c6 X (.builtin "len") (λxs H Q=>∃x n,xs=[x]/\N5 X.K x H n/\Q (.int n) H):=by
 intro M s Z H xs O Q i r h;obtain⟨x,n,rfl,e,q⟩:=h;obtain⟨u,rfl,B⟩:=iQ r;have P:=sizeLine_eq
 cases x with
 |str y =>
  obtain⟨t,rfl⟩:=B;obtain⟨G,l⟩:=e;subst l;exact len_str ⋯ ⟨.int _,H,i.tok _,⟨_,rfl⟩,q⟩
 |byt y =>
  obtain⟨t,rfl⟩:=B;obtain⟨G,l⟩:=e;subst l;exact PySem.W.len_bytes ⋯ ⟨.int _,H,i.tok _,⟨_,rfl⟩,q⟩
 |ref p =>
  cases B;have l:=e;rcases l with⟨xs,C,l⟩|⟨xs,C,l⟩
  .subst l;obtain⟨z,E,F,L⟩:=i.list C;have j:=E.length;exact Calls.call_len_list F.isList (by simp only[zD];lia) ⟨.int xs.length,H,i.tok _,⟨_,by simp only[zD];rw[j]⟩,q⟩
  .subst l;obtain⟨z,E,F,L⟩:=i.tuple C;have j:=E.length;exact len_tuple F (by simp only[zD];lia) ⟨.int xs.length,H,i.tok _,⟨_,by simp only[zD];rw[j]⟩,q⟩
 |_=>exact(e).elim
end
def gP.some_of(r:gP (J v) o):∃u,o=J u/\aQ v u:=by
 cases o with
 |none=>exact(r).elim
 |some u=>exact⟨u,rfl,r⟩
def gP.none_of(r:gP Y o):o=Y:=by
 cases o with
 |none=>rfl
 |some u=>exact(show False from r).elim
section
variable{X:Cx}{J4:List (Addr × Obj)}{Z:St}{H:Hp}{s:Shared}{a C dx:Addr}{fs:List (Str × V)}{f:Str}{v:V}{A:Around}{E:RC}
def BS(j:attributeBase e f env (eval e env)=eval e env)(h:wpAny (model prog w) A (eval e env) (λo i=>wpAny (model prog w) A (getAttr o f I) Q E i) E s):wpAny (model prog w) A (eval (.Attribute e f pos) env) Q E s :=
 Attribute_any_ h (by rw[arm_eval_Attribute,j])
end
structure Room(k:Nat)(A:Around):Prop where
 hd:A.handled=Y
 dp:A.depth+3*k+105<recursionLimit
 un:A.units+16*k+200<cLine
 gd:A.guards=J []
def Room.mono(r:Room k A)(h:j<=k):Room j A:=⟨r.hd,by have:=r.dp;lia,by have:=r.un;lia,r.gd⟩
def Room.deeper(r:Room (k+1) A)(env:Env):Room k (A.deeper env) :=
 ⟨r.hd,by have:=r.dp;show A.depth+1+3*k+105<_;lia,by have:=r.un;show A.units+3+16*k+200<_;lia,r.gd⟩
def vW{A:Around}{C:Addr}{a:RU}{i:List (Str×Value)}:(A.under (.builtin "type.__call__" ⟨.ref C::a,i⟩)).depth=A.depth+1:=rfl
def vc{A:Around}{C:Addr}{a:RU}{i:List (Str×Value)}:(A.under (.builtin "type.__call__" ⟨.ref C::a,i⟩)).units=A.units+1:=rfl
def Room.make(r:Room (k+1) A)(C:Addr)(a:RU)(i:List (Str×Value)):Room k (A.under (.builtin "type.__call__" ⟨.ref C::a,i⟩)) :=
 ⟨r.hd,by have:=r.dp;rw[vW];lia,by have:=r.un;rw[vc];lia,r.gd⟩
def Room.depth(r:Room k A):A.depth<recursionLimit:=by have:=r.dp;lia
def Room.units(r:Room k A):A.units+64<cLine:=by have:=r.un;lia
def JA:TA:=λ_ H Q=>Q [] H
def vk(a:TE)(j:TA):TA:=λZ H Q=>a Z H λx l=>j Z l λxs i=>Q (x::xs) i
section
variable{X:Cx}{e:Expr}{es:RZ}{te:TE}{t:TA}{pos:Pos}
def gC:PA X [] JA:=λ_ _ _ _ H Q a h=>Calls.spliced_nil ⟨[],H,a,.nil,h⟩
def cC(M:PE X e te)(hr:PA X es t)(E:starEach (e::es) X.env=(T,eval e X.env)::starEach es X.env:=by rfl):PA X (e::es) (vk te t):=by intro pos i s Z H Q a h;rw[E];show wpAny _ _ (spliced ((T,eval e X.env)::backTo pos (starEach es X.env))) _ _ s;refine Calls.spliced_cons (j_ (M i s Z H _ a h) λu j ⟨x,C,y,z,G⟩=>?_);exact j_ (hr pos i j Z C _ y G) λP O ⟨xs,F,l,L,B⟩=>⟨x::xs,F,l,.cons z L,B⟩
def N6(t:TA):TE:=λZ H Q=>t Z H λxs a=>xs.length<=sizeLine/\∀p,a p=Y->Q (.ref p) (upd a p (.tup xs))
def N7(t:TA):TE:=λZ H Q=>t Z H λxs a=>xs.length<=sizeLine/\∀p,a p=Y->Q (.ref p) (upd a p (.lst xs))
def wA{x1}(h:PA X es t):PE X (.Tuple es x1 pos) (N6 t):=by intro y s Z H Q i l;refine wpAny_Tuple_spliced (j_ (h pos y s Z H _ i l) λC a ⟨xs,B,j,r,z,q⟩=>⟨by rw[<-r.length];exact z,?_⟩);have hf:=j.hok.fresh (mm _);refine⟨.ref a.heap.objs.size,upd B a.heap.objs.size (.tup xs),j.laid (t':=a.toks) (λb u e=>qr _ e) (mm _) ?_,rfl,q _ hf⟩;exact⟨z,C,r,⟨_,AB _ rfl,rfl,⟨_,rfl⟩,rfl⟩⟩
def Fx(h:PA X es t):PE X (.List es pos) (N7 t):=by intro y s Z H Q i l;refine wpAny_List_spliced (j_ (h pos y s Z H _ i l) λC a ⟨xs,B,j,r,z,q⟩=>⟨by rw[<-r.length];exact z,?_⟩);have hf:=j.hok.fresh (mm _);refine⟨.ref a.heap.objs.size,upd B a.heap.objs.size (.lst xs),j.laid (t':=a.toks) (λb u e=>qr _ e) (mm _) ?_,rfl,q _ hf⟩;exact⟨z,C,0,r,AB _ rfl⟩
end
abbrev Sp:=List V->Hp->VK->XK->Prop
abbrev Bi:=List Env->Hp->Shared->XK->Value->Shared->Prop
structure Env0(P:Program)(w:World)(K:g_)(mg:RD)(base:Heap)(A:Around)(outer:List Env)(s:Shared)(H:Hp):Prop where
 frames:A.frames=J outer
 mod:Mod K mg base
 bs:∀b o,base.get? b=J o->s.heap.get? b=J o/\H b=Y
 bsz:base.objs.size<=s.heap.objs.size
 funs:s.heap.FunFrames base outer
 frf:∀b∈wv outer,H b=Y
 hok:HOk P w H s.heap
 bare:AllBare s.gens
 tree:P.given.tree=Y
inductive CE(outer:List Env)(P:Program)(w:World)(H:Hp)(s:Shared)(Q:VK)(u:Value)(s':Shared):Prop
 |mk(v:V)(H':Hp)(o:s'.os=s.os)(b:AllBare s'.gens)(n:Un (wv outer) [] H H' s.heap s'.heap)(k:HOk P w H' s'.heap)(r:aQ v u)(q:Q v H'):CE outer P w H s Q u s'
def CR(i:Bi)(outer:List Env)(P:Program)(w:World)(H:Hp)(s:Shared)(Q:VK)(E:XK)(r:Result)(a:Shared):Prop :=
 match r with
 |.ok (.ret u)=>CE outer P w H s Q u a
 |.ok _=>False
 |.error e=>i outer H s E e a
structure FnOk(P:Program)(w:World)(K:g_)(mg:RD)(base:Heap)(CX:Bi)(k:Nat)(f:Addr)(fd:FuncData)(ps:RM)(sp:Sp):Prop where
 len:∀vs H Q E,sp vs H Q E->vs.length=ps.length
 run:∀(A:Around)(outer:List Env)(s:Shared)(H:Hp)(args:Args)(us:RU)(vs:List V)(Q:VK)(E:XK),Room k A->Env0 P w K mg base A outer s H->BindsTo s fd args (ps.zip us)->aL vs us->sp vs H Q E ->
  codeAny (model P w) A (.call (.ref f) args) (CR CX outer P w H s Q E) s
def FnOk.mono{P:Program}{w:World}{K:g_}{mg:RD}{base:Heap}{l:Bi}{j k:Nat}{f:Addr}{fd:FuncData}{i:RM}{u:Sp}(F:FnOk P w K mg base l j f fd i u)(h:j<=k):
  FnOk P w K mg base l k f fd i u:=⟨F.len,λA outer s H a z y Q E hr=>F.run A outer s H a z y Q E (hr.mono h)⟩
def FnOk.imp{P:Program}{w:World}{K:g_}{mg:RD}{base:Heap}{u:Bi}{k:Nat}{f:Addr}{fd:FuncData}{l:RM}{y i:Sp}(F:FnOk P w K mg base u k f fd l y)(h:∀a H Q E,i a H Q E->y a H Q E):FnOk P w K mg base u k f fd l i :=
 ⟨λa H Q E q=>F.len a H Q E (h _ _ _ _ q),λA outer s H j C a Q E hr B z hv G=>F.run A outer s H j C a Q E hr B z hv (h _ _ _ _ G)⟩
def Env0.make{P:Program}{w:World}{K:g_}{mg:RD}{base:Heap}{A:Around}{outer:List Env}{s:Shared}{H:Hp}(e:Env0 P w K mg base A outer s H)(C:Addr)(a:RU)(i:List (Str×Value)):
  Env0 P w K mg base (A.under (.builtin "type.__call__" ⟨.ref C::a,i⟩)) outer s H:=⟨by first | exact e.frames | (simpa using e.frames),e.mod,e.bs,e.bsz,e.funs,e.frf,e.hok,e.bare,e.tree⟩
section
variable{X:Cx}{J4:List (Addr × Obj)}{Z:St}{H:Hp}{s s':Shared}
def Inv.env0(a:Inv X J4 Z H s):Env0 X.prog X.w X.K X.mg X.base X.A X.stack s H :=
 ⟨a.ok.frames,a.ok.mod,a.bs,pu a.ok.bsz a.sz,a.stack,a.stkFree,a.hok,a.bare,a.ok.tree⟩
def Inv.after(a:Inv X J4 Z H s)(h:CE X.stack X.prog X.w H s Q u s'):EP X J4 Z Q u s':=by obtain⟨v,i,os,bare,un,hok,r,q⟩:=h;obtain⟨l,g,d,t,j⟩:=s';obtain rfl:=os;exact⟨v,i,a.call (h':=l) (g':=g) (d':=d) (t':=t) un hok bare (λb z=>absurd z (by simp)),r,q⟩
end
def jS(K:g_)(fd:FuncData)(j:RM)(i:RU):Prop :=
 ∀(s:Shared)(a:RU),K.In s.heap->(a++i).length=j.length->BindsTo s fd ⟨a,[]⟩ (j.zip (a++i))
def jS.all{K:g_}{fd:FuncData}{i:RM}(h:∀a:RU,a.length=i.length->bindArgs fd ⟨a,[]⟩=pure (i.zip a)):jS K fd i []:=λs a _ hl=>by
 rw[By]at hl ⊢;exact .of_eq (h a hl)
structure o0(N P:RM)(sc:Scope):Prop where
 kind:sc.kind=.function
 co:sc.isCoroutine=T
 gen:sc.isGenerator=T
 nd:N.Nodup
 pre:N.take P.length=P
 par:∀x∈P,sc.names.lookup x=J .local\/sc.names.lookup x=J .cell
 nofree:∀y∈sc.names,y.2≠.free
def qA{kindOf:Str->Option NameKind}{x:Str}:∀{binds:List (Str×Value)}{m:RD},(∀v,(x,v)∉binds)->bindL kindOf binds m x=m x
 |[],_,_=>rfl
 |(n,v)::r,m,h=>by
  unfold bindL;rw[qA λw hw=>h w (n4 _ hw)];split
  .have:x≠n:=by rintro rfl;exact h v A6
   simp[this]
  .rfl
def pM{kindOf:Str->Option NameKind}{x:Str}:∀{binds:List (Str×Value)}{m:RD},(∀v,(x,v)∉binds)->bindC kindOf binds m x=m x
 |[],_,_=>rfl
 |(n,v)::r,m,h=>by
  unfold bindC;rw[pM λw hw=>h w (n4 _ hw)];split
  .rfl
  .have:x≠n:=by rintro rfl;exact h v A6
   simp[this]
def pS{kindOf:Str->Option NameKind}{x:Str}{v:Value}:∀{P:RM}{a:RU}{i:Nat}{m:RD},P.Nodup->P[i]?=J x->a[i]?=J v->kindOf x=J .local ->
  bindL kindOf (P.zip a) m x=J v
 |p::P,w::a,0,m,nd,l,j,u=>by
  simp at l j;subst l;subst j;show bindL kindOf ((p,w)::P.zip a) m p=_;unfold bindL;rw[qA λv hv=>(Aj.mp nd).1 (ND hv).1,c_ u];simp
 |p::P,w::a,i+1,m,nd,l,j,u=>by
  unfold bindL;exact pS (Aj.mp nd).2 (by simpa using l) (by simpa using j) u
def qF{kindOf:Str->Option NameKind}{x:Str}{v:Value}:∀{P:RM}{a:RU}{i:Nat}{m:RD},P.Nodup->P[i]?=J x->a[i]?=J v->kindOf x≠J .local ->
  bindC kindOf (P.zip a) m x=J v
 |p::P,w::a,0,m,nd,l,j,u=>by
  simp at l j;subst l;subst j;show bindC kindOf ((p,w)::P.zip a) m p=_;unfold bindC;rw[pM λv hv=>(Aj.mp nd).1 (ND hv).1,hI u];simp
 |p::P,w::a,i+1,m,nd,l,j,u=>by
  unfold bindC;exact qF (Aj.mp nd).2 (by simpa using l) (by simpa using j) u
def start(N:RM)(a:List V):St:=a.map J++List.replicate (N.length-a.length) Y
def oZ(u:Bi)(P:Program)(w:World)(K:g_)(mg:RD)(base:Heap)(N:RM)(i:Str)(a:Scope)(f:Addr)(l:Value)(A:Around)(outer:List Env)(s:Shared)(H:Hp)(E:XK):Cx where
 prog:=P
 w:=w
 K:=K
 mg:=mg
 base:=base
 A:=A.deeper (envOfC i a s.heap.objs.size f l)
 N:=N
 s₀:=s
 H₀:=H
 env:=envOfC i a s.heap.objs.size f l
 outer:=outer
 stack:=envOfC i a s.heap.objs.size f l::outer
 ex:=[]
 calm:=I
 fn:=λ_=>I
 pn:=[]
 xe:=λe y=>wpAny (model P w) (A.deeper (envOfC i a s.heap.objs.size f l)) (leaving (envOfC i a s.heap.objs.size f l) e) (λ_ j=>u outer H s E e j) (λz j=>u outer H s E z j) y
def sC{a:Scope}{n:Nat}{x:Str}(h:a.names.lookup x=J .cell):∃c,(cellsFrom n a.names []).lookup x=J c:=by have q:=PySem.W.cellsFrom_some a.names n [] (.inl h);exact Option.isSome_iff_exists.mp q
def xV{CX:Bi}{P:Program}{w:World}{K:g_}{mg:RD}{base:Heap}{N F:RM}{l:Str}{j:Scope}{f:Addr}{R:Value}{A:Around}{outer:List Env}{s Z:Shared}{H:Hp}{E:XK}{X:RU}{L:List V}(S:o0 N F j)(hd:A.handled=Y)(C:Env0 P w K mg base A outer s H)(hl:L.length=F.length)(r:aL L X)(x:InCallC s s.heap.objs.size (bindL (envOfC l j s.heap.objs.size f R).kindOf (F.zip X) λ_=>Y) (cellsFrom (s.heap.objs.size+1) j.names []) (bindC (envOfC l j s.heap.objs.size f R).kindOf (F.zip X) λ_=>Y) Z):
  Inv (oZ CX P w K mg base N l j f R A outer s H E) [] (start N L) H Z:=by
 have ab:F.length<=N.length:=by have:=congrArg List.length S.pre;rw[IU]at this;lia
 obtain⟨W,tk,rfl,hk⟩:=x.done;have G:∀b:Addr,b∉(oZ CX P w K mg base N l j f R A outer s H E).ex:=λb z=>absurd (show b∈([]:RT)from z) (by simp)
 refine⟨⟨C.mod,S.kind,rfl,rfl,mm _,λy z c W B=>?_,λy O=>?_,λy c _ h=>?_,λ_=>hd,Around.frames_deeper C.frames,.inr ⟨rfl,rfl⟩,λb z=>absurd z (G b),C.bs,C.bsz,λb _ _=>G b,λb z=>absurd z (G b),C.funs,C.frf,C.tree,⟨_,_,rfl,S.gen,S.co,rfl,rfl⟩⟩,
  rfl,C.bare,Un.kept hk,⟨_,x.toInCall.ns,λi y v W B h3=>?_⟩,λy c h=>⟨_,x.cell y c h⟩,C.hok.fresh (mm _),λy c h=>?_,λp M=>absurd (show p∈([]:RV)from M) (by simp),C.hok.kept hk,?_⟩
 .exact name_of_addr x.apart (PySem.mem_of_lookup W) (PySem.mem_of_lookup B)
 .rcases O with O|O
  .exact sC O
  .exact absurd rfl (S.nofree _ (PySem.mem_of_lookup O))
 .exact E0 (x.above y c (PySem.mem_of_lookup h))
 .have U:i<L.length:=by
   unfold start at B;by_cases U:i<L.length
   .exact U
   .rw[AE (by simpa using U)]at B;rw[EX]at B
    split at B<;>cases B
  have ha:L[i]?=J v:=by
   unfold start at B;rw[qp (by simpa using U),tx]at B
   cases e:L[i]? with
   |none=>rw[e]at B;cases B
   |some a=>rw[e]at B;cases B;rfl
  obtain⟨u,hu,rv⟩:=r.get ha;have M:F[i]?=J y:=by rw[<-S.pre,List.getElem?_take_of_lt ⋯];exact W
  have Q:F.Nodup:=by rw[<-S.pre];exact S.nd.sublist (List.take_sublist _ _)
  refine⟨u,rv,?_⟩;rcases S.par y (Al M)with k|k
  .exact .inl ⟨k,pS Q M hu k⟩
  .obtain⟨c,e⟩:=sC k;refine .inr ⟨.inl k,c,e,?_⟩;have q:=x.cell y c e;rw[qF Q M hu (by show j.names.lookup y≠_;rw[k];decide)]at q;exact q
 .exact C.hok.fresh (E0 (x.above y c (PySem.mem_of_lookup h)))
 .unfold start;show _=N.length;rw[EY,yP,IL];lia
def DX{Z:Bi}{P:Program}{w:World}{K:g_}{mg:RD}{base:Heap}{k:Nat}{f:Addr}{G i:Str}{z:Arguments}{B:RF}{a:Scope}{dV kV U pm l ct oc:Value}{an od:RG}{ab:Array (RW)}{N X:RM}{sp:Sp}(lk:K.lookup f=J ⟨oc,od,.func (PySem.W.fnOf G i z B a dV kV U pm an l ct),ab⟩)(ai:PySem.W.codeIn K l i=I)(S:o0 N X a)(len:∀C H Q E,sp C H Q E->C.length=X.length)(M:∀(A:Around)(outer:List Env)(s:Shared)(H:Hp)(C:List V)(Q:VK)(E:XK),Room k (A.deeper (envOfC i a s.heap.objs.size f l))->sp C H Q E ->
   ∃t,PSs (oZ Z P w K mg base N i a f l A outer s H E) B t/\t { nx:=λ_ F=>Q .non F,rt:=Q} (start N C) H):
  FnOk P w K mg base Z (k+1) f (PySem.W.fnOf G i z B a dV kV U pm an l ct) X sp:=by
 refine⟨len,λA outer s H ap us C Q E hr R hb r W=>?_⟩;have hl:=len _ _ _ _ W;have KX:=R.mod.kin.keeps λb o e=>(R.bs b o e).1;have al:=R.mod.nolimit.keeps λb o e=>(R.bs b o e).1;have L:∀y∈X.zip us,a.names.lookup y.1=J .local\/(a.names.lookup y.1=J .cell/\((cellsFrom (s.heap.objs.size+1) a.names []).lookup y.1).isSome=I):=λ⟨n,v⟩ hy=>by
  rcases S.par n (ND hy).1 with q|q
  .exact .inl q
  .exact .inr ⟨q,PySem.W.cellsFrom_some _ _ _ (.inl q)⟩
 refine codeAny_call_function hr.depth (KX _ _ lk) rfl S.co S.gen rfl (PySem.W.codeRec_of KX ai) (hb _ _ _ _ ?_);refine wpAny_newFunctionEnv_cells S.kind L λenv he s1 x=>?_;subst he;refine⟨al.keeps x.toInCall.keep,codeAny_func ?_⟩;obtain⟨t,ht,hq⟩:=M A outer s H C Q E (hr.deeper _) W;have ak:Inv (oZ Z P w K mg base N i a f l A outer s H E) [] (start N C) H s1:=xV S hr.hd R hl r x;refine wpAny_mono (ht [] s1 (start N C) H _ ak hq) (λfl s' O=>?_) λe s' O=>O;have fin:∀{Z':St}{F:Hp}{v:V}{u:Value},Inv (oZ Z P w K mg base N i a f l A outer s H E) [] Z' F s'->aQ v u->Q v F->CE outer P w H s Q u s' :=
  λ{Z' F v u} j rv q=>⟨v,F,j.os,j.bare,j.base,j.hok,rv,q⟩
 cases fl with
 |ret u =>
  obtain⟨v,Z',F,j,rv,q⟩:=O;exact fin j rv q
 |next =>
  obtain⟨Z',F,j,q⟩:=O;exact fin (v:=V.non) j rfl q
 |brk =>
  obtain⟨_,_,_,q⟩:=O;exact False.elim q
 |cont =>
  obtain⟨_,_,_,q⟩:=O;exact False.elim q
section
variable{X:Cx}{x:Str}{p pos:Pos}{e:Expr}{es:RZ}{t:TA}{id T:String}{r:List V->Hp->VK->Prop}
def N8(r:List V->Hp->VK->Prop)(t:TA):TE:=λZ H Q=>t Z H λa i=>r a i Q
def iB(C:c6 X (.builtin id) r)(hg:Gl X x)(hm:X.mg x=Y)(hv:bootBuiltins x=J (.builtin id))(O:PA X (e::es) t)(z:x≠"__name__":=by decide)(i:(x==("__debug__":Str))=false:=by decide)(F:starEach (e::es) X.env=(false,eval e X.env)::starEach es X.env:=by rfl)(j:(backTo pos (starEach es X.env)).any (·.1)=false:=by rfl):PE X (.Call (.Name x p) (e::es) [] pos) (N8 r t):=by
 intro l s Z H Q a h;refine wpAny_Call_Name_kw (jh a hg hm hv ?_ z i);exact PyProof.Rows.callWith_builtin1 (j_ (O pos l s Z H _ a h) λL u ⟨G,E,y,B,M⟩=>C l u Z E G L Q y B M) F j
def pZ(C:c6 X (.type T) r)(hg:Gl X x)(hm:X.mg x=Y)(hv:bootBuiltins x=J (.type T))(O:PA X (e::es) t)(z:x≠"__name__":=by decide)(i:(x==("__debug__":Str))=false:=by decide)(F:starEach (e::es) X.env=(false,eval e X.env)::starEach es X.env:=by rfl)(j:(backTo pos (starEach es X.env)).any (·.1)=false:=by rfl):PE X (.Call (.Name x p) (e::es) [] pos) (N8 r t):=by
 intro l s Z H Q a h;refine wpAny_Call_Name_kw (jh a hg hm hv ?_ z i);exact PyProof.Rows.callWith_type1 (j_ (O pos l s Z H _ a h) λL u ⟨G,E,y,B,M⟩=>C l u Z E G L Q y B M) F j
end
end L2
namespace HT
open PyProof.Rows
section
open PySem.SeqAt
open PySem.AutoSeq1 (wpAny_loadPart')
open PySem.MeetsSeq PySem.MeetsSeq2 PySem.MeetsSeq3
end
section
variable{prog:Program}{w:World}{A:Around}{E:RC}{s:Shared}
def BU(L:IsTup s.heap t vs.toArray)(H:IsTup s.heap b ws.toArray)(hv:vs≠[])(O:ws=[]->Q (.ref t) s)(M:ws≠[]->Q (.ref s.heap.objs.size) { s with heap:=s.heap.push { cls:=.type "tuple",data:=.seq (vs++ws).toArray}})(y:vs.length+ws.length<=sizeLine):wpAny (model prog w) A (binaryOp .Add (.ref t) (.ref b)) Q E s:=by
 obtain⟨⟨cls,dd,F,sl⟩,l,G,n,hd⟩:=id L;obtain⟨⟨B,j,data2,i⟩,a,z,C,u⟩:=id H;subst G hd z u;have e:vs.toArray++ws.toArray=(vs++ws).toArray:=by simp
 by_cases hw:ws=[]
 .exact concat_meets ⟨_,l,rfl⟩ ⟨_,a,rfl⟩ noFill_tuple_add seq_tuple_add PySem.F.slot_tuple_add PySem.F.entry_tuple_add (PySem.F.args_tuple_add_2 _ _)
   (tuple_addW1 t b vs.toArray ws.toArray n C dd j sl i (by simpa using hv) (by simp[hw])) ⟨l,a,O hw⟩
 .refine concat_meets ⟨_,l,rfl⟩ ⟨_,a,rfl⟩ noFill_tuple_add seq_tuple_add PySem.F.slot_tuple_add PySem.F.entry_tuple_add (PySem.F.args_tuple_add_2 _ _)
   (tuple_addW2 t b vs.toArray ws.toArray n C dd j sl i (by simpa using hv) (by simpa using hw) (by exact y)) ⟨l,a,?_⟩
  rw[e];exact M hw
def mu(n d:Nat):RX->Nat
 |none=>d
 |some v=>if v<0 then(v+(n:Int)).toNat else min v.toNat n
def kx(n d:Nat):mu n d Y=d:=rfl
def oA(n d k:Nat):mu n d (J (k:Int))=min k n:=rfl
def uH(v:Int)(n d:Nat):(if v<0 then max (v+(n:Int)) 0 else min v (n:Int))=((mu n d (J v):Nat):Int):=by
 show(if v<0 then max (v+(n:Int)) 0 else min v (n:Int))=(((if v<0 then(v+(n:Int)).toNat else min v.toNat n):Nat):Int)
 grind
def vP(lo a:RX)(n:Nat):Builtin.Slice.sliceAdjust lo a 1 (n:Int)=(((mu n 0 lo:Nat):Int),((mu n n a:Nat):Int)):=by
 refine Prod.ext ?_ ?_
 .cases lo with
  |none=>rfl
  |some v=>exact uH v n 0
 .cases a with
  |none=>rfl
  |some v=>exact uH v n n
def vU(i j:Nat):Builtin.Slice.slicePlaces (i:Int) (j:Int) 1=j-i:=by
 unfold Builtin.Slice.slicePlaces;have a:(1:Int)>0:=by lia
 simp only[a,if_true,Int.ediv_one]
 split<;>lia
def nY(p:IsPart v o)(h:Q o s):wpAny (model prog w) A (Builtin.Slice.slicePartIndex v) Q E s:=by
 cases p with
 |none=>exact slicePart_none h
 |int i t=>exact slicePart_int h
def mQ{sl:Addr}{vl l:Value}{lo j:RX}{n:Nat}{Q:Int×Int×Nat->Shared->Prop}(y:s.heap.IsSliceOf sl vl l .none)(z:IsPart vl lo)(u:IsPart l j)(h:Q (((mu n 0 lo:Nat):Int),1,mu n n j-mu n 0 lo) s):wpAny (model prog w) A (Builtin.Slice.sliceApplied (.ref sl) (pure (n:Int))) Q E s:=by
 obtain⟨os,a,B,i⟩:=id y;refine i_ (i_ (wpAny_field a i rfl (i_ (wpAny_field a i rfl (i_ (wpAny_field a i rfl (pz ?_)))))));refine i_ (slicePart_none ?_);refine i_ (nY z (i_ (nY u (i_ (pz ?_)))));show wpAny _ _ (match Builtin.Slice.sliceAdjust lo j 1 (n:Int)with | (lo,j)=>pure (lo,(1:Int),Builtin.Slice.slicePlaces lo j 1)) _ _ s;rw[vP lo j n];show wpAny _ _ (pure (((mu n 0 lo:Nat):Int),(1:Int),Builtin.Slice.slicePlaces ((mu n 0 lo:Nat):Int) ((mu n n j:Nat):Int) 1)) _ _ s;rw[vU];exact pz h
def zw(xs:Array Value)(i k:Nat):((List.range k).filterMap λ(m:Nat)=>xs[((i:Int)+(m:Int)*1).toNat]?).toArray=((xs.toList.drop i).take k).toArray:=by
 have e:(λ(m:Nat)=>xs[((i:Int)+(m:Int)*1).toNat]?)=λm=>xs[i+m]?:=by grind
 rw[e]
 have:=pick_run xs i k
 rw[List.filterMap_map]at this;have e2:((λx=>xs[x]?)∘λx=>i+x)=λm=>xs[i+m]?:=rfl;rw[e2]at this;rw[this]
def lZ{t sl:Addr}{items:Array Value}{vl B:Value}{lo i:RX}{Q:RC}(j:IsTup s.heap t items)(C:s.heap.IsSliceOf sl vl B .none)(L:IsPart vl lo)(H:IsPart B i)(hw:¬(mu items.size 0 lo=0/\mu items.size items.size i=items.size))(h:Q (.ref s.heap.objs.size) { s with heap:=s.heap.push { cls:=.type "tuple",data:=.seq ((items.toList.drop (mu items.size 0 lo)).take (mu items.size items.size i-mu items.size 0 lo)).toArray}})(G:items.size<=sizeLine):wpAny (model prog w) A (getItem (.ref t) (.ref sl)) Q E s:=by
 have a:sizeOk (.seq ((items.toList.drop (mu items.size 0 lo)).take (mu items.size items.size i-mu items.size 0 lo)).toArray):=by show((items.toList.drop (mu items.size 0 lo)).take (mu items.size items.size i-mu items.size 0 lo)).toArray.size<=sizeLine;rw[zD,IU,Mb,Array.length_toList];lia
 obtain⟨os,y,l,F⟩:=id C;have u:s.TypeIs (.ref sl) "slice":=⟨os,y,l⟩;unfold getItem
 try with_reducible refine wpAny_holding ?_
 refine i_ (wpAny_sequenceKey j.typeIs (by decide) ?_)
 refine i_ (wpAny_callSpecial?_slot j.typeIs PyProof.Rows.slot_tuple_getitem
  (wpAny_call_entry PyProof.Rows.slot_tuple_getitem j.typeIs entry_tuple_getitem ?_ (args_tuple_getitem _ _)))
 show wpAny _ _ (Builtin.Tuple.tupleItemsOf (.ref t) >>= _) _ _ s;refine i_ (tupleItemsOf_ j ?_);refine i_ (wpAny_typeOf u ?_);refine i_ (mQ C L H ?_);have z:¬((((mu items.size 0 lo:Nat):Int)==0&&(1:Int)==1&&(mu items.size items.size i-mu items.size 0 lo)==items.size)=I):=by intro q;rw[AC,AC]at q;have O:=eq_of_beq q.1.1;have M:=eq_of_beq q.2;exact hw ⟨⋯,⋯⟩
 show wpAny _ _ (if(((mu items.size 0 lo:Nat):Int)==0&&(1:Int)==1&&(mu items.size items.size i-mu items.size 0 lo)==items.size)=I then _ else _) _ _ s;rw[hI z,zw]
 first
  |exact i_ (m:=Builtin.Tuple.tupleExact _) (wpAny_newObj_type (i_ (pz (pz ⟨_,rfl,pz h⟩))) a)
end
end HT
namespace L2
open PySem.Spec PyProof.Rows
abbrev TO:=St->Hp->(RX->Hp->Prop)->Prop
def PO(X:Cx)(e:Option Expr)(t:TO):Prop :=
 ∀(i:RV)(s:Shared)(Z:St)(H:Hp)(Q:RX->Hp->Prop),Inv X i Z H s->t Z H Q ->
  wpAny (model X.prog X.w) X.A (evalPart e X.env) (λu j=>∃o a,Inv X i Z a j/\IsPart u o/\Q o a) X.xe s
def BV:TO:=λ_ H Q=>Q Y H
def JB(t:TE):TO:=λZ H Q=>t Z H λx a=>∃i,x=.int i/\Q (J i) a
section
variable{X:Cx}{e:Expr}{te:TE}{lo hi:Option Expr}{tl th:TO}{pos p2:Pos}
def BW:PO X Y BV:=by intro i s Z H Q a h;rw[evalPart_none];exact pz ⟨Y,H,a,.none,h⟩
def BX(h:PE X e te):PO X (J e) (JB te):=by intro y s Z H Q a hw;refine j_ (h y s Z H _ a hw) λu C ⟨x,z,j,l,B⟩=>?_;obtain⟨i,rfl,q⟩:=B;obtain⟨t,rfl⟩:=l;exact⟨J i,z,j,.int i t,q⟩
def Mp(X:Cx)(r:V->RX->RX->Hp->VK->Prop):Prop :=
 ∀(j:RV)(s:Shared)(Z:St)(H:Hp)(x:V)(v vl i:Value)(lo hi:RX)(sl:Addr)(Q:VK),Inv X j Z H s->aQ x v->s.heap.IsSliceOf sl vl i .none->IsPart vl lo->IsPart i hi->r x lo hi H Q ->
  ∃a id,typeLookup (.type a) "__getitem__"=pure (J (.builtin id))/\s.TypeIs v a/\wpAny (model X.prog X.w) X.A (getItem v (.ref sl)) (EP X j Z Q) X.xe s
def QX(r:V->RX->RX->Hp->VK->Prop)(te:TE)(tl th:TO):TE:=λZ H Q=>te Z H λx j=>tl Z j λl a=>th Z a λu i=>r x l u i Q
def y7(hr:Mp X r)(W:PE X e te)(hl:PO X lo tl)(hu:PO X hi th):PE X (.Subscript e (.Slice lo hi Y p2) pos) (QX r te tl th):=by intro i s Z H Q y h;refine Subscript_ (j_ (W i s Z H _ y h) λv B ⟨x,P,F,G,q1⟩=>?_);refine wpAny_Slice (j_ (hl i B Z P _ F q1) λvl R ⟨l,H2,C,pl,L⟩=>j_ (hu i R Z H2 _ C L) λj a ⟨u,z,E,U,O⟩=>?_);refine pz ?_;have S:Inv X i Z z { a with heap:=a.heap.push { cls:=.type "slice",data:=.fields #[vl,j,.none]}}:=E.kept (t':=a.toks) λb ob q=>qr _ q;obtain⟨ab,id,M,ht,hg⟩:=hr i { a with heap:=a.heap.push { cls:=.type "slice",data:=.fields #[vl,j,.none]}} Z z x v vl j l u a.heap.objs.size Q S G (Heap.IsSliceOf.new ..) pl U O;exact tail_any ht M hg (by with_unfolding_all rfl)
def m4(xs:List V)(lo hi:RX):List V:=(xs.drop (HT.mu xs.length 0 lo)).take (HT.mu xs.length xs.length hi-HT.mu xs.length 0 lo)
def mz(xs:List V)(lo hi:RX):(m4 xs lo hi).length<=xs.length:=by unfold m4;rw[IU,Mb];lia
def N9(K:g_):V->RX->RX->Hp->VK->Prop:=λx lo hi H Q=>∃a xs,x=.ref a/\SqT K H a xs /\
 ¬(HT.mu xs.length 0 lo=0/\HT.mu xs.length xs.length hi=xs.length)/\∀p,H p=Y->Q (.ref p) (upd H p (.tup (m4 xs lo hi)))
def Fy:Mp X (N9 X.K):=by
 intro L s Z H x v vl G lo hi sl Q j z E F C h;obtain⟨a,xs,rfl,B,hw,q⟩:=h;cases z;obtain⟨l,r,y,u⟩:=j.tuple B;have i:l.toArray.size=xs.length:=by exact r.length.symm
 refine⟨"tuple",_,PyProof.Rows.slot_tuple_getitem.lookup,y.typeIs,?_⟩;refine HT.lZ y E F C (by rw[i];exact hw) ?_ (by rw[i];exact u);rw[i];refine⟨.ref s.heap.objs.size,_,j.laid (t':=s.toks) (λb M q=>qr _ q) (mm _) ?_,rfl,q _ (j.hok.fresh (mm _))⟩;exact⟨pu (mz xs lo hi) u,_,(r.drop (HT.mu xs.length 0 lo)).take (HT.mu xs.length xs.length hi-HT.mu xs.length 0 lo),iq.new _ _⟩
def JC(K:g_):R2:=λx y H Q=>∃a b xs ys,x=.ref a/\y=.ref b/\SqT K H a xs/\SqT K H b ys/\xs≠[]/\xs.length+ys.length<=sizeLine /\
 (ys=[]->Q (.ref a) H)/\(ys≠[]->∀p,H p=Y->Q (.ref p) (upd H p (.tup (xs++ys))))
def aL.nil_iff(r:aL xs us):us=[]↔xs=[]:=by
 cases r with
 |nil=>simp
 |cons _ _=>simp
def BY:OpR X (binaryOp .Add) (JC X.K):=by intro U s Z H x y v u Q i F M h;obtain⟨a,b,xs,ys,rfl,rfl,S,O,L,C,P,G⟩:=h;cases F;cases M;obtain⟨E,l,R,_⟩:=i.tuple S;obtain⟨B,j,p2,_⟩:=i.tuple O;refine HT.BU R p2 (λz=>L (l.nil_iff.mp z)) (λz=>⟨.ref a,H,i,rfl,P (j.nil_iff.mp z)⟩) (λz=>?_) (by rw[<-l.length,<-j.length];exact C);refine⟨.ref s.heap.objs.size,_,i.laid (t':=s.toks) (λb W q=>qr _ q) (mm _) ?_,rfl,G (λw=>z (j.nil_iff.mpr w)) _ (i.hok.fresh (mm _))⟩;exact⟨by rw[EY];exact C,_,l.append j,iq.new _ _⟩
end
def vr(n:Nat)(i:Int):Option Nat:=if 0<=i then(if i<n then J i.toNat else Y)else if -(n:Int)<=i then J (i+n).toNat else Y
def nr{α:Type}(xs:List α)(i:Int):Option α:=(vr xs.length i).bind λj=>xs[j]?
def pc(h:vr n i=J j):seqIndex? i n=J j/\j<n /\ -(n:Int)<=i/\i<n:=by
 unfold vr at h;by_cases l:0<=i
 .rw[c_ l]at h;by_cases a:i<n
  .rw[c_ a]at h;have e:=Option.some.inj h;exact⟨by rw[seqIndex_of l a,e],⋯,⋯,a⟩
  .rw[hI a]at h;cases h
 .rw[hI l]at h;by_cases a:-(n:Int)<=i
  .rw[c_ a]at h;have e:=Option.some.inj h;exact⟨by rw[seqIndex_neg ⋯ a,e],⋯,a,⋯⟩
  .rw[hI a]at h;cases h
def oB(h:nr xs i=J v):∃j,seqIndex? i xs.length=J j/\xs[j]?=J v/\j<xs.length /\ -(xs.length:Int)<=i/\i<xs.length:=by
 unfold nr at h
 cases e:vr xs.length i with
 |none=>rw[e]at h;cases h
 |some j =>
  rw[e]at h;obtain⟨y,u,a,l⟩:=pc e;exact⟨j,y,h,u,a,l⟩
def cP{α:Type}{xs:List α}{j:Nat}{v:α}(h:xs[j]?=J v):nr xs (j:Int)=J v:=by
 have a:=(pj.mp h).1;have e:vr xs.length (j:Int)=J j:=by
  unfold vr
  simp_all
 unfold nr;rw[e];exact h
def jA(b:Expr):Prop:=∀o i,subscripted b T o i=operate [o,i] (getItem o i)
def IxR(X:Cx)(r:R2):Prop :=
 ∀(i a:Expr)(j:RV)(s:Shared)(Z:St)(H:Hp)(x y:V)(v u:Value)(Q:VK),Inv X j Z H s->aQ x v->aQ y u->r x y H Q ->
  subscripted a T v u=operate [v,u] (getItem v u)->wpAny (model X.prog X.w) X.A (subscriptTail i a v u) (EP X j Z Q) X.xe s
def DY(X:Cx)(id:String)(r:V->List V->Hp->VK->Prop):Prop :=
 ∀(i:RV)(s:Shared)(Z:St)(H:Hp)(x:V)(xs:List V)(v:Value)(a:RU)(Q:VK),Inv X i Z H s->aQ x v->aL xs a->r x xs H Q ->
  wpAny (model X.prog X.w) X.A (call (.builtin id) (v::a)) (EP X i Z Q) X.xe s
section
variable{X:Cx}{a b:Expr}{ta tb:TE}{pos:Pos}
def IxR.or(h:IxR X r)(F:IxR X r'):IxR X (λx y H Q=>r x y H Q\/r' x y H Q):=by
 intro i j E s Z H x y v u Q l B C q z;rcases q with q|q
 .exact h i j E s Z H x y v u Q l B C q z
 .exact F i j E s Z H x y v u Q l B C q z
def JD{r:R2}(hr:IxR X r)(L:PE X a ta)(E:PE X b tb)(F:jA b):PE X (.Subscript a b pos) (Jq r ta tb):=by intro z s Z H Q i h;exact Subscript_ (Fo L E i h λv u C x y G j l B q=>hr a b z C Z G x y v u Q j l B q (F _ _))
def JE(K:g_):R2:=λx y H Q=>∃p xs i v,x=.ref p/\y=.int i/\SqL K H p xs/\nr xs i=J v/\Q v H
def JF(K:g_):R2:=λx y H Q=>∃p xs i v,x=.ref p/\y=.int i/\SqT K H p xs/\nr xs i=J v/\Q v H
def JG:R2:=λx y H Q=>∃z i c,x=.str z/\y=.int i/\z.length<=sizeLine/\nr z.cps.toList i=J c/\Q (.str ⟨#[c]⟩) H
def BZ:IxR X (JE X.K):=by
 intro C G W s Z H x y v u Q l S ry h O;obtain⟨p,xs,i,z,rfl,rfl,R,he,q⟩:=h;cases S;obtain⟨t,rfl⟩:=ry;obtain⟨E,r,L,hz⟩:=l.list R;obtain⟨j,B,h2,h3,U,h5⟩:=oB he;obtain⟨w,M,rw'⟩:=r.get h2;have hl:=r.length;have hn:=nX;have fin:EP X W Z Q w s:=⟨z,H,l,rw',q⟩;by_cases P:0<=i
 .have F:i.toNat=j:=by
   rw[seqIndex_of P h5]at B;exact Option.some.inj B
  exact item_listR L.isList P ⋯ (by rw[F];simpa using M) fin O
 .have F:(i+(E.toArray.size:Int)).toNat=j:=by
   rw[seqIndex_neg ⋯ U]at B;rw[zD,<-hl];exact Option.some.inj B
  exact subscriptTail_builtinR L.isList.typeIs slot_list_getitem.lookup
   (wpAny_getItem_list_neg L.isList ⋯ (by rw[zD]<;>lia) ⋯ (by rw[F];simpa using M) ⟨rfl,fin⟩) O
def Fz:IxR X (JF X.K):=by
 intro B C M s Z H x y v u Q l L P h S;obtain⟨p,xs,i,z,rfl,rfl,F,R,q⟩:=h;cases L;obtain⟨t,rfl⟩:=P;obtain⟨G,r,E,hz⟩:=l.tuple F;obtain⟨j,W,U,h3,h4,h5⟩:=oB R;obtain⟨w,O,rw'⟩:=r.get U;have hl:=r.length;have hn:=nX;have fin:EP X M Z Q w s:=⟨z,H,l,rw',q⟩;exact subscriptTail_builtinR E.typeIs slot_tuple_getitem.lookup
  (getItem_tuple E ⋯ ⋯ (by rw[zD,<-hl];exact W) (by simpa using O) ⟨rfl,fin⟩) S
def FA:IxR X JG:=by
 intro l C J4 s Z H x y v u Q B F L h P;obtain⟨z,i,c,rfl,rfl,hz,O,q⟩:=h;obtain⟨t,rfl⟩:=F;obtain⟨S,rfl⟩:=L;obtain⟨j,E,R,U,G,M⟩:=oB O;have hl:z.cps.toList.length=z.length:=by simp[Str.length]
 rw[hl]at E G M;have W:=nX
 exact tail_any (typeIs_str s z t) slot_str_getitem.lookup (getItem_str (by
  have e1:decide (i < -(2^63:Int))=T:=decide_eq_false ⋯;have e2:decide (i>=2^63)=T:=decide_eq_false ⋯
  rw[e1,e2,Bool.or_false]) (by rw[E];simpa using R) ⟨.str ⟨#[c]⟩,H,B.tok _,⟨_,rfl⟩,q⟩) P
def QY(K:g_):R2:=λx y H Q=>JE K x y H Q\/JF K x y H Q\/JG x y H Q
def FC:IxR X (QY X.K):=BZ.or (Fz.or FA)
def vw(i:RU)(n j:Nat)(u:Value):Obj.mapSeq (·.setIfInBounds j u) { cls:=.type "list",data:=.seq i.toArray n}={ cls:=.type "list",data:=.seq (i.set j u).toArray n}:=by simp[Obj.mapSeq]
def Inv.lst{l:RV}{Z:St}{H:Hp}{s:Shared}{p:Addr}{xs:List V}(j:Inv X l Z H s)(h:H p=J (.lst xs)):
  ∃(i:RU) (n:Nat),aL xs i/\s.heap.get? p=J { cls:=.type "list",data:=.seq i.toArray n}/\xs.length<=sizeLine:=by
 obtain⟨z,i,n,r,e⟩:=j.hok p _ h;exact⟨i,n,r,e,z⟩
def Inv.lstUpd{z:RV}{Z:St}{H:Hp}{s:Shared}{p:Addr}{xs ys:List V}{j i:RU}{n l:Nat}{f:Obj->Obj}(y:Inv X z Z H s)(h:H p=J (.lst xs))(B:s.heap.get? p=J { cls:=.type "list",data:=.seq j.toArray n})(hf:f { cls:=.type "list",data:=.seq j.toArray n}={ cls:=.type "list",data:=.seq i.toArray l})(r:aL ys i)(E:ys.length<=sizeLine)(t:Nat):
  Inv X z Z (upd H p (.lst ys)) { s with heap:=s.heap.update p f,toks:=t}:=by
 have e:(s.heap.update p f).get? p=J { cls:=.type "list",data:=.seq i.toArray l}:=by rw[L5 f B (by rw[hf]<;>rfl),hf]
 refine y.write (by rw[h];trivial) (.inl rfl) (λb u C q=>(Nj _ _ (Ne.symm C)).trans q) ⟨_,e⟩ ?_;exact⟨E,i,l,r,e⟩
def JH:V->V->V->Hp->(Hp->Prop)->Prop:=λo i v H Q=>∃p xs k j,o=.ref p/\i=.int k/\H p=J (.lst xs)/\vr xs.length k=J j/\Q (upd H p (.lst (xs.set j v)))
def zI:Jl X JH:=by
 intro J4 s Z H o i v ov iv u Q y R O P h;obtain⟨p,xs,k,j,rfl,rfl,G,S,q⟩:=h;cases R;obtain⟨t,rfl⟩:=O;obtain⟨l,n,r,B,U⟩:=y.lst G;obtain⟨z,h2,F,L⟩:=pc S;have hl:=r.length;have W:=nX;have E :=
  y.lstUpd G B (vw l n j u) (r.set P j) (by rw[Md];exact U) s.toks
 by_cases M:0<=k
 .have C:k.toNat=j:=by
   rw[seqIndex_of M L]at z;exact Option.some.inj z
  exact PySem.W.ki_setAt B M ⋯ (by rw[zD,<-hl];exact L) (by rw[C];exact⟨_,E,q⟩)
 .have C:(k+(l.toArray.size:Int)).toNat=j:=by
   rw[seqIndex_neg ⋯ F]at z;rw[zD,<-hl];exact Option.some.inj z
  exact PySem.W.ki_setBack B ⋯ (by rw[zD,<-hl];exact F) ⋯ (by rw[C];exact⟨_,E,q⟩)
def q0(lo j:RX)(n:Nat):(sliceBounds lo j Y n).1=((HT.mu n 0 lo:Nat):Int)/\(sliceBounds lo j Y n).2.1=((HT.mu n n j:Nat):Int)/\(sliceBounds lo j Y n).2.2=1:=by
 refine⟨?_,?_,rfl⟩
 .cases lo with
  |none=>simp[sliceBounds,HT.mu]
  |some i =>
   simp only[sliceBounds,HT.mu,Option.getD_none,show(1:Int)>0 by decide,if_true];by_cases h:i<0
   .simp only[h,if_true]<;>lia
   .simp only[h,if_false]<;>lia
 .cases j with
  |none=>simp[sliceBounds,HT.mu]
  |some i =>
   simp only[sliceBounds,HT.mu,Option.getD_none,show(1:Int)>0 by decide,if_true];by_cases h:i<0
   .simp only[h,if_true]<;>lia
   .simp only[h,if_false]<;>lia
def qM(i:RU)(lo j:RX):slicePick i.toArray lo j Y=((i.drop (HT.mu i.length 0 lo)).take (HT.mu i.length i.length j-HT.mu i.length 0 lo)).toArray:=by obtain⟨y,u,l⟩:=q0 lo j i.toArray.size;unfold slicePick;rw[y,u,l];simp only[sliceRange_one,pick_run]<;>rfl
def N_(K:g_):V->RX->RX->Hp->VK->Prop:=λx lo i H Q=>∃a xs,x=.ref a/\SqL K H a xs/\∀p,H p=Y->Q (.ref p) (upd H p (.lst (m4 xs lo i)))
def ur:Mp X (N_ X.K):=by intro M s Z H x v vl L lo l sl Q i z E G C h;obtain⟨a,xs,rfl,B,q⟩:=h;cases z;obtain⟨y,r,u,F⟩:=i.list B;have j:=r.length;refine⟨"list",_,slot_list_getitem.lookup,u.isList.typeIs,?_⟩;refine wpAny_getItem_list_slice u.isList E G C .none (by simp) ?_ (by rw[zD]<;>lia);rw[qM,<-j];refine⟨.ref s.heap.objs.size,_,i.laid (t':=s.toks) (λb O q=>qr _ q) (mm _) ?_,rfl,q _ (i.hok.fresh (mm _))⟩;exact⟨pu (mz xs lo l) F,_,0,(r.drop (HT.mu xs.length 0 lo)).take (HT.mu xs.length xs.length l-HT.mu xs.length 0 lo),AB _ rfl⟩
def sI:c6 X (.type "list") (λxs H Q=>∃p ys,xs=[.ref p]/\(SqL X.K H p ys\/SqT X.K H p ys)/\∀l,H l=Y->Q (.ref l) (upd H l (.lst ys))):=by
 intro R s Z H xs S Q y r h;obtain⟨p,ys,rfl,C,q⟩:=h;obtain⟨u,rfl,P⟩:=iQ r;cases P;have fin:∀(i:RU),aL ys i->ys.length<=sizeLine->∀(j:Heap)(z:Nat),(∀b O,s.heap.get? b=J O->j.get? b=J O) ->
   j.get? s.heap.objs.size=J { cls:=.type "list",dict:=Y,data:=.seq i.toArray z,slots:=#[]}->EP X R Z Q (.ref s.heap.objs.size) { s with heap:=j}:=λi B F j z kp e =>
  ⟨.ref s.heap.objs.size,_,y.laid (t':=s.toks) kp (mm _) (show ObjOk X.prog X.w _ j _ (.lst ys) from⟨F,i,z,B,e⟩),rfl,q _ (y.hok.fresh (mm _))⟩
 rcases C with C|C
 .obtain⟨i,B,M,F⟩:=y.list C;have E:=B.length;obtain⟨o,G,L,n,hd⟩:=M.isList;exact call_list_seq p (.inl rfl) G L hd (λj z kp e=>fin i B F j z kp e) (by simp only[zD]<;>lia)
 .obtain⟨i,B,M,F⟩:=y.tuple C;have E:=B.length;obtain⟨o,G,L,n,hd⟩:=M;exact call_list_seq p (.inr rfl) G L hd (λj z kp e=>fin i B F j z kp e) (by simp only[zD]<;>lia)
def kG:c6 X (.type "tuple") (λxs H Q=>∃p ys,xs=[.ref p]/\((SqL X.K H p ys/\∀l,H l=Y->Q (.ref l) (upd H l (.tup ys)))\/(SqT X.K H p ys/\Q (.ref p) H))):=by
 intro O s Z H xs P Q i r h;obtain⟨p,ys,rfl,h⟩:=h;obtain⟨u,rfl,M⟩:=iQ r;cases M;rcases h with⟨y,q⟩|⟨y,q⟩
 .obtain⟨j,z,B,F⟩:=i.list y;have E:=z.length;refine call_tuple_list B.isList (λL kp=>?_) (by simp only[zD]<;>lia);have C:=i.kept (t':=s.toks) kp;have G :=
   C.laid (t':=s.toks) (λb o e=>qr _ e) (mm _) (show ObjOk X.prog X.w _ _ _ (.tup ys) from⟨F,j,z,iq.new _ _⟩)
  exact⟨.ref L.objs.size,_,G,rfl,q _ (C.hok.fresh (mm _))⟩
 .obtain⟨j,z,B,F⟩:=i.tuple y;exact call_tuple_same B ⟨.ref p,H,i,rfl,q⟩
def Oa(K:g_)(i:String)(x:V)(H:Hp):Prop:=match x with
 |.str _=>i="str"
 |.int _=>i="int"
 |.ref p=>(i="list"/\∃xs,SqL K H p xs)\/(i="tuple"/\∃o,K.lookup p=J o/\o.cls=.type "tuple"/\o.dict=Y) \/
   (i="dict"/\((∃j,H p=J (.dK j))\/∃j,H p=J (.dT j)))\/(i="set"/\∃S n,H p=J (.set S n))
 |_=>False
def FE{G:RV}{Z:St}{H:Hp}{s:Shared}{u:String}{x:V}{v:Value}(j:Inv X G Z H s)(r:aQ x v)(ty:Oa X.K u x H):
  s.TypeIs v u/\∀a,v=.ref a->∃B,s.heap.get? a=J B/\B.dict=Y:=by
 cases x with
 |str z =>
  obtain⟨t,rfl⟩:=r;cases(ty);exact⟨typeIs_str s z t,λ_ e=>nomatch e⟩
 |int i =>
  obtain⟨t,rfl⟩:=r;cases(ty);exact⟨typeIs_int s i t,λ_ e=>nomatch e⟩
 |ref p =>
  cases r;rcases ty with⟨rfl,xs,E⟩|⟨rfl,o,l,L,hd⟩|⟨rfl,l⟩|⟨rfl,S,n,l⟩
  .obtain⟨F,_,C,_⟩:=j.list E;refine⟨C.isList.typeIs,λa e=>?_⟩;cases e;obtain⟨o,n,e,c,hd,_⟩:=C;exact⟨o,e,hd⟩
  .refine⟨⟨o,j.kIn p o l,L⟩,λa e=>?_⟩;cases e;exact⟨o,j.kIn _ o l,hd⟩
  .have z:∃o,s.heap.get? p=J o/\o.ExactDict:=by
    rcases l with⟨y,l⟩|⟨y,l⟩
    .obtain⟨_,_,_,_,o,_,_,e,ex,_⟩:=j.hok p _ l;exact⟨o,e,ex⟩
    .obtain⟨_,_,_,_,o,_,_,e,ex,_⟩:=j.hok p _ l;exact⟨o,e,ex⟩
   obtain⟨o,e,ex⟩:=z;refine⟨⟨o,e,ex.1⟩,λa e2=>?_⟩;cases e2;exact⟨o,e,ex.2.1⟩
  .obtain⟨o,_,_,_,e,ex,_⟩:=j.hok p _ l;refine⟨⟨o,e,ex.1⟩,λa e2=>?_⟩;cases e2;exact⟨o,e,ex.2.1⟩
 |_=>exact False.elim ty
def QZ(K:g_)(i:String)(r:V->List V->Hp->VK->Prop)(to:TE)(t:TA):TE:=λZ H Q=>to Z H λx j=>Oa K i x j/\t Z j λxs l=>r x xs l Q
variable{o e:Expr}{es:RZ}{to:TE}{t:TA}{name:Str}{apos cpos:Pos}{T id:String}{r:V->List V->Hp->VK->Prop}
def DZ(L:PlainAttrs T)(slot:Slot T name id)(y:typeOf (.builtin id)=pure (.type "method_descriptor"))(hm:DY X id r)(O:PE X o to)(ha:PA X (e::es) t)(j:attributeBase o name X.env (eval o X.env)=eval o X.env:=by rfl)(u:((backTo cpos (starEach (e::es) X.env)).all (λx=>!x.1)&&(backToKw cpos (keywordEach [] X.env)).all (λx=>x.1.isSome)
   && decide ((e::es).length+([]:List Keyword).length+(if([]:List Keyword).isEmpty then 0 else 1)<30))=I:=by rfl)(l:(apos.endLine==cpos.line)=I:=by rfl)(hs:starEach (e::es) X.env=(false,eval e X.env)::starEach es X.env:=by rfl)(i:(backTo cpos (starEach es X.env)).any (·.1)=false:=by rfl):
  PE X (.Call (.Attribute o name apos) (e::es) [] cpos) (QZ X.K T r to t):=by
 intro B s Z H Q z h;refine wpAny_Call_method_late j u l rfl (j_ (O B s Z H _ z h) λv G ⟨x,R,C,E,ty,q1⟩=>?_);obtain⟨h1,h2⟩:=FE C E ty;refine⟨T,id,L,slot,y,h1,h2,?_⟩;have F:=ha cpos B G Z R _ C q1;rw[hs]at F ⊢;refine Calls.callWith_builtin (by show(false||(backTo cpos (starEach es X.env)).any (·.1))=false;rw[i]<;>rfl) (Calls.evalArgs_plain ?_);exact j_ F λW S ⟨U,H2,M,r2,P⟩=>hm B S Z H2 x U v W Q M E r2 P
end
def Q0(X:Cx)(id:String)(r:V->List V->Hp->VK->Prop):Prop :=
 ∀(i:RV)(s:Shared)(Z:St)(H:Hp)(x:V)(xs:List V)(v:Value)(a:RU)(Q:VK),Inv X i Z H s->aQ x v->aL xs a->r x xs H Q ->
  wpAny (model X.prog X.w) X.A (call (.builtin id) (v::a)) (EP X i Z Q) X.xe s
def aL.zero(h:aL [] us):us=[]:=by cases h;rfl
def aL.one(h:aL [x] us):∃u,us=[u]/\aQ x u:=by cases h with|cons r t=>exact⟨_,by rw[aL.zero t],r⟩
def aL.two(h:aL [x,y] us):∃u v,us=[u,v]/\aQ x u/\aQ y v:=by cases h with|cons r t=>obtain⟨v,e,q⟩:=aL.one t;exact⟨_,v,by rw[e],r,q⟩
def aL.rep(h:aL xs us):∀k:Nat,aL (List.replicate k xs).flatten (List.replicate k us).flatten
 |0=>.nil
 |k+1=>by
  exact aL.append h (aL.rep h k)
def qh(i:RU):∀(k:Nat)(a:RU),
  List.foldl (λl j=>l++j) a.toArray (List.replicate k i.toArray)=(a++(List.replicate k i).flatten).toArray
 |0,a=>by simp
 |k+1,a=>by
  have e:a.toArray++i.toArray=(a++i).toArray:=by simp
  have e2:(a++i)++(List.replicate k i).flatten=a++(List.replicate (k+1) i).flatten:=by rw[Ih,List.flatten_cons,A7]
  rw[<-e2,<-qh i k (a++i),<-e,Ih,List.foldl_cons]
section
variable{X:Cx}{J4:List (Addr × Obj)}{Z:St}{H:Hp}{s:Shared}{l b:Addr}{xs ys zs:List V}
def Inv.lset{a its':RU}{n:Nat}{f:Array Value->Array Value}{B:Nat}(i:Inv X J4 Z H s)(y:H l=J (.lst xs))(e:s.heap.get? l=J { cls:=.type "list",data:=.seq a.toArray n})(hf:f a.toArray=its'.toArray)(hv:aL ys its')(z:ys.length<=sizeLine):
  Inv X J4 Z (upd H l (.lst ys)) { s with heap:=s.heap.update l (Obj.mapSeq f),toks:=B}:=by
 have q:=PySem.IsL.update e f;rw[hf]at q;refine i.write (x:=l) (e:=l) (by rw[y];exact trivial) (.inl rfl) (λE u C j=>(Nj s.heap (Obj.mapSeq f) (Ne.symm C)).trans j) ⟨_,q⟩ ?_;exact⟨z,its',_,hv,q⟩
def Inv.lnew(a:Inv X J4 Z H s)(hv:aL ys its)(i:ys.length<=sizeLine):
  Inv X J4 Z (upd H s.heap.objs.size (.lst ys)) { s with heap:=s.heap.push { cls:=.type "list",data:=.seq its.toArray},toks:=t'} :=
 a.laid (λ_ _ q=>qr _ q) (mm _) ⟨i,its,0,hv,AB _ rfl⟩
def Inv.fresh(a:Inv X J4 Z H s):H s.heap.objs.size=Y:=a.hok.fresh (mm _)
def Inv.lstM(i:Inv X J4 Z H s)(j:H l=J (.lst xs)):xs.length<=sizeLine/\∃(a:RU) (n:Nat),aL xs a/\xs.length=a.length/\s.heap.get? l=J { cls:=.type "list",data:=.seq a.toArray n}:=by obtain⟨z,a,n,r,e⟩:=i.hok l _ j;exact⟨z,a,n,r,r.length,e⟩
def zd(h:n<=sizeLine):Builtin.List.listTooLong n=T:=by unfold Builtin.List.listTooLong;exact decide_eq_false ⋯
end
section
variable{X:Cx}
def B0:V->List V->Hp->VK->Prop:=λx a H Q=>∃l xs y,x=.ref l/\a=[y]/\H l=J (.lst xs)/\xs.length<sizeLine/\Q .non (upd H l (.lst (xs++[y])))
def qg:Q0 X "list.append" B0:=by
 intro G s Z H x L v M Q i B C h;obtain⟨l,xs,y,rfl,rfl,j,O,q⟩:=h;cases B;obtain⟨u,rfl,E⟩:=C.one;obtain⟨z,a,n,r,hl,e⟩:=i.lstM j;refine call_meets F.slot_list_append ⟨_,e,rfl⟩ F.entry_list_append (F.args_list_append_2 _ _) (PySem.list_append l a.toArray n u (by rw[zD];lia)) ⟨e,?_⟩;refine⟨.non,_,i.lset (its':=a++[u]) j e (by simp) (r.append (.cons E .nil)) ?_,rfl,q⟩
 grind
def Ob:R2:=λx y H Q=>∃l b xs zs,x=.ref l/\y=.ref b/\H l=J (.lst xs)/\H b=J (.lst zs)/\xs.length+zs.length<=sizeLine/\∀p,H p=Y->Q (.ref p) (upd H p (.lst (xs++zs)))
def FF:OpR X (binaryOp .Add) Ob:=by
 intro R s Z H x y v u Q a F G h;obtain⟨l,b,xs,zs,rfl,rfl,E,L,S,q⟩:=h;cases F;cases G;obtain⟨z,j,n,r,hl,e⟩:=a.lstM E;obtain⟨P,i,O,M,B,e2⟩:=a.lstM L;refine PySem.P.add_list e e2 ?_ (by rw[zD,zD];lia);have C:j.toArray++i.toArray=(j++i).toArray:=by simp
 rw[C];exact⟨.ref _,_,a.lnew (t':=s.toks) (r.append M) (by rw[EY];lia),rfl,q _ a.fresh⟩
def Oc:R2:=λx y H Q=>∃l k xs,x=.ref l/\y=.int k/\H l=J (.lst xs) /\ -(2^63)<=k/\k<2^63/\xs.length*k.toNat<=sizeLine /\
 ∀p,H p=Y->Q (.ref p) (upd H p (.lst (List.replicate k.toNat xs).flatten))
def uO{α:Type}(xs:List α)(k:Nat):(List.replicate k xs).flatten.length=k*xs.length:=by simp
def FG:OpR X (binaryOp .Mult) Oc:=by
 intro J4 s Z H x y v u Q B U ry h;obtain⟨l,k,xs,rfl,rfl,S,h1,h2,P,q⟩:=h;cases U;obtain⟨t,rfl⟩:=ry;obtain⟨z,i,n,r,hl,e⟩:=B.lstM S;have G:i.toArray.size*k.toNat<=sizeLine:=by rw[zD,<-hl];exact P
 have E:¬i.toArray.size*k.toNat>(2^63-1)/8:=by
  have:(sizeLine:Nat)<=(2^63-1)/8:=by decide
  lia
 have C:¬(!Builtin.List.listFitsIndex k)=I:=by rw[fitsIndex_both h1 h2];exact Nu
 have j:¬Builtin.List.listTooLong (i.toArray.size*k.toNat)=I:=by rw[zd G];exact Nu
 have L:List.foldl (λO M=>O++M) #[] (List.replicate (if i.toArray.isEmpty=I then 0 else k.toNat) i.toArray)=(List.replicate k.toNat i).flatten.toArray:=by
  have R:∀m:Nat,List.foldl (λO M=>O++M) #[] (List.replicate m i.toArray)=(List.replicate m i).flatten.toArray:=λm=>by
   have:=qh i m []
   exact this
  rw[R]
  cases i with
  |nil=>simp
  |cons a r'=>rw[hI (by simp)]
 refine wpAny_binaryOp_repeat_ref (by decide) ⟨_,e,rfl⟩ (λW=>typeIs_int W k t) noFill_list_mul F.fills_int_mul F.slot_int_rmul repeat_list F.slot_int_index.lookup
  (call_meets F.slot_int_rmul (typeIs_int s k t) F.entry_int_rmul (F.args_int_rmul_2 _ _) (int___rmul___int_list k t l i.toArray n)
   ⟨e,rfl,⟨_,e,rfl⟩,call_meets F.slot_list_mul ⟨_,e,rfl⟩ F.entry_list_mul (F.args_list_mul_2 _ _) (AutoListH.list___mul___list_int_3 l i.toArray n k t C E j) ⟨e,?_⟩⟩)
 rw[L];exact⟨.ref _,_,B.lnew (t':=s.toks) (r.rep k.toNat) (by rw[uO,Nat.mul_comm];exact P),rfl,q _ B.fresh⟩
end
end L2
namespace Att
open PySem.W PySem.Calls PyProof.Rows
def oi:∀(ns:RN)(i:RU),WellAll P h i (ns.map WData.int)->IntsAre i ns:=by
 intro ns
 induction ns with
 |nil =>
  intro i w;rw[DU]at w;cases w;exact .nil
 |cons n ns j =>
  intro i w;rw[pk]at w
  cases w with
  |cons a b =>
   cases a;exact .cons _ _ (j _ b)
def wM{l:OpenLaw}{n:Nat}(O:l.most=J n){P:Params}{h:Heap}{i:List WData}{j:RU}(u:l.row.toRowW.claim.pre i=I)(E:WellAll P h j i):
  ∃a F ns,j=[Value.ref a]/\i=[WData.list (ns.map WData.int)]/\h.get? a=J { cls:=.type "list",data:=.seq F.toArray}/\IntsAre F ns/\ns.length<=n:=by
 have C:=(pre_splitW u).1;have Q:=(pre_splitW u).2;obtain⟨d,r,rfl,S,R⟩:=hasAllW_cons C;obtain rfl:=hasAllW_nil R;obtain⟨xs,rfl,L⟩:=hasW_list S;obtain⟨ns,rfl⟩:=items_int L;have z:ns.length<=n:=by
  have B:(WTm.not (.lt (.lit (.int (n:Int))) (.len (.arg 0)))).holds [] { args:=[.list (ns.map .int)]}=I:=by have B:=(holds_andW Q).1;rw[O]at B;exact B
  have U:=condW_of B (w_not (w_lt w_lit (w_len_list (w_arg rfl))))
  simp_all
 cases E with
 |cons H G =>
  cases G
  cases H with
  |list M y=>exact⟨_,_,ns,rfl,rfl,M,oi ns _ y,z⟩
def wN(l:OpenLaw)(a:List WData):l.row.toRowW.claim.post a (.bool I) a=I :=
 postW_of
  (show WShape.has [] (.bool I) .bool=I by first | rfl | decide | simp)
  (w_eq_bool (w_res rfl) w_lit) rfl
def t6{l:OpenLaw}{n:Nat}{q:Program}{loose:RM}{XP:(Str->RW)->Heap->Prop}{U:World->Heap->Prop}{d:DefRec}(hn:l.most=J n)(Q:d.params.defaults=[])(call:∀(w:World)(s₀ i:Shared)(mg mb:RD)(z:Addr)(o:Obj)(pm F j:Value)(a:Addr)(y:RU)(ns:RN),
   Ground q loose [] XP w s₀ mg mb i.heap->U w i.heap ->
   i.heap.get? z=J o->o.data=.func (docDef d.name d.params d.body d.scope pm F j)->i.heap.CodeRec F d.name->mg d.name=J (.ref z) ->
   i.heap.get? a=J { cls:=.type "list",data:=.seq y.toArray}->IntsAre y ns->ns.length<=n->i.gens=#[] ->
   codeAny (model l.prog w) callerA (.call (.ref z) ⟨[.ref a],[]⟩) (λr H=>r=.ok (.ret (.bool I))/\OldK i.heap H.heap/\H.os=i.os/\AllBare H.gens) i):
  WalkO q loose XP U l.row.toRowW d [] (λf y=>PySem.call f y):=by
 intro w s₀ i mg mb G P z o pm F j dV kV ho hd L R O hg X S as E W ab M ai;obtain rfl:=Dflts.none R Q;obtain rfl:=Dflts.noKw R;obtain⟨a,y,ns,rfl,rfl,C,u,B⟩:=wM hn E M;refine enter_call (codeAny_mono (call w s₀ i mg mb z o pm F j a y ns G P ho (fd_plain hd) L O C u B hg) λr H Z=>?_);obtain⟨rfl,h2,h3,h4⟩:=Z;exact⟨.inl ⟨.bool I,.bool I,[],rfl,λ_=>rfl,.bool I,wN l _,λ_=>⟨List.Pairwise.nil,λ_ hm=>(nomatch hm)⟩⟩,h2,h3,h4⟩
end Att
namespace L2
open PySem.Spec PyProof.Rows
def qf:∀{a:RU}{ns:RN},IntsAre a ns->aL (ns.map V.int) a
 |_,_,.nil=>.nil
 |_,_,.cons n t h=>.cons ⟨t,rfl⟩ (qf h)
def FH(H:Hp):Prop:=∀b,H b=Y\/∃o xs,H b=J (.frz o (.lst xs))
def zp{P:Program}{w:World}{K:g_}{mg mb:RD}{CX:Bi}{k:Nat}{fa a:Addr}{fd:FuncData}{x:Str}{sp:Sp}{i:Shared}{O:RU}{ns:RN}(KX:K.In i.heap)(ab:i.heap.Ns mainGlobals mg)(y:i.heap.Ns builtinsNs mb)(ak:∀x:Str,x≠"__name__"->mb x=bootBuiltins x)(R:i.heap.NoLimit)(C:i.heap.NoSeer)(al:P.given.tree=Y)(hg:i.gens=#[])(U:i.heap.get? a=J { cls:=.type "list",data:=.seq O.toArray})(hi:IntsAre O ns)(hl:ns.length<=sizeLine)(hr:Room k callerA)(F:∀base:Heap,K.In base->base.Ns mainGlobals mg->FnOk P w K mg base CX k fa fd [x] sp)(Q:∀(s:Shared) (u:Value),BindsTo s fd ⟨[u],[]⟩ [(x,u)])(ap:∀H:Hp,FH H->SqL K H a (ns.map V.int)->sp [.ref a] H (λv _=>v=.bl I) λ_ _ _=>False)(ar:∀H e B,CX [] H i (λ_ _ _=>False) e B->False):
  codeAny (model P w) callerA (.call (.ref fa) ⟨[.ref a],[]⟩) (λr B=>r=.ok (.ret (.bool I))/\OldK i.heap B.heap/\B.os=i.os/\AllBare B.gens) i:=by
 have rv:=qf hi;have W:=hi.length;have M:∀H:Hp,FH H->SqL K H a (ns.map V.int)->HOk P w H i.heap->(∀b,H b≠Y->b=a)->(H a≠Y->K.lookup a=Y) ->
   codeAny (model P w) callerA (.call (.ref fa) ⟨[.ref a],[]⟩) (λr B=>r=.ok (.ret (.bool I))/\OldK i.heap B.heap/\B.os=i.os/\AllBare B.gens) i:=by
  intro H hO hS hok hA hK;have j:∀{b:Addr}{o:Obj},i.heap.get? b=J o->H b=Y->(kj i.heap H).get? b=J o:=λe n=>zK e n;have an:∀{b:Addr}{o:Obj}{X:Array DictEntry}{S:Nat},i.heap.get? b=J o->o.data=.dict X S->H b=Y:=λ{b o X S} e d=>by
   cases q:H b with
   |none=>rfl
   |some u =>
    have e':b=a:=hA b (by rw[q];simp);subst e';rw[U]at e;cases e;have d':Data.seq O.toArray _=Data.dict X S:=d;cases d'
  have l:∀{b:Addr}{m:RD},i.heap.Ns b m->(kj i.heap H).Ns b m:=λ{b m} ⟨o,X,S,e,d,r⟩=>⟨o,X,S,j e (an e d),d,r⟩
  have Z:K.In (kj i.heap H):=λb o e=>j (KX b o e) (by
   cases q:H b with
   |none=>rfl
   |some u =>
    have e':b=a:=hA b (by rw[q];simp);subst e'
    rw[hK (by rw[q];simp)]at e;cases e)
  have hM:Mod K mg (kj i.heap H):=⟨Z,l ab,⟨mb,l y,ak⟩,let ⟨G,E,L⟩:=R;⟨G,l E,L⟩,let ⟨G,E,L⟩:=C.statics;⟨G,l E,L⟩,let ⟨G,E,L⟩:=C.mods;⟨G,l E,L⟩,let ⟨G,E,L⟩:=C.imp;⟨G,l E,L⟩,let ⟨G,bm,ob,E,L,h3,h4,h5⟩:=C.main;⟨G,bm,ob,l E,L,j h3 (by
   cases q:H bm with
   |none=>rfl
   |some u =>
    have e':bm=a:=hA bm (by rw[q];simp);subst e';rw[U]at h3;cases h3
    exact absurd (show Value.type "list"=Value.type "module" from h4) (by decide)),h4,h5⟩⟩
  have e0:Env0 P w K mg (kj i.heap H) callerA [] i H:=⟨rfl,hM,λb o e=>BJ e,Nat.le_of_eq (wR _ _),trivial,λb y=>absurd (show b∈([]:RT)from y) (by simp),hok,.of_eq hg,al⟩;refine codeAny_mono ((F _ Z (l ab)).run callerA [] i H ⟨[.ref a],[]⟩ [.ref a] [.ref a] _ _ hr e0 (Q i (.ref a)) (.cons rfl .nil) (ap H hO hS)) λr B h=>?_
  cases r with
  |error e=>exact(ar H e B h).elim
  |ok fl =>
   cases fl with
   |next=>exact False.elim h
   |brk=>exact False.elim h
   |cont=>exact False.elim h
   |ret u =>
    obtain⟨v,H',os,bare,un,ai,r',q⟩:=h;have q':v=.bl I:=q;subst q';obtain rfl:u=Value.bool I:=r';refine⟨rfl,OldK.of_keep λb o e=>?_,os,bare⟩
    cases q:H b with
    |none=>exact un.keep b o e q (by intro z;exact absurd (show b∈([]:RT)from z) (by simp)) (by simp)
    |some u =>
     rcases hO b with z|⟨ob,xs,z⟩
     .rw[q]at z;cases z
     .have z2:=un.frzs b ob _ z;obtain⟨e1,_⟩:=hok b _ z;obtain⟨e2,_⟩:=ai b _ z2;rw[e]at e1;cases e1;exact e2
 cases hk:K.lookup a with
 |some o =>
  have e:=KX a o hk;rw[U]at e;cases e;refine M (λ_=>Y) (λ_=>.inl rfl) (.inr ⟨_,O.toArray,_,hk,rfl,rfl,rfl,by rw[zD,W];exact hl,by simpa using rv⟩) (λb u z=>by have z':(Y:Option HO)=J u:=z;cases z') (λb z=>absurd rfl z) λz=>absurd rfl z
 |none =>
  refine M (λb=>if b=a then J (.frz { cls:=.type "list",data:=.seq O.toArray} (.lst (ns.map V.int)))else Y) (λb=>?_) (.inl (.inr ⟨{ cls:=.type "list",data:=.seq O.toArray},c_ rfl⟩)) (λb u z=>?_) (λb z=>?_) λ_=>hk
  .by_cases y:b=a
   .exact .inr ⟨_,_,c_ y⟩
   .exact .inl (hI y)
  .by_cases y:b=a
   .have z':=(c_ y).symm.trans z;cases z';subst y;exact⟨U,by rw[yP];exact hl,O,_,rv,U⟩
   .have z':=(hI y).symm.trans z;cases z'
  .by_cases y:b=a
   .exact y
   .exact absurd (hI y) z
abbrev o_{K:g_}{h:Heap}(_:K.In h):g_:=K
def B1{l:PySem.W.OpenLaw}{n k:Nat}{q:Program}{loose:RM}{XP:(Str->RW)->Heap->Prop}{S:World->Heap->Prop}{d:DefRec}{K:Params->g_}{CX:World->Bi}{sp:World->Sp}{x:Str}(hn:l.most=J n)(M:n<=sizeLine)(Q:d.params.defaults=[])(hr:Room k callerA)(hi:PyProof.Rows.importsNone q=I)(C:l.prog.given.tree=Y)(hY:∀(w:World)(h:Heap),S w h->(K w.params).In h)(F:∀(w:World)(mg:RD)(B:Addr)(h:Heap),(K w.params).In h->h.Ns mainGlobals mg->mg d.name=J (.ref B) ->
   ∃fd:FuncData,(∀(s:Shared)(u:Value),BindsTo s fd ⟨[u],[]⟩ [(x,u)]) /\
    ∀base:Heap,(K w.params).In base->base.Ns mainGlobals mg->FnOk l.prog w (K w.params) mg base (CX w) k B fd [x] (sp w))(E:∀(w:World)(H:Hp)(a:Addr)(ns:RN),ns.length<=n->FH H->SqL (K w.params) H a (ns.map V.int)->sp w [.ref a] H (λv _=>v=.bl I) λ_ _ _=>False)(R:∀(w:World)(H:Hp)(s:Shared)(e:Value)(P:Shared),CX w [] H s (λ_ _ _=>False) e P->False):
  PySem.W.WalkO q loose XP S l.row.toRowW d [] (λf W=>PySem.call f W):=by
 refine Att.t6 hn Q λw s₀ z mg mb B o pm cd ab a W ns G O ho hd Z L y j i hg=>?_;have U:=hY w _ O;obtain⟨fd,hb,X⟩:=F w mg B _ U G.T.g L;exact zp U G.T.g G.T.b G.T.builtins G.T.nolimit (G.T.seer hi) C hg y j (pu i M) hr X hb (λH hO hS=>E w H a ns i hO hS) λH e P=>R w H z e P
def fK(s:Stmt):Arguments:=match s with
 |.FunctionDef _ a _ _ _ _ _ _ _ _=>a
 |_=>{ posonlyargs:=[],args:=[],vararg:=Y,kwonlyargs:=[],kw_defaults:=[],kwarg:=Y,defaults:=[]}
def aH(s:Stmt):RF:=match s with
 |.FunctionDef _ _ b _ _ _ _ _ _ _=>b
 |_=>[]
def ah(s:Stmt):Scope:=match s with
 |.FunctionDef _ _ _ _ _ _ a _ _ _=>a
 |_=>{ kind:=.function,names:=[],isGenerator:=T,isCoroutine:=T}
abbrev Io:Bi:=λ_ _ _ _ _ _=>False
structure Fun(K:g_)(x qual:Str)(st:Stmt)(f:Addr)(fd:FuncData):Prop where
 ex:∃(oc:Value)(od:RG)(kV doc pm:Value)(an:RG)(cdv ct:Value)(osl:Array (RW)),
  fd=PySem.W.fnOf x qual (fK st) (aH st) (ah st) .none kV doc pm an cdv ct/\K.lookup f=J ⟨oc,od,.func fd,osl⟩/\PySem.W.codeIn K cdv qual=I
 kp:PySem.W.keepIn K (.ref f)=I
section
variable{P:Program}{w:World}{K:g_}{mg:RD}{base:Heap}
def Fun.ok{x a:Str}{st:Stmt}{f:Addr}{fd:FuncData}{N u:RM}{k:Nat}{z:Sp}(F:Fun K x a st f fd)(S:o0 N u (ah st))(len:∀vs H Q E,z vs H Q E->vs.length=u.length)(j:∀(i:Value)(A:Around)(outer:List Env)(s:Shared)(H:Hp)(vs:List V)(Q:VK)(E:XK),Room k (A.deeper (envOfC a (ah st) s.heap.objs.size f i))->z vs H Q E ->
   ∃t,PSs (oZ Io P w K mg base N a (ah st) f i A outer s H E).nox (aH st) t/\t { nx:=λ_ B=>Q .non B,rt:=Q} (start N vs) H):FnOk P w K mg base Io (k+1) f fd u z:=by
 obtain⟨M,L,kV,C,pm,O,i,ct,G,rfl,lk,l⟩:=F.ex;refine DX lk l S len λA outer s H vs Q E hr y=>?_;obtain⟨t,h,q⟩:=j i A outer s H vs Q E hr y;exact⟨t,h.nox,q⟩
def Fun.binds{x a:Str}{st:Stmt}{f:Addr}{fd:FuncData}{l:RM}(F:Fun K x a st f fd)(h:∀(kV j pm:Value)(u:RG)(i ct:Value)(y:RU),y.length=l.length->bindArgs (PySem.W.fnOf x a (fK st) (aH st) (ah st) .none kV j pm u i ct) ⟨y,[]⟩=pure (l.zip y)):jS K fd l []:=by
 obtain⟨E,C,kV,j,pm,u,i,ct,B,rfl,lk,z⟩:=F.ex;exact .all (h kV j pm u i ct)
def w4{x qual:Str}{st:Stmt}{f:Addr}{z:Value}{y u:RG}{j:Array (RW)}{kV i pm a ct:Value}(l:K.lookup f=J ⟨z,y,.func (PySem.W.fnOf x qual (fK st) (aH st) (ah st) .none kV i pm u a ct),j⟩)(c:PySem.W.codeIn K a qual=I)(k:PySem.W.keepIn K (.ref f)=I):Fun K x qual st f (PySem.W.fnOf x qual (fK st) (aH st) (ah st) .none kV i pm u a ct):=⟨⟨z,y,kV,i,pm,u,a,ct,j,rfl,l,c⟩,k⟩
end
def KD{α:Type}:Sem α->Prop
 |.pure _=>True
 |.raise _=>True
 |.unsupported _=>True
 |.finish _=>True
 |.rule _ k=>KD (k ())
 |.at _ k=>KD (k ())
 |.load _ _ k=>∀o,KD (k o)
 |.update _ _ f k=>(∀o,(f o).dict=o.dict)/\KD (k ())
 |.alloc _ k=>∀a,KD (k a)
 |.loadIfAlive _ k=>∀o,KD (k o)
 |.point _ k=>KD (k ())
 |.fresh k=>∀t,KD (k t)
 |.ask k=>∀t,KD (k t)
 |.handled _ k=>∀t,KD (k t)
 |.stack k=>∀t,KD (k t)
 |.thread k=>∀t,KD (k t)
 |.register _ _=>True
 |_=>False
def DK(e:Addr)(d:RG)(h:Heap):Prop:=∃o,h.objs[e]?=J o/\o.dict=d
def DK.push{e:Addr}{d:RG}{h:Heap}(k:DK e d h)(o:Obj):DK e d (h.push o):=by
 obtain⟨u,e1,e2⟩:=k
 exact⟨u,by
  have:=(Array.getElem?_eq_some_iff.mp e1).1
  show(h.objs.push o)[e]?=_;rw[Array.getElem?_push_lt this];rw[Array.getElem?_eq_getElem this]at e1
  exact e1,e2⟩
def DK.upd{e a:Addr}{d:RG}{h:Heap}{f:Obj->Obj}(k:DK e d h)(hf:∀o,(f o).dict=o.dict):DK e d (h.update a f):=by
 obtain⟨u,e1,e2⟩:=k
 cases h with
 |mk i =>
  by_cases z:a=e
  .subst z;exact⟨f u,by simp only[Heap.update,Qh,if_true];rw[show i[a]?=J u from e1];rfl,(hf u).trans e2⟩
  .exact⟨u,by simp only[Heap.update,Qh,hI z];exact e1,e2⟩
def KD.keep{α:Type}{M:Model}{Γ:PySem.Ctx}{e:Addr}{d:RG}{Q:α->Pos->Shared->Prop}{E:Value->Pos->Shared->Prop}:
  ∀(t:Sem α)(p:Pos)(s:Shared),KD t->DK e d s.heap->Sem.wp M Γ t Q E p s->Sem.wp M Γ t (λa p j=>Q a p j/\DK e d j.heap) (λv p j=>E v p j/\DK e d j.heap) p s:=by
 intro t
 induction t with
 |pure a=>intro p s _ k w;rw[Sem.wp]at w ⊢;exact⟨w,k⟩
 |raise v=>intro p s _ k w;rw[Sem.wp]at w ⊢;exact⟨w,k⟩
 |unsupported _=>intro p s _ k w;rw[Sem.wp]at w;exact w.elim
 |finish _=>intro p s _ k w;rw[Sem.wp]at w;exact w.elim
 |rule _ k i=>intro p s h g w;rw[Sem.wp]at w ⊢;exact i () p s h g w
 | «at» _ k i=>intro p s h g w;rw[Sem.wp]at w ⊢;exact i () _ s h g w
 |load a _ k i=>intro p s h g w;rw[Sem.wp]at w ⊢;obtain⟨o,e1,w⟩:=w;exact⟨o,e1,i o p s (h o) g w⟩
 |update a _ f k i=>intro p s h g w;rw[Sem.wp]at w ⊢;exact⟨w.1,i () p _ h.2 (g.upd h.1) w.2⟩
 |alloc o k i=>intro p s h g w;rw[Sem.wp]at w ⊢;exact i _ p _ (h _) (g.push o) w
 |loadIfAlive a k i=>intro p s h g w;rw[Sem.wp]at w ⊢;exact i _ p s (h _) g w
 |point _ k i=>intro p s h g w;rw[Sem.wp]at w ⊢;exact i () p s h g w
 |fresh k i=>intro p s h g w;rw[Sem.wp]at w ⊢;exact i _ p _ (h _) g w
 |ask k i=>intro p s h g w;rw[Sem.wp]at w ⊢;exact i _ p s (h _) g w
 |handled _ k i=>intro p s h g w;rw[Sem.wp]at w ⊢;exact i _ p s (h _) g w
 |stack k i=>intro p s h g w;rw[Sem.wp]at w ⊢;exact i _ p s (h _) g w
 |thread k i=>intro p s h g w;rw[Sem.wp]at w ⊢;exact i _ p s (h _) g w
 |register _ k i=>intro p s h g w;rw[Sem.wp]at w;exact w.elim
 |_=>intro p s h;exact h.elim
def KD.any{α:Type}{M:Model}{A:Around}{t:Sem α}{e:Addr}{d:RG}{Q:α->Shared->Prop}{E:RC}{s:Shared}(h:KD t)(k:DK e d s.heap)(w:wpAny M A t Q E s):
  wpAny M A t (λa i=>Q a i/\DK e d i.heap) (λv i=>E v i/\DK e d i.heap) s:=λΓ p hg=>KD.keep t p s h k (w Γ p hg)
def du{α β:Type}:∀{m:Sem α}{f:α->Sem β},KD m->(∀a,KD (f a))->KD (m >>= f):=by
 intro m;show ∀{f:α->Sem β},KD m->(∀a,KD (f a))->KD (m.bind f)
 induction m with
 |pure a=>intro f _ h;exact h a
 |raise v=>intro f _ h;trivial
 |unsupported _=>intro f _ h;trivial
 |finish _=>intro f _ h;trivial
 |rule _ k i=>intro f g h;exact i () g h
 | «at» _ k i=>intro f g h;exact i () g h
 |load a _ k i=>intro f g h;exact λo=>i o (g o) h
 |update a _ u k i=>intro f g h;exact⟨g.1,i () g.2 h⟩
 |alloc o k i=>intro f g h;exact λo=>i o (g o) h
 |loadIfAlive a k i=>intro f g h;exact λo=>i o (g o) h
 |point _ k i=>intro f g h;exact i () g h
 |fresh k i=>intro f g h;exact λo=>i o (g o) h
 |ask k i=>intro f g h;exact λo=>i o (g o) h
 |handled _ k i=>intro f g h;exact λo=>i o (g o) h
 |stack k i=>intro f g h;exact λo=>i o (g o) h
 |thread k i=>intro f g h;exact λo=>i o (g o) h
 |register _ k i=>intro f g h;trivial
 |_=>intro f g;exact g.elim
def FI{α:Type}{c:Prop}[Decidable c]{a b:Sem α}(j:KD a)(i:KD b):KD (if c then a else b):=by
 split
 .exact j
 .exact i
def oK(f:Array Value->Array Value)(o:Obj):(Obj.mapFields f o).dict=o.dict:=by obtain⟨c,d,x,s⟩:=o;cases x<;>rfl
def oy(a:Addr):KD (load a):=λo=>trivial
def tW(a:Addr)(i:Nat)(v:Value):KD (updateField a i v):=by
 unfold updateField;refine du (oy a) λo=>?_;split
 .exact FI ⟨λo=>oK _ o,trivial⟩ trivial
 .trivial
def mj(v:Value)(i:Nat)(x:Value):KD (setField v i x):=by
 unfold setField;split
 .exact tW _ _ _
 .trivial
local macro_rules | `(tactic| injections) => `(tactic| repeat' (first | trivial | assumption | exact mj _ _ _ | exact oy _ | exact kd_pure _ | refine du ?_ λ_=>?_ | split | exact⟨λ_=>rfl,trivial⟩ | (intro _)))
def kA(v:Value)(i:Nat):KD (PySem.field v i):=by
 have h:KD (fieldsOf v):=by unfold fieldsOf;injections
 unfold PySem.field
 injections
def ip(v:Value)(f:RG):KD (setFlight v f):=by
 unfold setFlight;refine du (kA _ _) λ_=>?_
 injections
def B2(env:Env)(b:Bool):∀l,KD (keptBack env b l):=by
 have h:KD underTheClaimsCaller:=by unfold underTheClaimsCaller;injections
 intro l;cases l<;>unfold keptBack<;>injections
def wP(env:Env)(l:List Env):KD (behindIsImport env l):=by
 have h:=kA env.code 12;unfold behindIsImport
 injections
def sU:∀l:List Env,KD (readyFrames l)
 |[]=>trivial
 |env::outer=>by
  have j:=sU outer;have u:=wP env outer;have i:∀b,KD (keptBack env b outer):=λb=>B2 env b outer;unfold readyFrames
  repeat' (first | trivial | assumption | exact i _ | exact oy _ | exact a _ | refine du ?_ λ_=>?_ | split | exact⟨λ_=>rfl,trivial⟩)
def rB:KD stack:=λ_=>trivial
def vh(env:Env):KD (PySem.frameOf env):=by
 have h:KD frameEnvs:=by unfold frameEnvs;exact du rB λ_=>trivial
 have i:∀l,KD (frameObject l):=λl=>by
  cases l with
  |nil=>trivial
  |cons a l=>unfold frameObject;exact du (sU _) λ_=>trivial
 unfold PySem.frameOf;refine du h λ_=>du (i _) λ_=>?_
 split<;>trivial
def yj(c:Value)(x:Data)(d:RG):KD (newObj c x d):=by
 unfold newObj
 injections
def zA(f:Addr)(b:Bool):KD (entryPlaceOf f b):=by
 unfold entryPlaceOf;refine du rB λ_=>?_
 split<;>trivial
def uT(e:Value)(env:Env):KD (noteFrame e env):=by
 have u:=kA e 1;have j:∀v,KD (PySem.field v 3):=λv=>kA v 3;have l:=vh env;have i:∀f b,KD (entryPlaceOf f b):=zA;unfold noteFrame EntryCells.newEntry newFields
 repeat' (first | trivial | assumption | exact j _ | exact i _ _ | exact yj _ _ _ | exact mj _ _ _ | exact a _ | refine du ?_ λ_=>?_ | split)
def vS(env:Env)(e:Value):KD (leaving env e):=du (uT e env) λ_=>ip e Y
end L2
namespace MM
open PySem.Spec PyProof.Rows L2
inductive PV where
 |non | bl (b:Bool) | int (i:Int) | str (x:Str) | tup (xs:List PV) | frl (xs:List PV) | loc (n:Nat)
abbrev _root_.RL:=List PV
abbrev _root_.RK:=Option PV
structure qx where
 cls:Str
 fs:List (Str×PV):=[]
inductive MO where
 |lst(xs:RL)
 |dic(fz:Bool)(ks:RN)(xs:RL)
 |exc(x:qx)
def MO.fzd:MO->Bool
 |.dic fz _ _=>fz
 |_=>T
abbrev MH:=List MO
abbrev lR:=List (RK)
inductive Out(α:Type) where
 |ok(a:α)(h:MH)
 |exc(x:qx)(h:MH)
 |bad
abbrev _root_.RB:=Out PV
def Out.bind{α β:Type}(o:Out α)(f:α->MH->Out β):Out β:=match o with
 |.ok a h=>f a h
 |.exc x h=>.exc x h
 |.bad=>.bad
@[simp]theorem Out.bind_ok(a:α)(h:MH)(f:α->MH->Out β):(Out.ok a h).bind f=f a h:=rfl
@[simp]theorem Out.bind_exc(x:qx)(h:MH)(f:α->MH->Out β):(Out.exc x h).bind f=.exc x h:=rfl
@[simp]theorem Out.bind_bad(f:α->MH->Out β):(Out.bad:Out α).bind f=.bad:=rfl
inductive SOut where
 |nx(Z:lR)(h:MH)
 |rt(v:PV)(h:MH)
 |bk(Z:lR)(h:MH)
 |ct(Z:lR)(h:MH)
 |exc(x:qx)(Z:lR)(h:MH)
 |rse(x:qx)(Z:lR)(h:MH)
 |bad
def Out.ne{α:Type}(o:Out α):Out α:=match o with
 |.exc _ _=>.bad
 |o=>o
@[simp]theorem Out.ne_ok(a:α)(h:MH):(Out.ok a h).ne=.ok a h:=rfl
@[simp]theorem Out.ne_bad:(Out.bad:Out α).ne=.bad:=rfl
@[simp]theorem Out.ne_ne(o:Out α):o.ne.ne=o.ne:=by cases o<;>rfl
def SqF(K:g_)(H:Hp)(a:Addr)(ys:List V):Prop :=
 (∃o,H a=J (.frz o (.lst ys))) \/
  ∃(o:Obj) (i:Array Value) (n:Nat),K.lookup a=J o/\o.cls=.type "list"/\o.dict=Y/\o.data=.seq i n/\i.size<=sizeLine/\aL ys i.toList
def SqF.sq{K:g_}{H:Hp}{a:Addr}{ys:List V}(h:SqF K H a ys):SqL K H a ys:=by
 rcases h with h|h
 .exact .inl (.inr h)
 .exact .inr h
mutual
inductive RP(K:g_)(U:RT)(H:Hp):PV->V->Prop where
 |non:RP K U H .non .non
 |bl(b:Bool):RP K U H (.bl b) (.bl b)
 |int(i:Int):RP K U H (.int i) (.int i)
 |str(x:Str):RP K U H (.str x) (.str x)
 |tup{xs:RL}{a:Addr}{ys:List V}(s:SqT K H a ys)(r:RPs K U H xs ys):RP K U H (.tup xs) (.ref a)
 |frl{xs:RL}{a:Addr}{ys:List V}(s:SqF K H a ys)(r:RPs K U H xs ys):RP K U H (.frl xs) (.ref a)
 |loc{n:Nat}{a:Addr}(e:U[n]?=J a):RP K U H (.loc n) (.ref a)
inductive RPs(K:g_)(U:RT)(H:Hp):RL->List V->Prop where
 |nil:RPs K U H [] []
 |cons{x:PV}{y:V}{xs:RL}{ys:List V}(r:RP K U H x y)(t:RPs K U H xs ys):RPs K U H (x::xs) (y::ys)
end
structure Le(U:RT)(H:Hp)(U':RT)(H':Hp):Prop where
 pre:∃m,U'=U++m
 tup:∀a xs,H a=J (.tup xs)->H' a=J (.tup xs)
 frz:∀a o u,H a=J (.frz o u)->H' a=J (.frz o u)
def Le.refl(U:RT)(H:Hp):Le U H U H:=⟨⟨[],by simp⟩,λ_ _ h=>h,λ_ _ _ h=>h⟩
def Le.trans(a:Le U H U1 H1)(b:Le U1 H1 U2 H2):Le U H U2 H2:=by obtain⟨m,e⟩:=a.pre;obtain⟨i,j⟩:=b.pre;exact⟨⟨m++i,by rw[j,e,A7]⟩,λc xs h=>b.tup c xs (a.tup c xs h),λc o u h=>b.frz c o u (a.frz c o u h)⟩
def Le.get{U i:RT}{H j:Hp}(l:Le U H i j){n:Nat}{a:Addr}(e:U[n]?=J a):i[n]?=J a:=by obtain⟨m,u⟩:=l.pre;rw[u,qp (pj.mp e).1];exact e
def Le.sqt{K:g_}{U j:RT}{H i:Hp}(l:Le U H j i){a:Addr}{xs:List V}(h:SqT K H a xs):SqT K i a xs:=by
 rcases h with(h|⟨o,h⟩)|h
 .exact .inl (.inl (l.tup _ _ h))
 .exact .inl (.inr ⟨o,l.frz _ _ _ h⟩)
 .exact .inr h
def Le.sqf{K:g_}{U j:RT}{H i:Hp}(l:Le U H j i){a:Addr}{xs:List V}(h:SqF K H a xs):SqF K i a xs:=by
 rcases h with⟨o,h⟩|h
 .exact .inl ⟨o,l.frz _ _ _ h⟩
 .exact .inr h
section
variable{K:g_}{U U':RT}{H H':Hp}
def RP.le(l:Le U H U' H'){x:PV}{y:V}(r:RP K U H x y):RP K U' H' x y :=
 RP.rec .non .bl .int .str (λs _ i=>.tup (l.sqt s) i) (λs _ i=>.frl (l.sqf s) i) (λe=>.loc (l.get e)) .nil (λ_ _ a b=>.cons a b) r
def RPs.le(l:Le U H U' H')(r:RPs K U H xs ys):RPs K U' H' xs ys:=by
 induction xs generalizing ys with
 |nil=>cases r;exact .nil
 |cons x xs i=>cases r with|cons a t=>exact .cons (a.le l) (i t)
def RPs.length(r:RPs K U H xs ys):xs.length=ys.length:=by
 induction xs generalizing ys with
 |nil=>cases r;rfl
 |cons x xs i=>cases r with|cons a t=>exact congrArg (·+1) (i t)
def RPs.get{xs:RL}{ys:List V}{i:Nat}{x:PV}(r:RPs K U H xs ys)(e:xs[i]?=J x):∃y,ys[i]?=J y/\RP K U H x y:=by
 induction xs generalizing ys i with
 |nil=>cases e
 |cons x xs j =>
  cases r with
  |cons a t =>
   cases i with
   |zero=>cases e;exact⟨_,rfl,a⟩
   |succ i=>have z:=@j _ i t e;exact z
def RPs.set(r:RP K U H x u)(i:Nat)(q:RPs K U H xs us):RPs K U H (xs.set i x) (us.set i u):=by
 induction xs generalizing us i with
 |nil=>cases q;exact .nil
 |cons x xs j =>
  cases q with
  |cons a t =>
   cases i with
   |zero=>exact .cons r t
   |succ i=>exact .cons a (j i t)
def RPs.append(r:RPs K U H xs us)(s:RPs K U H ys ws):RPs K U H (xs++ys) (us++ws):=by
 induction xs generalizing us with
 |nil=>cases r;exact s
 |cons x xs i=>cases r with|cons a t=>exact .cons a (i t)
def RPs.take(n:Nat)(r:RPs K U H xs us):RPs K U H (xs.take n) (us.take n):=by
 induction n generalizing xs us with
 |zero=>exact .nil
 |succ n i =>
  cases xs with
  |nil=>cases r;exact .nil
  |cons x xs=>cases r with|cons a t=>exact .cons a (i t)
def RPs.drop(n:Nat)(r:RPs K U H xs us):RPs K U H (xs.drop n) (us.drop n):=by
 induction n generalizing xs us with
 |zero=>exact r
 |succ n i =>
  cases xs with
  |nil=>cases r;exact .nil
  |cons x xs=>cases r with|cons a t=>exact i t
def RPs.ints:∀(ns:RN),RPs K U H (ns.map PV.int) (ns.map V.int)
 |[]=>.nil
 |n::r=>.cons (.int n) (RPs.ints r)
end
def dz(a C:Addr)(h:Heap):Prop:=∃o i,h.get? a=J o/\o.cls=.ref C/\o.data=.fields i
abbrev Aq:=Str->RW
def kz(a:RN)(ys:List V):List (q_×V):=(a.map Sum.inl).zip ys
def dO(fz:Bool)(a:Option HO)(u:HO):Prop:=match fz with
 |false=>a=J u
 |true=>∃o,a=J (.frz o u)
def RO(K:g_)(mg:Aq)(U:RT)(H:Hp)(a:Addr):MO->Option HO->Prop
 |.lst xs,i=>∃ys,i=J (.lst ys)/\RPs K U H xs ys
 |.dic fz j xs,i=>∃ys:List V,ys.length=j.length/\RPs K U H xs ys/\dO fz i (.dK (kz j ys))
 |.exc x,i=>x.fs=[]/\∃C,mg x.cls=J (.ref C)/\i=J (.ext (dz a C))
def lu{fz:Bool}{P:Program}{w:World}{H:Hp}{h:Heap}{a:Addr}{i:List (q_×V)}(ok:HOk P w H h)(e:dO fz (H a) (.dK i)):i.length<=sizeLine/\(a==sysModules)=T/\∃j,KV i j/\h.DictOf (eX P w) a j:=by
 cases fz with
 |false=>exact(ok a _ e)
 |true =>
  obtain⟨o,e⟩:=e;exact(ok a _ e).2
structure RH(K:g_)(mg:Aq)(U:RT)(H:Hp)(h:MH):Prop where
 len:U.length=h.length
 nd:U.Nodup
 at':∀(n:Nat)(a:Addr)(o:MO),U[n]?=J a->h[n]?=J o->RO K mg U H a o (H a)
def RO.le{K:g_}{mg:Aq}{U u:RT}{H i:Hp}{a:Addr}(l:Le U H u i){o:MO}{j:Option HO}(r:RO K mg U H a o j):RO K mg u i a o j:=by
 cases o with
 |lst xs=>obtain⟨ys,e,r⟩:=r;exact⟨ys,e,r.le l⟩
 |dic fz y xs=>obtain⟨ys,e,r,q⟩:=r;exact⟨ys,e,r.le l,q⟩
 |exc x=>exact r
def RO.some{K:g_}{mg:Aq}{U:RT}{H:Hp}{a:Addr}{o:MO}{i:Option HO}(r:RO K mg U H a o i):i≠Y:=by
 cases o with
 |lst xs=>obtain⟨ys,e,_⟩:=r;rw[e];simp
 |dic fz j xs =>
  obtain⟨ys,_,_,q⟩:=r
  cases fz with
  |false=>rw[show i=_ from q];simp
  |true=>obtain⟨o,q⟩:=q;rw[q];simp
 |exc x=>obtain⟨_,C,_,e⟩:=r;rw[e];simp
def RO.plain{K:g_}{mg:Aq}{U:RT}{H:Hp}{a:Addr}{o:MO}{i:Option HO}(r:RO K mg U H a o i)(hf:o.fzd=T):(∀xs,i≠Option.some (.tup xs))/\∀p u,i≠Option.some (.frz p u):=by
 cases o with
 |lst xs=>obtain⟨ys,e,_⟩:=r;rw[e];exact⟨(λ_ z=>nomatch z),(λ_ _ z=>nomatch z)⟩
 |dic fz j xs =>
  obtain⟨ys,_,_,q⟩:=r
  cases fz with
  |false=>rw[show i=_ from q];exact⟨(λ_ z=>nomatch z),(λ_ _ z=>nomatch z)⟩
  |true=>cases hf
 |exc x=>obtain⟨_,C,_,e⟩:=r;rw[e];exact⟨(λ_ z=>nomatch z),(λ_ _ z=>nomatch z)⟩
section
variable{K:g_}{mg:Aq}{U:RT}{H:Hp}{h:MH}
def RH.obj(r:RH K mg U H h){n:Nat}{a:Addr}(e:U[n]?=J a):∃o,h[n]?=J o/\RO K mg U H a o (H a):=by
 have i:n<h.length:=by rw[<-r.len];exact(pj.mp e).1
 exact⟨h[n],by simp,r.at' n a _ e (by simp)⟩
def RH.new(r:RH K mg U H h){p:Addr}(C:H p=Y){o:MO}{ho:HO}(G:RO K mg U H p o (J ho)):RH K mg (U++[p]) (upd H p ho) (h++[o])/\Le U H (U++[p]) (upd H p ho):=by
 have j:∀n a,U[n]?=J a->a≠p:=λn a e z=>by
  obtain⟨F,_,q⟩:=r.obj e;rw[z,C]at q;exact q.some rfl
 have l:Le U H (U++[p]) (upd H p ho):=⟨⟨[p],rfl⟩,λa xs e=>by rw[aB (br e C)];exact e,λa O u e=>by rw[aB (br e C)];exact e⟩;refine⟨⟨by simp[r.len],?_,λn a F e1 e2=>?_⟩,l⟩
 .rw[L_];refine⟨r.nd,by simp,λa M b L=>?_⟩;obtain⟨n,e⟩:=Qi.mp M;have B:b=p:=by simpa using L
  rw[B];exact j n a e
 .by_cases i:n<U.length
  .rw[qp i]at e1;rw[qp (by rw[<-r.len];exact i)]at e2;rw[aB (j n a e1)];exact(r.at' n a F e1 e2).le l
  .rw[AE ⋯]at e1;rw[AE (by rw[<-r.len];lia)]at e2;have E:n-U.length=0:=by
    grind
   rw[E]at e1;have y:n-h.length=0:=by have:=r.len;lia
   rw[y]at e2;simp at e1 e2;subst e1;subst e2;rw[aN];exact G.le l
def RH.put(r:RH K mg U H h){n:Nat}{a:Addr}(e:U[n]?=J a){o:MO}{ho:HO}(C:RO K mg U H a o (J ho))(hd:∃j,h[n]?=J j/\j.fzd=T:=by exact⟨_,by assumption,rfl⟩):RH K mg U (upd H a ho) (h.set n o)/\Le U H U (upd H a ho):=by
 obtain⟨j,y,q⟩:=r.obj e;obtain⟨W,i,hf⟩:=hd;rw[i]at y;cases y;obtain⟨L,E⟩:=q.plain hf
 have l:Le U H U (upd H a ho):=⟨⟨[],by simp⟩,λb xs z=>by
   have:b≠a:=by rintro rfl;exact L _ z
   rw[aB this];exact z,λb S u z=>by
   have:b≠a:=by rintro rfl;exact E _ _ z
   rw[aB this];exact z⟩
 refine⟨⟨by simp[r.len],r.nd,λm b G e1 e2=>?_⟩,l⟩;by_cases hm:m=n
 .subst hm;rw[e]at e1;cases e1;rw[aN]
  have:m<h.length:=by rw[<-r.len];exact(pj.mp e).1
  rw[u_ this]at e2;cases e2;exact C.le l
 .rw[mA (λz=>hm z.symm)]at e2;have F:b≠a:=by
   rintro rfl;have P:=pj.mp e;have O:=pj.mp e1;obtain⟨R,B⟩:=P;obtain⟨Q,M⟩:=O;exact hm ((List.getElem_inj r.nd).mp (M.trans B.symm))
  rw[aB F];exact(r.at' m b G e1 e2).le l
def RH.tup(r:RH K mg U H h){p:Addr}(i:H p=Y)(ys:List V):RH K mg U (upd H p (.tup ys)) h/\Le U H U (upd H p (.tup ys)):=by
 have j:∀n a,U[n]?=J a->a≠p:=λn a e z=>by
  obtain⟨y,_,q⟩:=r.obj e;rw[z,i]at q;exact q.some rfl
 have l:Le U H U (upd H p (.tup ys)):=⟨⟨[],by simp⟩,λa xs e=>by rw[aB (br e i)];exact e,λa B u e=>by rw[aB (br e i)];exact e⟩;exact⟨⟨r.len,r.nd,λn a o e1 e2=>by rw[aB (j n a e1)];exact(r.at' n a o e1 e2).le l⟩,l⟩
end
def RS(K:g_)(U:RT)(H:Hp)(a:lR)(Z:L2.St):Prop :=
 Z.length=a.length/\∀(i:Nat)(v:PV),a[i]?=J (J v)->∃j,Z[i]?=J (J j)/\RP K U H v j
def RS.le{K:g_}{U a:RT}{H j:Hp}{σp:lR}{Z:L2.St}(l:Le U H a j)(r:RS K U H σp Z):RS K a j σp Z :=
 ⟨r.1,λi v e=>by obtain⟨u,y,q⟩:=r.2 i v e;exact⟨u,y,q.le l⟩⟩
def RS.set{K:g_}{U:RT}{H:Hp}{a:lR}{Z:L2.St}(r:RS K U H a Z)(i:Nat){v:PV}{l:V}(q:RP K U H v l):RS K U H (a.set i (J v)) (Z.set i (J l)):=by
 refine⟨by simp[r.1],λj u e=>?_⟩;by_cases y:j=i
 .subst y;by_cases hl:j<a.length
  .rw[u_ hl]at e;cases e;exact⟨l,u_ (by rw[r.1];exact hl),q⟩
  .rw[Bf (by simp;lia)]at e;cases e
 .rw[mA (λz=>y z.symm)]at e;obtain⟨C,B,E⟩:=r.2 j u e;exact⟨C,by rw[mA (λz=>y z.symm)];exact B,E⟩
def Ql(B:Heap)(fs:RT)(h:Heap):Prop:=∀b o,h.get? b=J o->b∉fs->∃a,B.get? b=J a
def Od(l:List Env)(H:Hp)(a:Heap)(C i:Addr)(h:Heap):Prop :=
 ∃B t,Heap.FlyingW B l i (.ref C) (.ref t) h/\(∀b o,H b=J o->∃j,B.get? b=J j)/\Ql B (wv l) a/\H i=Y
structure Bj(X:Cx)(h:Heap):Prop where
 old:∀b o,X.s₀.heap.get? b=J o->b∉X.ex->∃o',h.get? b=J o'
 cell:∀x c,X.env.cells.lookup x=J c->∃o,h.get? c=J o
 pin:∀p∈X.pn,∃o,h.get? p.1=J o
def Inv.bears{X:Cx}{l:RV}{Z:L2.St}{H:Hp}{s:Shared}(a:Inv X l Z H s):Bj X s.heap :=
 ⟨λb o e n=>a.base.there b o e n,λx c e=>let⟨_,o,i,_⟩:=a.cell x c e;⟨o,i⟩,λp j=>⟨_,(a.pin p (Bx _ j)).1⟩⟩
def FD(d:Addr)(f:Str)(i:Int)(h:Heap):Prop:=∃t,h.Ns1 d (λy=>if y=f then J (.int i t)else Y)
def Mq(x:qx)(H:Hp)(a:RG):Prop:=x.fs=[]/\a=Y\/∃f i d,x.fs=[(f,PV.int i)]/\a=J d/\H d=J (.ext (FD d f i))
def DvA(a:RG)(e:Addr)(h:Heap):Prop:=∀d,a=J d->L2.DK e (J d) h
def DvA.none{e:Addr}{h:Heap}:DvA Y e h:=λd z=>by cases z
def wS{M:Model}{A:Around}{env:Env}{e:Addr}{i:RG}{Q:Unit->Shared->Prop}{E:RC}{s:Shared}(hd:DvA i e s.heap)(w:wpAny M A (leaving env (.ref e)) (λu a=>DvA i e a.heap->Q u a) E s):wpAny M A (leaving env (.ref e)) Q E s:=by
 cases i with
 |none=>exact wpAny_mono w (λu a h=>h DvA.none) λ_ _ h=>h
 |some d=>exact wpAny_mono (L2.KD.any (L2.vS _ _) (hd d rfl) w) (λu a h=>h.1 λj z=>by cases z;exact h.2) λ_ _ h=>h.1
def XP(X:Cx)(y:lR)(U:RT)(H:Hp)(x:qx)(h:MH):Prop:=∀(l C:Addr)(u:RT)(a:Hp)(B:L2.St)(j:Shared)(i:Heap)(z:RG),Mq x a z->X.mg x.cls=J (.ref C)->Le U H u a->RH X.K X.mg u a h->RS X.K u a y B ->
 Inv X [] B a j->Bj X i->Od X.stack a i C l j.heap->DvA z l j.heap->X.xe (.ref l) j
structure MadeX(h h':Heap)(e C:Addr):Prop where
 keeps:∀b o,h.get? b=J o->h'.get? b=J o
 new:h.get? e=Y
 there:∃t dx,h'.get? e=J { cls:=.ref C,dict:=dx,data:=.fields #[.ref t,.none,.none,.none,.bool T,.none]}
def MadeX.of{h i:Heap}{e C:Addr}{a:RU}(m:Heap.MadeExcOf h i e (.ref C) a):MadeX h i e C:=⟨m.keeps,m.new,let⟨t,j,_,_⟩:=m.there;⟨t,Y,j⟩⟩
def XM(X:Cx)(u:lR)(U:RT)(H:Hp)(x:qx)(h:MH):Prop:=∀(j C:Addr)(l:RT)(a:Hp)(B:L2.St)(i:Shared)(z:Heap)(y:RG),Mq x a y->X.mg x.cls=J (.ref C)->Le U H l a->RH X.K X.mg l a h->RS X.K l a u B ->
 Inv X [] B a { i with heap:=z}->MadeX z i.heap j C->DvA y j i.heap->X.xe (.ref j) i
def XP.le(l:Le U H U' H')(q:XP X σp U H x h):XP X σp U' H' x h :=
 λi C B z j E a u e1 e2 y=>q i C B z j E a u e1 e2 (l.trans y)
def XM.le(l:Le U H U' H')(q:XM X σp U H x h):XM X σp U' H' x h :=
 λi C B z j E a u e1 e2 y=>q i C B z j E a u e1 e2 (l.trans y)
abbrev Rl(α β:Type):=RT->Hp->α->β->Prop
def Ful{α β:Type}(X:Cx)(R:Rl α β)(i:lR)(U:RT)(H:Hp)(o:Out α)(Q:β->Hp->Prop):Prop:=match o with
 |.ok v j=>∀l a u,Le U H l a->RH X.K X.mg l a j->R l a v u->Q u a
 |.exc x j=>XP X i U H x j
 |.bad=>False
def ij{α β:Type}(X:Cx)(R:Rl α β)(U:RT)(H:Hp)(o:Out α)(Q:β->Hp->Prop):Prop:=match o with
 |.ok v l=>∀i a j,Le U H i a->RH X.K X.mg i a l->R i a v j->Q j a
 |_=>False
def Ful.zero(f:Ful X R σp U H o.ne Q):ij X R U H o Q:=by
 cases o with
 |ok v h=>exact f
 |exc x h=>exact f
 |bad=>exact f
def Ful.le(l:Le U H U1 H1)(f:Ful X R σp U H o Q):Ful X R σp U1 H1 o Q:=by
 cases o with
 |ok v h=>exact λa i j u=>f a i j (l.trans u)
 |exc x h=>exact XP.le l f
 |bad=>exact f
def Ful.bind{α β γ δ:Type}{X:Cx}{R:Rl α β}{S:Rl γ δ}{a:lR}{U:RT}{H:Hp}{o:Out α}{f:α->MH->Out γ}{Q:δ->Hp->Prop}{z:β->Hp->Prop}(q:Ful X S a U H (o.bind f) Q)(k:∀j i v u y,o=.ok v y->Le U H j i->RH X.K X.mg j i y->R j i v u->Ful X S a j i (f v y) Q->z u i):Ful X R a U H o z:=by
 cases o with
 |ok v h=>exact λC B u l r w=>k C B v u h rfl l r w (Ful.le l q)
 |exc x h=>exact q
 |bad=>exact q
abbrev RV'(X:Cx):Rl PV V:=λU H=>RP X.K U H
abbrev RVs'(X:Cx):Rl (RL) (List V):=λU H=>RPs X.K U H
abbrev JI{α:Type}:Rl α α:=λ_ _ x y=>x=y
abbrev Mx(α:Type):=lR->MH->Out α
inductive tM{α β:Type}(X:Cx)(R:Rl α β)(m:Mx α)(Z:L2.St)(H:Hp)(Q:β->Hp->Prop):Prop
 |mk(U:RT)(σp:lR)(h:MH)(rs:RS X.K U H σp Z)(rh:RH X.K X.mg U H h)(q:Ful X R σp U H (m σp h) Q):tM X R m Z H Q
def ME(X:Cx)(e:Expr)(m:Mx PV):Prop:=PE X e (tM X (RV' X) m)
def MT(X:Cx)(e:Expr)(m:Mx Bool):Prop:=PT X e (tM X JI m)
def MW(X:Cx)(e:Expr)(m:Mx Bool):Prop:=PW X e (tM X JI m)
def MA(X:Cx)(a:RZ)(m:Mx (RL)):Prop:=PA X a (tM X (RVs' X) m)
def PE.imp(h:PE X e t)(i:∀Z H Q,t' Z H Q->t Z H Q):PE X e t':=λj s Z H Q a q=>h j s Z H Q a (i Z H Q q)
def PT.imp(h:PT X e t)(i:∀Z H Q,t' Z H Q->t Z H Q):PT X e t':=λj s Z H Q a q=>h j s Z H Q a (i Z H Q q)
def PW.imp(h:PW X e t)(i:∀Z H Q,t' Z H Q->t Z H Q):PW X e t':=λa l s Z H Q j q=>h a l s Z H Q j (i Z H Q q)
def PA.imp(h:PA X e t)(i:∀Z H Q,t' Z H Q->t Z H Q):PA X e t':=λj l s Z H Q a q=>h j l s Z H Q a (i Z H Q q)
def PS.imp(h:PS X e t)(i:∀D Z H,t' D Z H->t D Z H):PS X e t':=λj s Z H D a q=>h j s Z H D a (i D Z H q)
def PSs.imp(h:PSs X e t)(i:∀D Z H,t' D Z H->t D Z H):PSs X e t':=λj s Z H D a q=>h j s Z H D a (i D Z H q)
def bj(X:Cx)(U:RT)(H:Hp)(o:SOut)(D:Ends):Prop:=match o with
 |.nx i l=>∀j a u,Le U H j a->RH X.K X.mg j a l->RS X.K j a i u->D.nx u a
 |.bk i l=>∀j a u,Le U H j a->RH X.K X.mg j a l->RS X.K j a i u->D.bk u a
 |.ct i l=>∀j a u,Le U H j a->RH X.K X.mg j a l->RS X.K j a i u->D.ct u a
 |.rt v l=>∀j a y,Le U H j a->RH X.K X.mg j a l->RP X.K j a v y->D.rt y a
 |.exc x i l=>XP X i U H x l
 |.rse x i l=>XM X i U H x l
 |.bad=>False
def bj.le(l:Le U H U1 H1)(f:bj X U H o D):bj X U1 H1 o D:=by
 cases o with
 |nx a h=>exact λi j u y=>f i j u (l.trans y)
 |bk a h=>exact λi j u y=>f i j u (l.trans y)
 |ct a h=>exact λi j u y=>f i j u (l.trans y)
 |rt v h=>exact λi j u y=>f i j u (l.trans y)
 |exc x a h=>exact XP.le l f
 |rse x a h=>exact XM.le l f
 |bad=>exact f
abbrev n0:=lR->MH->SOut
inductive Mr(X:Cx)(m:n0)(D:Ends)(Z:L2.St)(H:Hp):Prop
 |mk(U:RT)(σp:lR)(h:MH)(rs:RS X.K U H σp Z)(rh:RH X.K X.mg U H h)(q:bj X U H (m σp h) D):Mr X m D Z H
def MS(X:Cx)(st:Stmt)(m:n0):Prop:=PS X st (Mr X m)
def AD(X:Cx)(st:RF)(m:n0):Prop:=PSs X st (Mr X m)
section
variable{X:Cx}{N W G:RM}{k:Nat}
structure Good(X:Cx)(N W G:RM)(k:Nat):Prop where
 hN:X.N=N
 nd:N.Nodup
 loc:∀x∈N,Loc X.env.scope x
 fn:∀x∈W,X.fn x=I\/X.env.scope.names.lookup x=J .local
 gl:∀x∈G,Gl X x
 dbg:∀x∈N++G,(x==("__debug__":Str))=T/\(x==("__classdict__":Str))=T/\x≠"__name__"
 calm:X.calm=I
 room:Room k X.A
 po:PassesOwn (model X.prog X.w) X.A X.env X.xe
def Good.x(g:Good X N W G k){i:Nat}{x:Str}(a:N[i]?=J x):X.N[i]?=J x:=by rw[g.hN];exact a
def aD{l:RM}{i:Nat}{x:Str}(a:l[i]?=J x):x∈l:=Al a
def rJ(X:Cx)(g:PV->PV->MH->RB):R2:=λa i H Q=>∃U h x y,RH X.K X.mg U H h/\RP X.K U H x a/\RP X.K U H y i/\ij X (RV' X) U H (g x y h) Q
abbrev zE(X:Cx)(f:Value->Value->Sem Value)(g:PV->PV->MH->RB):Prop:=OpR X f (rJ X g)
def uJ(X:Cx)(g:PV->MH->RB):V->Hp->VK->Prop:=λa H Q=>∃U h x,RH X.K X.mg U H h/\RP X.K U H x a/\ij X (RV' X) U H (g x h) Q
abbrev Qm(X:Cx)(f:Value->Sem Value)(g:PV->MH->RB):Prop:=Mo X f (uJ X g)
def cJ(X:Cx)(g:RL->MH->RB):List V->Hp->VK->Prop:=λa H Q=>∃U h xs,RH X.K X.mg U H h/\RPs X.K U H xs a/\ij X (RV' X) U H (g xs h) Q
abbrev cZ(X:Cx)(f:Value)(g:RL->MH->RB):Prop:=c6 X f (cJ X g)
def af(i:Nat):Mx PV:=λZ h=>match Z[i]? with
 |some (J v)=>.ok v h
 |_=>.bad
def mC(v:PV):Mx PV:=λ_ h=>.ok v h
def yf(g:Good X N W G k)(i:Nat){x:Str}{a:Pos}(l:N[i]?=J x):ME X (.Name x a) (af i):=by
 have d:=g.dbg x (Bx _ (aD l));have hv:Il X.env.scope x:=by
  rcases g.loc x (aD l)with q|q
  .exact .inl q
  .exact .inr (.inl q)
 refine PE.imp (gz (g.x l) hv d.1 d.2.1) λZ H Q ⟨U,j,h,z,y,f⟩=>?_;unfold af at f
 cases e:j[i]? with
 |none=>rw[e]at f;exact f.elim
 |some o =>
  rw[e]at f
  cases o with
  |none=>exact f.elim
  |some v =>
   obtain⟨u,B,r⟩:=z.2 i v e;exact⟨u,B,f U H u (Le.refl _ _) y r⟩
def aE:ME X (.Constant (.int i) j pos) (mC (.int i)):=PE.imp E6 λ_ H _ ⟨U,_,_,_,a,f⟩=>f U H _ (Le.refl _ _) a (.int i)
def tt:ME X (.Constant (.str i) j pos) (mC (.str i)):=PE.imp E8 λ_ H _ ⟨U,_,_,_,a,f⟩=>f U H _ (Le.refl _ _) a (.str i)
def qV:ME X (.Constant (.bool i) j pos) (mC (.bl i)):=PE.imp Jc λ_ H _ ⟨U,_,_,_,a,f⟩=>f U H _ (Le.refl _ _) a (.bl i)
def tK:ME X (.Constant .none j pos) (mC .non):=PE.imp E7 λ_ H _ ⟨U,_,_,_,a,f⟩=>f U H _ (Le.refl _ _) a .non
def ao(f:PV->PV->MH->RB)(j mb:Mx PV):Mx PV:=λZ h=>(j Z h).bind λx i=>(mb Z i).bind λy a=>(f x y a).ne
def yV(f:PV->MH->RB)(i:Mx PV):Mx PV:=λZ h=>(i Z h).bind λx a=>(f x a).ne
def sx{f:PV->PV->MH->RB}{u mb:Mx PV}{Z:L2.St}{H:Hp}{Q:VK}(q:tM X (RV' X) (ao f u mb) Z H Q):Jq (rJ X f) (tM X (RV' X) u) (tM X (RV' X) mb) Z H Q:=by obtain⟨U,a,h,l,C,q⟩:=q;refine⟨U,a,h,l,C,Ful.bind q λz H1 x x' S _ O i B P=>?_⟩;refine⟨z,a,S,l.le O,i,Ful.bind P λF H2 y y' R _ M j L E=>?_⟩;exact⟨F,R,x,y,j,B.le M,L,E.zero⟩
def aV(i:zE X (binaryOp op) f)(j:ME X a ma)(l:ME X b mb):ME X (.BinOp a op b pos) (ao f ma mb) :=
 PE.imp (Jr i j l) λ_ _ _ q=>sx q
def JJ(u:Qm X (unaryOp op) f)(E:ME X a ma):ME X (.UnaryOp op a pos) (yV f ma) :=
 PE.imp (Js u E) λ_ _ _ ⟨U,j,h,F,B,q⟩=>⟨U,j,h,F,B,Ful.bind q λl L x M C _ H i y z=>⟨l,C,x,i,y,z.zero⟩⟩
def FJ(i:zE X (compareOp op) f)(j:ME X a ma)(l:ME X b mb)(hm:behindInMarks op b=T):ME X (.Compare a [op] [b] pos) (ao f ma mb) :=
 PE.imp (BQ i j l hm) λ_ _ _ q=>sx q
def mB(m:Mx PV):Mx Bool:=λZ h=>(m Z h).bind λv a=>match v with
 |.bl b=>.ok b a
 |_=>.bad
def JK(q:tM X JI (mB m) Z H Q):tM X (RV' X) m Z H λx j=>∃c,x=.bl c/\Q c j:=by
 obtain⟨U,a,h,B,z,q⟩:=q;refine⟨U,a,h,B,z,Ful.bind q λu j x F E _ C i y l=>?_⟩
 cases y with
 |bl b=>exact⟨b,rfl,l u j b (Le.refl _ _) i rfl⟩
 |_=>exact l.elim
def yi(j:zE X (compareOp op) f)(u:ME X a ma)(z:ME X b mb)(hm:behindInMarks op b=T):MT X (.Compare a [op] [b] pos) (mB (ao f ma mb)) :=
 PT.imp (BR j u z hm) λZ H Q q=>by
  obtain⟨U,i,h,y,l,q⟩:=JK q;exact sx ⟨U,i,h,y,l,q⟩
def FK(h:ME X e m)(i:∀a,isTrue e X.env a=(do let v <-a;standAt e.pos;holding [v] (truthy v)):=by intro _;rfl):MT X e (mB m) :=
 PT.imp (E9 h i) λ_ _ _ q=>JK q
def j9(m:Mx Bool):Mx Bool:=λZ h=>(m Z h).bind λb a=>.ok (!b) a
def FL(h:MT X e m):MT X (.UnaryOp .Not e pos) (j9 m) :=
 PT.imp (Fb h) λ_ _ _ ⟨U,i,h,B,y,q⟩=>⟨U,i,h,B,y,Ful.bind q λj z x F E _ C a l u=>by
  cases l;exact u j z _ (Le.refl _ _) a rfl⟩
def B3(a b:Mx Bool):Mx Bool:=λZ h=>(a Z h).bind λx i=>if x=I then b Z i else .ok T i
def JL(a b:Mx Bool):Mx Bool:=λZ h=>(a Z h).bind λx i=>if x=I then .ok I i else b Z i
section
variable{a b:Expr}{rest:RZ}{ma mb:Mx Bool}{pos:Pos}
def B4(i:MT X a ma):MW X (.BoolOp .And [a] pos) ma:=BK i
def FM(i:MT X a ma):MW X (.BoolOp .Or [a] pos) ma:=E_ i
def FN(M:MT X a ma)(E:MW X (.BoolOp .And (b::rest) pos) mb):MW X (.BoolOp .And (a::b::rest) pos) (B3 ma mb) :=
 PW.imp (Fa M E) λZ H Q ⟨U,i,h,u,B,q⟩=>⟨U,i,h,u,B,Ful.bind q λl C x O L _ F j z y=>by
  cases z
  cases x with
  |true=>exact⟨l,i,L,u.le F,j,y⟩
  |false=>exact y l C _ (Le.refl _ _) j rfl⟩
def JM(M:MT X a ma)(E:MW X (.BoolOp .Or (b::rest) pos) mb):MW X (.BoolOp .Or (a::b::rest) pos) (JL ma mb) :=
 PW.imp (Jd M E) λZ H Q ⟨U,i,h,u,B,q⟩=>⟨U,i,h,u,B,Ful.bind q λl C x O L _ F j z y=>by
  cases z
  cases x with
  |true=>exact y l C _ (Le.refl _ _) j rfl
  |false=>exact⟨l,i,L,u.le F,j,y⟩⟩
def MW.mt(h:MW X e m):MT X e m:=PW.pt h
end
def lU(a b:Mx PV):Mx PV:=λZ h=>(a Z h).bind λx i=>match x with
 |.bl c=>if c=I then b Z i else .ok (.bl T) i
 |_=>.bad
def FP(a b:Mx PV):Mx PV:=λZ h=>(a Z h).bind λx i=>match x with
 |.bl c=>if c=I then .ok (.bl I) i else b Z i
 |_=>.bad
def nA(a:Mx PV):Mx PV:=λZ h=>(a Z h).bind λx i=>match x with
 |.bl c=>.ok (.bl (!c)) i
 |_=>.bad
section
variable{a b:Expr}{rest:RZ}{ma mb:Mx PV}{pos:Pos}
def FQ(i:ME X a ma):ME X (.BoolOp op [a] pos) ma:=Fc i
def FR(M:ME X a ma)(E:ME X (.BoolOp .And (b::rest) pos) mb):ME X (.BoolOp .And (a::b::rest) pos) (lU ma mb) :=
 PE.imp (Fd M E) λZ H Q ⟨U,i,h,y,B,q⟩=>⟨U,i,h,y,B,Ful.bind q λu C x O L _ F j z l=>by
  cases z with
  |bl c =>
   refine⟨c,rfl,?_⟩
   cases c with
   |true=>exact⟨u,i,L,y.le F,j,l⟩
   |false=>exact l u C _ (Le.refl _ _) j (.bl T)
  |_=>exact l.elim⟩
def JN(M:ME X a ma)(E:ME X (.BoolOp .Or (b::rest) pos) mb):ME X (.BoolOp .Or (a::b::rest) pos) (FP ma mb) :=
 PE.imp (Jg M E) λZ H Q ⟨U,i,h,y,B,q⟩=>⟨U,i,h,y,B,Ful.bind q λu C x O L _ F j z l=>by
  cases z with
  |bl c =>
   refine⟨c,rfl,?_⟩
   cases c with
   |true=>exact l u C _ (Le.refl _ _) j (.bl I)
   |false=>exact⟨u,i,L,y.le F,j,l⟩
  |_=>exact l.elim⟩
def FS(E:ME X a ma):ME X (.UnaryOp .Not a pos) (nA ma) :=
 PE.imp (Fe E) λZ H Q ⟨U,i,h,B,z,q⟩=>⟨U,i,h,B,z,Ful.bind q λu C x M L _ F j y l=>by
  cases y with
  |bl c=>exact⟨c,rfl,l u C _ (Le.refl _ _) j (.bl _)⟩
  |_=>exact l.elim⟩
def FT(c:Mx Bool)(a b:Mx PV):Mx PV:=λZ h=>(c Z h).bind λx i=>if x=I then a Z i else b Z i
def FU(F:MT X c mc)(M:ME X a ma)(L:ME X b mb):ME X (.IfExp c a b pos) (FT mc ma mb) :=
 PE.imp (yM F M L) λZ H Q ⟨U,i,h,l,E,q⟩=>⟨U,i,h,l,E,Ful.bind q λu O x P B _ y j C z=>by
  cases C
  cases x with
  |true=>exact⟨u,i,B,l.le y,j,z⟩
  |false=>exact⟨u,i,B,l.le y,j,z⟩⟩
end
def b_:Mx (RL):=λ_ h=>.ok [] h
def ae(a:Mx PV)(r:Mx (RL)):Mx (RL):=λZ h=>(a Z h).bind λx j=>(r Z j).bind λxs i=>.ok (x::xs) i
def aP:MA X [] b_:=PA.imp gC λZ H Q ⟨U,a,h,j,i,q⟩=>q U H _ (Le.refl _ _) i .nil
def aC(ha:ME X e m)(hr:MA X es ms)(M:starEach (e::es) X.env=(T,eval e X.env)::starEach es X.env:=by rfl):MA X (e::es) (ae m ms) :=
 PA.imp (cC ha hr M) λZ H Q ⟨U,a,h,l,B,q⟩=>⟨U,a,h,l,B,Ful.bind q λu H1 x x' S _ P i z R =>
  ⟨u,a,S,l.le P,i,Ful.bind R λE O y y' h2 _ L j F C=>C E O _ (Le.refl _ _) j (.cons (z.le L) F)⟩⟩
def q7(xs:RL)(h:MH):RB:=if xs.length<=sizeLine then .ok (.loc h.length) (h++[.lst xs])else .bad
def m2(xs:RL)(h:MH):RB:=if xs.length<=sizeLine then .ok (.tup xs) h else .bad
def lO{U:RT}{H:Hp}{h:MH}{xs:RL}{ys:List V}{Q:VK}(a:RH X.K X.mg U H h)(i:RPs X.K U H xs ys)(f:ij X (RV' X) U H (q7 xs h) Q):ys.length<=sizeLine/\∀p,H p=Y->Q (.ref p) (upd H p (.lst ys)):=by
 unfold q7 at f
 split at f
 .rename_i hl
  refine⟨by rw[<-i.length];exact hl,λp l=>?_⟩;obtain⟨u,j⟩:=a.new l (o:=.lst xs) ⟨ys,rfl,i⟩;refine f _ _ _ j u (.loc ?_);rw[<-a.len];simp
 .exact f.elim
def uC{U:RT}{H:Hp}{h:MH}{xs:RL}{ys:List V}{Q:VK}(l:RH X.K X.mg U H h)(i:RPs X.K U H xs ys)(f:ij X (RV' X) U H (m2 xs h) Q):ys.length<=sizeLine/\∀p,H p=Y->Q (.ref p) (upd H p (.tup ys)):=by
 unfold m2 at f
 split at f
 .rename_i hl
  refine⟨by rw[<-i.length];exact hl,λp j=>?_⟩;obtain⟨u,a⟩:=l.tup j ys;exact f _ _ _ a u (.tup (.inl (.inl aN)) (i.le a))
 .exact f.elim
def FV{a:lR}{U:RT}{H:Hp}{h:MH}{xs:RL}{Q:VK}(f:Ful X (RV' X) a U H (q7 xs h) Q):ij X (RV' X) U H (q7 xs h) Q:=by
 unfold q7 at f ⊢
 split at f
 .rw[c_ (by assumption)];exact f
 .exact f.elim
def FW{a:lR}{U:RT}{H:Hp}{h:MH}{xs:RL}{Q:VK}(f:Ful X (RV' X) a U H (m2 xs h) Q):ij X (RV' X) U H (m2 xs h) Q:=by
 unfold m2 at f ⊢
 split at f
 .rw[c_ (by assumption)];exact f
 .exact f.elim
def bX(m:Mx (RL)):Mx PV:=λZ h=>(m Z h).bind q7
def bU(m:Mx (RL)):Mx PV:=λZ h=>(m Z h).bind m2
def xj(h:MA X es ms):ME X (.List es pos) (bX ms) :=
 PE.imp (Fx h) λZ H Q ⟨U,a,h,u,l,q⟩=>⟨U,a,h,u,l,Ful.bind q λz B x F E _ C i j y=>lO i j (FV y)⟩
def rT(h:MA X es ms):ME X (.Tuple es j pos) (bU ms) :=
 PE.imp (wA h) λZ H Q ⟨U,a,h,y,u,q⟩=>⟨U,a,h,y,u,Ful.bind q λB C x L F _ E i l z=>uC i l (FW z)⟩
def SOut.then(o:SOut)(k:n0):SOut:=match o with
 |.nx Z h=>k Z h
 |o=>o
def bi(a b:n0):n0:=λZ h=>(a Z h).then b
def kq:n0:=λZ h=>.nx Z h
def fO:AD X [] kq:=PSs.imp BL λD Z H ⟨U,j,h,i,a,q⟩=>q U H Z (Le.refl _ _) a i
def B5{st:Stmt}{m:n0}(h:MS X st m):AD X [st] m:=lH h
def bj.then{U:RT}{H:Hp}{o:SOut}{k:n0}{D:Ends}(q:bj X U H (o.then k) D):bj X U H o { D with nx:=λZ H=>Mr X k D Z H}:=by
 cases o with
 |nx a h=>exact λi j u l r s=>⟨i,a,h,s,r,bj.le l q⟩
 |_=>exact q
def zT{st:Stmt}{rest:RF}{m u:n0}(j:MS X st m)(l:AD X rest u):AD X (st::rest) (bi m u) :=
 PSs.imp (mK j l) λD Z H ⟨U,a,h,y,i,q⟩=>⟨U,a,h,y,i,bj.then q⟩
def bC(m:Mx PV):n0:=λZ h=>match m Z h with
 |.ok v a=>.rt v a
 |.exc x a=>.exc x Z a
 |.bad=>.bad
def FX(j:ME X e m):MS X (.Return (J e) pos) (bC m) :=
 PS.imp (Ff j) λD Z H ⟨U,a,h,u,l,q⟩=>⟨U,a,h,u,l,by
  unfold bC at q
  cases e:m a h with
  |ok v i=>rw[e]at q;exact q
  |exc x i=>rw[e]at q;exact q
  |bad=>rw[e]at q;exact q⟩
def w_{α:Type}(m:Mx α)(k:α->n0):n0:=λZ h=>match m Z h with
 |.ok v a=>k v Z a
 |.exc x a=>.exc x Z a
 |.bad=>.bad
def bj.ex{α β:Type}{R:Rl α β}{m:Mx α}{k:α->n0}{U:RT}{H:Hp}{a:lR}{h:MH}{D:Ends}{Q:β->Hp->Prop}(q:bj X U H (w_ m k a h) D)(w:∀j i v u B,Le U H j i->RH X.K X.mg j i B->R j i v u->bj X j i (k v a B) D->Q u i):Ful X R a U H (m a h) Q:=by
 unfold w_ at q
 cases e:m a h with
 |ok v y=>rw[e]at q;exact λj i u l r z=>w j i v u y l r z (bj.le l q)
 |exc x y=>rw[e]at q;exact q
 |bad=>rw[e]at q;exact q
def fw(m:Mx PV):n0:=w_ m λ_=>kq
def lB{e:Expr}{m:Mx PV}{a:Pos}(C:ME X e m)(E:swapsWith e Y a.line X.env=pure T:=by rfl):MS X (.Expr e a) (fw m) :=
 PS.imp (uz C E) λD Z H ⟨U,i,h,j,y,q⟩=>⟨U,i,h,j,y,bj.ex q λu B v F L l r z w=>w u B Z (Le.refl _ _) r (j.le l)⟩
def zJ(c:Mx Bool)(a b:n0):n0:=w_ c λx=>if x=I then a else b
def gX{c:Expr}{a b:RF}{C:Mx Bool}{B mb:n0}{j:Pos}(L:MT X c C)(M:AD X a B)(O:AD X b mb):MS X (.If c a b j) (zJ C B mb) :=
 PS.imp (Jj L M O) λD Z H ⟨U,i,h,u,F,q⟩=>⟨U,i,h,u,F,bj.ex q λy Q v P E l r z w=>by
  cases z
  cases v with
  |true=>exact⟨y,i,E,u.le l,r,w⟩
  |false=>exact⟨y,i,E,u.le l,r,w⟩⟩
def bt(i:Nat)(m:Mx PV):n0:=w_ m λv Z h=>.nx (Z.set i (J v)) h
def td(g:Good X N W G k)(i:Nat){x:Str}{e:Expr}{m:Mx PV}{j a:Pos}(B:N[i]?=J x)(hw:W[i]?=J x)(L:ME X e m)(M:swapsWith e (J (.Name x a)) j.line X.env=pure T:=by rfl):
  MS X (.Assign [.Name x a] e j) (bt i m):=by
 refine PS.imp (nk (by rw[g.hN];exact g.nd) (g.x B) (g.loc x (aD B)) L M (g.fn x (aD hw))) λD Z H ⟨U,u,h,y,E,q⟩=>?_;exact⟨U,u,h,y,E,bj.ex q λC F v O P l r z w=>w C F _ (Le.refl _ _) r ((y.le l).set i z)⟩
end
section
variable{X:Cx}{N W G:RM}{k:Nat}
abbrev Mg:=PV->n0
def mW(X:Cx)(U:RT)(H:Hp)(o:SOut)(Q:L2.St->Hp->Prop):Prop:=match o with
 |.nx a j=>∀l i u,Le U H l i->RH X.K X.mg l i j->RS X.K l i a u->Q u i
 |.exc x a j=>XP X a U H x j
 |_=>False
def mW.le(l:Le U H U1 H1)(f:mW X U H o Q):mW X U1 H1 o Q:=by
 cases o with
 |nx a h=>exact λi j u y=>f i j u (l.trans y)
 |exc x a h=>exact XP.le l f
 |_=>exact f
inductive tG(X:Cx)(g:Mg)(v':V)(Z:L2.St)(H:Hp)(Q:L2.St->Hp->Prop):Prop
 |mk(U:RT)(σp:lR)(h:MH)(v:PV)(rs:RS X.K U H σp Z)(rh:RH X.K X.mg U H h)(rv:RP X.K U H v v')(q:mW X U H (g v σp h) Q):tG X g v' Z H Q
def MG(X:Cx)(a:Expr)(g:Mg):Prop:=PG X a (tG X g)
def PG.imp(h:PG X e t)(i:∀v Z H Q,t' v Z H Q->t v Z H Q):PG X e t':=λj s Z H v u Q a r q=>h j s Z H v u Q a r (i v Z H Q q)
def m_(i:Nat):Mg:=λv Z h=>.nx (Z.set i (J v)) h
def uR(g:Good X N W G k)(i:Nat)(a:N[i]?=J x)(hw:W[i]?=J x):MG X (.Name x pos) (m_ i) :=
 PG.imp (uj (by rw[g.hN];exact g.nd) (g.x a) (g.loc x (aD a)) (g.fn x (aD hw))) λz Z H Q ⟨U,j,h,v,y,u,l,q⟩=>q U H _ (Le.refl _ _) u (y.set i l)
abbrev Bz:=RL->n0
inductive Qn(X:Cx)(g:Bz)(v':List V)(Z:L2.St)(H:Hp)(Q:L2.St->Hp->Prop):Prop
 |mk(U:RT)(σp:lR)(h:MH)(v:RL)(rs:RS X.K U H σp Z)(rh:RH X.K X.mg U H h)(rv:RPs X.K U H v v')(q:mW X U H (g v σp h) Q):Qn X g v' Z H Q
def JO(X:Cx)(a:RZ)(g:Bz):Prop:=PGs X a (Qn X g)
def PGs.imp(h:PGs X e t)(i:∀v Z H Q,t' v Z H Q->t v Z H Q):PGs X e t':=λj s Z H v u Q a r q=>h j s Z H v u Q a r (i v Z H Q q)
def An:Bz:=λa Z h=>match a with
 |[]=>.nx Z h
 |_=>.bad
def sk(a:Mg)(r:Bz):Bz:=λi Z h=>match i with
 |v::j=>(a v Z h).then (r j)
 |[]=>.bad
def fW:JO X [] An:=PGs.imp BM λu Z H Q ⟨U,a,h,v,l,j,i,q⟩=>by
 cases i with
 |nil=>exact⟨rfl,q U H Z (Le.refl _ _) j l⟩
 |cons _ _=>exact q.elim
def bH(j:MG X e a)(P:JO X es r)(O:(assignEach (e::es) X.env).map (·.2)=assign e X.env::(assignEach es X.env).map (·.2):=by rfl):JO X (e::es) (sk a r) :=
 PGs.imp (zN j P O) λv' Z H Q ⟨U,i,h,v,L,E,C,q⟩=>by
  cases C with
  |nil=>exact q.elim
  |@cons x y xs ys B R =>
   refine⟨_,_,rfl,U,i,h,x,L,E,B,?_⟩;dsimp only[sk]at q
   cases e:a x i h with
   |nx M j=>rw[e]at q;exact λz S Z' l F u=>⟨z,M,j,xs,u,F,R.le l,mW.le l q⟩
   |_=>rw[e]at q;exact q
def Ao(r:Bz)(n:Nat):Mg:=λv Z h=>match v with
 |.tup xs=>if xs.length=n then r xs Z h else .bad
 |_=>.bad
def iA(g:Good X N W G k){a:RZ}{j:Nat}{r:Bz}{n:Nat}{i:Pos}(h:JO X a r)(z:(assignEach a X.env).length=n:=by rfl)(u:(assignEach a X.env).findIdx? (·.1)=Y:=by rfl):
  MG X (.Tuple a j i) (Ao r n) :=
 PG.imp (Fg g.calm h z u) λF Z H Q ⟨U,l,h,v,E,C,B,q⟩=>by
  cases B with
  |tup s y =>
   dsimp only[Ao]at q
   split at q
   .rename_i hl
    exact⟨_,_,rfl,s,by rw[<-y.length];exact hl,U,l,h,_,E,C,y,q⟩
   .exact q.elim
  |_=>exact q.elim
def ja(m:Mx PV)(g:Mg):n0:=w_ m λv Z h=>match g v Z h with
 |.nx a i=>.nx a i
 |.exc x a i=>.exc x a i
 |_=>.bad
def jc{i e:Expr}{m:Mx PV}{g:Mg}{j:Pos}(E:ME X e m)(hg:MG X i g)(F:swapsWithSole [i] e j.line X.env=pure T:=by rfl)(hw:swappedStores [i] e X.env=pure Y:=by rfl)(u:(assignEach [i] X.env).map (·.2)=[assign i X.env]:=by rfl):MS X (.Assign [i] e j) (ja m g) :=
 PS.imp (Fi E hg F hw u) λD Z H ⟨U,a,h,y,C,q⟩=>⟨U,a,h,y,C,bj.ex q λB M v L u l r z w=>⟨B,a,u,v,y.le l,r,z,by
  cases e:g v a u with
  |_=>rw[e]at w;exact w⟩⟩
def FY(i j:Nat)(m:Mx (RL)):n0:=w_ m λa Z h=>match a with
 |[v,w]=>.nx ((Z.set i (J v)).set j (J w)) h
 |_=>.bad
def FZ(g:Good X N W G k)(i j:Nat)(M:N[i]?=J x)(Q:N[j]?=J y)(B:i≠j)(R:MA X [a,b] m)(S:X.env.scope.names.lookup x=J .local)(O:X.env.scope.names.lookup y=J .local)(hw:swappedStores [.Tuple [.Name x px,.Name y py] kt pt] (.Tuple [a,b] k2 pt2) X.env=pure (J [x,y]))(hs:swapsWithSole [.Tuple [.Name x px,.Name y py] kt pt] (.Tuple [a,b] k2 pt2) pos.line X.env=pure T:=by rfl):
  MS X (.Assign [.Tuple [.Name x px,.Name y py] kt pt] (.Tuple [a,b] k2 pt2) pos) (FY i j m) :=
 PS.imp (Fj g.calm (by rw[g.hN];exact g.nd) (g.x M) (g.x Q) B S O R hw hs) λD Z H ⟨U,u,h,C,F,q⟩=>⟨U,u,h,C,F,bj.ex q λE P v v' h1 l r z w=>by
  cases z with
  |nil=>exact w.elim
  |cons z1 z =>
   cases z with
   |nil=>exact w.elim
   |cons L z =>
    cases z with
    |nil=>exact⟨_,_,rfl,w E P _ (Le.refl _ _) r (((C.le l).set i z1).set j L)⟩
    |cons _ _=>exact w.elim⟩
def rF(o i v:PV)(h:MH):Option MH:=match o,i with
 |.loc n,.int j=>(match h[n]? with
  |some (.lst xs)=>(vr xs.length j).map λp=>h.set n (.lst (xs.set p v))
  |_=>Y)
 |_,_=>Y
def BA(mo a:Mx PV):Mg:=λv=>w_ mo λo=>w_ a λi Z h=>match rF o i v h with
 |some j=>.nx Z j
 |none=>.bad
def kO(ho:ME X o mo)(hi:ME X i mi)(ha:∀v,assign (.Subscript o i pos) X.env v=(do
   let ov <-holding [v] (eval o X.env)
   let z <-holding [v,ov] (eval i X.env)
   standAt pos
   holding [v,ov,z] (setItem ov z v)
   release [v,ov,z] []):=by intro _;rfl):MG X (.Subscript o i pos) (BA mo mi) :=
 PG.imp (Fh ho hi zI ha) λv' Z H Q ⟨U,l,h,v,L,rh,rv,q⟩=>by
  refine⟨U,l,h,L,rh,?_⟩;unfold BA w_ at q
  cases e:mo l h with
  |exc x P=>rw[e]at q;exact q
  |bad=>rw[e]at q;exact q
  |ok ov P =>
   rw[e]at q;intro U1 H1 o' y O ro;refine⟨U1,l,P,L.le y,O,?_⟩;dsimp only at q
   cases e2:mi l P with
   |exc x h2=>rw[e2]at q;exact XP.le y q
   |bad=>rw[e2]at q;exact q
   |ok z h2 =>
    rw[e2]at q;intro U2 H2 i' B u ri;have F:=ro.le B;have C:=(rv.le y).le B;unfold rF at q
    cases F with
    |@loc n a R =>
     cases ri with
     |int j =>
      dsimp only at q;obtain⟨ob,eo,E⟩:=u.obj R;rw[eo]at q
      cases ob with
      |dic fz ks xs=>exact q.elim
      |exc x=>exact q.elim
      |lst xs =>
       obtain⟨ys,ey,ry⟩:=E;dsimp only at q
       cases M:vr xs.length j with
       |none=>rw[M]at q;exact q.elim
       |some p =>
        rw[M]at q;refine⟨a,ys,j,p,rfl,rfl,ey,by rw[<-ry.length];exact M,?_⟩;obtain⟨r3,S⟩:=u.put R (o:=.lst (xs.set p v)) ⟨_,rfl,RPs.set C p ry⟩;exact q U2 _ Z (y.trans (B.trans S)) r3 (L.le (y.trans (B.trans S)))
     |_=>exact q.elim
    |_=>exact q.elim
structure MIt where
 xs:RL
 gd:List (Nat×RL):=[]
def MIt.ok(a:MIt)(h:MH):Prop:=∀p∈a.gd,h[p.1]?=J (.lst p.2)
def sP(X:Cx):Rl MIt It:=λz B l a=>∀U H h (i:Nat),Le z B U H->RH X.K X.mg U H h->l.ok h ->
 (i<l.xs.length->a.go i H/\∀y j,a.yld i H y j->∃u x,Le U H u j/\RH X.K X.mg u j h/\l.xs[i]?=J x/\RP X.K u j x y)/\(l.xs.length<=i->a.stop i H)
def MI(X:Cx)(i a:Expr)(m:Mx MIt):Prop:=PI X i a (tM X (sP X) m)
def PI.imp(h:PI X tg e t)(i:∀Z H Q,t' Z H Q->t Z H Q):PI X tg e t':=λj s Z H Q a q=>h j s Z H Q a (i Z H Q q)
def vZ(j:MIt)(g:Mg)(b:n0):RL->n0
 |[]=>λZ h=>if j.ok h then .nx Z h else .bad
 |x::r=>λZ h=>if j.ok h then (match g x Z h with
   |.nx l u=>(match b l u with
    |.nx i a=>vZ j g b r i a
    |.ct i a=>vZ j g b r i a
    |.bk i a=>.nx i a
    |.rt v a=>.rt v a
    |.exc e i a=>.exc e i a
    |.rse e i a=>.rse e i a
    |.bad=>.bad)
   |.exc e l u=>.exc e l u
   |_=>.bad)else .bad
def fD(i:Mx MIt)(g:Mg)(b:n0):n0:=w_ i λa=>vZ a g b a.xs
def fu(gd:Good X N W G k)(hi:MI X tg iter mi)(hg:MG X tg g)(hb:AD X body mb)(hs:∀x,foldedSetIterable iter X.env x=pure x:=by intro _;rfl):MS X (.For tg iter body [] pos) (fD mi g mb):=by
 refine PS.imp (Fm gd.po gd.calm hi hg hb hs) λD Z H ⟨U,u,h,rs,rh,q⟩=>⟨U,u,h,rs,rh,bj.ex q λU1 H1 l al h1 l1 ab jr w=>?_⟩;refine⟨λi m Z H=>m=l.xs.length-i/\i<=l.xs.length/\∃U u h,Le U1 H1 U H/\RS X.K U H u Z/\RH X.K X.mg U H h/\bj X U H (vZ l g mb (l.xs.drop i) u h) D,⟨_,rfl,Ja _,U1,u,h1,Le.refl _ _,rs.le l1,ab,w⟩,?_⟩;rintro i m Z2 H2 ⟨rfl,hi,U2,E,h2,l2,P,L,B⟩;by_cases C:i<l.xs.length
 .have ed:l.xs.drop i=l.xs[i]::l.xs.drop (i+1):=IK C;rw[ed]at B;unfold vZ at B
  split at B
  .rename_i hok
   obtain⟨j1,j2⟩:=jr U2 H2 h2 i l2 L hok;obtain⟨go,yl⟩:=j1 C;refine .inr ⟨go,λZ3 Q=>∃S F h3,Le U1 H1 S Q/\RS X.K S Q F Z3/\RH X.K X.mg S Q h3/\bj X S Q (vZ l g mb (l.xs.drop (i+1)) F h3) D,λZ3 Q z=>⟨_,by ext,rfl,C,z⟩,λx' H' y=>?_⟩;obtain⟨U',x,l',ak,ex,rx⟩:=yl x' H' y;have ai:x=l.xs[i]:=by rw[Ah C]at ex;exact(Option.some.inj ex).symm
   subst ai;refine⟨U',E,h2,_,P.le l',ak,rx,?_⟩;have j:=bj.le l' B
   cases eg:g l.xs[i] E h2 with
   |nx Z4 h4 =>
    rw[eg]at j;intro U5 H5 Z5 l5 r5 s5;refine⟨U5,Z4,h4,s5,r5,?_⟩;have a:=bj.le l5 j;have l6:Le U1 H1 U5 H5:=l2.trans (l'.trans l5);dsimp only at a
    cases em:mb Z4 h4 with
    |nx O M=>rw[em]at a;exact λU7 H7 Z7 R r7 s7=>⟨U7,O,M,l6.trans R,s7,r7,bj.le R a⟩
    |ct O M=>rw[em]at a;exact λU7 H7 Z7 R r7 s7=>⟨U7,O,M,l6.trans R,s7,r7,bj.le R a⟩
    |bk O M=>rw[em]at a;exact a
    |rt v M=>rw[em]at a;exact a
    |exc e O M=>rw[em]at a;exact a
    |rse e O M=>rw[em]at a;exact a
    |bad=>rw[em]at a;exact a
   |exc e Z4 h4=>rw[eg]at j;exact j
   |_=>rw[eg]at j;exact j.elim
  .exact B.elim
 .have e:i=l.xs.length:=by ext
  rw[e,List.drop_length]at B;unfold vZ at B
  split at B
  .rename_i hok
   obtain⟨j1,j2⟩:=jr U2 H2 h2 i l2 L hok;exact .inl ⟨j2 (by ext),B U2 H2 Z2 (Le.refl _ _) L P⟩
  .exact B.elim
def D_(v:PV)(h:MH):Out MIt:=match v with
 |.loc n=>(match h[n]? with
  |some (.lst xs)=>.ok ⟨xs,[(n,xs)]⟩ h
  |_=>.bad)
 |.frl xs=>.ok ⟨xs,[]⟩ h
 |_=>.bad
def JP(m:Mx PV):Mx MIt:=λZ h=>(m Z h).bind D_
def ub(hS:∀u j h,Le U H u j->RH X.K X.mg u j h->(⟨xs,gd⟩:MIt).ok h->∃ys,SqL X.K j a ys/\RPs X.K u j xs ys):sP X U H ⟨xs,gd⟩ (NZ X.K a):=by
 intro u j h i l E ok;obtain⟨ys,C,F⟩:=hS u j h l E ok;refine⟨λB=>?_,λB=>⟨ys,C,by rw[<-F.length];exact B⟩⟩;have M:=Ah B;obtain⟨y,L,O⟩:=F.get M;refine⟨⟨ys,y,C,L⟩,λQ P ⟨e,z⟩=>?_⟩;subst e
 have:=z ys C
 rw[L]at this;cases this;exact⟨u,_,Le.refl _ _,E,M,O⟩
def B6(hl:ME X l m):MI X tg l (JP m) :=
 PI.imp (BN hl) λZ H Q ⟨U,y,h,rs,S,q⟩=>⟨U,y,h,rs,S,Ful.bind q λF L x x' h1 _ l1 i R j=>by
  cases R with
  |@loc n a e =>
   obtain⟨ob,eo,z⟩:=i.obj e;dsimp only[D_]at j;rw[eo]at j
   cases ob with
   |dic fz ks xs=>exact j.elim
   |exc x=>exact j.elim
   |lst xs =>
    obtain⟨ys,ey,ry⟩:=z;refine⟨a,rfl,⟨ys,SqL.of ey⟩,j F L _ (Le.refl _ _) i (ub λP M O l u ok=>?_)⟩;obtain⟨E,C,B⟩:=u.at' n a _ (l.get e) (ok (n,xs) (by simp));exact⟨E,SqL.of C,B⟩
  |frl s r =>
   exact⟨_,rfl,⟨_,s.sq⟩,j F L _ (Le.refl _ _) i (ub λP M O l u ok=>⟨_,(l.sqf s).sq,r.le l⟩)⟩
  |_=>exact j.elim⟩
def JQ(m:Mx PV):Mx MIt:=λZ h=>(m Z h).bind λv a=>match v with
 |.tup xs=>.ok ⟨xs,[]⟩ a
 |_=>.bad
def F0(hl:ME X l m):MI X tg l (JQ m) :=
 PI.imp (Fl hl) λZ H Q ⟨U,j,h,rs,S,q⟩=>⟨U,j,h,rs,S,Ful.bind q λO H1 x x' h1 _ l1 C R M=>by
  cases R with
  |@tup xs a ys s r =>
   refine⟨_,rfl,⟨_,s⟩,M O H1 _ (Le.refl _ _) C ?_⟩;intro P H' h' i l E ok;have B:=l.sqt s;have r':=r.le l;refine⟨λu=>?_,λu=>⟨ys,B,by rw[<-r.length];exact u⟩⟩;have L:=Ah u;obtain⟨y,F,ry⟩:=r'.get L;refine⟨⟨ys,y,B,F⟩,λx' H2 ⟨e,z⟩=>?_⟩;subst e
   have:=z ys B
   rw[F]at this;cases this;exact⟨P,_,Le.refl _ _,E,L,ry⟩
  |_=>exact M.elim⟩
def bE(lo:Int)(n:Nat):RL:=(List.range n).map λ(i:Nat)=>PV.int (lo+(i:Int))
def dY(lo:Int)(n:Nat):(bE lo n).length=n:=by simp[bE]
def B7(lo:Int)(n:Nat):sP X U H ⟨bE lo n,[]⟩ (Mn lo n):=by intro j y h i l u ok;have hl:=dY lo n;refine⟨λa=>⟨by rw[hl]at a;exact a,λB z ⟨e1,e2⟩=>?_⟩,λa=>by rw[hl]at a;exact a⟩;subst e1;subst e2;rw[hl]at a;exact⟨j,.int (lo+i),Le.refl _ _,u,by simp[bE,a],.int _⟩
def dA(m:Mx (RL)):Mx MIt:=λZ h=>(m Z h).bind λa i=>match a with
 |[.int j]=>if -(2^62)<=j/\j<2^62 then .ok ⟨bE 0 j.toNat,[]⟩ i else .bad
 |_=>.bad
def ql(hg:Gl X "range")(hm:X.mg "range"=Y)(P:MA X [a] m)(O:starEach [a] X.env=[(T,eval a X.env)]:=by rfl):MI X tg (.Call (.Name "range" p) [a] [] pos) (dA m):=by
 refine PI.imp (wu hg hm P O) λZ H Q ⟨U,l,h,L,F,q⟩=>⟨U,l,h,L,F,Ful.bind q λB M x x' S _ R u E i=>?_⟩
 cases E with
 |nil=>exact i.elim
 |cons y C =>
  cases C with
  |nil =>
   cases y with
   |int j =>
    dsimp only at i
    split at i
    .rename_i z
     exact⟨j,rfl,z.1,z.2,i B M _ (Le.refl _ _) u (B7 0 j.toNat)⟩
    .exact i.elim
   |_=>exact i.elim
  |cons r2 t2=>cases y<;>exact i.elim
def cy(c:Mx Bool)(b:n0):Nat->n0
 |0=>λ_ _=>.bad
 |n+1=>w_ c λx=>if x=I then (λZ h=>match b Z h with
   |.nx i a=>cy c b n i a
   |.ct i a=>cy c b n i a
   |.bk i a=>.nx i a
   |.rt v a=>.rt v a
   |.exc e i a=>.exc e i a
   |.rse e i a=>.rse e i a
   |.bad=>.bad)else kq
def F1(c:Mx Bool)(b:n0):n0:=λZ h=>if z:∃n,cy c b n Z h≠.bad then cy c b (Classical.choose z) Z h else .bad
def kL:∀{n:Nat}{Z:lR}{h:MH},cy c b n Z h≠.bad->cy c b (n+1) Z h=cy c b n Z h
 |n+1,Z,h,q=>by
  rw[cy]at q;rw[cy]
  conv=>rhs;rw[cy]
  unfold w_ at q ⊢
  cases e:c Z h with
  |exc x a=>rfl
  |bad=>rfl
  |ok x a =>
   rw[e]at q
   cases x with
   |false=>rfl
   |true =>
    simp only[if_true]at q ⊢
    cases em:b Z a with
    |nx i j=>rw[em]at q;exact kL q
    |ct i j=>rw[em]at q;exact kL q
    |_=>rfl
def uf(q:cy c b n Z h≠.bad)(l:n<=m):cy c b m Z h=cy c b n Z h:=by
 induction l with
 |refl=>rfl
 |step l a=>rw[kL (by rw[a];exact q),a]
def nN(q:cy c b n Z h≠.bad):F1 c b Z h=cy c b n Z h:=by
 have z:∃n,cy c b n Z h≠.bad:=⟨n,q⟩;unfold F1;rw[dif_pos z];have a:=Classical.choose_spec z;rcases Nat.le_total n (Classical.choose z)with l|l
 .exact uf q l
 .exact (uf a l).symm
def yu(gd:Good X N W G k)(hc:MT X c mc)(hb:AD X body mb):MS X (.While c body [] pos) (F1 mc mb):=by
 refine PS.imp (zo gd.po hc hb) λD Z H ⟨U,a,h,rs,rh,q⟩=>?_;refine⟨λm Z H=>∃U a h,RS X.K U H a Z/\RH X.K X.mg U H h/\bj X U H (cy mc mb m a h) D,?_,?_⟩
 .unfold F1 at q
  split at q
  .exact⟨_,U,a,h,rs,rh,q⟩
  .exact q.elim
 .rintro m Z1 H1 ⟨R,i,h1,l,E,O⟩
  cases m with
  |zero=>exact O.elim
  |succ m =>
   refine⟨R,i,h1,l,E,bj.ex O λL H2 v v' P M Q z w=>?_⟩;cases z
   cases v with
   |false=>exact w L H2 Z1 (Le.refl _ _) Q (l.le M)
   |true =>
    rw[c_ rfl]at w ⊢;refine⟨λZ H=>∃U a h,RS X.K U H a Z/\RH X.K X.mg U H h/\bj X U H (cy mc mb m a h) D,λZ' H' z=>⟨m,Mc _,z⟩,L,i,P,l.le M,Q,?_⟩
    cases em:mb i P with
    |nx u j=>rw[em]at w;exact λC S Z7 B y F=>⟨C,u,j,F,y,bj.le B w⟩
    |ct u j=>rw[em]at w;exact λC S Z7 B y F=>⟨C,u,j,F,y,bj.le B w⟩
    |bk u j=>rw[em]at w;exact w
    |rt v j=>rw[em]at w;exact w
    |exc e u j=>rw[em]at w;exact w
    |rse e u j=>rw[em]at w;exact w
    |bad=>rw[em]at w;exact w
def cM(f:PV->Option PyData):RL->Option (List PyData)
 |[]=>J []
 |x::r=>match f x,cM f r with
  |some d,J a=>J (d::a)
  |_,_=>Y
def rd:Nat->MH->PV->Option PyData
 |0,_,v=>(match v with
  |.non=>J .none
  |.bl b=>J (.bool b)
  |.int i=>J (.int i)
  |.str x=>J (.str x)
  |_=>Y)
 |n+1,h,v=>(match v with
  |.non=>J .none
  |.bl b=>J (.bool b)
  |.int i=>J (.int i)
  |.str x=>J (.str x)
  |.tup xs=>(cM (rd n h) xs).map PyData.tuple
  |.frl xs=>(cM (rd n h) xs).map PyData.list
  |.loc m=>(match h[m]? with
   |some (.lst xs)=>(cM (rd n h) xs).map PyData.list
   |_=>Y))
def gb{l:Heap}{f:PV->Option PyData}{K:g_}{U:RT}{H:Hp}(hf:∀v y u d,RP K U H v y->aQ y u->f v=J d->∃j,Reads l u d j):
  ∀{xs:RL}{ys:List V}{i:RU}{a:List PyData},RPs K U H xs ys->aL ys i->cM f xs=J a->∃j,ReadsAll l i a j:=by
 intro xs
 induction xs with
 |nil =>
  intro ys i a r v e;cases r;cases v;cases e;exact⟨_,.nil⟩
 |cons x xs C =>
  intro ys i a r v e;cases r with|cons r t=>cases v with|cons v w =>
  simp only[cM]at e
  split at e
  .rename_i d z e1 e2
   cases e;obtain⟨F,E⟩:=hf _ _ _ _ r v e1;obtain⟨L,B⟩:=C t w e2;exact⟨_,.cons E B⟩
  .cases e
def fS{Q:RV}{Z:L2.St}{H:Hp}{s:Shared}{U:RT}{h:MH}(j:Inv X Q Z H s)(P:RH X.K X.mg U H h):
  ∀(n:Nat)(v:PV)(C:V)(u:Value)(d:PyData),RP X.K U H v C->aQ C u->rd n h v=J d->∃B,Reads s.heap u d B:=by
 intro n
 induction n with
 |zero =>
  intro v C u d rp r e
  cases rp with
  |non=>cases e;cases r;exact⟨_,.none⟩
  |bl b=>cases e;cases r;exact⟨_,.bool b⟩
  |int i=>cases e;obtain⟨t,rfl⟩:=r;exact⟨_,.int i t⟩
  |str i=>cases e;obtain⟨t,rfl⟩:=r;exact⟨_,.str i t⟩
  |_=>cases e
 |succ n F =>
  intro v C u d rp r e
  cases rp with
  |non=>cases e;cases r;exact⟨_,.none⟩
  |bl b=>cases e;cases r;exact⟨_,.bool b⟩
  |int i=>cases e;obtain⟨t,rfl⟩:=r;exact⟨_,.int i t⟩
  |str i=>cases e;obtain⟨t,rfl⟩:=r;exact⟨_,.str i t⟩
  |@tup xs a ys s L =>
   cases r;simp only[rd]at e
   cases q:cM (rd n h) xs with
   |none=>rw[q]at e;cases e
   |some M =>
    rw[q]at e;cases e;obtain⟨l,y,⟨o,e1,e2,m,e3⟩,_⟩:=j.tuple s;obtain⟨B,z⟩:=gb (F) L y q;exact⟨_,.tuple e1 e2 e3 (by simpa using z)⟩
  |@frl xs a ys s L =>
   cases r;simp only[rd]at e
   cases q:cM (rd n h) xs with
   |none=>rw[q]at e;cases e
   |some M =>
    rw[q]at e;cases e;obtain⟨l,y,⟨o,m,e1,e2,_,e3⟩,_⟩:=j.list s.sq;obtain⟨B,z⟩:=gb (F) L y q;exact⟨_,.list e1 e2 e3 (by simpa using z)⟩
  |loc O =>
   cases r;simp only[rd]at e;obtain⟨ob,eo,E⟩:=P.obj O;rw[eo]at e
   cases ob with
   |dic fz ks xs=>cases e
   |exc x=>cases e
   |lst xs =>
    obtain⟨ys,R,S⟩:=E;dsimp only at e
    cases q:cM (rd n h) xs with
    |none=>rw[q]at e;cases e
    |some M =>
     rw[q]at e;cases e;obtain⟨l,y,⟨o,m',e1,e2,_,e3⟩,_⟩:=j.list (SqL.of (K:=X.K) R);obtain⟨B,z⟩:=gb (F) S y q;exact⟨_,.list e1 e2 e3 (by simpa using z)⟩
def zL(x y:PV)(h:MH):RB:=match rd 60 h x,rd 60 h y with
 |some a,J b=>if SeqAt.shaped a=I/\SeqAt.shaped b=I then .ok (.bl (PyData.eqv a b)) h else .bad
 |_,_=>.bad
def yJ(x y:PV)(h:MH):RB:=match rd 60 h x,rd 60 h y with
 |some a,J b=>if SeqAt.shaped a=I/\SeqAt.shaped b=I then .ok (.bl (!PyData.eqv a b)) h else .bad
 |_,_=>.bad
def nZ(hr:Room k X.A):zE X (compareOp .Eq) zL:=by
 intro S s Z H R P u v Q i z j ⟨U,h,x,y,l,F,O,q⟩;unfold zL at q
 split at q
 .rename_i a b C L
  split at q
  .rename_i B
   obtain⟨_,M⟩:=fS i l 60 x R u a F z C;obtain⟨_,E⟩:=fS i l 60 y P v b O j L;exact eq_dataH M E B.1 B.2 hr.units ⟨.bl _,H,i,rfl,q U H _ (Le.refl _ _) l (.bl _)⟩
  .exact q.elim
 .exact q.elim
def vq(hr:Room k X.A):zE X (compareOp .NotEq) yJ:=by
 intro S s Z H R P u v Q i z j ⟨U,h,x,y,l,F,O,q⟩;unfold yJ at q
 split at q
 .rename_i a b C L
  split at q
  .rename_i B
   obtain⟨_,M⟩:=fS i l 60 x R u a F z C;obtain⟨_,E⟩:=fS i l 60 y P v b O j L;exact ne_dataH M E B.1 B.2 hr.units ⟨.bl _,H,i,rfl,q U H _ (Le.refl _ _) l (.bl _)⟩
  .exact q.elim
 .exact q.elim
def m6(f:Int->Int->PV):PV->PV->MH->RB:=λx y h=>match x,y with
 |.int i,.int j=>.ok (f i j) h
 |_,_=>.bad
def nF(C:OpR X F (BO f))(a:∀U H i j,RP X.K U H (g i j) (f i j)):zE X F (m6 g):=by
 intro M s Z H R P u v Q z B l ⟨U,h,x,y,L,E,O,q⟩;unfold m6 at q
 split at q
 .cases E;cases O;exact C M s Z H _ _ u v Q z B l ⟨_,_,rfl,rfl,q U H _ (Le.refl _ _) L (a U H _ _)⟩
 .exact q.elim
def A0:=m6 λi j=>.bl (decide (i<j))
def B8:=m6 λi j=>.bl (decide (i<=j))
def Bk:=m6 λi j=>.bl (decide (j<i))
def A1:=m6 λi j=>.bl (decide (j<=i))
def Ea:zE X (compareOp .Lt) A0:=nF Ju λ_ _ _ _=>.bl _
def JR:zE X (compareOp .LtE) B8:=nF Jv λ_ _ _ _=>.bl _
def Eb:zE X (compareOp .Gt) Bk:=nF Jw λ_ _ _ _=>.bl _
def Ec:zE X (compareOp .GtE) A1:=nF Jx λ_ _ _ _=>.bl _
def pG(a:Bool):PV->PV->MH->RB:=λx y h=>match y with
 |.non=>(match x with
  |.non=>.ok (.bl (!a)) h
  |_=>.ok (.bl a) h)
 |.bl b=>(match x with
  |.bl c=>.ok (.bl (if a then !(c==b)else c==b)) h
  |.non=>.ok (.bl a) h
  |.int _=>.ok (.bl a) h
  |.str _=>.ok (.bl a) h
  |.tup _=>.ok (.bl a) h
  |_=>.bad)
 |_=>.bad
def ki(x y:PV)(h:MH):RB:=match x,y with
 |.int i,.int j=>if IntMulOk i j then .ok (.int (i*j)) h else .bad
 |.loc n,.int j=>(match h[n]? with
  |some (.lst xs)=>if -(2^63)<=j/\j<2^63 then q7 (List.flatten (List.replicate j.toNat xs)) h else .bad
  |_=>.bad)
 |_,_=>.bad
def AI(x y:PV)(h:MH):RB:=match x,y with
 |.int i,.int j=>if j≠0 then .ok (.int (i.fdiv j)) h else .bad
 |_,_=>.bad
def nw(x y:PV)(h:MH):RB:=match x,y with
 |.int i,.int j=>if j≠0 then .ok (.int (i.fmod j)) h else .bad
 |_,_=>.bad
def rk(x y:PV)(h:MH):RB:=match x,y with
 |.int i,.int j=>if fL i j then .ok (.int (i^j.toNat)) h else .bad
 |_,_=>.bad
def l_(x y:PV)(h:MH):RB:=match x,y with
 |.int i,.int j=>.ok (.int (i+j)) h
 |.str a,.str b=>if a.length+b.length<=sizeLine then .ok (.str (a++b)) h else .bad
 |.loc n,.loc m=>(match h[n]?,h[m]? with
  |some (.lst xs),J (.lst ys)=>q7 (xs++ys) h
  |_,_=>.bad)
 |.tup xs,.tup ys=>if xs≠[]then m2 (xs++ys) h else .bad
 |_,_=>.bad
def Bl:=m6 λi j=>.int (i-j)
def Bm(x:PV)(h:MH):RB:=match x with
 |.int i=>.ok (.int (-i)) h
 |_=>.bad
def F2:zE X (binaryOp .Sub) Bl:=nF Fq λ_ _ _ _=>.int _
def F3:Qm X (unaryOp .USub) Bm:=by
 intro z s Z H B u Q j a ⟨U,h,x,y,l,q⟩
 cases l with
 |int i=>exact Ft z s Z H _ u Q j a ⟨i,rfl,q U H _ (Le.refl _ _) y (.int _)⟩
 |_=>exact q.elim
def Q1{j:RV}{Z:L2.St}{H:Hp}{s:Shared}(hr:Room k X.A)(a:Inv X j Z H s):PylongRoom (model X.prog X.w) X.A s:=by obtain⟨e,l,z,y,i,u,B⟩:=a.ok.top;exact PylongRoom.of a.nolimit (by have:=hr.dp;show X.A.depth+100<_;ext) (SeerAt.of (a.ok.mod.seer.keeps a.bk) a.ok.tree (a.ok.frames.trans (congrArg J z)) y i u B)
def vO(hr:Room k X.A):zE X (binaryOp .FloorDiv) AI:=by
 intro M s Z H P O u v Q a B l ⟨U,h,x,y,E,C,F,q⟩;unfold AI at q
 split at q
 .rename_i i j
  cases C;cases F;obtain⟨t,rfl⟩:=B;obtain⟨L,rfl⟩:=l;by_cases z:j≠0
  .rw[c_ z]at q;exact floordiv_int z ⟨.int _,H,a.tok _,⟨_,rfl⟩,q U H _ (Le.refl _ _) E (.int _)⟩ (.inr (Q1 hr a))
  .rw[hI z]at q;exact q.elim
 .exact q.elim
def dM:zE X (binaryOp .Mod) nw:=by
 intro F s Z H M L u v Q i j a ⟨U,h,x,y,z,l,C,q⟩;unfold nw at q
 split at q
 .cases l;cases C
  split at q
  .rename_i B
   obtain⟨t,rfl⟩:=j;obtain⟨E,rfl⟩:=a;exact mod_int' B ⟨.int _,H,i.tok _,⟨_,rfl⟩,q U H _ (Le.refl _ _) z (.int _)⟩
  .exact q.elim
 .exact q.elim
def re:zE X (binaryOp .Pow) rk:=by
 intro E s Z H O M u v Q l z a ⟨U,h,x,y,C,B,L,q⟩;unfold rk at q
 split at q
 .rename_i i j
  cases B;cases L
  split at q
  .rename_i F
   exact Fs E s Z H _ _ u v Q l z a ⟨i,j,rfl,rfl,F,q U H _ (Le.refl _ _) C (.int _)⟩
  .exact q.elim
 .exact q.elim
def dy:zE X (binaryOp .Add) l_:=by
 intro M s Z H x' y' u v Q B C l ⟨U,h,x,y,E,rx,L,q⟩
 cases rx with
 |int i =>
  cases L with
  |int j=>exact Fp M s Z H _ _ u v Q B C l ⟨i,j,rfl,rfl,q U H _ (Le.refl _ _) E (.int _)⟩
  |_=>exact q.elim
 |str a =>
  cases L with
  |str b =>
   dsimp only[l_]at q
   split at q
   .rename_i hl
    exact vC M s Z H _ _ u v Q B C l ⟨a,b,rfl,rfl,hl,q U H _ (Le.refl _ _) E (.str _)⟩
   .exact q.elim
  |_=>exact q.elim
 |@loc n a e =>
  cases L with
  |@loc m b e2 =>
   dsimp only[l_]at q;obtain⟨o1,h1,F⟩:=E.obj e;obtain⟨o2,h2,O⟩:=E.obj e2;rw[h1,h2]at q
   cases o1 with
   |dic fz ks xs=>exact q.elim
   |exc x=>exact q.elim
   |lst xs =>
    cases o2 with
    |dic fz ks xs=>exact q.elim
    |exc x=>exact q.elim
    |lst ys =>
     obtain⟨ak,ex,P⟩:=F;obtain⟨ab,ey,R⟩:=O;obtain⟨z1,S⟩:=lO E (P.append R) q;exact FF M s Z H _ _ u v Q B C l ⟨a,b,ak,ab,rfl,rfl,ex,ey,by rw[<-EY];exact z1,S⟩
  |_=>exact q.elim
 |tup s1 F =>
  cases L with
  |tup s2 O =>
   dsimp only[l_]at q
   split at q
   .rename_i ai
    obtain⟨z1,S⟩:=uC E (F.append O) q;refine BY M s Z H _ _ u v Q B C l ⟨_,_,_,_,rfl,rfl,s1,s2,?_,by rw[<-EY];exact z1,λz=>?_,λ_=>S⟩
    .rintro rfl;cases F;exact ai rfl
    .subst z;cases O;unfold m2 at q
     split at q
     .exact q U H _ (Le.refl _ _) E (by rw[By];exact .tup s1 F)
     .exact q.elim
   .exact q.elim
  |_=>exact q.elim
 |_=>cases L<;>exact q.elim
def RPs.rep{K:g_}{U:RT}{H:Hp}{xs:RL}{ys:List V}(r:RPs K U H xs ys):∀n:Nat,RPs K U H (List.replicate n xs).flatten (List.replicate n ys).flatten
 |0=>.nil
 |n+1=>by exact r.append (RPs.rep r n)
def gF:zE X (binaryOp .Mult) ki:=by
 intro S s Z H x' y' u v Q z B l ⟨U,h,x,y,E,O,F,q⟩
 cases O with
 |int i =>
  cases F with
  |int j =>
   dsimp only[ki]at q
   split at q
   .rename_i hc
    obtain⟨t,rfl⟩:=B;obtain⟨t',rfl⟩:=l;exact PyProof.Rows.mul_int ⟨.int _,H,z.tok _,⟨_,rfl⟩,q U H _ (Le.refl _ _) E (.int _)⟩ hc
   .exact q.elim
  |_=>exact q.elim
 |@loc n a e =>
  cases F with
  |int j =>
   dsimp only[ki]at q;obtain⟨o1,h1,P⟩:=E.obj e;rw[h1]at q
   cases o1 with
   |dic fz ks xs=>exact q.elim
   |exc x=>exact q.elim
   |lst xs =>
    dsimp only at q
    split at q
    .rename_i M
     obtain⟨L,ex,C⟩:=P;obtain⟨z1,R⟩:=lO E (C.rep j.toNat) q;refine FG S s Z H _ _ u v Q z B l ⟨a,j,L,rfl,rfl,ex,M.1,M.2,?_,R⟩;rw[uO]at z1;rw[Nat.mul_comm];exact z1
    .exact q.elim
  |_=>exact q.elim
 |_=>cases F<;>exact q.elim
def nH{i:RV}{Z:L2.St}{H:Hp}{s:Shared}{Q:VK}{x':V}{u:Value}{b c:Bool}(a:Inv X i Z H s)(r:aQ x' u)(j:plainIs u (.bool b)=I)(l:(u == .bool b)=c)(q:Q (.bl c) H):
  wpAny (model X.prog X.w) X.A (compareOp .Is u (.bool b)) (EP X i Z Q) X.xe s:=by
 exact i_ (wpAny_isSame_plain j (pz (by rw[l];exact⟨.bl c,H,a,rfl,q⟩)))
def JS:zE X (compareOp .Is) (pG T):=by
 intro C s Z H O M u v Q a j z ⟨U,h,x,y,l,B,E,q⟩
 cases E with
 |non =>
  refine Fw C s Z H _ _ u v Q a j z ⟨rfl,?_⟩;cases B<;>exact q U H _ (Le.refl _ _) l (by first | exact .bl I | exact .bl T)
 |bl b =>
  cases z
  cases B with
  |non=>cases j;exact nH (x':=.non) a rfl (by cases b<;>rfl) (by cases b<;>rfl) (q U H _ (Le.refl _ _) l (.bl T))
  |bl c=>cases j;exact nH (x':=.bl c) a rfl (by cases b<;>cases c<;>rfl) (by cases b<;>cases c<;>rfl) (q U H _ (Le.refl _ _) l (.bl _))
  |int i=>obtain⟨t,rfl⟩:=j;exact nH (x':=.int i) a ⟨_,rfl⟩ (by cases b<;>rfl) (by cases b<;>rfl) (q U H _ (Le.refl _ _) l (.bl T))
  |str i=>obtain⟨t,rfl⟩:=j;exact nH (x':=.str i) a ⟨_,rfl⟩ (by cases b<;>rfl) (by cases b<;>rfl) (q U H _ (Le.refl _ _) l (.bl T))
  |tup F L=>cases j;exact nH (x':=.ref _) a rfl (by cases b<;>rfl) (by cases b<;>rfl) (q U H _ (Le.refl _ _) l (.bl T))
  |_=>exact q.elim
 |_=>exact q.elim
def aM(x y:PV)(h:MH):RB:=match y with
 |.int i=>(match x with
  |.loc n=>(match h[n]? with
   |some (.lst xs)=>(match nr xs i with
    |some v=>.ok v h
    |none=>.bad)
   |_=>.bad)
  |.tup xs=>(match nr xs i with
   |some v=>.ok v h
   |none=>.bad)
  |.frl xs=>(match nr xs i with
   |some v=>.ok v h
   |none=>.bad)
  |.str z=>(match nr z.cps.toList i with
   |some c=>if z.length<=sizeLine then .ok (.str ⟨#[c]⟩) h else .bad
   |none=>.bad)
  |_=>.bad)
 |_=>.bad
def oJ{K:g_}{U:RT}{H:Hp}{xs:RL}{ys:List V}{i:Int}{v:PV}(r:RPs K U H xs ys)(e:nr xs i=J v):∃a,nr ys i=J a/\RP K U H v a:=by
 unfold nr at e ⊢;rw[<-r.length]
 cases q:vr xs.length i with
 |none=>rw[q]at e;cases e
 |some j =>
  rw[q]at e;exact r.get e
def Ed{a b:Expr}{ma mb:Mx PV}{R:Pos}(ha:ME X a ma)(hb:ME X b mb)(hs:jA b):ME X (.Subscript a b R) (ao aM ma mb):=by
 refine PE.imp (JD FC ha hb hs) λZ H Q q=>?_;obtain⟨U,B,h,rs,rh,q⟩:=q;refine⟨U,B,h,rs,rh,Ful.bind q λU1 H1 x x' h1 _ l1 ab rx q1=>⟨U1,B,h1,rs.le l1,ab,Ful.bind q1 λM O y y' h2 _ l2 u ry j=>?_⟩⟩;have ai:=rx.le l2
 cases ry with
 |int i =>
  cases ai with
  |@loc n a e =>
   obtain⟨ob,eo,S⟩:=u.obj e;dsimp only[aM]at j;rw[eo]at j
   cases ob with
   |dic fz ks xs=>exact j.elim
   |exc x=>exact j.elim
   |lst xs =>
    obtain⟨ys,ey,E⟩:=S;dsimp only at j
    cases l:nr xs i with
    |none=>rw[l]at j;exact j.elim
    |some v =>
     rw[l]at j;obtain⟨F,L,C⟩:=oJ E l;exact .inl ⟨a,ys,i,F,rfl,rfl,SqL.of ey,L,j M O _ (Le.refl _ _) u C⟩
  |@tup xs a ys P E =>
   dsimp only[aM]at j
   cases l:nr xs i with
   |none=>rw[l]at j;exact j.elim
   |some v =>
    rw[l]at j;obtain⟨F,L,C⟩:=oJ E l;exact .inr (.inl ⟨_,_,i,F,rfl,rfl,P,L,j M O _ (Le.refl _ _) u C⟩)
  |@frl xs a ys P E =>
   dsimp only[aM]at j
   cases l:nr xs i with
   |none=>rw[l]at j;exact j.elim
   |some v =>
    rw[l]at j;obtain⟨F,L,C⟩:=oJ E l;exact .inl ⟨_,_,i,F,rfl,rfl,P.sq,L,j M O _ (Le.refl _ _) u C⟩
  |str z =>
   dsimp only[aM]at j
   cases l:nr z.cps.toList i with
   |none=>rw[l]at j;exact j.elim
   |some c =>
    rw[l]at j;dsimp only at j
    split at j
    .rename_i hz
     exact .inr (.inr ⟨z,i,c,rfl,rfl,hz,l,j M O _ (Le.refl _ _) u (.str _)⟩)
    .exact j.elim
  |_=>exact j.elim
 |_=>exact j.elim
def n_(f:RL->MH->RB)(m:Mx (RL)):Mx PV:=λZ h=>(m Z h).bind λxs a=>(f xs a).ne
section
variable{x:Str}{id T:String}{e:Expr}{es:RZ}{f:RL->MH->RB}{m:Mx (RL)}{p pos:Pos}
def Ee{Z:L2.St}{H:Hp}{Q:VK}(q:tM X (RV' X) (n_ f m) Z H Q):N8 (cJ X f) (tM X (RVs' X) m) Z H Q:=by obtain⟨U,a,h,y,u,q⟩:=q;exact⟨U,a,h,y,u,Ful.bind q λj C x F B _ E i l z=>⟨j,B,x,i,l,z.zero⟩⟩
def rj(g:Good X N W G k)(j:Nat)(i:G[j]?=J x)(y:cZ X (.builtin id) f)(hm:X.mg x=Y)(hv:bootBuiltins x=J (.builtin id))(u:MA X (e::es) m)(l:starEach (e::es) X.env=(false,eval e X.env)::starEach es X.env:=by rfl)(a:(backTo pos (starEach es X.env)).any (·.1)=false:=by rfl):ME X (.Call (.Name x p) (e::es) [] pos) (n_ f m) :=
 have d:=g.dbg x (tf _ (aD i))
 PE.imp (iB y (g.gl x (aD i)) hm hv u d.2.2 d.1 l a) λ_ _ _ q=>Ee q
def qE(g:Good X N W G k)(j:Nat)(i:G[j]?=J x)(y:cZ X (.type T) f)(hm:X.mg x=Y)(hv:bootBuiltins x=J (.type T))(u:MA X (e::es) m)(l:starEach (e::es) X.env=(false,eval e X.env)::starEach es X.env:=by rfl)(a:(backTo pos (starEach es X.env)).any (·.1)=false:=by rfl):ME X (.Call (.Name x p) (e::es) [] pos) (n_ f m) :=
 have d:=g.dbg x (tf _ (aD i))
 PE.imp (pZ y (g.gl x (aD i)) hm hv u d.2.2 d.1 l a) λ_ _ _ q=>Ee q
end
def Ay(xs:RL)(h:MH):RB:=match xs with
 |[.int i]=>.ok (.int (if i<0 then -i else i)) h
 |_=>.bad
def zM(xs:RL)(h:MH):RB:=match xs with
 |[.int i,.int j]=>.ok (.int (if j<i then j else i)) h
 |_=>.bad
def AJ(xs:RL)(h:MH):RB:=match xs with
 |[.int i,.int j]=>.ok (.int (if j>i then j else i)) h
 |_=>.bad
def yL(xs:RL)(h:MH):RB:=match xs with
 |[.int i]=>.ok (.int i) h
 |[.bl b]=>.ok (.int (if b then 1 else 0)) h
 |_=>.bad
def oh(xs:RL)(h:MH):RB:=match xs with
 |[.loc n]=>(match h[n]? with
  |some (.lst ys)=>.ok (.int ys.length) h
  |_=>.bad)
 |[.tup ys]=>.ok (.int ys.length) h
 |[.frl ys]=>.ok (.int ys.length) h
 |[.str z]=>if z.length<=sizeLine then .ok (.int z.length) h else .bad
 |_=>.bad
def sj:cZ X (.builtin "abs") Ay:=by
 intro y s Z H xs z Q a r ⟨U,h,B,u,rp,q⟩
 cases rp with
 |nil=>exact q.elim
 |cons j l =>
  cases l with
  |cons _ _=>cases j<;>exact q.elim
  |nil =>
   cases j with
   |int i=>exact zy y s Z H _ z Q a r ⟨i,rfl,q U H _ (Le.refl _ _) u (.int _)⟩
   |_=>exact q.elim
def rN{f:RL->MH->RB}{F:Int->Int->Int}{r:List V->Hp->VK->Prop}{u:Value}(hf:∀i j h,f [.int i,.int j] h=.ok (.int (F i j)) h)(M:∀xs h,(∀i j,xs≠[.int i,.int j])->f xs h=.bad)(L:c6 X u (λxs H Q=>∃i j,xs=[.int i,.int j]/\Q (.int (F i j)) H)):cZ X u f:=by
 intro E s Z H xs O Q a r ⟨U,h,l,B,rp,q⟩;by_cases z:∃i j,l=[.int i,.int j]
 .obtain⟨i,j,rfl⟩:=z
  cases rp with
  |cons C y=>cases y with
   |cons P t2 =>
    cases t2;cases C;cases P;rw[hf]at q;exact L E s Z H _ O Q a r ⟨i,j,rfl,q U H _ (Le.refl _ _) B (.int _)⟩
 .rw[M l h λi j e=>z ⟨i,j,e⟩]at q;exact q.elim
def sv(g:Good X N W G k):cZ X (.builtin "min") zM:=rN (r:=λ_ _ _=>True) (λ_ _ _=>rfl) (λxs h z=>by unfold zM;split<;>first | rfl | exact absurd rfl (z _ _)) (wn g.calm)
def F4(g:Good X N W G k):cZ X (.builtin "max") AJ:=rN (r:=λ_ _ _=>True) (λ_ _ _=>rfl) (λxs h z=>by unfold AJ;split<;>first | rfl | exact absurd rfl (z _ _)) (wL g.calm)
def F5:cZ X (.type "int") yL:=by
 intro u s Z H xs y Q a r ⟨U,h,B,j,rp,q⟩
 cases rp with
 |nil=>exact q.elim
 |cons l z =>
  cases z with
  |cons _ _=>cases l<;>exact q.elim
  |nil =>
   cases l with
   |int i=>exact qj u s Z H _ y Q a r (.inl ⟨i,rfl,q U H _ (Le.refl _ _) j (.int _)⟩)
   |bl b=>exact qj u s Z H _ y Q a r (.inr ⟨b,rfl,q U H _ (Le.refl _ _) j (.int _)⟩)
   |_=>exact q.elim
def jw:cZ X (.builtin "len") oh:=by
 intro u s Z H xs y Q i r ⟨U,h,R,j,rp,q⟩
 cases rp with
 |nil=>exact q.elim
 |cons E F =>
  cases F with
  |cons _ _=>cases E<;>exact q.elim
  |nil =>
   cases E with
   |@loc n a e =>
    obtain⟨P,M,C⟩:=j.obj e;dsimp only[oh]at q;rw[M]at q
    cases P with
    |dic fz S xs=>exact q.elim
    |exc x=>exact q.elim
    |lst xs =>
     obtain⟨ys,L,l⟩:=C;exact jX u s Z H _ y Q i r ⟨_,_,rfl,.inl ⟨ys,SqL.of L,rfl⟩,by rw[<-l.length];exact q U H _ (Le.refl _ _) j (.int _)⟩
   |tup B l=>exact jX u s Z H _ y Q i r ⟨_,_,rfl,.inr ⟨_,B,rfl⟩,by rw[<-l.length];exact q U H _ (Le.refl _ _) j (.int _)⟩
   |frl B l=>exact jX u s Z H _ y Q i r ⟨_,_,rfl,.inl ⟨_,B.sq,rfl⟩,by rw[<-l.length];exact q U H _ (Le.refl _ _) j (.int _)⟩
   |str z =>
    dsimp only[oh]at q
    split at q
    .rename_i O
     exact jX u s Z H _ y Q i r ⟨_,_,rfl,⟨O,rfl⟩,q U H _ (Le.refl _ _) j (.int _)⟩
    .exact q.elim
   |_=>exact q.elim
def Ar(h:MH):PV->Option String
 |.non=>J "NoneType"
 |.bl _=>J "bool"
 |.int _=>J "int"
 |.str _=>J "str"
 |.tup _=>J "tuple"
 |.frl _=>J "list"
 |.loc n=>match h[n]? with
  |some (.lst _)=>J "list"
  |some (.dic _ _ _)=>J "dict"
  |_=>Y
def dm(t:String)(a:String):Bool:=t==a||(t == "bool" && a == "int")
def eR(a:List String)(x:PV)(h:MH):RB:=match Ar h x with
 |some t=>.ok (.bl (a.any (dm t))) h
 |none=>.bad
def Ip(a:String):Prop:=∀K:g_,∀t∈["NoneType","bool","int","str","tuple","list","dict"],PySem.W.kitOne K (.type t) (.type a)=J (dm t a)
def r9(B:∀K,PySem.W.kitOne K (.type "NoneType") (.type b)=J (dm "NoneType" b))(y:∀K,PySem.W.kitOne K (.type "bool") (.type b)=J (dm "bool" b))(i:∀K,PySem.W.kitOne K (.type "int") (.type b)=J (dm "int" b))(j:∀K,PySem.W.kitOne K (.type "str") (.type b)=J (dm "str" b))(z:∀K,PySem.W.kitOne K (.type "tuple") (.type b)=J (dm "tuple" b))(l:∀K,PySem.W.kitOne K (.type "list") (.type b)=J (dm "list" b))(u:∀K,PySem.W.kitOne K (.type "dict") (.type b)=J (dm "dict" b)):Ip b:=by
 intro K t a;simp only[n8,DP,or_false]at a;rcases a with rfl|rfl|rfl|rfl|rfl|rfl|rfl
 .exact B K
 .exact y K
 .exact i K
 .exact j K
 .exact z K
 .exact l K
 .exact u K
def B9:Ip "int":=r9 (λ_=>rfl) (λ_=>rfl) (λ_=>rfl) (λ_=>rfl) (λ_=>rfl) (λ_=>rfl) (λ_=>rfl)
def yF:Ip "bool":=r9 (λ_=>rfl) (λ_=>rfl) (λ_=>rfl) (λ_=>rfl) (λ_=>rfl) (λ_=>rfl) (λ_=>rfl)
def zm:Ip "list":=r9 (λ_=>rfl) (λ_=>rfl) (λ_=>rfl) (λ_=>rfl) (λ_=>rfl) (λ_=>rfl) (λ_=>rfl)
def pe{S:RV}{Z:L2.St}{H:Hp}{s:Shared}{U:RT}{h:MH}{x:PV}{M:V}{u:Value}{t:String}(j:Inv X S Z H s)(Q:RH X.K X.mg U H h)(P:RP X.K U H x M)(l:aQ M u)(e:Ar h x=J t):
  t∈["NoneType","bool","int","str","tuple","list","dict"]/\u≠.builtin "__main__.__loader__#opaque"/\∃L,PySem.W.KitX X.K u (.type t) L/\L s.heap:=by
 cases P with
 |non=>cases e;cases l;exact⟨by simp,(λz=>nomatch z),_,PySem.W.kitx_none,trivial⟩
 |bl b=>cases e;cases l;exact⟨by simp,(λz=>nomatch z),_,PySem.W.kitx_bool,trivial⟩
 |int i=>cases e;obtain⟨t,rfl⟩:=l;exact⟨by simp,(λz=>nomatch z),_,PySem.W.kitx_int,trivial⟩
 |str i=>cases e;obtain⟨t,rfl⟩:=l;exact⟨by simp,(λz=>nomatch z),_,PySem.W.kitx_str,trivial⟩
 |tup C R =>
  cases e;cases l;obtain⟨y,F,⟨o,e1,e2,_⟩,_⟩:=j.tuple C;exact⟨by simp,(λz=>nomatch z),_,PySem.W.kitx_tuple,⟨o,e1,e2⟩⟩
 |frl C R =>
  cases e;cases l;obtain⟨y,F,⟨o,m,e1,e2,_,e3⟩,_⟩:=j.list C.sq;exact⟨by simp,(λz=>nomatch z),_,PySem.W.kitx_list,⟨o,e1,e2⟩⟩
 |@loc n a O =>
  obtain⟨ob,eo,B⟩:=Q.obj O;dsimp only[Ar]at e;rw[eo]at e;cases l
  cases ob with
  |lst xs =>
   cases e;obtain⟨ys,E,_⟩:=B;obtain⟨y,F,⟨o,m,e1,e2,_,e3⟩,_⟩:=j.list (SqL.of E);exact⟨by simp,(λz=>nomatch z),_,PySem.W.kitx_list,⟨o,e1,e2⟩⟩
  |dic fz ks xs =>
   cases e;obtain⟨zs,_,_,E⟩:=B;obtain⟨_,_,vs,_,p⟩:=lu j.hok E;obtain⟨o,es,ep,h1,h2,_⟩:=p;exact⟨by simp,(λz=>nomatch z),_,PySem.W.kitx_dict,⟨o,h1,h2.1⟩⟩
  |exc x=>cases e
def F6(g:Good X N W G k){a:Expr}{m:Mx PV}{l:String}{c:Str}{i j:Nat}{p q z:Pos}(hi:G[i]?=J "isinstance")(hm:X.mg "isinstance"=Y)(hj:G[j]?=J c)(hc:X.mg c=Y)(hv:bootBuiltins c=J (.type l))(hT:Ip l)(ha:ME X a m)(he:starEach [a,.Name c q] X.env=(T,eval a X.env)::starEach [.Name c q] X.env:=by rfl)(F:starEach [.Name c q] X.env=[(T,eval (.Name c q) X.env)]:=by rfl)(P:(backTo z (starEach [.Name c q] X.env)).any (·.1)=T:=by rfl):
  ME X (.Call (.Name "isinstance" p) [a,.Name c q] [] z) (yV (eR [l]) m):=by
 have S:=g.dbg _ (tf _ (aD hi));have d:=g.dbg c (tf _ (aD hj));have u:c6 X (.builtin "isinstance") (λxs H Q=>∃B,xs=[B,.ty l]/\uJ X (eR [l]) B H Q):=by
  intro J4 s Z H xs us Q y r ⟨B,e,U,h,x,C,L,q⟩;subst e
  cases r with
  |cons r1 t1=>cases t1 with
   |cons r2 t2 =>
    cases t2;obtain rfl:=(r2);unfold eR at q
    cases M:Ar h x with
    |none=>rw[M]at q;exact q.elim
    |some t =>
     rw[M]at q;obtain⟨ht,R,Hq,Za,hz⟩:=pe y C L r1 M
     exact PySem.W.kia_one Za y.kIn hz (hT X.K t ht) R λtk=>⟨.bl _,H,y.tok _,rfl,by
      have q':=q U H _ (Le.refl _ _) C (.bl _)
      simpa using q'⟩
 refine PE.imp (iB u (g.gl _ (aD hi)) hm PyProof.Rows.Boot.«isinstance» (cC ha (cC (uP (v:=.ty l) (g.gl c (aD hj)) hc hv rfl d.2.2 d.1) gC F) he) S.2.2 S.1 he P) λZ H Q ⟨U,E,h,rs,C,q⟩=>?_;exact⟨U,E,h,rs,C,Ful.bind q λU1 H1 x B h1 _ l1 O L q1=>⟨B,rfl,U1,h1,x,O,L,q1.zero⟩⟩
def F7(K:g_)(mg:Aq)(F:RL->MH->RB):Sp:=λz H Q E=>∃U l h,RPs K U H l z/\RH K mg U H h/\match F l h with
 |.ok v j=>∀i a y,Le U H i a->RH K mg i a j->RP K i a v y->Q y a
 |.exc x j=>∀C i a u,Mq x a u->mg x.cls=J (.ref C)->Le U H i a->RH K mg i a j->E (.ref C) u a
 |.bad=>False
def Iq(P:Program)(w:World):Bi:=λouter H s E e a=>∃j C i l,e=.ref j/\a.os=s.os/\AllBare a.gens/\Un (wv outer) [] H i s.heap a.heap/\HOk P w i a.heap/\Od outer i s.heap C j a.heap/\DvA l j a.heap/\E (.ref C) l i
structure Cal(X:Cx)(x:Str)(ps:RM)(F:RL->MH->RB)(k:Nat):Prop where
 ex:∃f fd,X.mg x=J (.ref f)/\PySem.W.keepIn X.K (.ref f)=I/\jS X.K fd ps []/\FnOk X.prog X.w X.K X.mg X.base (Iq X.prog X.w) k f fd ps (F7 X.K X.mg F)
def Cal.to(c:Cal X x ps F i)(e1:g.prog=X.prog)(e2:g.w=X.w)(e3:g.K=X.K)(e4:g.mg=X.mg)(e5:g.base=X.base):Cal g x ps F i:=by obtain⟨f,fd,a,b,d,e⟩:=c.ex;refine⟨f,fd,by rw[e4];exact a,by rw[e3];exact b,by rw[e3];exact d,?_⟩;rw[e1,e2,e3,e4,e5];exact e
def bo(F:RL->MH->RB)(m:Mx (RL)):Mx PV:=λZ h=>(m Z h).bind F
def oO(g:Good X N W G k){x:Str}{j:Nat}(hj:G[j]?=J x){ps:RM}{F:RL->MH->RB}(C:Cal X x ps F k){e:Expr}{es:RZ}{m:Mx (RL)}{p ab:Pos}(ha:MA X (e::es) m)(he:starEach (e::es) X.env=(T,eval e X.env)::starEach es X.env:=by rfl)(ap:(backTo ab (starEach es X.env)).any (·.1)=T:=by rfl):ME X (.Call (.Name x p) (e::es) [] ab) (bo F m):=by
 obtain⟨f,fd,hm,hk,hb,F'⟩:=C.ex;have d:=g.dbg x (tf _ (aD hj));intro J4 s Z H Q R ⟨U,ak,h,rs,rh,q⟩;refine wpAny_Call_Name_kw (jg R (g.gl x (aD hj)) hm ?_ d.1)
 refine PySem.W.callWith_K R.ok.mod.kin hk (j_ (ha ab J4 s Z H (λvs y=>∃B xs O,Le U H B y/\RH X.K X.mg B y O/\RPs X.K B y xs vs/\Ful X (RV' X) ak B y (F xs O) Q) R
  ⟨U,ak,h,rs,rh,Ful.bind q λB y xs vs O _ l1 M rx P=>⟨B,xs,O,l1,M,rx,P⟩⟩) λus s1 ⟨vs,y,I1,r,B,xs,O,l1,M,rx,P⟩=>⟨I1.kIn,?_⟩) he ap
 have run:∀E:XK,F7 X.K X.mg F vs y Q E->(∀S C i l L,l.os=s1.os->AllBare l.gens->Un (wv X.stack) [] y i s1.heap l.heap->HOk X.prog X.w i l.heap->Od X.stack i s1.heap C S l.heap->DvA L S l.heap->E (.ref C) L i->X.xe (.ref S) l) ->
   wpAny (model X.prog X.w) X.A (call (.ref f) us) (EP X J4 Z Q) X.xe s1:=λE al hE=>by
  have hl:(us++[]).length=ps.length:=by rw[By,<-r.length];exact F'.len _ _ _ _ al
  have ai:=hb s1 us I1.kIn hl;rw[By]at ai;refine wpAny_call (codeAny_mono (F'.run X.A X.stack s1 y ⟨us,[]⟩ us vs Q E g.room I1.env0 ai r al) λr l hq=>?_)
  cases r with
  |error e =>
   obtain⟨S,C,i,L,rfl,a1,a2,a3,a4,a5,a7,a6⟩:=hq;exact hE S C i l L a1 a2 a3 a4 a5 a7 a6
  |ok fl =>
   cases fl with
   |ret u=>exact I1.after hq
   |next=>exact False.elim hq
   |brk=>exact False.elim hq
   |cont=>exact False.elim hq
 cases eF:F xs O with
 |bad=>rw[eF]at P;exact P.elim
 |ok v h' =>
  rw[eF]at P;exact run (λ_ _ _=>False) ⟨B,xs,O,rx,M,by rw[eF];exact P⟩ λ_ _ _ _ _ _ _ _ _ _ _ z=>z.elim
 |exc x' h' =>
  rw[eF]at P;refine run (λc L i=>∃C U',c=.ref C/\Mq x' i L/\X.mg x'.cls=J (.ref C)/\Le B y U' i/\RH X.K X.mg U' i h') ⟨B,xs,O,rx,M,by rw[eF];exact λC U' i L a b c d=>⟨C,U',rfl,a,b,c,d⟩⟩ λS C i l L a1 a2 a3 a4 a5 a7 a6=>?_;obtain⟨C',U',eC,b1,b2,b3,b4⟩:=a6;cases eC;have IX:=I1.call' (s':=l) (ch:=[]) a1 a3 a4 a2 (λb z=>absurd z (by simp));have an:=Inv.unpinned (J4:=[]) (pl:=J4) IX;exact P S C U' i Z l s1.heap L b1 b2 b3 b4 (rs.le (l1.trans b3)) an (Inv.bears I1) a5 a7
def aY(n:Nat)(a:RL):lR:=a.map J++List.replicate (n-a.length) Y
def bP(n np:Nat)(m:n0):RL->MH->RB:=λi h=>if i.length=np then (match m (aY n i) h with
 |.nx _ a=>.ok .non a
 |.rt v a=>.ok v a
 |.exc x _ a=>.exc x a
 |.rse x _ a=>.exc x a
 |_=>.bad)else .bad
def zO{K:g_}{U:RT}{H:Hp}{N:RM}{a:RL}{l:List V}(r:RPs K U H a l):RS K U H (aY N.length a) (L2.start N l):=by
 have hl:=r.length;refine⟨by simp[aY,L2.start,hl],λi v e=>?_⟩;unfold aY at e;by_cases j:i<a.length
 .rw[qp (by simpa using j),tx]at e
  cases q:a[i]? with
  |none=>rw[q]at e;cases e
  |some x =>
   rw[q]at e;cases e;obtain⟨y,z,u⟩:=r.get q;refine⟨y,?_,u⟩;unfold L2.start;rw[qp (by simp;lia),tx,z];rfl
 .rw[AE (by simpa using j),EX]at e
  split at e<;>cases e
def rq{B h:Heap}(k:B.StaysIn h){b:Addr}{o a:Obj}(e1:B.get? b=J a)(e2:h.get? b=J o):a=o:=by
 have:=k b a e1
 rw[e2]at this;exact(Option.some.inj this).symm
def uA{X:Cx}{Z':L2.St}{O:Hp}{P:Shared}{H B:Heap}(i:Inv X [] Z' O P)(R:X.ex=[])(hB:B.StaysIn P.heap)(C:B.StaysIn H)(sm:P.heap.UpToSlots H)(F:∀b o,X.s₀.heap.get? b=J o->b∉X.fs->∃j,B.get? b=J j)(L:∀b o,O b=J o->∃j,B.get? b=J j):Un X.fs [] X.H₀ O X.s₀.heap H/\HOk X.prog X.w O H:=by
 have l:∀b:Addr,b∉X.ex:=λb=>by rw[R];simp
 have kp:∀b o j,B.get? b=J j->P.heap.get? b=J o->H.get? b=J o:=λb o j e1 e2=>by
  have:=rq hB e1 e2
  subst this;exact C b j e1
 refine⟨⟨λb o e n hf _=>?_,λb o e n hf _=>?_,λb o e n _=>i.base.free b o e n (l b),λb o e _=>?_,i.base.tups,i.base.frzs,i.base.tbls⟩,λa o e=>?_⟩
 .obtain⟨j,y⟩:=F b o e hf;exact kp b o j y (i.base.keep b o e n hf (l b))
 .obtain⟨sl,e1⟩:=i.base.slot b o e n hf (l b);obtain⟨_,Z,M,Q⟩:=i.ok.funs.mem hf;rw[e]at M;cases M;obtain⟨E,e2⟩:=sm b _ e1 (λU z=>Q U z);exact⟨E,e2⟩
 .by_cases hf:b∈X.fs
  .obtain⟨_,Z,M,Q⟩:=i.ok.funs.mem hf;rw[e]at M;cases M;obtain⟨sl,e1⟩:=i.base.slot b o e (i.ok.frf b hf) hf (l b);obtain⟨E,e2⟩:=sm b _ e1 (λU z=>Q U z);exact⟨_,e2⟩
  .obtain⟨j,y⟩:=F b o e hf;exact⟨j,C b j y⟩
 .refine (i.hok a o e).stay (λb u S z=>?_) (λ_ z=>z) λ_ _ z=>z;rcases S with rfl|S
  .obtain⟨j,y⟩:=L _ _ e;exact kp _ u j y z
  .obtain⟨j,y⟩:=L _ _ S;exact kp _ u j y z
def _root_.L2.ObjOk.has(x:ObjOk P w H h a o):∃u,h.get? a=J u:=by
 cases o with
 |lst xs=>obtain⟨_,_,_,_,e⟩:=x;exact⟨_,e⟩
 |tup xs=>obtain⟨_,_,_,o,e,_⟩:=x;exact⟨o,e⟩
 |dK i=>obtain⟨_,_,_,_,o,_,_,e,_⟩:=x;exact⟨o,e⟩
 |dT i=>obtain⟨_,_,_,_,o,_,_,e,_⟩:=x;exact⟨o,e⟩
 |set S n=>obtain⟨o,_,_,_,e,_⟩:=x;exact⟨o,e⟩
 |ins C z fs=>obtain⟨_,_,_,e,_⟩:=x;exact⟨_,e⟩
 |own y=>obtain⟨o,e⟩:=x;exact⟨o,e⟩
 |xd fs=>obtain⟨_,⟨o,_,_,e,_⟩,_⟩:=x;exact⟨o,e⟩
 |rng lo l=>obtain⟨_,_,_,e⟩:=x;exact⟨_,e⟩
 |frz B u=>obtain⟨e,_⟩:=x;exact⟨_,e⟩
 |tbl j=>exact⟨_,(x)⟩
 |met f y=>exact⟨_,(x)⟩
 |ext φ=>obtain⟨_,⟨o,e⟩,_⟩:=x;exact⟨o,e⟩
def tD{M:Model}{A:Around}{E:RC}{s:Shared}{base h:Heap}{env:Env}{outer:List Env}{L e C:Addr}{Q:Unit->Shared->Prop}(u:A.frames=J (env::outer))(hf:env.frame=J L)(i:base.StaysIn h)(hl:h.FunFrames base (env::outer))(j:MadeX h s.heap e C)(O:∀a t,Heap.FlyingW base outer e (.ref C) (.ref t) a->s.heap.UpToSlots a->Q () { s with heap:=a}):wpAny M A (leaving env (.ref e)) Q E s:=by
 obtain⟨t,R,P⟩:=j.there;have y:base.get? e=Y:=by
  cases q:base.get? e with
  |none=>rfl
  |some o=>have:=i e o q;rw[j.new]at this;cases this
 refine wpAny_leaving_firstW u (hl.of_keeps λb o l _=>⟨o,j.keeps b o l,rfl⟩) hf P (λb o l=>j.keeps b o (i b o l)) y rfl rfl rfl λa hL=>?_;obtain⟨F,⟨_,_,H⟩,z,B⟩:=hL;exact O a t ⟨F,y,H,z⟩ B
structure h_(X:Cx):Prop where
 stk:X.stack=X.env::X.outer
 fr:X.env.frame=J X.env.locals
 ex:X.ex=[]
def Oe{P:Program}{w:World}{K:g_}{mg:RD}{base:Heap}{x a:Str}{st:Stmt}{f:Addr}{fd:FuncData}{ps:RM}{m:n0}(Fu:Fun K x a st f fd)(S:o0 N ps (ah st))(hl:∀y∈N,Loc (ah st) y)(a8:∀y∈G,(ah st).names.lookup y=J .globalImplicit)(dbg:∀x∈N++G,(x==("__debug__":Str))=T/\(x==("__classdict__":Str))=T/\x≠"__name__")(hb:∀X:Cx,X.prog=P->X.w=w->X.K=K->X.mg=mg->X.base=base->X.env.scope=ah st->Good X N N G k->h_ X->AD X (aH st) m):
  FnOk P w K mg base (Iq P w) (k+1) f fd ps (F7 K mg (bP N.length ps.length m)):=by
 have len:∀vs H Q E,F7 K mg (bP N.length ps.length m) vs H Q E->vs.length=ps.length:=by
  rintro vs H Q E ⟨U,zs,h,r,rh,q⟩;rw[<-r.length];unfold bP at q;by_cases hp:zs.length=ps.length
  .exact hp
  .rw[hI hp]at q;exact q.elim
 obtain⟨oc,od,kV,b3,pm,an,i,ct,b1,rfl,lk,a5⟩:=Fu.ex;refine DX lk a5 S len λA outer s H vs Q E hr b0=>?_;obtain⟨U,zs,h,r,rh,q⟩:=b0;refine⟨_,hb _ rfl rfl rfl rfl rfl rfl ⟨rfl,S.nd,hl,λ_ _=>.inl rfl,a8,dbg,rfl,hr,PassesOwn.leaving⟩ ⟨rfl,rfl,rfl⟩,U,aY N.length zs,h,zO r,rh,?_⟩;unfold bP at q;by_cases hp:zs.length=ps.length
 .rw[c_ hp]at q
  cases e:m (aY N.length zs) h with
  |nx Z' h'=>rw[e]at q;exact λU' H' Z' l r' s'=>q U' H' .non l r' .non
  |rt v h'=>rw[e]at q;exact q
  |bk Z h'=>rw[e]at q;exact q.elim
  |ct Z h'=>rw[e]at q;exact q.elim
  |bad=>rw[e]at q;exact q.elim
  |exc x Z h' =>
   rw[e]at q;intro ea C U' H' Z' s' b4 dv al ai l ar a3 j a4 a6 ab;obtain⟨B,t,a0,O,a1,ap⟩:=a6;refine wS ab ?_;refine wpAny_leaves_onW (base:=B) (env:=envOfC a (ah st) s.heap.objs.size f i) (outer:=outer) j.ok.frames rfl a0 λas F sm R=>?_;have L:∀b o,s.heap.get? b=J o->b∉wv outer->∃ob,B.get? b=J ob:=λb o eb hf=>by
    obtain⟨o',e'⟩:=a4.old b o eb (by show b∉([]:RT);simp);refine a1 b o' e' λhm=>?_;rcases n8.mp (j.stkSub b hm)with z|z
    .exact absurd (pa eb) (by rw[z];exact AH _)
    .exact hf z
   obtain⟨un,ak⟩:=uA (B:=B) j rfl a0.1 F.1 sm L O;exact⟨ea,C,H',dv,rfl,j.os,j.bare,un,ak,⟨B,t,F,O,L,ap⟩,R,q C U' H' dv al ai l ar⟩
  |rse x Z h' =>
   rw[e]at q;intro ea C U' H' Z' s' h0 dv al ai l ar a3 j M ab;have a9:=j.stack;have bm:∀env∈(envOfC a (ah st) s.heap.objs.size f i::outer),∀b,env.frame=J b->b∈wv (envOfC a (ah st) s.heap.objs.size f i::outer):=λenv he b hb=>IR.mpr ⟨env,he,hb⟩;refine wS ab ?_;refine tD (base:=PySem.W.hideAll h0 (wv (envOfC a (ah st) s.heap.objs.size f i::outer))) (h:=h0) (env:=envOfC a (ah st) s.heap.objs.size f i) (outer:=outer) j.ok.frames rfl (λb o z=>PySem.W.of_hideAll _ z)
    (PySem.W.funFrames_hide (base:=base) a9 bm) M λas t F sm R=>?_
   have sub:∀b,b∈wv (envOfC a (ah st) s.heap.objs.size f i::outer)->b=s.heap.objs.size\/b∈wv outer:=λb hm=>n8.mp (j.stkSub b hm);have L:∀b o,s.heap.get? b=J o->b∉wv outer->∃ob,(PySem.W.hideAll h0 (wv (envOfC a (ah st) s.heap.objs.size f i::outer))).get? b=J ob:=λb o eb hf=>by
    obtain⟨o',e'⟩:=j.base.there b o eb (by show b∉([]:RT);simp);refine⟨o',PySem.W.hideAll_get _ e' λhm=>?_⟩;rcases sub b hm with z|z
    .exact absurd (pa eb) (by rw[z];exact AH _)
    .exact hf z
   have O:∀b o,H' b=J o->∃ob,(PySem.W.hideAll h0 (wv (envOfC a (ah st) s.heap.objs.size f i::outer))).get? b=J ob:=λb o eb=>by
    have b2:=j.hok.lt eb;obtain⟨u,eu⟩:∃u,h0.get? b=J u:=(j.hok b o eb).has;refine⟨u,PySem.W.hideAll_get _ eu λhm=>?_⟩
    have:=j.stkFree b hm
    rw[eb]at this;cases this
   have a2:h0.UpToSlots as:=(Heap.UpToSlots.of_keeps M.keeps).trans sm;obtain⟨un,ak⟩:=uA (B:=PySem.W.hideAll h0 (wv (envOfC a (ah st) s.heap.objs.size f i::outer))) j rfl (λb o z=>PySem.W.of_hideAll _ z) F.1 a2 L O;have ap:H' ea=Y:=by
    cases z:H' ea with
    |none=>rfl
    |some o =>
     obtain⟨u,eu⟩:=(j.hok ea o z).has;rw[M.new]at eu;cases eu
   exact⟨ea,C,H',dv,rfl,j.os,j.bare,un,ak,⟨_,t,F,O,L,ap⟩,R,q C U' H' dv al ai l ar⟩
 .rw[hI hp]at q;exact q.elim
def vo(v:PV)(h:MH):Out MIt:=match v with
 |.loc n=>(match h[n]? with
  |some (.lst xs)=>.ok ⟨xs,[(n,xs)]⟩ h
  |_=>.bad)
 |.frl xs=>.ok ⟨xs,[]⟩ h
 |.tup xs=>.ok ⟨xs,[]⟩ h
 |_=>.bad
def cH(m:Mx PV):Mx MIt:=λZ h=>(m Z h).bind vo
def eG(hl:ME X l m):MI X tg l (cH m):=by
 intro B s Z H R i ⟨U,a,h,y,u,q⟩;by_cases z:∃xs j,m a h=.ok (.tup xs) j
 .obtain⟨xs,j,e⟩:=z;refine F0 hl B s Z H R i ⟨U,a,h,y,u,?_⟩;unfold cH at q;unfold JQ;rw[e]at q ⊢;exact q
 .refine B6 hl B s Z H R i ⟨U,a,h,y,u,?_⟩;unfold cH at q;unfold JP
  cases e:m a h with
  |ok v j =>
   rw[e]at q
   cases v with
   |tup xs=>exact absurd ⟨xs,j,e⟩ z
   |_=>exact q
  |exc x j=>rw[e]at q;exact q
  |bad=>rw[e]at q;exact q
def Inv.bigM{i:RV}{Z:L2.St}{H:Hp}{s:Shared}(a:Inv X i Z H s):sysModules<s.heap.objs.size:=by have h:mainGlobals<s.heap.objs.size:=(a.mod.glob.keeps a.bk).lt;exact Mk (by decide) h
def Bn:Mx PV:=λ_ h=>.ok (.loc h.length) (h++[.dic T [] []])
def uD:ME X (.Dict [] [] pos) Bn:=λz s Z H Q a ⟨U,j,h,y,i,q⟩=>by
 have hf:=a.hok.fresh (mm _);obtain⟨u,l⟩:=i.new hf (o:=.dic T [] []) ⟨[],rfl,.nil,rfl⟩;refine wpAny_Dict_empty ⟨.ref s.heap.objs.size,_,a.laid (t':=s.toks) (λ_ _ q=>qr _ q) (mm _) ?_,rfl,q _ _ _ l u (.loc (by rw[<-i.len];simp))⟩;exact⟨Ja _,beq_eq_false_iff_ne.mpr (Ne.symm (wm (Inv.bigM a))),[],.nil,Heap.DictOf.new s.heap⟩
structure FnAt(P:Program)(w:World)(K:g_)(mg:RD)(base:Heap)(x:Str)(ps:RM)(F:RL->MH->RB)(k:Nat):Prop where
 ex:∃f fd,mg x=J (.ref f)/\PySem.W.keepIn K (.ref f)=I/\jS K fd ps []/\FnOk P w K mg base (Iq P w) k f fd ps (F7 K mg F)/\∃oc od osl,K.lookup f=J ⟨oc,od,.func fd,osl⟩
def FnAt.mono{P:Program}{w:World}{K:g_}{mg:RD}{base:Heap}{x:Str}{l:RM}{F:RL->MH->RB}{i j:Nat}(c:FnAt P w K mg base x l F i)(h:i<=j):FnAt P w K mg base x l F j :=
 let⟨f,fd,a,b,d,e,z⟩:=c.ex;⟨f,fd,a,b,d,e.mono h,z⟩
def FnAt.cal{P:Program}{w:World}{K:g_}{mg:RD}{base:Heap}{x:Str}{j:RM}{F:RL->MH->RB}{i:Nat}(c:FnAt P w K mg base x j F i){X:Cx}(e1:X.prog=P)(e2:X.w=w)(e3:X.K=K)(e4:X.mg=mg)(e5:X.base=base):Cal X x j F i:=by subst e1;subst e2;subst e3;subst e4;subst e5;obtain⟨f,fd,a,b,d,e,_⟩:=c.ex;exact⟨f,fd,a,b,d,e⟩
structure f_(K:g_)(x:Str)(st:Stmt):Prop where
 ex:∃f fd,PySem.W.nsIn K mainGlobals x=J (J (.ref f))/\Fun K x x st f fd
def Bp{K:g_}{x:Str}{st:Stmt}{f:Addr}{z:Value}{u j:RG}{sl:Array (RW)}{kV y pm i ct:Value}(a:PySem.W.nsIn K mainGlobals x=J (J (.ref f)))(l:K.lookup f=J ⟨z,u,.func (PySem.W.fnOf x x (fK st) (aH st) (ah st) .none kV y pm j i ct),sl⟩)(c:PySem.W.codeIn K i x=I)(kp:PySem.W.keepIn K (.ref f)=I):f_ K x st :=
 ⟨f,_,a,w4 l c kp⟩
def hJ(x:Str)(st:Stmt)(l:RM):Prop:=∀(kV i pm:Value)(u:RG)(j ct:Value)(a:RU),a.length=l.length->bindArgs (PySem.W.fnOf x x (fK st) (aH st) (ah st) .none kV i pm u j ct) ⟨a,[]⟩=pure (l.zip a)
def sE{P:Program}{w:World}{K:g_}{mg:RD}{base:Heap}{x:Str}{st:Stmt}{i:RM}{m:n0}(kin:K.In base)(ns:base.Ns mainGlobals mg)(D:f_ K x st)(S:o0 N i (ah st))(B:hJ x st i)(hl:∀y∈N,(ah st).names.lookup y=J .local\/(ah st).names.lookup y=J .cell)(u:∀y∈G,(ah st).names.lookup y=J .globalImplicit)(dbg:∀x∈N++G,(x==("__debug__":Str))=T/\(x==("__classdict__":Str))=T/\x≠"__name__")(H:∀X:Cx,X.prog=P->X.w=w->X.K=K->X.mg=mg->X.base=base->X.env.scope=ah st->Good X N N G k->h_ X->AD X (aH st) m):
  FnAt P w K mg base x i (bP N.length i.length m) (k+1):=by
 obtain⟨f,fd,a,j⟩:=D.ex;have L:=j.ex;obtain⟨E,z,kV,F,pm,M,C,ct,l,e1,e2,_⟩:=L;exact⟨f,fd,PySem.W.mg_of kin ns a,j.kp,j.binds B,Oe j S hl u dbg H,E,z,l,e2⟩
def F8{P:Program}{w:World}{K:g_}{mg:RD}{h:Heap}{x y:Str}{st:Stmt}{F:RL->MH->RB}{z:Addr}(D:f_ K x st)(B:hJ x st [y])(j:mg x=J (.ref z))(kin:K.In h)(ns:h.Ns mainGlobals mg)(H:∀base:Heap,K.In base->base.Ns mainGlobals mg->FnAt P w K mg base x [y] F k):
  ∃fd:FuncData,(∀(s:Shared)(u:Value),BindsTo s fd ⟨[u],[]⟩ [(y,u)])/\∀base:Heap,K.In base->base.Ns mainGlobals mg->FnOk P w K mg base (Iq P w) k z fd [y] (F7 K mg F):=by
 obtain⟨f,fd,a,M⟩:=D.ex;have e:=j.symm.trans (PySem.W.mg_of kin ns a);obtain⟨oc,Z,kV,l,pm,R,i,ct,S,e1,e2,e3⟩:=M.ex;refine⟨fd,λs u=>.of_eq ?_,λbase kb O=>?_⟩
 .rw[e1];exact B kV l pm R i ct [u] rfl
 .obtain⟨f',Q,U,g2,g3,g4,E,L,C,g5⟩:=(H base kb O).ex
  grind
def JT(K:g_):Sp:=λi H Q _=>∃(a:Addr)(ns:RN),i=[.ref a]/\SqF K H a (ns.map V.int)/\ns.length<=63/\∀j,Q (.bl I) j
def F9{l:PySem.W.OpenLaw}{q:Program}{loose:RM}{XP:(Str->RW)->Heap->Prop}{P:World->Heap->Prop}{d:DefRec}{K:Params->g_}{x:Str}{F:RL->MH->RB}(hn:l.most=J 63)(M:d.params.defaults=[])(hr:Room k callerA)(hi:PyProof.Rows.importsNone q=I)(j:l.prog.given.tree=Y)(hY:∀(w:World)(h:Heap),P w h->(K w.params).In h)(HF:∀(w:World)(mg:RD)(i:Addr)(h:Heap),(K w.params).In h->h.Ns mainGlobals mg->mg d.name=J (.ref i) ->
   ∃fd:FuncData,(∀(s:Shared)(u:Value),BindsTo s fd ⟨[u],[]⟩ [(x,u)])/\∀base:Heap,(K w.params).In base->base.Ns mainGlobals mg->FnOk l.prog w (K w.params) mg base (Iq l.prog w) k i fd [x] (F7 (K w.params) mg F))(ht:∀ns:RN,ns.length<=63->∃O,F [.frl (ns.map .int)] []=.ok (.bl I) O):
  PySem.W.WalkO q loose XP P l.row.toRowW d [] (λf R=>PySem.call f R):=by
 refine L2.B1 (x:=x) (CX:=λw=>Iq l.prog w) (sp:=λw=>JT (K w.params)) hn (by decide) M hr hi j hY (λw mg i h hK L C=>?_) (λw H a ns hl hO hS=>?_) λw H s e s' z=>?_
 .obtain⟨fd,hb,U⟩:=HF w mg i h hK L C;refine⟨fd,hb,λbase kb nb=>(U base kb nb).imp λR H Q E z=>?_⟩;obtain⟨a,ns,rfl,B,hl,Z⟩:=z;obtain⟨O,e⟩:=ht ns hl;refine⟨[],[.frl (ns.map .int)],[],.cons (.frl B (RPs.ints ns)) .nil,⟨rfl,List.nodup_nil,λn a o z _=>by simp at z⟩,?_⟩;rw[e];intro U' S v' _ _ r;cases r;exact Z S
 .have B:SqF (K w.params) H a (ns.map V.int):=by
   rcases hS with(z|z)|z
   .rcases hO a with y|⟨o,xs,y⟩
    .rw[y]at z;cases z
    .rw[y]at z;cases z
   .exact .inl z
   .exact .inr z
  exact⟨a,ns,rfl,B,hl,λ_=>rfl⟩
 .obtain⟨_,_,_,_,_,_,_,_,_,_,_,z⟩:=z;exact z
end
section
variable{α:Type}{Z:lR}{h:MH}
@[simp]theorem gU:mC v Z h=.ok v h:=rfl
@[simp]theorem cg{v:PV}{r:lR}:af 0 (J v::r) h=.ok v h:=rfl
@[simp]theorem dE{i:Nat}{o:RK}{r:lR}:af (i+1) (o::r) h=af i r h:=by simp[af]
@[simp]theorem jt:ao f a b Z h=(a Z h).bind λx h1=>(b Z h1).bind λy h2=>(f x y h2).ne:=rfl
@[simp]theorem jF:yV f a Z h=(a Z h).bind λx h1=>(f x h1).ne:=rfl
@[simp]theorem xW:n_ f a Z h=(a Z h).bind λx h1=>(f x h1).ne:=rfl
@[simp]theorem eQ:bo f a Z h=(a Z h).bind f:=rfl
@[simp]theorem bR:b_ Z h=.ok [] h:=rfl
@[simp]theorem bn:ae a r Z h=(a Z h).bind λx h1=>(r Z h1).bind λxs h2=>.ok (x::xs) h2:=rfl
@[simp]theorem oE:bX a Z h=(a Z h).bind q7:=rfl
@[simp]theorem pC:bU a Z h=(a Z h).bind m2:=rfl
@[simp]theorem Ms:Bn Z h=.ok (.loc h.length) (h++[.dic T [] []]):=rfl
@[simp]theorem lQ:mB a Z h=(a Z h).bind λv h1=>match v with|.bl b=>.ok b h1|_=>.bad:=rfl
@[simp]theorem ji:j9 a Z h=(a Z h).bind λb h1=>.ok (!b) h1:=rfl
@[simp]theorem Mt:B3 a b Z h=(a Z h).bind λx h1=>if x=I then b Z h1 else .ok T h1:=rfl
@[simp]theorem F_:JL a b Z h=(a Z h).bind λx h1=>if x=I then .ok I h1 else b Z h1:=rfl
@[simp]theorem JU:lU a b Z h=(a Z h).bind λx h1=>match x with|.bl c=>if c=I then b Z h1 else .ok (.bl T) h1|_=>.bad:=rfl
@[simp]theorem Mu:FP a b Z h=(a Z h).bind λx h1=>match x with|.bl c=>if c=I then .ok (.bl I) h1 else b Z h1|_=>.bad:=rfl
@[simp]theorem JV:nA a Z h=(a Z h).bind λx h1=>match x with|.bl c=>.ok (.bl (!c)) h1|_=>.bad:=rfl
@[simp]theorem Mw:FT c a b Z h=(c Z h).bind λx h1=>if x=I then a Z h1 else b Z h1:=rfl
@[simp]theorem mL:kq Z h=.nx Z h:=rfl
@[simp]theorem aU:bi a b Z h=(a Z h).then b:=rfl
@[simp]theorem aw:(SOut.nx Z h).then k=k Z h:=rfl
@[simp]theorem u5:(SOut.rt v h).then k=.rt v h:=rfl
@[simp]theorem then_bk:(SOut.bk Z h).then k=.bk Z h:=rfl
@[simp]theorem then_ct:(SOut.ct Z h).then k=.ct Z h:=rfl
@[simp]theorem zH:(SOut.rse x Z h).then k=.rse x Z h:=rfl
@[simp]theorem zt:(SOut.exc x Z h).then k=.exc x Z h:=rfl
@[simp]theorem yN:SOut.bad.then k=.bad:=rfl
def Out.rt(o:RB)(Z:lR):SOut:=match o with
 |.ok v a=>.rt v a
 |.exc x a=>.exc x Z a
 |.bad=>.bad
@[simp]theorem Qo:(Out.ok v h).rt Z=.rt v h:=rfl
@[simp]theorem Of:(Out.exc x h:RB).rt Z=.exc x Z h:=rfl
@[simp]theorem Og:(Out.bad:RB).rt Z=.bad:=rfl
@[simp]theorem jE:bC m Z h=(m Z h).rt Z:=rfl
def Out.go{α:Type}(o:Out α)(Z:lR)(k:α->n0):SOut:=match o with
 |.ok v a=>k v Z a
 |.exc x a=>.exc x Z a
 |.bad=>.bad
@[simp]theorem aA:(Out.ok v h).go Z k=k v Z h:=rfl
@[simp]theorem wC:(Out.exc x h:Out α).go Z k=.exc x Z h:=rfl
@[simp]theorem go_bad:(Out.bad:Out α).go Z k=.bad:=rfl
@[simp]theorem Ga:w_ m k Z h=(m Z h).go Z k:=rfl
@[simp]theorem iD:fw m Z h=(m Z h).go Z λ_=>kq:=rfl
@[simp]theorem eB:zJ c a b Z h=(c Z h).go Z λx=>if x=I then a else b:=rfl
@[simp]theorem cU:bt i m Z h=(m Z h).go Z λv Z h=>.nx (Z.set i (J v)) h:=rfl
@[simp]theorem My:FY i j m Z h=(m Z h).go Z λvs Z h=>match vs with|[v,w]=>.nx ((Z.set i (J v)).set j (J w)) h|_=>.bad:=rfl
@[simp]theorem Mz:ja m g Z h=(m Z h).go Z λv Z h=>match g v Z h with|.nx Z2 h2=>.nx Z2 h2|.exc x Z2 h2=>.exc x Z2 h2|_=>.bad:=rfl
@[simp]theorem Oh:m_ i v Z h=.nx (Z.set i (J v)) h:=rfl
@[simp]theorem Oi:An [] Z h=.nx Z h:=rfl
@[simp]theorem Oj:sk a r (v::vs) Z h=(a v Z h).then (r vs):=rfl
@[simp]theorem Ol:Ao r n (.tup xs) Z h=if xs.length=n then r xs Z h else .bad:=rfl
@[simp]theorem hU:fD mi g b Z h=(mi Z h).go Z λit=>vZ it g b it.xs:=rfl
@[simp]theorem MB:cH m Z h=(m Z h).bind vo:=rfl
@[simp]theorem JW:dA m Z h=(m Z h).bind λvs h1=>match vs with
 |[.int j]=>if -(2^62)<=j/\j<2^62 then .ok ⟨bE 0 j.toNat,[]⟩ h1 else .bad
 |_=>.bad:=rfl
@[simp]theorem Gb:BA mo mi v Z h=(mo Z h).go Z λo=>w_ mi λi Z h=>match rF o i v h with
 |some h2=>.nx Z h2
 |none=>.bad:=rfl
def SOut.fin(o:SOut):RB:=match o with
 |.nx _ a=>.ok .non a
 |.rt v a=>.ok v a
 |.exc x _ a=>.exc x a
 |.rse x _ a=>.exc x a
 |_=>.bad
@[simp]theorem fin_exc:(SOut.exc x Z h).fin=.exc x h:=rfl
@[simp]theorem fin_rse:(SOut.rse x Z h).fin=.exc x h:=rfl
@[simp]theorem cr:(SOut.rt v h).fin=.ok v h:=rfl
@[simp]theorem ye:(SOut.nx Z h).fin=.ok .non h:=rfl
theorem bJ(e:ps.length=np):bP n np m ps h=(m (aY n ps) h).fin:=by unfold bP;rw[c_ e];rfl
end
section
variable{h:MH}{i j:Int}
@[simp]theorem JX:l_ (.int i) (.int j) h=.ok (.int (i+j)) h:=rfl
@[simp]theorem JY:Bl (.int i) (.int j) h=.ok (.int (i-j)) h:=rfl
@[simp]theorem MC:Bm (.int i) h=.ok (.int (-i)) h:=rfl
@[simp]theorem MD:A0 (.int i) (.int j) h=.ok (.bl (decide (i<j))) h:=rfl
@[simp]theorem MF:B8 (.int i) (.int j) h=.ok (.bl (decide (i<=j))) h:=rfl
@[simp]theorem MK:Bk (.int i) (.int j) h=.ok (.bl (decide (j<i))) h:=rfl
@[simp]theorem ML:A1 (.int i) (.int j) h=.ok (.bl (decide (j<=i))) h:=rfl
@[simp]theorem MN:zL (.int i) (.int j) h=.ok (.bl (decide (i=j))) h:=rfl
@[simp]theorem MP:yJ (.int i) (.int j) h=.ok (.bl (!decide (i=j))) h:=rfl
@[simp]theorem MQ:zL (.bl a) (.bl b) h=.ok (.bl (a==b)) h:=by simp[zL,rd,SeqAt.shaped,PyData.canLay0,PyData.depth,PyData.eqv]
@[simp]theorem MR:yJ (.bl a) (.bl b) h=.ok (.bl (!(a==b))) h:=by simp[yJ,rd,SeqAt.shaped,PyData.canLay0,PyData.depth,PyData.eqv]
theorem fU(a:j≠0):nw (.int i) (.int j) h=.ok (.int (i.fmod j)) h:=by simp[nw,a]
def ut(a:j≠0):AI (.int i) (.int j) h=.ok (.int (i.fdiv j)) h:=by simp[AI,a]
def hR(hl:-(2^64)<i/\i<2^64):ki (.int i) (.int j) h=.ok (.int (i*j)) h:=by simp[ki,IntMulOk.of_left (intBits_le_64 hl.1 hl.2)]
def B_(hl:-(2^64)<j/\j<2^64):ki (.int i) (.int j) h=.ok (.int (i*j)) h:=by simp[ki,IntMulOk.of_right (intBits_le_64 hl.1 hl.2)]
def rL(a:0<=j/\j<=1000000/\i.natAbs<2^64):rk (.int i) (.int j) h=.ok (.int (i^j.toNat)) h:=by simp[rk,fL,a]
@[simp]theorem Om:Ay [.int i] h=.ok (.int (if i<0 then -i else i)) h:=rfl
@[simp]theorem MU:zM [.int i,.int j] h=.ok (.int (if j<i then j else i)) h:=rfl
@[simp]theorem MV:AJ [.int i,.int j] h=.ok (.int (if j>i then j else i)) h:=rfl
@[simp]theorem Oo:yL [.int i] h=.ok (.int i) h:=rfl
@[simp]theorem Op:yL [.bl b] h=.ok (.int (if b then 1 else 0)) h:=rfl
@[simp]theorem JZ:oh [.frl xs] h=.ok (.int xs.length) h:=rfl
@[simp]theorem J0:oh [.tup xs] h=.ok (.int xs.length) h:=rfl
theorem dZ(hl:xs.length<=1000):m2 xs h=.ok (.tup xs) h:=by unfold m2;rw[c_ (pu hl (by decide))]
def cW(hl:xs.length<=1000):q7 xs h=.ok (.loc h.length) (h++[.lst xs]):=by unfold q7;rw[c_ (pu hl (by decide))]
@[simp]theorem Oq:m2 [] h=.ok (.tup []) h:=dZ (by decide)
@[simp]theorem Ot:m2 [a] h=.ok (.tup [a]) h:=dZ (by simp)
@[simp]theorem Ou:m2 [a,b] h=.ok (.tup [a,b]) h:=dZ (by simp)
@[simp]theorem Ow:m2 [a,b,c] h=.ok (.tup [a,b,c]) h:=dZ (by simp)
theorem jK(hl:m<n):vr n (m:Int)=J m:=by unfold vr;rw[c_ ⋯,c_ ⋯];simp
@[simp]theorem Qp:nr (a::r) 0=J a:=cP (j:=0) rfl
@[simp]theorem Qq:nr (a::b::r) 1=J b:=cP (j:=1) rfl
@[simp]theorem Qr:nr (a::b::c::r) 2=J c:=cP (j:=2) rfl
@[simp]theorem Qs:nr (a::b::c::d::r) 3=J d:=cP (j:=3) rfl
def Out.ofO(o:RK)(h:MH):RB:=match o with
 |some v=>.ok v h
 |none=>.bad
@[simp]theorem J1:Out.ofO (J v) h=.ok v h:=rfl
@[simp]theorem J2:aM (.tup xs) (.int i) h=Out.ofO (nr xs i) h:=rfl
@[simp]theorem J3:aM (.frl xs) (.int i) h=Out.ofO (nr xs i) h:=rfl
theorem dN(e:h[n]?=J (.lst xs)):aM (.loc n) (.int i) h=Out.ofO (nr xs i) h:=by simp only[aM,e];rfl
def zf(e:h[n]?=J (.lst xs)):oh [.loc n] h=.ok (.int xs.length) h:=by simp only[oh,e]
def jT(e:h[n]?=J (.lst xs)):rF (.loc n) (.int i) v h=(vr xs.length i).map λp=>h.set n (.lst (xs.set p v)):=by simp only[rF,e]
def xQ(e:h[n]?=J (.lst xs)):vo (.loc n) h=.ok ⟨xs,[(n,xs)]⟩ h:=by simp only[vo,e]
@[simp]theorem Ir:vo (.tup xs) h=.ok ⟨xs,[]⟩ h:=rfl
@[simp]theorem Iu:vo (.frl xs) h=.ok ⟨xs,[]⟩ h:=rfl
@[simp]theorem fe:(⟨xs,[]⟩:MIt).ok h↔True:=⟨λ_=>trivial,λ_ p hp=>nomatch hp⟩
@[simp]theorem Ca:(⟨xs,[(n,zs)]⟩:MIt).ok h↔h[n]?=J (.lst zs):=by
 constructor
 .intro q;exact q (n,zs) (by simp)
 .intro q p hp;have e:=L8.mp hp;subst e;exact q
end
def SOut.turn(o:SOut)(k:n0):SOut:=match o with
 |.nx i a=>k i a
 |.ct i a=>k i a
 |.bk i a=>.nx i a
 |.rt v a=>.rt v a
 |.exc e i a=>.exc e i a
 |.rse e i a=>.rse e i a
 |.bad=>.bad
@[simp]theorem yH:(SOut.rse x Z h).turn k=.rse x Z h:=rfl
@[simp]theorem zS:(SOut.exc x Z h).turn k=.exc x Z h:=rfl
@[simp]theorem uG:(SOut.nx Z h).turn k=k Z h:=rfl
@[simp]theorem turn_ct:(SOut.ct Z h).turn k=k Z h:=rfl
@[simp]theorem turn_bk:(SOut.bk Z h).turn k=.nx Z h:=rfl
@[simp]theorem turn_rt:(SOut.rt v h).turn k=.rt v h:=rfl
theorem lA(e:it.ok h):vZ it g b [] Z h=.nx Z h:=by rw[vZ];dsimp only;rw[c_ e]
def im(e:it.ok h)(a:g x Z h=.nx Z1 h1):vZ it g b (x::r) Z h=(b Z1 h1).turn (vZ it g b r):=by rw[vZ];dsimp only;rw[c_ e,a];rfl
def rm(i:Nat->Shared->Prop)(turn:∀n s,i n s->wpAny (model prog w) A (pyNext it) (λr u=>match r with
   |none=>R (.ok .next) u
   |some v=>wpAny (model prog w) A (letOwnedTupleGo target it v) (λ_ l=>wpAny (model prog w) A (assign target env v) (λ_ y =>
     wpAny (model prog w) A (forIn ifs I λc r=>if r=I then do let ok <-isTrue c env (eval c env);pure (ForInStep.yield ok)else pure (ForInStep.yield r)) (λok j =>
      if ok=I then wpAny (model prog w) A (eval elt env) (λx z =>
       wpAny (model prog w) A (call (.builtin "list.append") [acc,x]) (λ_ E=>∃m,m<n/\i m E) (λ_ _=>False) z) (λ_ _=>False) j
      else ∃m,m<n/\i m j) (λ_ _=>False) y) (λ_ _=>False) l) (λ_ _=>False) u) (λ_ _=>False) s)(n:Nat)(h:i n s):
  codeAny (model prog w) A (.compLoop (.ListComp elt [⟨target,iter,ifs,0⟩] scope pos) 0 it acc env) R s:=by
 refine codeAny_loop rfl i (λn s M=>?_) n h;refine wpAny_noted ?_;rw[compTurn_list];refine i_ (wpAny_standAt (i_ (wpAny_mono (turn n s M) (λr u B=>?_) λ_ _ a=>a.elim)))
 cases r with
 |none=>exact pz B
 |some v =>
  refine i_ (wpAny_mono B (λ_ l F=>?_) λ_ _ a=>a.elim);refine i_ (wpAny_mono F (λ_ y H=>i_ (wpAny_mono H (λok j C=>?_) λ_ _ a=>a.elim)) λ_ _ a=>a.elim)
  cases ok with
  |false=>exact pz ⟨rfl,C⟩
  |true =>
   exact i_ (i_ (wpAny_mono C (λx z L=>i_ (wpAny_mono L (λ_ E G=>pz (pz ⟨rfl,G⟩)) λ_ _ a=>a.elim)) λ_ _ a=>a.elim))
def kD(env:Env):List (Str×NameKind)->List (Str×Addr)->List (Str×Addr)
 |[],a=>a
 |(n,k)::r,a=>kD env r (if(k==NameKind.free)=I then(n,(env.cells.lookup n).getD 0)::a else a)
def qK(h:∀y∈scope.names,y.2=.free->∃c,env.cells.lookup y.1=J c):closureFor scope env=pure (kD env scope.names []):=by
 have B:∀(l:List (Str×NameKind))(i:List (Str×Addr)),(∀y∈l,y.2=.free->∃c,env.cells.lookup y.1=J c) ->
   (forIn l i λ(x:Str×NameKind)(r:List (Str×Addr))=>if(x.2==NameKind.free)=I then(do let a <-cellOf env x.1;pure (ForInStep.yield ((x.1,a)::r)):Sem _)else pure (ForInStep.yield r))=(pure (kD env l i):Sem _):=by
  intro l
  induction l with
  |nil=>intro i _;rfl
  |cons y l F =>
   intro i C;obtain⟨n,k⟩:=y;rw[List.forIn_cons];have hl:=λz G=>C z (n4 _ G);by_cases j:(k==NameKind.free)=I
   .obtain⟨c,E⟩:=C (n,k) A6 (by simpa using j);rw[c_ j];have u:cellOf env n=pure c:=by unfold cellOf;rw[E]
    rw[u];refine(F ((n,c)::i) hl).trans ?_;simp only[kD,j,if_true,E,Ij]
   .rw[hI j];refine(F i hl).trans ?_;simp[kD,j]
 exact(congrArg (λz=>z >>= λr=>pure r) (B scope.names [] h)).trans rfl
def mw:∀(l:List (Str×NameKind))(i:List (Str×Addr)),(∀a,i.lookup x=J a->a=(env.cells.lookup x).getD 0)->(∀a,(kD env l i).lookup x=J a->a=(env.cells.lookup x).getD 0)/\((∃k,(x,k)∈l/\k=.free)\/(∃a,i.lookup x=J a)->∃a,(kD env l i).lookup x=J a):=by
 intro l
 induction l with
 |nil =>
  intro i h;refine⟨h,λz=>?_⟩;rcases z with⟨k,z,_⟩|z
  .cases z
  .exact z
 |cons y r G =>
  intro i h;obtain⟨n,k⟩:=y;have E:∀a,(if(k==NameKind.free)=I then(n,(env.cells.lookup n).getD 0)::i else i).lookup x=J a->a=(env.cells.lookup x).getD 0:=λa j=>by
   split at j
   .rw[BG]at j
    split at j
    .rename_i e
     have:x=n:=by simpa using e
     subst this;exact(Option.some.inj j).symm
    .exact h a j
   .exact h a j
  obtain⟨B,C⟩:=G _ E;refine⟨B,λz=>C ?_⟩;rcases z with⟨F,z,u⟩|⟨a,z⟩
  .rcases n8.mp z with e|e
   .cases e;right;subst u;exact⟨(env.cells.lookup x).getD 0,by simp⟩
   .exact .inl ⟨F,e,u⟩
  .right;split
   .rw[BG];split
    .exact⟨_,rfl⟩
    .exact⟨a,z⟩
   .exact⟨a,z⟩
def cG{env:Env}(B:env.scope.kind=.function):∀{names:List (Str×NameKind)}{x:Str}{k:NameKind},names.lookup x=J k ->
  (names.map λ(n,k)=>if(k==NameKind.free&&env.scope.kind == .function&&env.kindOf n==J .cell)then(n,NameKind.cell)else(n,k)).lookup x=J (if k=.free/\env.kindOf x=J .cell then .cell else k):=by
 intro names
 induction names with
 |nil=>intro x k h;simp at h
 |cons y r i =>
  intro x k h;obtain⟨n,j⟩:=y;have u:=@i x k;show List.lookup x ((if(j==NameKind.free&&env.scope.kind == .function&&env.kindOf n==J .cell)=I then(n,NameKind.cell)else(n,j))::_)=_
  cases a:x==n with
  |true =>
   have e:x=n:=by simpa using a
   subst e;simp only[BG,a]at h;cases h;by_cases z:k=.free/\env.kindOf x=J .cell
   .rw[c_ (by simp[z.1,z.2,B]),c_ z];simp
   .rw[hI (by simp[B];intro E C;exact z ⟨E,C⟩),hI z];simp
  |false =>
   simp only[BG,a]at h;by_cases l:(j==NameKind.free&&env.scope.kind == .function&&env.kindOf n==J .cell)=I
   .rw[c_ l];simp only[BG,a];exact u h
   .rw[hI l];simp only[BG,a];exact u h
def dR(X:Cx)(a:Scope)(cl:List (Str×Addr))(i:Shared)(j:Hp)(u:RT)(l:RM):Cx :=
 { X with N:=l,s₀:=i,H₀:=j,env:=compEnvC a cl i.heap.objs.size X.env,outer:=X.stack,ex:=u,fn:=λx=>decide (a.names.lookup x=J .cell),pn:=[],xe:=λ_ _=>False}
structure zR(X:Cx)(N:RM)(scope:Scope)(vars frees:RM)(fm:RQ):Prop where
 kind:scope.kind=.function
 cell:∀y∈scope.names,y.2=.cell->scope.names.lookup y.1=J .cell
 names:∀y∈scope.names,y.2=.local->scope.names.lookup y.1=J .local
 hv:∀x∈vars,scope.names.lookup x=J .local\/scope.names.lookup x=J .cell
 hf:∀x∈frees,scope.names.lookup x=J .free
 all:∀y∈scope.names,y.2=.free->y.1∈frees
 fm:fm.map (λi=>N[i]?)=frees.map J
 cl:∀x∈frees,X.env.kindOf x=J .cell
def A9(a:Nat)(fm:RQ)(Z:lR):lR:=List.replicate a Y++fm.map λi=>(Z[i]?).getD Y
def v7(i:MIt)(n:Nat)(gt:Mg)(mt:Mx Bool)(j:Mx PV):RL->lR->MH->Out Unit
 |[],_,h=>if i.ok h then .ok () h else .bad
 |x::r,Z,h=>if i.ok h then (match gt x Z h with
  |.nx a y=>(mt a y).ne.bind λb u=>if b=I then (j a u).ne.bind λv l=>(match l[n]? with
    |some (.lst ys)=>if ys.length<sizeLine then v7 i n gt mt j r a (l.set n (.lst (ys++[v])))else .bad
    |_=>.bad)else v7 i n gt mt j r a u
  |_=>.bad)else .bad
def bv(j:Nat)(fm:RQ)(u:Mx MIt)(gt:Mg)(mt:Mx Bool)(y:Mx PV):Mx PV:=λZ h =>
 (u Z h).bind λi a=>(v7 i a.length gt mt y i.xs (A9 j fm Z) (a++[.lst []])).bind λ_ l=>.ok (.loc a.length) l
def BC(X:Cx)(a:RZ)(m:Mx Bool):Prop :=
 ∀(i:RV)(s:Shared)(Z:L2.St)(H:Hp)(Q:Bool->Hp->Prop),Inv X i Z H s->tM X JI m Z H Q ->
  wpAny (model X.prog X.w) X.A (forIn a I λc r=>if r=I then do let ok <-isTrue c X.env (eval c X.env);pure (ForInStep.yield ok)else pure (ForInStep.yield r)) (TP X i Z Q) X.xe s
def mh:Mx Bool:=λ_ h=>.ok I h
def hX:BC X [] mh:=λu s Z H Q a ⟨U,i,h,l,j,q⟩=>wpAny_tests_nil ⟨H,a,q U H I (Le.refl _ _) j rfl⟩
def u7(h:MT X c m):BC X [c] m:=λi s Z H Q a q=>wpAny_tests_one (h i s Z H Q a q)
inductive CS(X:Cx)(U:RT)(H:Hp)(σp:lR)(gt:Mg)(mt:Mx Bool)(me:Mx PV)(Z0:lR)(Q:VK)(J:It)(H1:Hp):Prop
 |mk(U1:RT)(it:MIt)(h1:MH)(l:Le U H U1 H1)(rh:RH X.K X.mg U1 H1 h1)(j:sP X U1 H1 it J)(q:Ful X (RV' X) σp U1 H1 ((v7 it h1.length gt mt me it.xs Z0 (h1++[.lst []])).bind λ_ h3=>.ok (.loc h1.length) h3) Q):CS X U H σp gt mt me Z0 Q J H1
inductive CI(X Y:Cx)(it:MIt)(tn:Nat->Heap->Prop)(fp U0:RT)(H0:Hp)(σp:lR)(n1:Nat)(gt:Mg)(mt:Mx Bool)(me:Mx PV)(Q:VK)(n:Nat)(s6:Shared):Prop
 |mk(i:Nat)(Z6:L2.St)(H6:Hp)(U6:RT)(σp6:lR)(h6:MH)(e:n=it.xs.length-i)(l:i<=it.xs.length)(v:Inv Y [] Z6 H6 s6)(t:tn i s6.heap)(f:∀b∈fp,H6 b=none)(le:Le U0 H0 U6 H6)(rs:RS X.K U6 H6 σp6 Z6)(rh:RH X.K X.mg U6 H6 h6)
   (q:Ful X (RV' X) σp U6 H6 ((v7 it n1 gt mt me (it.xs.drop i) σp6 h6).bind λ_ h3=>.ok (.loc n1) h3) Q):CI X Y it tn fp U0 H0 σp n1 gt mt me Q n s6
def qO(l:Q (newEnv scope s.heap.objs.size globals (cellsFrom (s.heap.objs.size+1) scope.names closure) qual Y .none (J env) builtinsNs) { s with heap:=pushCells (s.heap.push { cls:=.type "dict",data:=.dict #[]}) scope.names}):
  wpAny M A (newFunctionEnv scope globals closure [] qual Y .none (J env)) Q E s:=by
 simp only[newFunctionEnv,Option.isSome_some,if_true];refine i_ (wpAny_alloc ?_);refine i_ (wpAny_layCells _ (λi kind a=>by cases j:kind==NameKind.cell<;>simp) _ _ _ _ ?_);rw[show({ s with heap:=s.heap.push { cls:=.type "dict",data:=.dict #[]}}:Shared).heap.objs.size=s.heap.objs.size+1 from Ik ..];exact i_ (pz (pz l))
def dD:∀(names:List (Str×NameKind))(n:Nat)(a:List (Str×Addr)),cellsFrom n names a=cellsFrom n names []++a
 |[],n,a=>rfl
 |(x,k)::r,n,a=>by
  unfold cellsFrom;split
  .rw[dD r (n+1) ((x,n)::a),dD r (n+1) [(x,n)]];simp
  .exact dD r n a
def fh:∀(names:List (Str×NameKind))(n:Nat)(x:Str),(∃c,(x,c)∈cellsFrom n names [])↔(x,NameKind.cell)∈names
 |[],n,x=>by simp[cellsFrom]
 |(y,k)::r,n,x=>by
  unfold cellsFrom;split
  .rename_i j
   have i:k=NameKind.cell:=by simpa using j
   subst i;rw[dD];constructor
   .rintro⟨c,a⟩;rcases AS.mp a with a|a
    .exact n4 _ ((fh r (n+1) x).mp ⟨c,a⟩)
    .have:x=y:=by simp at a;exact a.1
     rw[this];exact A6
   .intro h;rcases n8.mp h with e|h
    .have:x=y:=by simpa using e
     subst this;exact⟨n,tf _ (by simp)⟩
    .obtain⟨c,a⟩:=(fh r (n+1) x).mpr h;exact⟨c,Bx _ a⟩
  .rw[fh r n x];constructor
   .exact n4 _
   .intro h;rcases n8.mp h with e|h
    .exfalso
     grind
    .exact h
def mJ{α:Type}:∀(a b:List (Str×α))(x:Str),(a++b).lookup x=(a.lookup x).or (b.lookup x):= by grind
def yZ{α:Type}:∀(a:List (Str×α))(x:Str),a.lookup x=Y->∀c,(x,c)∉a:= by grind
section
variable{X:Cx}{N W G:RM}{k:Nat}
def qu(g:Good X N W G k){tg an cp:Expr}{c0:RZ}{B:Scope}{dk:Pos}{E frees G':RM}{fm:RQ}{mi:Mx MIt}{gt:Mg}{mt:Mx Bool}{me:Mx PV}(C:zR X N B E frees fm)(nd:(E++frees).Nodup)(f5:∀x∈G',B.names.lookup x=J .globalImplicit)(dbg:∀x∈(E++frees)++G',(x==("__debug__":Str))=T/\(x==("__classdict__":Str))=T/\x≠"__name__")(hi:MI X tg an mi)(hY:∀ak:Cx,ak.prog=X.prog->ak.w=X.w->ak.K=X.K->ak.mg=X.mg->ak.base=X.base->ak.env.scope=relabel B X.env->Good ak (E++frees) E G' k->MG ak tg gt/\BC ak c0 mt/\ME ak cp me)(hs:∀x,foldedSetIterable an X.env x=pure x){use:Option (Value->Sem Unit)}{Qv:RC}{pp:Pos}{J4:RV}{s:Shared}{Z:L2.St}{H:Hp}{Q:VK}(dc:Inv X J4 Z H s)(tm:tM X (RV' X) (bv E.length fm mi gt mt me) Z H Q)(fin:∀(e0 C:Addr) (H6:Hp) (s7:Shared) (m7:RD),Inv X J4 Z H6 s7->H6 C=Y->s7.heap.Ns C m7->C≠X.env.locals->X.s₀.heap.objs.size<=C->C∉X.fs->(∀x c,X.env.cells.lookup x=J c->c≠C)->(∀p∈X.pn++J4,p.1≠C)->Q (.ref e0) H6 ->
   compPost (model X.prog X.w) X.A X.xe use Qv (.ref e0) C (.ok .next) s7):
  wpAny (model X.prog X.w) X.A (comprehension (.ListComp cp [⟨tg,an,c0,0⟩] B dk) B X.env pp (newList []) T (eval an X.env) use) Qv X.xe s:=by
 obtain⟨U,ai,h,rs,rh,q⟩:=tm;have b5:∀y∈B.names,y.2=.free->∃c,X.env.cells.lookup y.1=J c:=λy hy e=>dc.ok.has y.1 (.inl (C.cl _ (C.all y hy e)));refine wpAny_comprehension_free (use:=use) rfl hs (qK b5) C.kind C.names ?_;generalize dt:kD X.env B.names []=cl;have eU:∀x a,cl.lookup x=J a->X.env.cells.lookup x=J a\/((X.env.cells.lookup x)=Y/\a=0):=λx a e=>by
  rw[<-dt]at e
  have:=(mw (env:=X.env) (x:=x) B.names [] (λa z=>by simp at z)).1 a e
  cases z:X.env.cells.lookup x with
  |none=>right;rw[z]at this;exact⟨rfl,this⟩
  |some c=>left;rw[z]at this;rw[this];rfl
 have e7:∀x∈frees,∃c,cl.lookup x=J c/\X.env.cells.lookup x=J c:=λx hx=>by
  obtain⟨c,hc⟩:=dc.ok.has x (.inl (C.cl x hx));have hm:(∃kk,(x,kk)∈B.names/\kk=.free):=⟨.free,PySem.mem_of_lookup (C.hf x hx),rfl⟩;obtain⟨a,ha⟩:=(mw (env:=X.env) (x:=x) B.names [] (λa z=>by simp at z)).2 (.inl hm);rw[dt]at ha;rcases eU x a ha with z|⟨z,_⟩
  .rw[hc]at z;cases z;exact⟨c,ha,hc⟩
  .rw[hc]at z;cases z
 have eC:∀x a,cl.lookup x=J a->X.env.cells.lookup x=J a/\x∈frees:=λx a e=>by
   have only:∀(l:List (Str×NameKind))(cs:List (Str×Addr))(x:Str)(a:Addr),(kD X.env l cs).lookup x=J a->(x,NameKind.free)∈l\/cs.lookup x=J a:=by
    intro l
    induction l with
    |nil=>intro cs x a e;exact .inr e
    |cons y l ih =>
     intro cs x a e;obtain⟨n,kk⟩:=y;rcases ih _ x a e with z|z
     .exact .inl (n4 _ z)
     .split at z
      .rename_i hk
       have gg:kk=NameKind.free:=by simpa using hk
       rw[BG]at z
       split at z
       .rename_i e'
        have:x=n:=by simpa using e'
        subst this;subst gg;exact .inl A6
       .exact .inr z
      .exact .inr z
   have e':=e;rw[<-dt]at e';rcases only _ _ x a e' with z'|z'
   .refine⟨?_,C.all _ z' rfl⟩;rcases eU x a e with z|⟨z,_⟩
    .exact z
    .obtain⟨c,hc⟩:=b5 _ z' rfl;rw[z]at hc;cases hc
   .simp at z'
 have start:=hi J4 s Z H (CS X U H ai gt mt me (A9 E.length fm ai) Q) dc
  ⟨U,ai,h,rs,rh,Ful.bind q λU1 H1 it e9 h1 _ l1 cv jr q1=>⟨U1,it,h1,l1,cv,jr,q1⟩⟩
 refine wpAny_mono start (λx hh er=>wpAny_mono er (λhz L el=>?_) λ_ _ e=>e) λ_ _ e=>e;obtain⟨d2,fp,tn,e9,H2,rfl,I2,ab,ew,f2,U1,it,h1,l1,cv,jr,q1⟩:=el;refine wpAny_newObj_type ?_;have gv:H2 L.heap.objs.size=Y:=I2.hok.fresh (mm _);have O:=I2.lnew (ys:=[]) (its:=[]) (t':=L.toks) .nil (Ja _);obtain⟨eL,l3⟩:=cv.new gv (o:=.lst []) (ho:=.lst []) ⟨[],rfl,.nil⟩;generalize fa:({ L with heap:=L.heap.push { cls:=.type "list",data:=.seq ([]:RU).toArray},toks:=L.toks}:Shared)=F at O;generalize e6:upd H2 L.heap.objs.size (.lst [])=M at O eL l3;have hj:M L.heap.objs.size=J (.lst []):=by rw[<-e6];exact aN
 have f6:F.heap=L.heap.push { cls:=.type "list",data:=.seq ([]:RU).toArray}:=by rw[<-fa]
 have cB:tn 0 F.heap:=ab.keep _ _ _ ew λb _ o e=>by rw[f6];exact qr _ e
 have cf:∀b∈fp,i8 X J4 M b:=λb S=>by
  obtain⟨a0,a1⟩:=f2 b S;refine⟨?_,a1⟩;obtain⟨o,eo,_⟩:=ab.obj _ _ ew b S;rw[<-e6,aB (wm (pa eo))];exact a0
 have di:wpAny (model X.prog X.w) X.A (newFunctionEnv B X.env.globals cl [] X.env.qual Y .none (J X.env)) (λvG dx =>
    codeAny (model X.prog X.w) X.A (.compStart (.ListComp cp [⟨tg,an,c0,0⟩] B dk) 0 (.ref d2) (.ref L.heap.objs.size) { vG with scope:=relabel B X.env}) (compPost (model X.prog X.w) X.A X.xe use Qv (.ref L.heap.objs.size) vG.locals) dx) X.xe F:=by
  refine qO ?_;have P:∀b o,F.heap.get? b=J o->(pushCells (F.heap.push { cls:=.type "dict",data:=.dict #[]}) B.names).get? b=J o:=λb o e=>pushCells_keeps _ _ b o (qr _ e);have eF:=(Heap.Ns.new F.heap (.type "dict")).keeps (pushCells_keeps B.names _);have ca:=cellsFrom_ok B.names (F.heap.push { cls:=.type "dict",data:=.dict #[]}) (F.heap.objs.size+1) [] ⟨λ_ _ hm=>(nomatch hm),List.Pairwise.nil⟩ (by rw[Ik];exact mm _);rw[Ik]at ca;rw[dD];have cw:=fh B.names (F.heap.objs.size+1);generalize cellsFrom (F.heap.objs.size+1) B.names []=cn at ca cw ⊢;generalize pushCells (F.heap.push { cls:=.type "dict",data:=.dict #[]}) B.names=h' at P eF ca ⊢;dsimp only[newEnv];have a8:∀x c,(cn++cl).lookup x=J c->((x,c)∈cn/\B.names.lookup x=J .cell/\F.heap.objs.size<c/\h'.IsCell c Y)\/(X.env.cells.lookup x=J c/\B.names.lookup x=J .free):=λx c e=>by
   rw[mJ]at e
   cases z:cn.lookup x with
   |some c' =>
    rw[z]at e
    have:c'=c:=by simpa using e
    subst this;have m:=PySem.mem_of_lookup z;obtain⟨q1,q2⟩:=ca.empty x c' m;exact .inl ⟨m,C.cell _ ((cw x).mp ⟨c',m⟩) rfl,q2,q1⟩
   |none =>
    rw[z]at e;obtain⟨q1,q2⟩:=eC x c (by simpa using e);exact .inr ⟨q1,C.hf x q2⟩
  have en:∀x c,x∈frees->cl.lookup x=J c->(cn++cl).lookup x=J c:=λx c hx e=>by
   rw[mJ]
   cases z:cn.lookup x with
   |none=>simpa using e
   |some c' =>
    have:=C.cell _ ((cw x).mp ⟨c',PySem.mem_of_lookup z⟩) rfl
    rw[C.hf x hx]at this;cases this
  have old:∀x c,X.env.cells.lookup x=J c->c<F.heap.objs.size:=λx c e=>by
   obtain⟨v,qc⟩:=O.cell x c e;exact qc.lt
  have ok:(dR X B (cn++cl) F M fp (E++frees)).Ok:=by
   refine⟨O.ok.mod,C.kind,O.ok.glob,O.ok.blt,mm _,λx y c h1 h2=>?_,λx hx=>?_,λx c hx e=>?_,O.ok.hd,O.ok.frames,.inl rfl,
    λb S=>⟨?_,λx c e z=>?_⟩,O.bs,pu O.ok.bsz O.sz,λb o e S=>?_,λb S z=>?_,O.stack,O.stkFree,O.ok.tree,O.ok.top⟩
   .rcases a8 x c h1 with⟨a1,_,a2,_⟩|⟨a1,_⟩<;>rcases a8 y c h2 with⟨b1,_,b2,_⟩|⟨b1,_⟩
    .exact PySem.name_of_addr ca.apart a1 b1
    .exact absurd (Mk a2 (old y c b1)) (AH _)
    .exact absurd (Mk b2 (old x c a1)) (AH _)
    .exact O.ok.inj x y c a1 b1
   .
    have b6:(relabel B X.env).names.lookup x=J .cell\/(relabel B X.env).names.lookup x=J .free:=hx
    cases e:B.names.lookup x with
    |none =>
     exfalso;have nn:∀(l:List (Str×NameKind)),l.lookup x=Y->(l.map λ(n,k)=>if(k==NameKind.free&&X.env.scope.kind == .function&&X.env.kindOf n==J .cell)then(n,NameKind.cell)else(n,k)).lookup x=Y:=by
      intro l
      induction l with
      |nil=>intro _;rfl
      |cons y l ih =>
       intro hl;obtain⟨n,kk⟩:=y;rw[BG]at hl
       split at hl
       .cases hl
       .rename_i f4
        rw[pk];dsimp only
        split<;>(rw[BG];simp only[f4];exact ih hl)
     have e2:=nn B.names e;rcases b6 with z|z
     .rw[show(relabel B X.env).names.lookup x=Y from e2]at z;cases z
     .rw[show(relabel B X.env).names.lookup x=Y from e2]at z;cases z
    |some kk =>
     have e2:=cG (env:=X.env) O.ok.kind e;have hk:kk=.free\/kk=.cell:=by
      rcases b6 with z|z
      .rw[show(relabel B X.env).names.lookup x=_ from e2]at z;have z':=Option.some.inj z;by_cases zz:kk=.free/\X.env.kindOf x=J .cell
       .exact .inl zz.1
       .rw[hI zz]at z';exact .inr z'
      .rw[show(relabel B X.env).names.lookup x=_ from e2]at z;have z':=Option.some.inj z;by_cases zz:kk=.free/\X.env.kindOf x=J .cell
       .exact .inl zz.1
       .rw[hI zz]at z';exact .inl z'
     rcases hk with hk|hk
     .subst hk;have hf:=C.all _ (PySem.mem_of_lookup e) rfl;obtain⟨c,h1,_⟩:=e7 x hf;exact⟨c,en x c hf h1⟩
     .subst hk;obtain⟨c,hc⟩:=(cw x).mpr (PySem.mem_of_lookup e);show ∃c,(cn++cl).lookup x=J c;rw[mJ]
      cases z:cn.lookup x with
      |some c'=>exact⟨c',rfl⟩
      |none=>exact absurd hc (yZ cn x z c)
   .have b6:=of_decide_eq_true hx;rcases a8 x c e with⟨_,_,q,_⟩|⟨_,q⟩
    .exact E0 q
    .rw[q]at b6;cases b6
   .obtain⟨o,eo,_⟩:=ab.obj _ _ cB b S;exact wm (pa eo)
   .rcases a8 x c e with⟨_,_,q,_⟩|⟨q,_⟩
    .obtain⟨o,eo,_⟩:=ab.obj _ _ cB b S;exact absurd (Mk q (z▸pa eo)) (AH _)
    .exact (cf b S).2.2.2.2.1 x c q z
   .obtain⟨_,_,_,h4,_⟩:=cf b S;rcases h4 with h4|h4
    .exact O.ok.noex b o e h4
    .exact absurd (r_ (pa e) (pu O.ok.bsz h4)) (AH _)
   .obtain⟨_,h2,h3,_⟩:=cf b S;rcases n8.mp (O.stkSub b z)with e|e
    .exact h2 e
    .exact h3 e
  obtain⟨mX,hq,lX⟩:=O.loc;have g3:Le U H (U1++[L.heap.objs.size]) M:=l1.trans l3
  let as:L2.St:=List.replicate E.length Y++fm.map λi=>(Z[i]?).getD Y
  have fg:fm.length=frees.length:=by have:=congrArg List.length C.fm;simpa using this
  have ep:Inv (dR X B (cn++cl) F M fp (E++frees)) [] as M { F with heap:=h',toks:=F.toks}:=by
   refine⟨ok,rfl,O.bare,Un.kept P,⟨_,eF,λi x v hN hv g5=>?_⟩,λx c e=>?_,?_,λx c e=>?_,λp hp=>absurd (show p∈([]:RV)from hp) (by simp),O.hok.kept P,?_⟩
   .have df:(E++frees)[i]?=J x:=hN;have ei:E.length<=i:=by
     by_cases z:E.length<=i
     .exact z
     .exfalso;have ar:as[i]?=J (J v):=hv;rw[qp (by simp;ext),EX]at ar
      split at ar<;>cases ar
    have ar:as[i]?=J (J v):=hv;rw[AE (by simpa using ei),IL,tx]at ar;rw[AE ei]at df
    cases ej:fm[i-E.length]? with
    |none=>rw[ej]at ar;cases ar
    |some j =>
     rw[ej]at ar;have ef:=congrArg (λl=>l[i-E.length]?) C.fm;simp only[tx,ej,df,DQ]at ef;have fk:N[j]?=J x:=by simpa using ef
     have ev:Z[j]?=J (J v):=by
      have:(Z[j]?).getD Y=J v:=by simpa using ar
      cases z:Z[j]? with
      |none=>rw[z]at this;cases this
      |some o=>rw[z]at this;simp at this;rw[this]
     have hx:x∈frees:=Al df;have g0:Il X.env.scope x:=.inr (.inl (C.cl x hx));obtain⟨u,ru,et⟩:=lX j x v (by rw[g.hN];exact fk) ev g0;refine⟨u,ru,.inr ⟨?_,?_⟩⟩
     .left;show(relabel B X.env).names.lookup x=J .cell
      have:=cG (env:=X.env) O.ok.kind (C.hf x hx)
      rw[c_ ⟨rfl,C.cl x hx⟩]at this;exact this
     .rcases et with⟨hk,_⟩|⟨_,c,hc,c5⟩
      .rw[C.cl x hx]at hk;cases hk
      .obtain⟨c',h1,h2⟩:=e7 x hx;rw[hc]at h2;cases h2;obtain⟨o,eo,ed⟩:=c5;exact⟨c,en x c hx h1,o,P _ _ eo,ed⟩
   .rcases a8 x c e with⟨_,_,_,q⟩|⟨q,_⟩
    .exact⟨Y,q⟩
    .obtain⟨v,o,eo,ed⟩:=O.cell x c q;exact⟨v,o,P _ _ eo,ed⟩
   .exact O.hok.fresh (mm _)
   .rcases a8 x c e with⟨_,_,q,_⟩|⟨q,_⟩
    .exact O.hok.fresh (E0 q)
    .exact O.freeC x c q
   .show as.length=(E++frees).length;simp[as,fg]
  have gY:Good (dR X B (cn++cl) F M fp (E++frees)) (E++frees) E G' k:=by
   refine⟨rfl,nd,λx hx=>?_,λx hx=>?_,λx hx=>?_,dbg,g.calm,g.room,PassesOwn.never⟩
   .rcases AS.mp hx with z|z
    .rcases C.hv x z with z|z
     .left
      have:=cG (env:=X.env) O.ok.kind z
      rw[hI (λq=>nomatch q.1)]at this;exact this
     .right
      have:=cG (env:=X.env) O.ok.kind z
      rw[hI (λq=>nomatch q.1)]at this;exact this
    .right
     have:=cG (env:=X.env) O.ok.kind (C.hf x z)
     rw[c_ ⟨rfl,C.cl x z⟩]at this;exact this
   .rcases C.hv x hx with z|z
    .right
     have:=cG (env:=X.env) O.ok.kind z
     rw[hI (λq=>nomatch q.1)]at this;exact this
    .exact .inl (decide_eq_true z)
   .have:=cG (env:=X.env) O.ok.kind (f5 x hx)
    rw[hI (λq=>nomatch q.1)]at this;exact this
  obtain⟨hg,ht,he⟩:=hY (dR X B (cn++cl) F M fp (E++frees)) rfl rfl rfl rfl rfl rfl gY;have g2:RS X.K (U1++[L.heap.objs.size]) M (A9 E.length fm ai) as:=by
   refine⟨by simp[as,A9],λi v e=>?_⟩;unfold A9 at e;by_cases z:E.length<=i
   .rw[AE (by simpa using z),IL,tx]at e
    cases ej:fm[i-E.length]? with
    |none=>rw[ej]at e;cases e
    |some j =>
     rw[ej]at e;have ev:ai[j]?=J (J v):=by
      have:(ai[j]?).getD Y=J v:=by simpa using e
      cases z:ai[j]? with
      |none=>rw[z]at this;cases this
      |some o=>rw[z]at this;simp at this;rw[this]
     obtain⟨v',e',rv⟩:=rs.2 j v ev;refine⟨v',?_,rv.le g3⟩;show as[i]?=_;rw[AE (by simpa using z),IL,tx,ej];simp[e']
   .rw[qp (by simp;ext),EX]at e
    split at e<;>cases e
  have q3:Ful X (RV' X) ai (U1++[L.heap.objs.size]) M ((v7 it h1.length gt mt me it.xs (A9 E.length fm ai) (h1++[.lst []])).bind λ_ h3=>.ok (.loc h1.length) h3) Q:=Ful.le l3 q1;have b0:(U1++[L.heap.objs.size])[h1.length]?=J L.heap.objs.size:=by rw[<-cv.len];simp
  have c2:∀ck:Shared,ck={ F with heap:=h',toks:=F.toks}->codeAny (model X.prog X.w) X.A (.compLoop (.ListComp cp [⟨tg,an,c0,0⟩] B dk) 0 (.ref d2) (.ref L.heap.objs.size) (compEnvC B (cn++cl) F.heap.objs.size X.env))
    (compPost (model X.prog X.w) X.A X.xe use Qv (.ref L.heap.objs.size) F.heap.objs.size) ck:=by
   rintro ck rfl;refine rm (CI X (dR X B (cn++cl) F M fp (E++frees)) it tn fp (U1++[L.heap.objs.size]) M ai h1.length gt mt me Q) ?_ it.xs.length
    ⟨0,as,M,_,_,_,rfl,Ja _,ep,ab.keep _ _ _ cB (λb _ o e=>P b o e),λb S=>(cf b S).1,Le.refl _ _,g2,eL,by simpa using q3⟩
   rintro n s6 ⟨i,Z6,H6,U6,cd,h6,rfl,hu,I6,ec,ek,l6,fl,dq,q6⟩;have cc:∀{H':Hp},(∀b∈fp,H' b=Y)->∀b∈fp,i8 (dR X B (cn++cl) F M fp (E++frees)) [] H' b:=λ{H'} hn b S =>
    ⟨hn b S,(ok.exf b S).1,ok.exfs b S,.inl S,(ok.exf b S).2,λp hp=>absurd (show p∈([]:RV)from hp) (by simp)⟩
   by_cases b4:i<it.xs.length
   .have ed:it.xs.drop i=it.xs[i]::it.xs.drop (i+1):=IK b4;rw[ed]at q6;simp only[v7]at q6;by_cases hok:it.ok h6
    .rw[c_ hok]at q6;obtain⟨j1,_⟩:=jr U6 H6 h6 i (l3.trans l6) dq hok;obtain⟨go,yl⟩:=j1 b4;refine j_ (ab.item (dR X B (cn++cl) F M fp (E++frees)) rfl rfl rfl g.calm i [] s6 Z6 H6 (λ_ _=>False) I6 (cc ek) ec go) λr s7 ⟨u,hr,h7⟩=>?_;subst hr;refine j_ h7 λ_ s8 ⟨x8,H8,I8,r8,y8,dn,gi⟩=>?_;obtain⟨U8,x,l8,fx,ex,rx⟩:=yl x8 H8 y8;have f7:x=it.xs[i]:=by rw[Ah b4]at ex;exact(Option.some.inj ex).symm
     subst f7;have gn:=I8.pinned (cc gi) (ab.obj _ _ dn);have q8:=Ful.le l8 q6;have c4:∀{Z9:L2.St}{H9:Hp}{s9:Shared},Inv (dR X B (cn++cl) F M fp (E++frees)) ([]++kR fp s8.heap) Z9 H9 s9->Inv (dR X B (cn++cl) F M fp (E++frees)) [] Z9 H9 s9/\tn (i+1) s9.heap/\∀b∈fp,H9 b=Y:=λ{Z9 H9 s9} I9=>by
      refine⟨I9.unpinned,ab.keep _ _ _ dn λb S o e=>(I9.pin (b,o) (tf _ (tf _ (gV S e)))).1,λb S=>?_⟩;obtain⟨o,e,d⟩:=ab.obj _ _ dn b S;exact(I9.pin (b,o) (tf _ (tf _ (gV S e)))).2.1
     cases eg:gt it.xs[i] cd h6 with
     |nx R h9 =>
      rw[eg]at q8;dsimp only at q8
      refine j_ (hg _ s8 Z6 H8 x8 u (λZ' H'=>∃U',Le U8 H8 U' H'/\RH X.K X.mg U' H' h9/\RS X.K U' H' R Z') gn r8 ⟨U8,cd,h6,_,fl.le l8,fx,rx,by
       show mW _ _ _ (gt it.xs[i] cd h6) _
       rw[eg];exact λU' H' Z' l r s=>⟨U',l,r,s⟩⟩) λ_ s9 ⟨Z9,H9,I9,U9,l9,gk,cm⟩=>?_
      have q9:=Ful.le l9 q8
      cases em:mt R h9 with
      |ok b bm =>
       rw[em,Out.ne_ok]at q9;rw[Out.bind_ok]at q9
       refine j_ (ht _ s9 Z9 H9 (λb' H'=>b'=b/\∃U',Le U9 H9 U' H'/\RH X.K X.mg U' H' bm) I9 ⟨U9,R,h9,cm,gk,by
        show Ful _ _ _ _ _ (mt R h9) _
        rw[em];exact λU' H' v' l r e=>⟨e.symm,U',l,r⟩⟩) λb' f1 ⟨dr,d1,eb,de,a9,c3⟩=>?_
       subst eb;have al:=Ful.le a9 q9
       cases b' with
       |false =>
        rw[hI Nu]at al ⊢;obtain⟨dF,ey,eu⟩:=c4 d1;exact⟨_,by ext,i+1,Z9,dr,de,R,bm,rfl,b4,dF,ey,eu,l6.trans (l8.trans (l9.trans a9)),cm.le a9,c3,al⟩
       |true =>
        rw[c_ rfl]at al ⊢
        cases ee:me R bm with
        |ok v d0 =>
         rw[ee,Out.ne_ok]at al;rw[Out.bind_ok]at al
         refine j_ (he _ f1 Z9 dr (λv' H'=>∃U',Le de dr U' H'/\RH X.K X.mg U' H' d0/\RP X.K U' H' v v') d1 ⟨de,R,bm,cm.le a9,c3,by
          show Ful _ _ _ _ _ (me R bm) _
          rw[ee];exact λU' H' v' l r e=>⟨U',l,r,e⟩⟩) λfo f0 ⟨v',da,gs,ez,es,ds,c1,e8⟩=>?_
         have a3:=Ful.le ds al;have b9:Le (U1++[L.heap.objs.size]) M es da:=l6.trans (l8.trans (l9.trans (a9.trans ds)));obtain⟨oa,g4,f8⟩:=c1.obj (b9.get b0);rw[g4]at a3
         cases oa with
         |dic fz ks xs=>exact a3.elim
         |exc x=>exact a3.elim
         |lst ys =>
          dsimp only at a3;by_cases b3:ys.length<sizeLine
          .rw[c_ b3]at a3;obtain⟨dv,f3,ry⟩:=f8;obtain⟨d5,db⟩:=c1.put (b9.get b0) (o:=.lst (ys++[v])) (ho:=.lst (dv++[v'])) ⟨_,rfl,ry.append (.cons e8 .nil)⟩;have ap:=qg (X:=dR X B (cn++cl) F M fp (E++frees)) _ f0 Z9 da (.ref L.heap.objs.size) [v'] (.ref L.heap.objs.size) [fo] (λ_ H'=>H'=upd da L.heap.objs.size (.lst (dv++[v']))) gs rfl (.cons ez .nil) ⟨L.heap.objs.size,dv,v',rfl,rfl,f3,by rw[<-ry.length];exact b3,rfl⟩;refine j_ ap λ_ hB ⟨_,hA,ft,_,eH⟩=>?_;subst eH;obtain⟨ea,eh,dV⟩:=c4 ft;exact⟨_,by ext,i+1,Z9,_,es,R,_,rfl,b4,ea,eh,dV,b9.trans db,(cm.le a9).le (ds.trans db),d5,Ful.le db a3⟩
          .rw[hI b3]at a3;exact a3.elim
        |exc x d0=>rw[ee]at al;exact al.elim
        |bad=>rw[ee]at al;exact al.elim
      |exc x bm=>rw[em]at q9;exact q9.elim
      |bad=>rw[em]at q9;exact q9.elim
     |_=>rw[eg]at q8;exact q8.elim
    .rw[hI hok]at q6;exact q6.elim
   .have e:i=it.xs.length:=by ext
    rw[e,List.drop_length]at q6;simp only[v7]at q6;by_cases hok:it.ok h6
    .rw[c_ hok]at q6;obtain⟨_,j2⟩:=jr U6 H6 h6 i (l3.trans l6) dq hok;refine j_ (ab.done (dR X B (cn++cl) F M fp (E++frees)) rfl rfl rfl g.calm i [] s6 Z6 H6 (λ_ _=>False) I6 (cc ek) ec (j2 (by ext))) λr s7 ⟨hr,I7⟩=>?_;subst hr;obtain⟨m7,g1,_⟩:=I7.loc;have IX:=O.call' (s':=s7) (ch:=fp) I7.os I7.base I7.hok I7.bare λb S=>by
      obtain⟨_,a2,_,a4,a5,a6⟩:=cf b S;exact⟨a4,a2,a5,a6⟩
     exact fin _ _ H6 s7 m7 IX I7.free g1 (DT O.lt) O.sz (O.nofs (mm _)) (λx c e z=>by
      obtain⟨v,qc⟩:=O.cell x c e
      exact absurd qc.lt (by rw[z];exact AH _)) (λp hp z=>absurd (pa (O.pin p hp).1) (by rw[z];exact AH _)) (q6 U6 H6 _ (Le.refl _ _) dq (.loc (l6.get b0)))
    .rw[hI hok]at q6;exact q6.elim
  exact codeAny_compStart_list (c2 _ rfl) (ab.self X.A 0 _ _ _ (ab.keep _ _ _ cB (λb _ o e=>P b o e)) (c2 _ rfl))
 exact di
def oM(g:Good X N W G k){O l y:Expr}{u:RZ}{j:Scope}{z:Pos}{i frees F:RM}{fm:RQ}{R:Mx MIt}{gt:Mg}{mt:Mx Bool}{S:Mx PV}(C:zR X N j i frees fm)(nd:(i++frees).Nodup)(P:∀x∈F,j.names.lookup x=J .globalImplicit)(dbg:∀x∈(i++frees)++F,(x==("__debug__":Str))=T/\(x==("__classdict__":Str))=T/\x≠"__name__")(hi:MI X O l R)(hY:∀a:Cx,a.prog=X.prog->a.w=X.w->a.K=X.K->a.mg=X.mg->a.base=X.base->a.env.scope=relabel j X.env->Good a (i++frees) i F k->MG a O gt/\BC a u mt/\ME a y S)(hs:∀x,foldedSetIterable l X.env x=pure x:=by intro _;rfl):ME X (.ListComp y [⟨O,l,u,0⟩] j z) (bv i.length fm R gt mt S):=by
 intro J4 s Z H Q B tm;refine qu g C nd P dbg hi hY hs B tm λL D H6 s7 m7 IX hC ns hL hz ab E U q=>?_;refine⟨m7,ns,λai M=>⟨.ref L,H6,?_,rfl,q⟩⟩;exact IX.turned (t':=s7.toks) (λb o hb e=>M.extBut b o hb e) hC hL (.inr hz) E U
def pw(g:Good X N W G k)(i:Nat){y:Str}{py E:Pos}{R B F:Expr}{L:RZ}{a:Scope}{P:Pos}{u frees G':RM}{fm:RQ}{mi:Mx MIt}{gt:Mg}{mt:Mx Bool}{me:Mx PV}(O:N[i]?=J y)(hw:W[i]?=J y)(ak:swapsWith (.ListComp F [⟨R,B,L,0⟩] a P) (J (.Name y py)) E.line X.env=pure I)(C:zR X N a u frees fm)(nd:(u++frees).Nodup)(an:∀x∈G',a.names.lookup x=J .globalImplicit)(dbg:∀x∈(u++frees)++G',(x==("__debug__":Str))=T/\(x==("__classdict__":Str))=T/\x≠"__name__")(hi:MI X R B mi)(hY:∀j:Cx,j.prog=X.prog->j.w=X.w->j.K=X.K->j.mg=X.mg->j.base=X.base->j.env.scope=relabel a X.env->Good j (u++frees) u G' k->MG j R gt/\BC j L mt/\ME j F me)(hs:∀x,foldedSetIterable B X.env x=pure x:=by intro _;rfl):MS X (.Assign [.Name y py] (.ListComp F [⟨R,B,L,0⟩] a P) E) (bt i (bv u.length fm mi gt mt me)):=by
 intro J4 s Z H D ai tm;obtain⟨U,ab,h,rs,rh,q⟩:=tm;rw[exec_Assign_Name_used _ _ _ _ ak];refine i_ (wpAny_standAt (i_ ?_))
 refine i_ (wpAny_mono (qu g C nd an dbg hi hY hs ai
  ⟨U,ab,h,rs,rh,bj.ex q λU1 H1 v v' h1 l r z w=>w U1 H1 _ (Le.refl _ _) r ((rs.le l).set i z)⟩ λM Q H6 s7 m7 IX hC ns hL hz ap ar hp q6=>?_) (λ_ s' hq=>pz (pz hq)) λ_ _ e=>e)
 .obtain⟨o,es,ep,ho,hd,hr⟩:=id ns;have IP:Inv X (J4++[(Q,o)]) Z H6 s7:=IX.pins_of λp S=>(AS.mp S).elim (λz=>IX.pin p (tf _ z)) λz=>by
   have e:p=(Q,o):=by simpa using z
   subst e;exact⟨ho,hC,hL,ap,λv z=>by rw[hd]at z;cases z⟩
  have st:=uj (pos:=py) (by rw[g.hN];exact g.nd) (g.x O) (g.loc y (aD O)) (g.fn y (aD hw)) (J4++[(Q,o)]) s7 Z H6 (.ref M) (.ref M) (λZ' H'=>Z'=Z.set i (J (.ref M))/\H'=H6) IP rfl ⟨rfl,rfl⟩;refine j_ st λ_ s8 ⟨Z8,H8,I8,e1,e2⟩=>?_;subst e1;subst e2;have pn:=I8.pin (Q,o) (tf _ (tf _ (by simp)));refine⟨m7,⟨o,es,ep,pn.1,hd,hr⟩,λas al=>⟨_,_,?_,q6⟩⟩;exact(I8.unpinned).turned (t':=s8.toks) (λb o hb e=>al.extBut b o hb e) hC hL (.inr hz) ar hp
end
@[inline]abbrev fH:RU:=[.type "ValueError",.type "Exception",.type "BaseException",.type "object"]
structure Cb(K:g_)(mg:Aq)(x:Str)(C:Addr):Prop where
 bd:mg x=J (.ref C)
 ok:PySem.W.excIn K C fH "ValueError.__new__"=I
abbrev Cc(X:Cx)(x:Str)(C:Addr):Prop:=Cb X.K X.mg x C
def oS{K:g_}{h:Heap}{C:Addr}{z:RU}{a:String}(L:K.In h)(q:PySem.W.excIn K C z a=I):
  ∃u N M q bs j R sub P i dd G H B E F W,h.get? C=J (excClassObj M q C N bs u j R sub P i dd G H B E F a)/\h.Ns N W/\W "__init__"=Y/\OwnTail h z u/\∀base r,PySem.W.mroIn K C base=J r->(Value.ref C::u).contains base=r:=by
 unfold PySem.W.excIn at q
 split at q
 .rename_i dd X sl S
  split at q
  .rename_i C' u G H B E n F hm U
   simp only[AC,beq_iff_eq,Bool.not_eq_true']at q;obtain⟨⟨⟨⟨⟨rfl,rfl⟩,y⟩,ht⟩,hok⟩,O⟩:=q;obtain⟨M,bs,ai,ns,Z,hd,R,sub,P,i,ak⟩:=X;subst hm y;have Q:sl=#[G,H,B,E,J (.builtin n),F]:=by obtain⟨l⟩:=sl;simp only at U;rw[U]
   subst Q
   exact⟨u,ns,M,Z,bs,hd,R,sub,P,i,dd,G,H,B,E,F,_,L _ _ S,.of_isNs (PySem.W.isNs_of_in L hok),PySem.W.nsMap_none_of_in L hok O,PySem.W.tail_of_in L ht,λbase r e=>by
    unfold PySem.W.mroIn PySem.W.clsIn at e;rw[S]at e
    simpa using e⟩
  .cases q
 .cases q
section
variable{X:Cx}{N W G:RM}{k:Nat}
def lg(x:Str)(m:Mx (RL)):n0:=w_ m λa Z h=>if a.length<=sizeLine then .rse ⟨x,[]⟩ Z h else .bad
def yT(g:Good X N W G k){x:Str}{j:Nat}{C:Addr}(hj:G[j]?=J x)(EC:Cc X x C){e:Expr}{E:RZ}{m:Mx (RL)}{np a ai:Pos}(ha:MA X (e::E) m)(he:starEach (e::E) X.env=(T,eval e X.env)::starEach E X.env:=by rfl)(al:(backTo a (starEach E X.env)).any (·.1)=T:=by rfl):
  MS X (.Raise (J (.Call (.Name x np) (e::E) [] a)) Y ai) (lg x m):=by
 intro J4 s Z H D i ⟨U,M,h,rs,rh,q⟩;have d:=g.dbg x (tf _ (aD hj));obtain⟨bm,Nn,nm,qn,bs,L,sn,sub,ab,S,dd,k0,k1,k2,k3,k5,mN,hC,hN,R,P,_⟩:=oS i.mod.kin EC.ok;refine wpAny_Raise_call_subT (nm:=nm) (q:=qn) (N:=Nn) (bs:=bs) (hdct:=L) (sn:=sn) (sub:=sub) (ab:=ab) (col:=S) (dd:=dd) (k0:=k0) (k1:=k1) (k2:=k2) (k3:=k3) (k5:=k5)
  PySem.F.excBase_ValueError (P.hasType PySem.F.excBase_ValueError.hasBase) (i.ok.hd g.calm) (by rw[he];show(T||(backTo a (starEach E X.env)).any (·.1))=T;rw[al];rfl) R (jg i (g.gl x (aD hj)) EC.bd ⟨rfl,?_⟩ d.1)
 have A:=ha a J4 s Z H (λvs B=>∃u xs O,Le U H u B/\RH X.K X.mg u B O/\RPs X.K u B xs vs/\bj X u B (if xs.length<=sizeLine then .rse ⟨x,[]⟩ M O else .bad) D) i
  ⟨U,M,h,rs,rh,bj.ex q λu B v v' O l r z w=>⟨u,v,O,l,r,z,w⟩⟩
 rw[he]at A ⊢;refine Calls.evalArgs_plain (wpAny_mono A (λus s2 ⟨vs,B,Q,rv,u,xs,O,l1,ak,rx,w⟩=>?_) λ_ _ y=>y);by_cases hl:xs.length<=sizeLine
 .rw[c_ hl]at w;refine⟨rfl,by rw[<-rv.length,<-rx.length];exact hl,Q.bk _ _ hC,hN.keeps Q.bk,P.keeps Q.bk,λh' ea F=>?_⟩;have I0:=Inv.unpinned (J4:=[]) Q;exact w ea C u B Z { s2 with heap:=h'} s2.heap Y (.inl ⟨rfl,rfl⟩) EC.bd (Le.refl _ _) ak (rs.le l1) I0 (.of F) DvA.none
 .rw[hI hl]at w;exact w.elim
def jp{M:Model}{A:Around}{E:RC}{h:Heap}{gn:Array GenState}{d:Drawn}{t:Nat}{os:OsState}{ea C D N1 N2:Addr}{oe:Obj}{Z q1 P q2:Str}{H i ak a:RU}{R L:Bool}{F S:RM}{u l:RU}{ai O:Bool}{z j:Option Bool}{U ab:RG}{a0 a1 a2 a3 a5 b0 b1 b2 b3 b5:RW}{n1 n2:String}{Q:Bool->Shared->Prop}(hC:h.get? C=J (excClassObj Z q1 C N1 H i R F u ai z U a0 a1 a2 a3 a5 n1))(hD:h.get? D=J (excClassObj P q2 D N2 ak a L S l O j ab b0 b1 b2 b3 b5 n2))(he:h.get? ea=J oe)(B:oe.cls=.ref C)(hB:a.contains (.type "BaseException")=I)(y:(Value.ref C::i).contains (.ref D)=I)(hq:Q I ⟨h,gn,d,t,os⟩):wpAny M A (excMatches (.ref ea) (.ref D)) Q E ⟨h,gn,d,t,os⟩:=by
 have al:(Value.ref D::a).contains (.type "BaseException")=I:=by rw[L9,hB,NH]
 have f:=tc_notTuple
 repeat (first | (rw[B]) | with_reducible refine wpAny_loadPart_at hD ?_ | (with_reducible refine wpAny_isSubtype_exc hD ?_;rw[al]) | (with_reducible refine wpAny_isSubtype_exc hC ?_;rw[y]) | wp_step)
 exact hq
end
section
variable{X:Cx}{N W G:RM}{k:Nat}{Z:L2.St}{H:Hp}{s:Shared}
abbrev pq(X:Cx)(J4:RV)(E:RC):Cx:={ X with pn:=X.pn++J4,xe:=E}
def Gc(ok:X.Ok):(pq X J4 E).Ok :=
 ⟨ok.mod,ok.kind,ok.glob,ok.blt,ok.above,ok.inj,ok.has,ok.cab,ok.hd,ok.frames,ok.stk,ok.exf,ok.bs,ok.bsz,ok.noex,ok.exfs,ok.funs,ok.frf,ok.tree,ok.top⟩
def zq(ok:(pq X J4 E).Ok):X.Ok :=
 ⟨ok.mod,ok.kind,ok.glob,ok.blt,ok.above,ok.inj,ok.has,ok.cab,ok.hd,ok.frames,ok.stk,ok.exf,ok.bs,ok.bsz,ok.noex,ok.exfs,ok.funs,ok.frf,ok.tree,ok.top⟩
def Inv.toPin(a:Inv X J4 Z H s):Inv (pq X J4 E) [] Z H s :=
 ⟨Gc a.ok,a.os,a.bare,a.base,a.loc,a.cell,a.free,a.freeC,λp i=>a.pin p (by simpa using i),a.hok,a.len⟩
def Inv.ofPin(a:Inv (pq X J4 E) [] Z H s):Inv X J4 Z H s :=
 ⟨zq a.ok,a.os,a.bare,a.base,a.loc,a.cell,a.free,a.freeC,λp i=>a.pin p (by simpa using i),a.hok,a.len⟩
def n9{h a:Heap}{c:Addr}{v:RW}(sm:h.UpToSlots a)(q:h.IsCell c v):a.IsCell c v:=by obtain⟨o,e,d⟩:=q;obtain⟨sl,i⟩:=sm c o e (λj z=>by rw[d]at z;cases z);exact⟨_,i,d⟩
def Inv.flown(j:Inv X [] Z H s){B h' Q:Heap}(hB:B.StaysIn s.heap)(F:B.StaysIn h')(sm:s.heap.UpToSlots h')(S:Bj X Q)(M:Ql B (wv X.stack) Q)(R:∀b o,H b=J o->∃l,B.get? b=J l):Inv X [] Z H { s with heap:=h'}:=by
 have kp:∀b o l,B.get? b=J l->s.heap.get? b=J o->h'.get? b=J o:=λb o l e1 e2=>by
  have:=rq hB e1 e2
  subst this;exact F b l e1
 have nl:∀b o,X.s₀.heap.get? b=J o->b≠X.env.locals:=λb o e z=>absurd (r_ (pa e) j.ok.above) (by rw[z];exact AH _);have O:∀b o,X.s₀.heap.get? b=J o->b∉X.fs->b∉X.ex->∃l,B.get? b=J l:=λb o e hf C=>by
  obtain⟨o',e'⟩:=S.old b o e C;refine M b o' e' λhm=>?_;rcases n8.mp (j.stkSub b hm)with z|z
  .exact nl b o e z
  .exact hf z
 obtain⟨m,hn,hl⟩:=j.loc;have U:∀b o,X.s₀.heap.get? b=J o->b∈X.fs->∀E,o.data≠.fields E:=λb o e hf E z=>by
  obtain⟨_,oF,eF,dF⟩:=j.ok.funs.mem hf;rw[e]at eF;cases eF;exact dF E z
 refine⟨j.ok,j.os,j.bare,⟨λb o e n hf C=>?_,λb o e n hf C=>?_,j.base.free,λb o e C=>?_,j.base.tups,j.base.frzs,j.base.tbls⟩,⟨m,sm.ns hn,λi x v e1 e2 e3=>?_⟩,λx c e=>?_,j.free,j.freeC,λp hp=>?_,λa o e=>?_,j.len⟩
 .obtain⟨l,y⟩:=O b o e hf C;exact kp b o l y (j.base.keep b o e n hf C)
 .obtain⟨sl,e1⟩:=j.base.slot b o e n hf C;obtain⟨L,e2⟩:=sm b _ e1 (λE z=>U b o e hf E z);exact⟨L,e2⟩
 .by_cases hf:b∈X.fs
  .obtain⟨sl,e1⟩:=j.base.slot b o e (j.ok.frf b hf) hf C;obtain⟨L,e2⟩:=sm b _ e1 (λE z=>U b o e hf E z);exact⟨_,e2⟩
  .obtain⟨l,y⟩:=O b o e hf C;exact⟨l,F b l y⟩
 .obtain⟨u,ru,P⟩:=hl i x v e1 e2 e3;refine⟨u,ru,?_⟩;rcases P with z|⟨z1,c,z2,z3⟩
  .exact .inl z
  .exact .inr ⟨z1,c,z2,n9 sm z3⟩
 .obtain⟨v,q⟩:=j.cell x c e;exact⟨v,n9 sm q⟩
 .obtain⟨e,n,ne,nf,d⟩:=j.pin p hp;refine⟨?_,n,ne,nf,d⟩;have ab:p∈X.pn:=by simpa using hp
  obtain⟨o',e'⟩:=S.pin p ab;obtain⟨l,y⟩:=M p.1 o' e' λhm=>by
   rcases n8.mp (j.stkSub p.1 hm)with z|z
   .exact ne z
   .exact nf z
  exact kp p.1 p.2 l y e
 .refine (j.hok a o e).stay (λb u hb z=>?_) (λ_ z=>z) λ_ _ z=>z;rcases hb with rfl|hb
  .obtain⟨l,y⟩:=R _ _ e;exact kp _ u l y z
  .obtain⟨l,y⟩:=R _ _ hb;exact kp _ u l y z
def Inv.track(i:Inv X C Z H s)(S:H a=Y)(h0:X.s₀.heap.get? a=Y)(hL:a≠X.env.locals)(O:∀x c,X.env.cells.lookup x=J c->c≠a)(M:∀p∈X.pn++C,p.1≠a)(B:ObjOk X.prog X.w (upd H a (.ext φ)) s.heap a (.ext φ)):Inv X C Z (upd H a (.ext φ)) s:=by
 have y:∀b o,X.s₀.heap.get? b=J o->b≠a:=λb o e z=>by rw[z,h0]at e;cases e
 have t:∀b u,H b=J u->upd H a (.ext φ) b=J u:=λb u e=>by rw[aB (br e S)];exact e
 refine⟨i.ok,i.os,i.bare,⟨i.base.keep,i.base.slot,λb o e n U=>by rw[aB (y b o e)];exact i.base.free b o e n U,i.base.there,λb xs e=>t b _ (i.base.tups b xs e),λb o u e=>t b _ (i.base.frzs b o u e),λb L e=>?_⟩,
  i.loc,i.cell,by rw[aB (Ne.symm hL)];exact i.free,λx c e=>by rw[aB (O x c e)];exact i.freeC x c e,λp l=>?_,λb u e=>?_,i.len⟩
 .obtain⟨j,R⟩:=i.base.tbls b L e;exact⟨j,t b _ R⟩
 .obtain⟨P,Q,F⟩:=i.pin p l;exact⟨P,by rw[aB (M p l)];exact Q,F⟩
 .by_cases E:b=a
  .subst E;rw[aN]at e;cases e;exact B
  .rw[aB E]at e;exact(i.hok b u e).stay (λc v _ q=>q) (λc q=>t c _ q) λc xs q=>t c _ q
def Ge{h:Heap}{a:Addr}{m i:RD}(x:h.Ns a m)(y:h.Ns a i):m=i:=by obtain⟨o,E,F,e,d,_,f⟩:=x;obtain⟨L,B,C,j,l,_,u⟩:=y;rw[e]at j;cases j;rw[d]at l;cases l;funext z;rw[<-f z,<-u z]
def Inv.unbound(l:Inv X J4 Z H s)(hN:X.N.Nodup)(S:X.N[i]?=J n)(hm:s.heap.Ns X.env.locals m)(F:h'.Ns X.env.locals (λx=>if x=n then v else m x))(C:Heap.SameBut X.env.locals s.heap h'):
  Inv X J4 (Z.set i Y) H { s with heap:=h',toks:=t'}:=by
 obtain⟨P,O,hl⟩:=l.loc;have em:m=P:=Ge hm O;subst em;have lt:∀b o,X.s₀.heap.get? b=J o->b≠X.env.locals:=λb o e=>wm (r_ (pa e) l.ok.above);refine⟨l.ok,l.os,l.bare,⟨λb o e n B E=>?_,λb o e n B E=>?_,l.base.free,λb o e E=>?_,l.base.tups,l.base.frzs,l.base.tbls⟩,⟨_,F,λj y v' e1 e2 e3=>?_⟩,λy c e=>?_,l.free,l.freeC,λp R=>?_,λa o e=>?_,by simpa using l.len⟩
 .exact (C.2 b (lt b o e)).trans (l.base.keep b o e n B E)
 .obtain⟨sl,e1⟩:=l.base.slot b o e n B E;exact⟨sl,(C.2 b (lt b o e)).trans e1⟩
 .obtain⟨o',e1⟩:=l.base.there b o e E;exact⟨o',(C.2 b (lt b o e)).trans e1⟩
 .by_cases M:j=i
  .subst M;exfalso;by_cases L:j<Z.length
   .rw[u_ L]at e2;cases e2
   .rw[Bf (by simp;lia)]at e2;cases e2
  .rw[mA (Ne.symm M)]at e2;obtain⟨u',r',q⟩:=hl j y v' e1 e2 e3;refine⟨u',r',?_⟩;rcases q with⟨k,e⟩|⟨k,c,e,z⟩
   .refine .inl ⟨k,?_⟩
    have:y≠n:=λe=>M (mP hN e1 (e▸S))
    simp[this,e]
   .exact .inr ⟨k,c,e,z.sameBut C (l.cne y c e)⟩
 .obtain⟨w',z⟩:=l.cell y c e;exact⟨w',z.sameBut C (l.cne y c e)⟩
 .obtain⟨e,n,ne,U,d⟩:=l.pin p R;exact⟨(C.2 p.1 ne).trans e,n,ne,U,d⟩
 .have Q:a≠X.env.locals:=λz=>by rw[z,l.free]at e;cases e
  refine(l.hok a o e).stay (λb u B z=>(C.2 b ?_).trans z) (λ_ z=>z) λ_ _ z=>z;rcases B with rfl|B
  .exact Q
  .intro z;rw[z,l.free]at B;cases B
def RS.unset{K:g_}{U:RT}{H:Hp}{a:lR}{Z:L2.St}(r:RS K U H a Z)(i:Nat):RS K U H (a.set i Y) (Z.set i Y):=by
 refine⟨by simp[r.1],λj u e=>?_⟩;by_cases y:j=i
 .subst y;exfalso;by_cases l:j<a.length
  .rw[u_ l]at e;cases e
  .rw[Bf (by simp;lia)]at e;cases e
 .rw[mA (λz=>y z.symm)]at e ⊢;exact r.2 j u e
end
structure vE(K:g_)(C:Addr):Prop where
 ga:PySem.W.findIn K (.ref C) "__getattribute__"=J (J (.builtin "BaseException.__getattribute__"))
 cl:PySem.W.findIn K (.ref C) "__class__"=J (J (.builtin "object.__class__"))
 gt:PySem.W.findIn K (.ref C) "__getattr__"=J Y
 mo:PySem.W.mroIn K C (.type "object")=J I
 mb:PySem.W.mroIn K C (.type "BaseException")=J I
section
variable{prog:Program}{w:World}{A:Around}{E:RC}{h:Heap}{g:Array GenState}{d:Drawn}{t:Nat}{os:OsState}{a C:Addr}{o:Obj}{K:g_}
def J5(B:K.In h)(q:vE K C)(l:h.get? a=J o)(u:o.cls=.ref C)(H:R (.ok (.ret (.ref C))) ⟨h,g,d,t,os⟩):
  codeAny (model prog w) A (.call (.builtin "getset_descriptor.__get__") ⟨[.builtin "object.__class__",.ref a,.ref C],[]⟩) R ⟨h,g,d,t,os⟩:=by
 have i:(⟨h,g,d,t,os⟩:Shared).TypeIs (.builtin "object.__class__") "getset_descriptor":=PySem.F.typeOf_object_class;have F:∀{G:Around} {y:RC} {j:Bool->Shared->Prop},j I ⟨h,g,d,t,os⟩->wpAny (model prog w) G (isSubtype (.ref C) (.type (".".intercalate ("object.__class__".cutAt '.').dropLast))) j y ⟨h,g,d,t,os⟩:=λz=>by
  rw[PySem.F.owner_object_class];exact(PySem.W.looks_mroIn (M:=model prog w) B q.mo).at z
 refine codeAny_call_builtin PySem.F.slot_gs_get.plain PySem.F.entry_gs_get (PySem.F.slot_gs_get.check _ _ _ _ _ _ _ _ i (PySem.F.args_gs_get _ _ _) ?_)
 repeat (any_goals (first | assumption | (with_reducible refine wpAny_loadPart_at l ?_;rw[u]) | with_reducible refine F ?_ | wp_step))
 refine⟨Code.quiet_builtin _ (by decide +kernel),codeAny_builtin PySem.F.entry_object_class ?_⟩
 repeat (any_goals (first | assumption | (with_reducible refine wpAny_loadPart_at l ?_;rw[u]) | wp_step))
def Cd(i:K.In h)(q:vE K C)(l:h.get? a=J o)(u:o.cls=.ref C)(L:Q (.done (.ret (.ref C))) ⟨h,g,d,t,os⟩):
  wpAny (model prog w) A (Builtin.«object.__getattribute__» ⟨[.ref a,.str "__class__" tk],[]⟩) Q E ⟨h,g,d,t,os⟩:=by
 have B:∀{F:Around} {y:RC} {j:RW->Shared->Prop},j (J (.builtin "object.__class__")) ⟨h,g,d,t,os⟩->wpAny (model prog w) F (typeLookup (.ref C) "__class__") j y ⟨h,g,d,t,os⟩:=λz=>(PySem.W.looks_findIn (M:=model prog w) i q.cl).at z;have H:=PySem.F.typeOf_object_class;have O:=PySem.F.slot_gs_get.lookup;have G:=PySem.F.slot_gs_set.lookup
 repeat (any_goals (first | assumption | (with_reducible refine wpAny_loadPart_at l ?_;rw[u]) | with_reducible refine B ?_ | wp_step))
 refine J5 i q l u ?_
 repeat (any_goals (first | assumption | wp_step))
def Gf(B:K.In h)(q:vE K C)(F:h.get? a=J o)(G:o.cls=.ref C)(H:R (.ok (.ret (.ref C))) ⟨h,g,d,t,os⟩):
  codeAny (model prog w) A (.call (.builtin "BaseException.__getattribute__") ⟨[.ref a,.str "__class__" tk],[]⟩) R ⟨h,g,d,t,os⟩:=by
 have O:builtinKind "BaseException.__getattribute__"=J .slot:=by decide +kernel
 have i:splitId "BaseException.__getattribute__"=J ("BaseException","__getattribute__"):=by decide +kernel
 have P:=PySem.F.args_bexc_ga (.ref a) (.str "__class__" tk);have L:∀{y:Around} {u:RC} {j:Bool->Shared->Prop},j I ⟨h,g,d,t,os⟩->wpAny (model prog w) y (isSubtype (.ref C) (.type "BaseException")) j u ⟨h,g,d,t,os⟩:=λz=>(PySem.W.looks_mroIn (M:=model prog w) B q.mb).at z;have l:∀{y:Around} {u:RC} {j:Unit->Shared->Prop},j () ⟨h,g,d,t,os⟩->wpAny (model prog w) y (checkBuiltinCall "BaseException.__getattribute__" ⟨[.ref a,.str "__class__" tk],[]⟩) j u ⟨h,g,d,t,os⟩:=λz=>by
  simp only[checkBuiltinCall,O,i];refine i_ ?_
  .unfold isInstance
   repeat (first | (with_reducible refine wpAny_loadPart_at F ?_;rw[G]) | with_reducible refine L ?_ | wp_step)
   exact z
 exact codeAny_call_builtin PySem.F.excAttr_ValueError.ga.plain PySem.F.entry_bexc_ga (l (Cd B q F G H))
def Ox(u:K.In h)(q:vE K C)(B:h.get? a=J o)(F:o.cls=.ref C)(P:Q (.ref C) ⟨h,g,d,t,os⟩):wpAny (model prog w) A (getAttrBy (.ref a) (.str "__class__" tk) T) Q E ⟨h,g,d,t,os⟩:=by
 have O:=PySem.F.excAttr_ValueError.ga.bind (.ref a);have l:(Value.builtin "BaseException.__getattribute__" == Value.builtin "object.__getattribute__")=T:=by decide +kernel
 have L:(onTheHeap (Value.ref C)&&Value.builtin "BaseException.__getattribute__" == Value.builtin "object.__getattribute__")=T:=by rw[l];rfl
 have H:∀{y:Around} {j:RC} {i:RW->Shared->Prop},i (J (.builtin "BaseException.__getattribute__")) ⟨h,g,d,t,os⟩->wpAny (model prog w) y (typeLookup (.ref C) "__getattribute__") i j ⟨h,g,d,t,os⟩:=λz=>(PySem.W.looks_findIn (M:=model prog w) u q.ga).at z;have G:∀{y:Around} {j:RC} {i:RW->Shared->Prop},i Y ⟨h,g,d,t,os⟩->wpAny (model prog w) y (typeLookup (.ref C) "__getattr__") i j ⟨h,g,d,t,os⟩:=λz=>(PySem.W.looks_findIn (M:=model prog w) u q.gt).at z
 repeat (any_goals (first | assumption | (with_reducible refine wpAny_loadPart_at B ?_;rw[F]) | with_reducible refine H ?_ | with_reducible refine G ?_ | wp_step))
 refine Gf u q B F ?_
 repeat (any_goals (first | assumption | wp_step))
def Gg(i:K.In h)(q:vE K C)(j:h.get? a=J o)(l:o.cls=.ref C)(u:Q (J (.ref C)) ⟨h,g,d,t+1,os⟩):wpAny (model prog w) A (getAttr? (.ref a) "__class__") Q E ⟨h,g,d,t,os⟩:=by
 unfold getAttr? getAttrBy?
 repeat (any_goals (first | assumption | with_reducible apply Ox i q j l | wp_step))
end
def tO{K:g_}{a C:Addr}(q:vE K C)(F:∃H,PySem.W.clsIn K C=J H):PySem.W.KitX K (.ref a) (.ref C) (dz a C) where
 ty:=λM h _ ⟨o,P,e,c,_⟩=>c▸(PySem.W.Looks.ld e).andThen .now
 it:=λ_ _ X _=>by
  obtain⟨u,i⟩:=F;unfold PySem.W.clsIn at i
  split at i
  .rename_i L O B l y
   intro U Z S W k q;exact i_ (wpAny_loadPart (k _ _ (X _ _ y)) (pz q))
  .cases i
 ne:=λh R dd G n sl X j=>by
  obtain⟨u,i⟩:=F;refine Bool.eq_false_iff.mpr λz=>?_;have e:=Value.ref.inj (beq_iff_eq.mp z);subst e;unfold PySem.W.clsIn at i
  split at i
  .rename_i L O B l y
   have z:=(X _ _ y).symm.trans j;cases z
  .cases i
 ca:=λ{prog w A E Q s} X ⟨o,P,e,c,_⟩ k=>by
  exact Gg X q e c k
def bf(i a:RM)(x:PV)(h:MH):RB:=match x with
 |.loc n=>(match h[n]? with
  |some (.exc e)=>if i.contains e.cls=I then .ok (.bl (a.contains e.cls)) h else .bad
  |some _=>.ok (.bl T) h
  |none=>.bad)
 |_=>.ok (.bl T) h
structure zY(K:g_)(mg:Aq)(T:Value)(cs sup:RM):Prop where
 ty:∀t∈["NoneType","bool","int","str","tuple","list","dict"],PySem.W.kitOne K (.type t) T=J false
 ex:∀x∈cs,∃C,mg x=J (.ref C)/\vE K C/\(∃cd,PySem.W.clsIn K C=J cd)/\PySem.W.kitOne K (.ref C) T=J (sup.contains x)
section
variable{X:Cx}{N W G:RM}{k:Nat}
def uW(IC:zY X.K X.mg c cs sup)(hv:∀u,aQ v u->u=c):c6 X (.builtin "isinstance") (λxs H Q=>∃P,xs=[P,v]/\uJ X (bf cs sup) P H Q):=by
 intro J4 s Z H xs us Q j r ⟨P,e,U,h,x,E,R,q⟩;subst e
 cases r with
 |cons S t1=>cases t1 with
  |cons r2 t2 =>
   cases t2;obtain rfl:=hv _ r2;have plain:∀t,Ar h x=J t->bf cs sup x h=.ok (.bl T) h->wpAny (model X.prog X.w) X.A (call (.builtin "isinstance") [_,_]) (EP X J4 Z Q) X.xe s:=λt et ef=>by
    rw[ef]at q;obtain⟨ht,M,Hq,Za,O⟩:=pe j E R S et;exact PySem.W.kia_one Za j.kIn O (IC.ty t ht) M λtk=>⟨.bl _,H,j.tok _,rfl,q U H _ (Le.refl _ _) E (.bl _)⟩
   cases x with
   |non=>exact plain _ rfl rfl
   |bl b=>exact plain _ rfl rfl
   |int i=>exact plain _ rfl rfl
   |str i=>exact plain _ rfl rfl
   |tup i=>exact plain _ rfl rfl
   |frl i=>exact plain _ rfl rfl
   |loc n =>
    cases l:h[n]? with
    |none=>simp only[bf,l]at q;exact q.elim
    |some o =>
     cases o with
     |lst xs=>exact plain "list" (by simp[Ar,l]) (by simp[bf,l])
     |dic fz ks xs=>exact plain "dict" (by simp[Ar,l]) (by simp[bf,l])
     |exc ex =>
      simp only[bf,l]at q;by_cases L:cs.contains ex.cls=I
      .rw[c_ L]at q;obtain⟨C,hm,EQ,F,hk⟩:=IC.ex ex.cls (by simpa using L)
       cases R with
       |@loc n a e =>
        cases S;obtain⟨o',y,ro⟩:=E.obj e;rw[l]at y;cases y;obtain⟨_,C',B,hH⟩:=ro;rw[hm]at B;cases B;obtain⟨O,_,_⟩:=(show ObjOk X.prog X.w H s.heap a (.ext (dz a C))from j.hok a _ hH);exact PySem.W.kia_one (tO EQ F) j.kIn O hk (λz=>nomatch z) λtk=>⟨.bl _,H,j.tok _,rfl,q U H _ (Le.refl _ _) E (.bl _)⟩
      .rw[hI L]at q;exact q.elim
def Ce(g:Good X N W G k){a:Expr}{m:Mx PV}{c:Str}{D:Addr}{M y:RM}{i j:Nat}{p q l:Pos}(L:G[i]?=J "isinstance")(hm:X.mg "isinstance"=Y)(O:G[j]?=J c)(hc:X.mg c=J (.ref D))(IC:zY X.K X.mg (.ref D) M y)(ha:ME X a m)(P:starEach [a,.Name c q] X.env=(T,eval a X.env)::starEach [.Name c q] X.env:=by rfl)(B:starEach [.Name c q] X.env=[(T,eval (.Name c q) X.env)]:=by rfl)(E:(backTo l (starEach [.Name c q] X.env)).any (·.1)=T:=by rfl):
  ME X (.Call (.Name "isinstance" p) [a,.Name c q] [] l) (yV (bf M y) m):=by
 have F:=g.dbg _ (tf _ (aD L));have d:=g.dbg c (tf _ (aD O));refine PE.imp (iB (uW IC (v:=.ref D) λu r=>(show u=Value.ref D from r)) (g.gl _ (aD L)) hm PyProof.Rows.Boot.«isinstance» (cC ha (cC (pD (v:=.ref D) (u:=.ref D) (g.gl c (aD O)) hc rfl d.1) gC B) P) F.2.2 F.1 P E) λZ H Q ⟨U,z,h,rs,rh,q⟩=>?_;exact⟨U,z,h,rs,rh,Ful.bind q λR H1 x x' h1 _ l1 C S q1=>⟨x',rfl,R,h1,x,C,S,q1.zero⟩⟩
def Cf(g:Good X N W G k){a:Expr}{m:Mx PV}{c:Str}{l:String}{O z:RM}{i j:Nat}{p q y:Pos}(M:G[i]?=J "isinstance")(hm:X.mg "isinstance"=Y)(P:G[j]?=J c)(hc:X.mg c=Y)(hv:bootBuiltins c=J (.type l))(IC:zY X.K X.mg (.type l) O z)(ha:ME X a m)(R:starEach [a,.Name c q] X.env=(T,eval a X.env)::starEach [.Name c q] X.env:=by rfl)(C:starEach [.Name c q] X.env=[(T,eval (.Name c q) X.env)]:=by rfl)(F:(backTo y (starEach [.Name c q] X.env)).any (·.1)=T:=by rfl):
  ME X (.Call (.Name "isinstance" p) [a,.Name c q] [] y) (yV (bf O z) m):=by
 have L:=g.dbg _ (tf _ (aD M));have d:=g.dbg c (tf _ (aD P));refine PE.imp (iB (uW IC (v:=.ty l) λu r=>(show u=Value.type l from r)) (g.gl _ (aD M)) hm PyProof.Rows.Boot.«isinstance» (cC ha (cC (uP (v:=.ty l) (u:=.type l) (g.gl c (aD P)) hc hv rfl d.2.2 d.1) gC C) R) L.2.2 L.1 R F) λZ H Q ⟨U,B,h,rs,rh,q⟩=>?_;exact⟨U,B,h,rs,rh,Ful.bind q λS H1 x x' h1 _ l1 E rx q1=>⟨x',rfl,S,h1,x,E,rx,q1.zero⟩⟩
end
def mr(hf:∀v d,f v=J d->d.depth<=n/\d.hasDict=T):∀{xs:RL}{a:List PyData},cM f xs=J a->PyData.depthAll a<=n/\PyData.hasDictAll a=T
 |[],a,e=>by cases e;simp[PyData.depthAll,PyData.hasDictAll]
 |x::r,a,e=>by
  simp only[cM]at e
  split at e
  .rename_i d j e1 e2
   cases e;obtain⟨y,l⟩:=hf _ _ e1;obtain⟨u,i⟩:=mr hf e2;simp only[PyData.depthAll,PyData.hasDictAll,l,i];exact⟨⋯,rfl⟩
  .cases e
def sH:∀(n:Nat)(v:PV)(d:PyData),rd n h v=J d->d.depth<=n/\d.hasDict=T
 |0,v,d,e=>by
  cases v<;>simp only[rd]at e<;>cases e<;>simp[PyData.depth,PyData.hasDict]
 |n+1,v,d,e=>by
  have j:∀xs,(∀i,cM (rd n h) xs=J i->PyData.depthAll i<=n/\PyData.hasDictAll i=T):=λxs i=>mr (sH n)
  cases v with
  |non=>cases e;simp[PyData.depth,PyData.hasDict]
  |bl b=>cases e;simp[PyData.depth,PyData.hasDict]
  |int b=>cases e;simp[PyData.depth,PyData.hasDict]
  |str b=>cases e;simp[PyData.depth,PyData.hasDict]
  |tup xs =>
   simp only[rd,Ai]at e;obtain⟨i,e1,rfl⟩:=e;obtain⟨a,b⟩:=j xs i e1;exact⟨by simp only[PyData.depth];lia,by simp only[PyData.hasDict,b]⟩
  |frl xs =>
   simp only[rd,Ai]at e;obtain⟨i,e1,rfl⟩:=e;obtain⟨a,b⟩:=j xs i e1;exact⟨by simp only[PyData.depth];lia,by simp only[PyData.hasDict,b]⟩
  |loc m =>
   simp only[rd]at e
   split at e
   .rename_i xs _
    simp only[Ai]at e;obtain⟨i,e1,rfl⟩:=e;obtain⟨a,b⟩:=j xs i e1;exact⟨by simp only[PyData.depth];lia,by simp only[PyData.hasDict,b]⟩
   .cases e
def dU{K:g_}{D:Addr}(h:PySem.W.kitOne K (.type "NoneType") (.ref D)=J T):∀t∈["NoneType","bool","int","str","tuple","list","dict"],PySem.W.kitOne K (.type t) (.ref D)=J T:=by
 have j:((PySem.W.clsIn K D).isSome&&PySem.W.typeIn K (.ref D)==J (.type "type"))=I:=by
  cases z:((PySem.W.clsIn K D).isSome&&PySem.W.typeIn K (.ref D)==J (.type "type")) with
  |true=>rfl
  |false =>
   have e:PySem.W.kitOne K (.type "NoneType") (.ref D)=PySem.W.kitCls K (.type "NoneType") (.ref D):=rfl;rw[e]at h;unfold PySem.W.kitCls at h
   simp_all
 have a:∀t,PySem.W.kitOne K (.type t) (.ref D)=(if((PySem.W.clsIn K D).isSome&&PySem.W.typeIn K (.ref D)==J (.type "type"))=I then PySem.W.subIn K (.type t) (.ref D)else Y):=λt=>rfl;intro t i;rw[a,c_ j];simp only[n8,DP,or_false]at i;rcases i with rfl|rfl|rfl|rfl|rfl|rfl|rfl<;>rfl
def J6:∀(K:g_),∀t∈["NoneType","bool","int","str","tuple","list","dict"],PySem.W.kitOne K (.type t) (.type "ValueError")=J T:=by intro K t a;simp only[n8,DP,or_false]at a;rcases a with rfl|rfl|rfl|rfl|rfl|rfl|rfl<;>rfl
def vQ{K:g_}{C:Addr}{b:Value}{r:Bool}(h:PySem.W.mroIn K C b=J r):∃a,PySem.W.clsIn K C=J a:=by
 unfold PySem.W.mroIn at h
 cases z:PySem.W.clsIn K C with
 |none=>rw[z]at h;cases h
 |some a=>exact⟨a,rfl⟩
def cR{K:g_}{mg:Aq}{i:Value}{l j:RM}(ty:∀t∈["NoneType","bool","int","str","tuple","list","dict"],PySem.W.kitOne K (.type t) i=J T)(ex:∀x∈l,∃C,mg x=J (.ref C)/\vE K C/\PySem.W.kitOne K (.ref C) i=J (j.contains x)):zY K mg i l j :=
 ⟨ty,λx u=>let⟨C,a,b,c⟩:=ex x u;⟨C,a,b,vQ b.mo,c⟩⟩
def cD{p:Str->Prop}:∀x∈([]:RM),p x:=λ_ h=>nomatch h
def aS{p:Str->Prop}{a:Str}{l:RM}(h:p a)(t:∀x∈l,p x):∀x∈a::l,p x:=λx i=>by
 rcases n8.mp i with rfl|z
 .exact h
 .exact t x z
section
variable{X:Cx}{N W G:RM}{k:Nat}
def xS(g:Good X N W G k){x:Str}{j:Nat}(B:G[j]?=J x)(z:∃C,Cc X x C){e:Expr}{i:RZ}{m:Mx (RL)}{np a l:Pos}(E:MA X (e::i) m)(y:starEach (e::i) X.env=(T,eval e X.env)::starEach i X.env:=by rfl)(u:(backTo a (starEach i X.env)).any (·.1)=T:=by rfl):
  MS X (.Raise (J (.Call (.Name x np) (e::i) [] a)) Y l) (lg x m):=let⟨_,h⟩:=z;yT g B h E y u
def Cg(g:Good X N W G k){a:Expr}{m:Mx PV}{c:Str}{B u:RM}{i j:Nat}{p q l:Pos}(F:G[i]?=J "isinstance")(hm:X.mg "isinstance"=Y)(H:G[j]?=J c)(E:∃D,X.mg c=J (.ref D)/\zY X.K X.mg (.ref D) B u)(M:ME X a m)(L:starEach [a,.Name c q] X.env=(T,eval a X.env)::starEach [.Name c q] X.env:=by rfl)(y:starEach [.Name c q] X.env=[(T,eval (.Name c q) X.env)]:=by rfl)(z:(backTo l (starEach [.Name c q] X.env)).any (·.1)=T:=by rfl):
  ME X (.Call (.Name "isinstance" p) [a,.Name c q] [] l) (yV (bf B u) m):=let⟨_,h,C⟩:=E;Ce g F hm H h C M L y z
def Cal.at(e1:a.prog=X.prog)(e2:a.w=X.w)(e3:a.K=X.K)(e4:a.mg=X.mg)(e5:a.base=X.base)(c:Cal X x ps F i):Cal a x ps F i:=c.to e1 e2 e3 e4 e5
end
def Gh(j:X.env.scope=sc)(G:scope.kind=.function)(C:∀y∈scope.names,y.2=.cell->scope.names.lookup y.1=J .cell)(u:∀y∈scope.names,y.2=.local->scope.names.lookup y.1=J .local)(z:∀x∈a,scope.names.lookup x=J .local\/scope.names.lookup x=J .cell)(H:∀x∈frees,scope.names.lookup x=J .free)(B:∀y∈scope.names,y.2=.free->y.1∈frees)(E:fm.map (λi=>N[i]?)=frees.map J)(l:∀x∈frees,sc.names.lookup x=J .cell):zR X N scope a frees fm :=
 ⟨G,C,u,z,H,B,E,λx F=>by rw[<-j]at l;exact l x F⟩
section
variable{Z:lR}{h:MH}
@[simp]theorem wO:lg x m Z h=(m Z h).go Z λvs Z h=>if vs.length<=sizeLine then .rse ⟨x,[]⟩ Z h else .bad:=rfl
@[simp]theorem fR{nv:Nat}{fm:RQ}{mi:Mx MIt}{gt:Mg}{mt:Mx Bool}{me:Mx PV}:bv nv fm mi gt mt me Z h =
 (mi Z h).bind λit h1=>(v7 it h1.length gt mt me it.xs (A9 nv fm Z) (h1++[.lst []])).bind λ_ h3=>.ok (.loc h1.length) h3:=rfl
def jz{a:MIt}{n:Nat}{gt:Mg}{mt:Mx Bool}{i:Mx PV}(e:a.ok h):v7 a n gt mt i [] Z h=.ok () h:=by rw[v7,c_ e]
def jx{i:MIt}{n:Nat}{gt:Mg}{mt:Mx Bool}{a:Mx PV}{x v:PV}{r ys:RL}{Z1:lR}{h1 h2 h3:MH}(e:i.ok h)(y:gt x Z h=.nx Z1 h1)(u:mt Z1 h1=.ok I h2)(l:a Z1 h2=.ok v h3)(j:h3[n]?=J (.lst ys))(hl:ys.length<1000):
  v7 i n gt mt a (x::r) Z h=v7 i n gt mt a r Z1 (h3.set n (.lst (ys++[v]))):=by
 rw[v7,c_ e,y];simp only[u,Out.ne_ok,Out.bind_ok,if_true,l,j];rw[c_ (r_ hl (by decide))]
def Gi{i:MIt}{n:Nat}{gt:Mg}{mt:Mx Bool}{u:Mx PV}{x:PV}{r:RL}{a:lR}{l j:MH}(e:i.ok h)(z:gt x Z h=.nx a l)(y:mt a l=.ok T j):
  v7 i n gt mt u (x::r) Z h=v7 i n gt mt u r a j:=by
 rw[v7]
 simp_all
def xO(e:h[n]?=J (.exc x))(a:cs.contains x.cls=I):bf cs sup (.loc n) h=.ok (.bl (sup.contains x.cls)) h:=by simp only[bf,e];rw[c_ a]
def j7{o:MO}{g:MH}:(h++o::g)[h.length]?=J o:=by simp
def u9{g:MH}{n:Nat}{o:MO}(e:h[n]?=J o):(h++g)[n]?=J o:=by rw[qp (pj.mp e).1];exact e
end
def Ef(f:Nat->RL->MH->RB)(m:Mx PV)(j:Mx (RL)):Mx PV:=λZ h=>(m Z h).bind λo a=>match o with
 |.loc n=>(match a[n]? with
  |some (.lst _)=>(j Z a).bind λi l=>(f n i l).ne
  |_=>.bad)
 |_=>.bad
def fJ(n:Nat)(a:RL)(h:MH):RB:=match a,h[n]? with
 |[v],J (.lst xs)=>if xs.length<sizeLine then .ok .non (h.set n (.lst (xs++[v])))else .bad
 |_,_=>.bad
section
variable{X:Cx}{N W G:RM}{k:Nat}
def J7(X:Cx)(f:Nat->RL->MH->RB):V->List V->Hp->VK->Prop:=λx j H Q=>∃U h n a i,x=.ref a/\U[n]?=J a/\RH X.K X.mg U H h/\RPs X.K U H i j/\ij X (RV' X) U H (f n i h) Q
def qt:DY X "list.append" (J7 X fJ):=by
 intro M s Z H x vs v P Q i C E ⟨U,h,n,a,S,e,l,u,rp,q⟩;subst e;obtain⟨o,R,L⟩:=u.obj l;unfold fJ at q
 cases rp with
 |nil=>exact q.elim
 |cons F B =>
  cases B with
  |cons _ _=>exact q.elim
  |nil =>
   rw[R]at q
   cases o with
   |lst xs =>
    dsimp only at q;by_cases hl:xs.length<sizeLine
    .rw[c_ hl]at q;obtain⟨ys,O,y⟩:=L;obtain⟨j,z⟩:=u.put l (o:=.lst (xs++[_])) ⟨_,rfl,y.append (.cons F .nil)⟩;exact qg M s Z H _ _ v P Q i C E ⟨a,ys,_,rfl,rfl,O,by rw[<-y.length];exact hl,q U _ .non z j .non⟩
    .rw[hI hl]at q;exact q.elim
   |_=>exact q.elim
variable{o e:Expr}{es:RZ}{name:Str}{apos cpos:Pos}{id:String}{f:Nat->RL->MH->RB}{m:Mx PV}{ma:Mx (RL)}
def J8{F:TA}(B:∀Z H Q,tM X (RVs' X) ma Z H Q->F Z H Q){Z:L2.St}{H:Hp}{Q:VK}(tm:tM X (RV' X) (Ef f m ma) Z H Q):tM X (RV' X) m Z H (λx u=>Oa X.K "list" x u/\F Z u λxs L=>J7 X f x xs L Q):=by
 obtain⟨U,i,h,E,P,q⟩:=tm;refine⟨U,i,h,E,P,?_⟩;refine Ful.bind q λM u x x' h1 _ l1 j O l=>?_
 cases O with
 |@loc n a C =>
  obtain⟨ob,eo,R⟩:=j.obj C;dsimp only at l;rw[eo]at l
  cases ob with
  |lst xs =>
   obtain⟨ys,S,ry⟩:=R;refine⟨.inl ⟨rfl,ys,SqL.of S⟩,B Z u _ ⟨M,i,h1,E.le l1,j,?_⟩⟩;exact Ful.bind l λU2 L vs ab h2 _ l2 z y q2=>⟨U2,h2,n,a,vs,rfl,l2.get C,z,y,q2.zero⟩
  |_=>exact l.elim
 |_=>exact l.elim
def Eg(slot:Slot "list" name id)(u:typeOf (.builtin id)=pure (.type "method_descriptor"))(hm:DY X id (J7 X f))(y:ME X o m)(C:MA X (e::es) ma)(j:attributeBase o name X.env (eval o X.env)=eval o X.env:=by rfl)(l:((backTo cpos (starEach (e::es) X.env)).all (λx=>!x.1)&&(backToKw cpos (keywordEach [] X.env)).all (λx=>x.1.isSome)
   && decide ((e::es).length+([]:List Keyword).length+(if([]:List Keyword).isEmpty then 0 else 1)<30))=I:=by rfl)(i:(apos.endLine==cpos.line)=I:=by rfl)(B:starEach (e::es) X.env=(T,eval e X.env)::starEach es X.env:=by rfl)(a:(backTo cpos (starEach es X.env)).any (·.1)=T:=by rfl):
  ME X (.Call (.Attribute o name apos) (e::es) [] cpos) (Ef f m ma) :=
 PE.imp (DZ PySem.F.plainAttrs_list slot u hm y C j l i B a) λZ H Q q=>J8 (λ_ _ _ z=>z) q
@[simp]theorem wG:Ef f m ma Z h=(m Z h).bind λo h1=>match o with
 |.loc n=>(match h1[n]? with
  |some (.lst _)=>(ma Z h1).bind λvs h2=>(f n vs h2).ne
  |_=>.bad)
 |_=>.bad:=rfl
end
structure Sh(L:Nat)(d:PyData):Prop where
 able:d.showable=I
 ok:PyData.strOk d.shown=I
 len:d.shown.length<=L
def cu(h:MH):PV->Option (RL)
 |.tup xs=>J xs
 |.frl xs=>J xs
 |.loc n=>(match h[n]? with
  |some (.lst xs)=>J xs
  |_=>Y)
 |_=>Y
section
variable{X:Cx}{N W G:RM}{k:Nat}
def lq(u:RH X.K X.mg U H h)(l:RP X.K U H x x')(e:cu h x=J xs):∃a ys,x'=.ref a/\(SqL X.K H a ys\/SqT X.K H a ys)/\RPs X.K U H xs ys:=by
 cases l with
 |tup s r=>cases e;exact⟨_,_,rfl,.inr s,r⟩
 |frl s r=>cases e;exact⟨_,_,rfl,.inl s.sq,r⟩
 |@loc n a i =>
  obtain⟨o,B,y⟩:=u.obj i;simp only[cu,B]at e
  cases o with
  |lst ys =>
   cases e;obtain⟨zs,j,z⟩:=y;exact⟨a,zs,rfl,.inl (SqL.of j),z⟩
  |_=>cases e
 |_=>cases e
def kN(f g:PV->PV->MH->RB)(a b c:Mx PV):Mx PV:=λZ h=>(a Z h).bind λx u=>(b Z u).bind λy l=>(f x y l).ne.bind λz i=>match z with
 |.bl t=>if t=I then(c Z i).bind λw j=>(g y w j).ne else .ok (.bl T) i
 |_=>.bad
variable{a b c:Expr}{ma mb mc:Mx PV}{f g':PV->PV->MH->RB}{op op':CmpOp}{pos:Pos}
def yC{Z:L2.St}{H:Hp}{Q:VK}(q:tM X (RV' X) (kN f g' ma mb mc) Z H Q):xE (rJ X f) (rJ X g') (tM X (RV' X) ma) (tM X (RV' X) mb) (tM X (RV' X) mc) Z H Q:=by
 obtain⟨U,i,h,C,rh,q⟩:=q;refine⟨U,i,h,C,rh,Ful.bind q λU1 H1 x x' h1 _ l1 F rx q1=>?_⟩;refine⟨U1,i,h1,C.le l1,F,Ful.bind q1 λR H2 y y' h2 _ l2 L S q2=>?_⟩;refine⟨R,h2,x,y,L,rx.le l2,S,?_⟩;have u:Ful X (RV' X) i R H2 (f x y h2).ne (λz l=>∃k,z=.bl k/\(if k=I then tM X (RV' X) mc Z l λw' P=>rJ X g' y' w' P Q else Q (.bl T) l)):=Ful.bind q2 λM l z z' h3 _ O j rz E=>by
  cases rz with
  |bl t =>
   refine⟨t,rfl,?_⟩
   cases t with
   |true =>
    exact⟨M,i,h3,C.le (l1.trans (l2.trans O)),j,Ful.bind E λU4 P w w' h4 _ l4 B rw' q4=>⟨U4,h4,y,w,B,(S.le O).le l4,rw',q4.zero⟩⟩
   |false =>
    exact E M l _ (Le.refl _ _) j (.bl _)
  |_=>exact E.elim
 exact u.zero
def zn(j:zE X (compareOp op) f)(i:zE X (compareOp op') g')(u:ME X a ma)(y:ME X b mb)(l:ME X c mc)(hm:lastMarks [op,op'] [b,c]=T:=by with_unfolding_all rfl):ME X (.Compare a [op,op'] [b,c] pos) (kN f g' ma mb mc) :=
 PE.imp (zu j i u y l hm) λ_ _ _ q=>yC q
@[simp]theorem Iv:kN f g' ma mb mc Z h=(ma Z h).bind λx h1=>(mb Z h1).bind λy h2=>(f x y h2).ne.bind λz h3=>match z with
 |.bl t=>if t=I then(mc Z h3).bind λw h4=>(g' y w h4).ne else .ok (.bl T) h3
 |_=>.bad:=rfl
def Ch(i:Bool)(x y:PV)(h:MH):RB:=match cu h y with
 |some ys=>(match rd 60 h x,cM (rd 60 h) ys with
  |some d,J j=>if d.canLay0=I/\PyData.canLayAll0 j=I then .ok (.bl (if i then !j.any (λe=>PyData.eqv e d)else j.any (λe=>PyData.eqv e d))) h else .bad
  |_,_=>.bad)
 |none=>.bad
def nT:∀{i:List PyData},PyData.canLayAll0 i=I->∀d∈i,d.canLay0=I
 |e::i,h,d,hd=>by
  simp only[PyData.canLayAll0,AC]at h;rcases n8.mp hd with rfl|hd
  .exact h.1
  .exact nT h.2 d hd
def qy(hf:∀u d i,Reads hp u d i->fq u=PyData.eqv d dx):∀{j:RU}{l:List PyData}{i:RT},ReadsAll hp j l i->j.any fq=l.any λe=>PyData.eqv e dx
 |_,_,_,.nil=>rfl
 |_,_,_,.cons r t=>by rw[NG,NG,hf _ _ _ r,qy hf t]
def qq:∀{j:RU}{l:List PyData}{y:RT},ReadsAll hp j l y->∀u∈j,∃d i,d∈l/\Reads hp u d i
 |_,_,_,.nil,u,h=>nomatch h
 |_,_,_,.cons r t,u,h=>by
  rcases n8.mp h with rfl|h
  .exact⟨_,_,A6,r⟩
  .obtain⟨d,i,hd,hr⟩:=qq t u h;exact⟨d,i,n4 _ hd,hr⟩
def fq(i:Heap)(l:PyData)(u:Value):Bool:=if z:∃d j,Reads i u d j then PyData.eqv z.choose l else T
def Eh(r:Reads hp u d i):fq hp dx u=PyData.eqv d dx:=by have z:∃d i,Reads hp u d i:=⟨d,i,r⟩;unfold fq;rw[dif_pos z];obtain⟨l,j⟩:=z.choose_spec;rw[<-(Reads.unique r _ _ j).1]
def J9(hr:Room k X.A)(E:Bool):zE X (compareOp (if E then .NotIn else .In)) (Ch E):=by
 intro J4 s Z H x' y' u v Q j ak ab ⟨U,h,x,y,F,rx,ry,q⟩;unfold Ch at q
 cases es:cu h y with
 |none=>rw[es]at q;exact q.elim
 |some ys =>
  rw[es]at q;dsimp only at q;obtain⟨a,zs,rfl,P,ai⟩:=lq F ry es
  cases ex:rd 60 h x with
  |none=>rw[ex]at q;exact q.elim
  |some l =>
   rw[ex]at q
   cases S:cM (rd 60 h) ys with
   |none=>rw[S]at q;exact q.elim
   |some ds =>
    rw[S]at q;dsimp only at q;by_cases hl:l.canLay0=I/\PyData.canLayAll0 ds=I
    .rw[c_ hl]at q;cases ab;obtain⟨_,rX⟩:=fS j F 60 x x' u l rx ak ex;have al:=(sH 60 x l ex).1;have z:∀(i:RU),aL zs i->(∀w∈i,SeqAt.EqAt X.A.in1 s w u (fq s.heap l w))/\i.any (fq s.heap l)=ds.any λe=>PyData.eqv e l:=λi B=>by
      obtain⟨as,RA⟩:=gb (λv v' u d r1 r2 e=>fS j F 60 v v' u d r1 r2 e) ai B S;refine⟨λw hw=>?_,qy (λu d as r=>Eh r) RA⟩;obtain⟨d,an,hd,R⟩:=qq RA w hw;rw[Eh R];refine SeqAt.eqAt_reads d l X.A.in1 s w u _ _ R rX (nT hl.2 d hd) hl.1 ?_
      have:=hr.un
      lia
     cases E with
     |false =>
      rcases P with C|C
      .obtain⟨i,B,L,hz⟩:=j.list C;obtain⟨O,M⟩:=z i B;refine SeqAt.in_listAt (fq s.heap l) L.isList (λw hw=>O w (by simpa using hw)) ⟨.bl _,H,j,rfl,?_⟩;rw[show i.toArray.any (fq s.heap l)=i.any (fq s.heap l) by simp,M];exact q U H _ (Le.refl _ _) F (.bl _)
      .obtain⟨i,B,L,hz⟩:=j.tuple C;obtain⟨O,M⟩:=z i B;refine SeqAt.in_tupleAt (fq s.heap l) L (λw hw=>O w (by simpa using hw)) ⟨.bl _,H,j,rfl,?_⟩;rw[show i.toArray.any (fq s.heap l)=i.any (fq s.heap l) by simp,M];exact q U H _ (Le.refl _ _) F (.bl _)
     |true =>
      rcases P with C|C
      .obtain⟨i,B,L,hz⟩:=j.list C;obtain⟨O,M⟩:=z i B;refine SeqAt.notIn_listAt (fq s.heap l) L.isList (λw hw=>O w (by simpa using hw)) ⟨.bl _,H,j,rfl,?_⟩;rw[show i.toArray.any (fq s.heap l)=i.any (fq s.heap l) by simp,M];exact q U H _ (Le.refl _ _) F (.bl _)
      .obtain⟨i,B,L,hz⟩:=j.tuple C;obtain⟨O,M⟩:=z i B;refine SeqAt.notIn_tupleAt (fq s.heap l) L (λw hw=>O w (by simpa using hw)) ⟨.bl _,H,j,rfl,?_⟩;rw[show i.toArray.any (fq s.heap l)=i.any (fq s.heap l) by simp,M];exact q U H _ (Le.refl _ _) F (.bl _)
    .rw[hI hl]at q;exact q.elim
def AT(xs:RL)(h:MH):RB:=match xs with
 |[x]=>(match cu h x with
  |some ys=>q7 ys h
  |none=>.bad)
 |_=>.bad
def v9(xs:RL)(h:MH):RB:=match xs with
 |[x]=>(match cu h x with
  |some ys=>.ok (.tup ys) h
  |none=>.bad)
 |_=>.bad
def Ci:cZ X (.type "list") AT:=by
 intro F s Z H xs L Q j r ⟨U,h,M,z,rp,q⟩
 cases rp with
 |nil=>exact q.elim
 |cons E C =>
  cases C with
  |cons _ _=>exact q.elim
  |nil =>
   rename_i x y
   unfold AT at q
   cases u:cu h x with
   |none=>simp only[u]at q;exact q.elim
   |some ys =>
    simp only[u]at q;obtain⟨a,zs,rfl,i,l⟩:=lq z E u;obtain⟨_,B⟩:=lO z l q;exact sI F s Z H _ L Q j r ⟨a,zs,rfl,i,B⟩
def mF:cZ X (.type "tuple") v9:=by
 intro F s Z H xs L Q i r ⟨U,h,R,B,rp,q⟩
 cases rp with
 |nil=>exact q.elim
 |cons O M =>
  cases M with
  |cons _ _=>exact q.elim
  |nil =>
   rename_i x y
   unfold v9 at q
   cases C:cu h x with
   |none=>simp only[C]at q;exact q.elim
   |some ys =>
    simp only[C]at q;obtain⟨a,zs,rfl,z,j⟩:=lq B O C;rcases z with u|u
    .refine kG F s Z H _ L Q i r ⟨a,zs,rfl,.inl ⟨u,λl hl=>?_⟩⟩;obtain⟨P,E⟩:=B.tup hl zs;exact q U _ _ E P (.tup (SqT.of aN) (j.le E))
    .exact kG F s Z H _ L Q i r ⟨a,zs,rfl,.inr ⟨u,q U H _ (Le.refl _ _) B (.tup u j)⟩⟩
def fM(xs:RL)(lo i:RX):RL:=(xs.drop (HT.mu xs.length 0 lo)).take (HT.mu xs.length xs.length i-HT.mu xs.length 0 lo)
def Gj(x:PV)(lo i:RX)(h:MH):RB:=match x with
 |.tup xs=>if HT.mu xs.length 0 lo=0/\HT.mu xs.length xs.length i=xs.length then .bad else .ok (.tup (fM xs lo i)) h
 |.frl xs=>.ok (.loc h.length) (h++[.lst (fM xs lo i)])
 |.loc n=>(match h[n]? with
  |some (.lst xs)=>.ok (.loc h.length) (h++[.lst (fM xs lo i)])
  |_=>.bad)
 |_=>.bad
def Q2(X:Cx)(f:PV->RX->RX->MH->RB):V->RX->RX->Hp->VK->Prop:=λi lo j H Q=>∃U h x,RH X.K X.mg U H h/\RP X.K U H x i/\ij X (RV' X) U H (f x lo j h) Q
def pA{K:g_}{U:RT}{H:Hp}{xs:RL}{ys:List V}(r:RPs K U H xs ys)(lo i:RX):RPs K U H (fM xs lo i) (m4 ys lo i):=by unfold fM m4;rw[r.length];exact(r.drop _).take _
def J_:Mp X (Q2 X Gj):=by
 intro O s Z H x' v vl F lo i sl Q j M R S P ⟨U,h,x,u,L,q⟩
 cases L with
 |tup E C =>
  unfold Gj at q;dsimp only at q
  rename_i xs a ys
  by_cases z:HT.mu xs.length 0 lo=0/\HT.mu xs.length xs.length i=xs.length
  .rw[c_ z]at q;exact q.elim
  .rw[hI z]at q;refine Fy O s Z H _ v vl F lo i sl Q j M R S P ⟨a,ys,rfl,E,by rw[<-C.length];exact z,λp y=>?_⟩;obtain⟨B,l⟩:=u.tup y (m4 ys lo i);exact q U _ _ l B (.tup (SqT.of aN) ((pA C lo i).le l))
 |frl E C =>
  rename_i xs a ys
  refine ur O s Z H _ v vl F lo i sl Q j M R S P ⟨a,ys,rfl,E.sq,λp y=>?_⟩;obtain⟨B,l⟩:=u.new y (o:=.lst (fM xs lo i)) ⟨_,rfl,pA C lo i⟩;exact q _ _ _ l B (.loc (by rw[<-u.len];simp))
 |@loc n a en =>
  obtain⟨o,eo,ro⟩:=u.obj en;unfold Gj at q;dsimp only at q;rw[eo]at q
  cases o with
  |lst xs =>
   obtain⟨ys,ey,ry⟩:=ro;refine ur O s Z H _ v vl F lo i sl Q j M R S P ⟨a,ys,rfl,SqL.of ey,λp y=>?_⟩;obtain⟨B,l⟩:=u.new y (o:=.lst (fM xs lo i)) ⟨_,rfl,pA ry lo i⟩;exact q _ _ _ l B (.loc (by rw[<-u.len];simp))
  |_=>exact q.elim
 |_=>exact q.elim
def MO'(X:Cx)(e:Option Expr)(m:Mx (RX)):Prop:=PO X e (tM X JI m)
def Ka:Mx (RX):=λ_ h=>.ok Y h
def Kb(m:Mx PV):Mx (RX):=λZ h=>(m Z h).bind λv j=>match v with
 |.int i=>.ok (J i) j
 |_=>.bad
def jG:MO' X Y Ka:=λu s Z H Q i ⟨U,j,h,y,l,q⟩=>BW u s Z H Q i (q U H Y (Le.refl _ _) l rfl)
def je(h:ME X e m):MO' X (J e) (Kb m):=λL s Z H Q l ⟨U,j,B,F,E,q⟩=>BX h L s Z H Q l ⟨U,j,B,F,E,Ful.bind q λz M v O R _ P u C y=>by
 cases C with
 |int i=>exact⟨i,rfl,y z M (J i) (Le.refl _ _) u rfl⟩
 |_=>exact y.elim⟩
def Kc(m:Mx PV)(y i:Mx (RX)):Mx PV:=λZ h=>(m Z h).bind λx u=>(y Z u).bind λlo l=>(i Z l).bind λz j=>(Gj x lo z j).ne
def nh{e:Expr}{lo l:Option Expr}{m:Mx PV}{C B:Mx (RX)}{p2:Pos}(he:ME X e m)(hl:MO' X lo C)(hu:MO' X l B):ME X (.Subscript e (.Slice lo l Y p2) pos) (Kc m C B) :=
 PE.imp (y7 J_ he hl hu) λZ H Q ⟨U,i,h,j,rh,q⟩=>⟨U,i,h,j,rh,Ful.bind q λL H1 x x' h1 _ F y rx q1=>⟨L,i,h1,j.le F,y,Ful.bind q1 λU2 H2 lo ab h2 _ E z M q2=>by
  subst M
  exact⟨U2,i,h2,j.le (F.trans E),z,Ful.bind q2 λP H3 l ai R _ S u O q3=>by
   subst O
   exact⟨P,R,x,u,(rx.le E).le S,q3.zero⟩⟩⟩⟩
end
section
variable{X:Cx}{N W G:RM}{k:Nat}
def yW{A:Around}{E:RC}{L:RV}{Z:L2.St}{H:Hp}{s:Shared}{a:Addr}{ys:List V}{Q:RC}(F:A.handled=Y)(y:Inv X L Z H s)(u:SqL X.K H a ys\/SqT X.K H a ys)(h:∀(j:RU)(B:Heap)(It:Addr)(St:Nat->Heap->Prop),aL ys j->Walks X.prog X.w A It [It,a] [It] j.toArray.size (λi v=>j.toArray[i]?=J v) St->St 0 B->(∀b∈[It,a],b<B.objs.size)->(∀b o,s.heap.get? b=J o->B.get? b=J o)->s.heap.objs.size=It->Q (.ref It) { s with heap:=B}):
  wpAny (model X.prog X.w) A (pyIter (.ref a)) Q E s:=by
 have sz:∀(o:Obj),a<s.heap.objs.size->∀b∈[s.heap.objs.size,a],b<(s.heap.push o).objs.size:=λo l b z=>by
  rw[Ik];rcases n8.mp z with rfl|z
  .exact Mc _
  .rcases n8.mp z with rfl|z
   .exact Nx l
   .cases z
 rcases u with u|u
 .obtain⟨j,C,M,_⟩:=y.list u;have hl:=M.isList;have l:a<s.heap.objs.size:=by obtain⟨_,e,_⟩:=hl;exact pa e
  exact wpAny_pyIter_list hl (h j _ _ _ C (Walks.list F _ a (wm l) j.toArray) ⟨⟨_,AB _ rfl,rfl,rfl⟩,hl.push _⟩ (sz _ l) (λb o e=>qr _ e) rfl)
 .obtain⟨j,C,hl,_⟩:=y.tuple u;have l:a<s.heap.objs.size:=by obtain⟨_,e,_⟩:=hl;exact pa e
  exact wpAny_pyIter_tuple hl (h j _ _ _ C (Walks.tuple F _ a (wm l) j.toArray) ⟨⟨_,AB _ rfl,rfl,rfl⟩,hl.push _⟩ (sz _ l) (λb o e=>qr _ e) rfl)
def Ke{s:Shared}{i a:Heap}{It:Addr}(l:∀b o,s.heap.get? b=J o->i.get? b=J o)(e:s.heap.objs.size=It)(j:∀b o,b∉[It]->i.get? b=J o->a.get? b=J o):∀b o,s.heap.get? b=J o->a.get? b=J o:=λb o q=>by
 refine j b o (λhm=>?_) (l b o q)
 have:b=It:=by simpa using hm
 exact absurd (pa q) (by rw[this,e];exact AH _)
def i7:RL->Option (List Bool)
 |[]=>J []
 |.bl b::r=>(i7 r).map (b::·)
 |_=>Y
def Cj{K:g_}{U:RT}{H:Hp}:∀{xs:RL}{ys:List V}{bs:List Bool}{a:RU},RPs K U H xs ys->aL ys a->i7 xs=J bs->a=bs.map Value.bool:=by
 intro xs
 induction xs with
 |nil=>intro ys bs a r v e;cases r;cases v;cases e;rfl
 |cons x xs u =>
  intro ys bs a r v e
  cases r with
  |cons l B =>
   cases v with
   |cons i j =>
    cases l with
    |bl b =>
     simp only[i7,Ai]at e;obtain⟨z,y,rfl⟩:=e;rw[u B j y,show _=Value.bool b from i];rfl
    |_=>cases e
def tS(bs:List Bool):TruthOf X.prog X.w A (λi v=>(bs.map Value.bool).toArray[i]?=J v) (λi=>bs.getD i T):=λi v s Q E a j=>by
 have:v=.bool (bs.getD i T):=by
  have a:(List.map Value.bool bs).toArray[i]?=J v:=a;rw[List.getElem?_toArray,tx,Ai]at a;obtain⟨b,e,rfl⟩:=a
  simp_all
 subst this;exact wpAny_truthy_bool j
def yg(bs:List Bool):(List.range bs.length).all (λi=>bs.getD i T)=bs.all id:=by
 induction bs with
 |nil=>rfl
 |cons b r a =>
  rw[Ax,Qf,List.all_cons,NJ,List.all_cons,<-a];rfl
def Ap(xs:RL)(h:MH):RB:=match xs with
 |[x]=>(match (cu h x).bind i7 with
  |some bs=>.ok (.bl (bs.all id)) h
  |none=>.bad)
 |_=>.bad
def xA(g:Good X N W G k):cZ X (.builtin "all") Ap:=by
 intro J4 s Z H xs us Q i r ⟨U,h,ps,E,rp,q⟩
 cases rp with
 |nil=>exact q.elim
 |cons O M =>
  cases M with
  |cons _ _=>exact q.elim
  |nil =>
   rename_i x y
   unfold Ap at q
   cases B:(cu h x).bind i7 with
   |none=>simp only[B]at q;exact q.elim
   |some bs =>
    simp only[B]at q;obtain⟨ys,e1,e2⟩:=L4.mp B;obtain⟨a,zs,rfl,l,z⟩:=lq E O e1
    cases r with
    |cons S L =>
     cases L;cases S;refine call_all_walk (yW g.room.hd i l λu h2 It St P Wk st fp kp j=>?_);have C:=Cj z P e2;refine⟨It,_,_,_,_,St,_,rfl,Wk,st,by rw[C];exact tS bs,λh' tk R=>?_⟩;have F:u.toArray.size=bs.length:=by rw[C];simp
     rw[F,yg];exact⟨.bl _,H,i.kept (Ke kp j R),rfl,q U H _ (Le.refl _ _) E (.bl _)⟩
end
def RH.loose{K:g_}{mg:Aq}{U:RT}{H:Hp}{h:MH}(r:RH K mg U H h){p:Addr}(j:H p=Y)(i:HO):RH K mg U (upd H p i) h/\Le U H U (upd H p i):=by
 have y:∀n a,U[n]?=J a->a≠p:=λn a e z=>by
  obtain⟨B,_,q⟩:=r.obj e;rw[z,j]at q;exact q.some rfl
 have l:Le U H U (upd H p i):=⟨⟨[],by simp⟩,λa xs e=>by rw[aB (br e j)];exact e,λa C u e=>by rw[aB (br e j)];exact e⟩;exact⟨⟨r.len,r.nd,λn a o e1 e2=>by rw[aB (y n a e1)];exact(r.at' n a o e1 e2).le l⟩,l⟩
section
variable{X:Cx}{N W G:RM}{k:Nat}
def k6(xs:RL)(i:Int)(v:PV):RL :=
 let k:=if i<0 then(i+(xs.length:Int)).toNat else min i.toNat xs.length
 xs.take k++v::xs.drop k
def lV(n:Nat)(a:RL)(h:MH):RB:=match a with
 |[.int i,v]=>(match h[n]? with
  |some (.lst xs)=>if(-(2^63)<=i/\i<2^63)/\xs.length<sizeLine then .ok .non (h.set n (.lst (k6 xs i v)))else .bad
  |_=>.bad)
 |_=>.bad
def xq:DY X "list.insert" (J7 X lV):=by
 intro J4 s Z H x vs v us Q B rx rv ⟨U,h,n,a,ps,e,en,rh,rp,q⟩;subst e;obtain⟨o,eo,ro⟩:=rh.obj en;unfold lV at q
 split at q
 .rename_i i S
  cases rp with
  |cons r1 t1 =>
   cases t1 with
   |cons r2 t2 =>
    cases t2;cases r1;rw[eo]at q
    cases o with
    |lst xs =>
     dsimp only at q;by_cases hl:(-(2^63)<=i/\i<2^63)/\xs.length<sizeLine
     .rw[c_ hl]at q;obtain⟨ys,ey,F⟩:=ro;cases rx
      cases rv with
      |cons P M=>cases M with
       |cons E R =>
        cases R
        rename_i v' u1 u2
        obtain⟨t,rfl⟩:=P;obtain⟨z,l,nn,r,C,e⟩:=B.lstM ey
        let j:=if i<0 then(i+(l.length:Int)).toNat else min i.toNat l.length
        have u:RPs X.K U H (k6 xs i S) (ys.take j++v'::ys.drop j):=by
         have:(if i<0 then(i+(xs.length:Int)).toNat else min i.toNat xs.length)=j:=by rw[F.length,C]
         unfold k6;rw[this];exact(F.take j).append (.cons r2 (F.drop j))
        obtain⟨L,l'⟩:=rh.put en (o:=.lst (k6 xs i S)) ⟨_,rfl,u⟩;refine call_meets PySem.F.slot_list_insert ⟨_,e,rfl⟩ PySem.F.entry_list_insert (PySem.F.args_list_insert_3 _ _ _) (AutoListH.list_insert_list_int_val_1 a l.toArray nn i t u2 (by rw[fitsIndex_both hl.1.1 hl.1.2];simp) (by rw[zD];ext)) ⟨e,?_⟩;have y:=(r.take j).append (.cons E (r.drop j));have O:(ys.take j++v'::ys.drop j).length<=sizeLine:=by
         rw[<-u.length];have e1:(k6 xs i S).length=xs.length+1:=by unfold k6;simp only[EY,Ax,IU,Mb];ext
         ext
        refine⟨.non,_,B.lset (its':=l.take j++u2::l.drop j) ey e ?_ y O,rfl,q U _ .non l' L .non⟩;simp[j,List.extract];refine Nk ?_;rw[Mb];exact mm _
     .rw[hI hl]at q;exact q.elim
    |_=>exact q.elim
 .exact q.elim
def Kg(i:TA):TE:=λZ H Q=>i Z H λl a=>∃j:Int,l=[.int j] /\ -(2^62)<=j/\j<2^62/\∀p,a p=Y->Q (.ref p) (upd a p (.rng 0 j))
def wJ(hg:Gl X "range")(hm:X.mg "range"=Y)(F:PA X [a] ta)(C:starEach [a] X.env=[(T,eval a X.env)]:=by rfl):PE X (.Call (.Name "range" p) [a] [] pos) (Kg ta):=by
 intro B s Z H R i h;refine Call_ (jh i hg hm boot_range (PyProof.Rows.callWith_type1 (j_ (F pos B s Z H _ i h) λP y ⟨O,M,l,z,u⟩=>?_) C rfl));obtain⟨j,e,u,L,q⟩:=u;subst e
 cases z with
 |cons r E =>
  cases E;obtain⟨t,rfl⟩:=r;refine call_range_1 ⟨.ref y.heap.objs.size,_,l.laid (λb o e=>qr _ e) (mm _) ?_,rfl,q _ (l.hok.fresh (mm _))⟩;exact⟨_,_,_,AB _ rfl⟩
def nK:∀(n:Nat)(lo:Int)(a:RU),a.length=n->(∀(i:Nat)(v:Value),a[i]?=J v->∃t,v=.int (lo+i) t)->aL ((List.range n).map λi=>V.int (lo+(i:Nat))) a
 |0,lo,a,hl,_=>by cases a with|nil=>exact .nil|cons _ _=>simp at hl
 |n+1,lo,a,hl,h=>by
  cases a with
  |nil=>simp at hl
  |cons u a =>
   rw[Qf,pk,wr];obtain⟨t,e⟩:=h 0 u rfl;refine .cons ⟨t,e⟩ ?_;have j:=nK n (lo+1) a (by simpa using hl) λi v hv=>by
    obtain⟨t,e⟩:=h (i+1) v (by simpa using hv);exact⟨t,by rw[e];congr 1;push_cast;ext⟩
   have e2:((λi=>V.int (lo+((i:Nat):Int)))∘Nat.succ)=λi=>V.int (lo+1+((i:Nat):Int)):=by funext i;simp only[Function.comp];congr 1;push_cast;ext
   rw[e2];exact j
def qI(E:X.calm=I):c6 X (.type "list") (λxs H Q=>∃r j,xs=[.ref r]/\H r=J (.rng 0 j) /\ -(2^62)<=j/\j<2^62/\j.toNat<=sizeLine/\∀l,H l=Y->Q (.ref l) (upd H l (.lst ((List.range j.toNat).map λi=>V.int (0+(i:Nat)))))):=by
 intro J4 s Z H xs us Q a r ⟨O,j,e,hr,S,R,z,q⟩;subst e
 cases r with
 |cons L C =>
  cases C;cases L;obtain⟨t,u,v,F⟩:=(a.hok O _ hr);refine call_list_range (a.ok.hd E) F (small_one (by ext) (by ext) S R) (by rw[rangeSize_one];split<;>ext) z λU tk y M kp e B=>?_;have P:=nK _ 0 _ (by exact B.1) λi v hv=>by
   obtain⟨t,e⟩:=B.2 i v (by rw[<-Array.getElem?_toList];exact hv)
   grind
  refine⟨.ref s.heap.objs.size,_,a.laid (o:=.lst _) kp (mm _) (⟨by simpa using z,y.toList,M,P,by simpa using e⟩),rfl,q _ (a.hok.fresh (mm _))⟩
def Q3(m:Mx (RL)):Mx PV:=λZ h=>(m Z h).bind λi a=>match i with
 |[.int j]=>if -(2^62)<=j/\j<2^62/\j.toNat<=sizeLine then .ok (.loc a.length) (a++[.lst (bE 0 j.toNat)])else .bad
 |_=>.bad
def pQ{K:g_}{U:RT}{H:Hp}{lo:Int}:∀(l:RQ),RPs K U H (l.map λ(i:Nat)=>PV.int (lo+(i:Int))) (l.map λ(i:Nat)=>V.int (lo+(i:Int)))
 |[]=>.nil
 |i::l=>.cons (.int _) (pQ l)
def yq(g:Good X N W G k){a:Expr}{m:Mx (RL)}{i j:Nat}{p L E u:Pos}(S:G[i]?=J "list")(hm:X.mg "list"=Y)(hj:G[j]?=J "range")(M:X.mg "range"=Y)(ha:MA X [a] m)(hs:starEach [a] X.env=[(T,eval a X.env)]:=by rfl)(he:starEach [.Call (.Name "range" L) [a] [] u] X.env=[(T,eval (.Call (.Name "range" L) [a] [] u) X.env)]:=by rfl):ME X (.Call (.Name "list" p) [.Call (.Name "range" L) [a] [] u] [] E) (Q3 m):=by
 have d:=g.dbg _ (tf _ (aD S));refine PE.imp (pZ (qI g.calm) (g.gl _ (aD S)) hm PyProof.Rows.Boot.«list» (cC (wJ (g.gl _ (aD hj)) M ha hs) gC he) d.2.2 d.1 he rfl) λZ H Q ⟨U,F,h,rs,rh,q⟩=>?_;refine⟨U,F,h,rs,rh,Ful.bind q λU1 H1 x x' h1 _ l1 C rx y=>?_⟩
 cases rx with
 |nil=>exact y.elim
 |cons R t1 =>
  cases t1 with
  |cons _ _=>cases R<;>exact y.elim
  |nil =>
   cases R with
   |int B =>
    dsimp only at y;by_cases z:-(2^62)<=B/\B<2^62/\B.toNat<=sizeLine
    .rw[c_ z]at y;refine⟨B,rfl,z.1,z.2.1,λr hr=>?_⟩;obtain⟨P,l2⟩:=C.loose hr (.rng 0 B);refine⟨r,B,rfl,aN,z.1,z.2.1,z.2.2,λl hl=>?_⟩;obtain⟨O,l3⟩:=P.new hl (o:=.lst (bE 0 B.toNat)) ⟨_,rfl,pQ _⟩;exact y _ _ _ (l2.trans l3) O (.loc (by rw[<-C.len];simp))
    .rw[hI z]at y;exact y.elim
   |_=>exact y.elim
end
end MM
namespace SetT
open PySem.SetTable
def base(M:Nat)(h:Int):Nat->Nat×Nat
 |0=>(bits h % (M+1),bits h)
 |b+1=>leap M (base M h b).1 (base M h b).2
end SetT
namespace SortT
open PyProof.Rows
end SortT
namespace SortT
open PyProof.Rows SetT PySem.W
section
variable{prog:Program}{w:World}{A:Around}{E:RC}{s:Shared}
def nU(j:h.get? a=J (seqObj "list" vs.toArray n))(out:Array Value):∃c,(sortedHeap h a vs out).get? a=J (seqObj "list" out c):=by obtain⟨e1,i⟩:∃e1,(h.update a (Obj.mapSeq λ_=>(#[]:Array Value))).get? a=J (seqObj "list" #[] e1):=⟨_,get?_update_seq j λ_=>#[]⟩;exact⟨_,get?_update_seq (qr _ (qr _ i)) λ_=>out⟩
def mE(i:b≠a)(j:h.get? b=J o)(out:Array Value):(sortedHeap h a vs out).get? b=J o:=by unfold sortedHeap;rw[IQ _ _ _ _ i];exact qr _ (qr _ ((IQ _ _ _ _ i).trans j))
end
end SortT
namespace MM
open PySem.Spec PyProof.Rows L2 SetT SortT
def Ei{K:g_}{U:RT}{H:Hp}:∀{k:RN}{ys:List V},RPs K U H (k.map PV.int) ys->ys=k.map V.int
 |[],ys,h=>by cases h;rfl
 |i::k,ys,h=>by
  cases h with
  |cons r t =>
   cases r;rw[Ei t];rfl
section
variable{X:Cx}{N W G:RM}{k:Nat}
def iL(h:MH):PV->Option (RL)
 |.frl xs=>J xs
 |.loc n=>(match h[n]? with
  |some (.lst xs)=>J xs
  |_=>Y)
 |_=>Y
def Ck{U:RT}{H:Hp}{h:MH}{x:PV}{y:V}{xs:RL}{K:g_}{mg:Aq}(j:RH K mg U H h)(r:RP K U H x y)(e:iL h x=J xs):∃a zs,y=.ref a/\SqL K H a zs/\RPs K U H xs zs:=by
 cases r with
 |frl s r=>cases e;exact⟨_,_,rfl,s.sq,r⟩
 |@loc n a i =>
  obtain⟨o,B,l⟩:=j.obj i;unfold iL at e;dsimp only at e;rw[B]at e
  cases o with
  |lst zs =>
   cases e;obtain⟨ys,u,z⟩:=l;exact⟨a,ys,rfl,SqL.of u,z⟩
  |_=>cases e
 |_=>cases e
end
end MM
namespace SeqT
abbrev Gk(tp:Bool):String:=if tp then "tuple_iterator" else "list_iterator"
abbrev Qt(tp:Bool):String:=if tp then "tuple" else "list"
def SqI(j:Bool)(h:Heap)(l a:Addr)(i:Nat):Prop:=∃o,h.get? l=J o/\o.cls=.type (Gk j)/\o.data=.fields #[.ref a,.int i 0]
def SqO(i:Bool)(h:Heap)(a:Addr)(xs:Array Value):Prop:=∃o,h.get? a=J o/\o.cls=.type (Qt i)/\∃n,o.data=.seq xs n
def SqI.at'(x:SqI tp h it a i)(k:∀o,h.get? it=J o->h'.get? it=J o):SqI tp h' it a i:=let⟨o,e,r⟩:=x;⟨o,k o e,r⟩
def SqO.at'(x:SqO tp h a xs)(k:∀o,h.get? a=J o->h'.get? a=J o):SqO tp h' a xs:=let⟨o,e,r⟩:=x;⟨o,k o e,r⟩
def SqI.lt(x:SqI tp h it a i):it<h.objs.size:=let⟨_,e,_⟩:=x;pa e
section
variable{prog:Program}{w:World}{A:Around}{E:RC}{s:Shared}
def wV(G:SqI tp s.heap it a i)(z:SqO tp s.heap a xs)(B:xs[i]?=J x)(C:∀j,SqI tp j it a (i+1)->Heap.SameBut it s.heap j->Q x { s with heap:=j}):wpAny (model prog w) A (Builtin.SmallTypes.nextOf (.ref it)) Q E s:=by
 cases tp with
 |false=>exact wpAny_nextOf_list_item (G) (z) B C
 |true =>
  obtain⟨o,e,H,hd⟩:=id G;obtain⟨L,l,_,M,u⟩:=z;have y:s.TypeIs (.ref it) "tuple_iterator":=⟨o,e,H⟩;refine i_ (wpAny_callSpecial?_slot y F.slot_tuple_iterator_next (wpAny_call_entry F.slot_tuple_iterator_next y F.entry_tuple_iterator_next ?_ (F.args_tuple_iterator_next_1 _)));show wpAny _ _ (field (.ref it) 0 >>= _) _ _ s;refine i_ (wpAny_field e hd rfl ?_);refine i_ (wpAny_field e hd rfl ?_);refine i_ (wpAny_seqItems l u ?_);simp only[EZ,B];refine i_ (wpAny_setField e hd (by simp) (pz ⟨x,rfl,pz (C _ ?_ (Heap.SameBut.update ..))⟩));exact⟨_,L5 _ e (Obj.isFreed_of_fields (Obj.data_mapFields hd _)),(Obj.cls_mapFields ..).trans H,by rw[Obj.data_mapFields hd];simp[rawInt]⟩
def sT(C:A.handled=Y)(G:SqI tp s.heap it a i)(z:SqO tp s.heap a xs)(B:xs[i]?=Y)(hE:∀j e,Heap.ExtBut it s.heap j->(∃o,j.get? e=J o/\o.cls=.type "StopIteration")->E (.ref e) { s with heap:=j}):wpAny (model prog w) A (Builtin.SmallTypes.nextOf (.ref it)) Q E s:=by
 cases tp with
 |false=>exact wpAny_nextOf_list_end C (G) (z) B hE
 |true =>
  obtain⟨o,e,H,hd⟩:=id G;obtain⟨L,l,_,M,u⟩:=z;have y:s.TypeIs (.ref it) "tuple_iterator":=⟨o,e,H⟩;refine i_ (wpAny_callSpecial?_slot y F.slot_tuple_iterator_next (wpAny_call_entry F.slot_tuple_iterator_next y F.entry_tuple_iterator_next ?_ (F.args_tuple_iterator_next_1 _)));show wpAny _ _ (field (.ref it) 0 >>= _) _ _ s;refine i_ (wpAny_field e hd rfl ?_);refine i_ (wpAny_field e hd rfl ?_);refine i_ (wpAny_seqItems l u ?_);simp only[EZ,B];refine i_ (wpAny_rule (i_ (wpAny_setField e hd (by simp) ?_)));refine i_ ?_;refine i_ (m:=firstArgMember _ _) (wpAny_of_eq (by first | rfl | (simp only)) ?_);refine wpAny_newObj_type ?_ (by size_fits);refine i_ (wpAny_handled ?_);rw[show A.in1.handled=Y from C];refine i_ (pz (wpAny_throw ?_));exact hE _ _ (((Heap.SameBut.update ..).extBut.push _).push _) ⟨_,AB _ rfl,rfl⟩
def ox(i:SqO tp s.heap a xs)(j:Q (.ref s.heap.objs.size) { s with heap:=s.heap.push { cls:=.type (Gk tp),data:=.fields #[.ref a,.int 0 0]}}):wpAny (model prog w) A (pyIter (.ref a)) Q E s:=by
 cases tp with
 |false=>exact wpAny_pyIter_list (i) j
 |true=>exact wpAny_pyIter_tuple (i) j
end
def Kh(C:A.handled=Y)(z:Bool)(j a:Addr)(y:a≠j)(xs:Array Value):
  Draws prog w A j [j,a] xs.size (λi v=>xs[i]?=J v) (λi h=>SqI z h j a i/\SqO z h a xs) where
 live:=λ_ _ st=>let⟨o,G,_⟩:=st.1;⟨o,G⟩
 frame:=λ_ _ _ st B=>⟨st.1.at' λo e=>B j (by simp) o e,st.2.at' λo e=>B a (by simp) o e⟩
 item:=λi s Q E L st H=>by
  refine wV st.1 st.2 (x:=xs[i]) (by simp) λF l u=>?_;exact H _ F s.toks (by simp) ⟨l,st.2.at' λo e=>(u.2 a y).trans e⟩ u
 done:=λs Q E st hE=>sT C st.1 st.2 (by simp) hE
def zC(i:Bool)(a:Addr)(xs:Array Value)(n:Nat)(j:RG)(sl:Array (RW)):
  Meets (Builtin.«enumerate.__new__» ⟨[.type "enumerate",.ref a],[]⟩) (λ_ R s=>s.heap.get? a=J { cls:=.type (Qt i),dict:=j,data:=.seq xs n,slots:=sl} /\
   R (.ok (.ret (.ref (s.heap.push { cls:=.type (Gk i),data:=.fields #[.ref a,.int 0 0]}).objs.size)))
    { s with heap:=(s.heap.push { cls:=.type (Gk i),data:=.fields #[.ref a,.int 0 0]}).push { cls:=.type "enumerate",data:=.fields #[.none,.bool T,.ref s.heap.objs.size,rawInt 0,.none,.none]}}) :=
 .of_wp λprog w A R s h=>by
  obtain⟨u,g,d,tk,os⟩:=s;obtain⟨hl,h⟩:=h;have l:=sub_enumerate;have hL:SqO i (Shared.heap ⟨u,g,d,tk,os⟩) a xs:=⟨_,hl,rfl,n,rfl⟩
  wp_walk using AutoSeq1.wpAny_loadPart' hl
  refine wpAny_stack_any λst=>pz ?_;split
  .rename_i c _ _ _ _ _
   cases(c==Value.type "enumerate")
   .wp_walk using AutoSeq1.wpAny_loadPart' hl,ox hL
    exact⟨_,rfl,h⟩
   .wp_walk using AutoSeq1.wpAny_loadPart' hl,ox hL
    exact⟨_,rfl,h⟩
  .wp_walk using AutoSeq1.wpAny_loadPart' hl,ox hL
   exact⟨_,rfl,h⟩
section
variable{prog:Program}{w:World}{A:Around}{E:RC}{s:Shared}
def ya(hL:SqO tp s.heap a xs)(h:∀i,IsEnum i (s.heap.objs.size+1) s.heap.objs.size 0 .none->SqI tp i s.heap.objs.size a 0->i.objs.size=s.heap.objs.size+2 ->
   (∀b o,s.heap.get? b=J o->i.get? b=J o)->Q (.ref (s.heap.objs.size+1)) { s with heap:=i}):
  wpAny (model prog w) A (call (.type "enumerate") [.ref a]) Q E s:=by
 obtain⟨⟨c,l,z,sl⟩,hl,y,n,hd⟩:=hL;subst y hd;refine callType_new F.called_enumerate (by decide) (F.typeCall_enumerate_1 _) (F.newCall_enumerate_1 _) (λobj=>F.args_object_init_2 obj _) F.entry_enumerate_new (zC tp a xs n l sl) ⟨hl,?_⟩;have j:(s.heap.push { cls:=.type (Gk tp),data:=.fields #[.ref a,.int 0 0]}).objs.size=s.heap.objs.size+1:=Ik ..;rw[j]
 have u:IsEnum ((s.heap.push { cls:=.type (Gk tp),data:=.fields #[.ref a,.int 0 0]}).push
   { cls:=.type "enumerate",data:=.fields #[.none,.bool T,.ref s.heap.objs.size,rawInt 0,.none,.none]}) (s.heap.objs.size+1) s.heap.objs.size 0 .none:=by
  have:=AB (s.heap.push { cls:=.type (Gk tp),data:=.fields #[.ref a,.int 0 0]})
   (o:={ cls:=.type "enumerate",data:=.fields #[.none,.bool T,.ref s.heap.objs.size,rawInt 0,.none,.none]}) rfl
  rw[j]at this;exact this
 exact⟨⟨_,u,rfl⟩,h _ u ⟨_,qr _ (AB _ rfl),rfl,rfl⟩ (by rw[Ik,j]) λb o x=>qr _ (qr _ x)⟩
end
end SeqT
namespace MM
open PySem.Spec PyProof.Rows L2 SeqT
def Ej(i:Bool)(K:g_)(H:Hp)(a:Addr)(ys:List V):Prop:=match i with
 |true=>SqT K H a ys
 |false=>SqL K H a ys
section
variable{X:Cx}{J4:List (Addr × Obj)}{Z:L2.St}{H:Hp}{s:Shared}
def rE(j:Inv X J4 Z H s)(h:Ej tp X.K H a ys):∃i:RU,aL ys i/\SqO tp s.heap a i.toArray/\ys.length<=sizeLine:=by
 cases tp with
 |true =>
  obtain⟨i,u,y,l⟩:=j.tuple h;exact⟨i,u,y,l⟩
 |false =>
  obtain⟨i,u,y,l⟩:=j.list h;exact⟨i,u,y.isList,l⟩
def Co(i:Inv X J4 Z H s)(h:Ej tp X.K H a xs)(j:Ej tp X.K H a ys):xs=ys:=by
 cases tp with
 |true=>exact i.tuple_inj h j
 |false=>exact i.list_inj h j
def nI(a:Inv X J4 Z H s){y:Heap}{t':Nat}{l:RT}(hf:∀b∈l,i8 X J4 H b)(k:∀b o,b∉l->s.heap.get? b=J o->y.get? b=J o):
  Inv X J4 Z H { s with heap:=y,toks:=t'}:=by
 have j:∀b u,H b=J u->b∉l:=λb u e z=>by rw[(hf b z).1]at e;cases e
 refine a.step (g':=s.gens) (d':=s.drawn) (λb M=>?_) (λb o _ _ i e _=>k b o i e) (λb o _ _ i e _=>⟨o.slots,k b o i e⟩) (λ_ _ _ _ n=>n)
  (λb o i e=>⟨o,k b o i e⟩) (λ_ _ e=>e) (λ_ _ _ e=>e) (λb Q e=>⟨#[],by rw[e];simp⟩) (λm hm=>?_) (λb u e=>?_) a.bare
 .obtain⟨P,B,R,O,C,F⟩:=hf b M;exact⟨O,B,C,F⟩
 .obtain⟨o,G,L,E,r⟩:=hm;exact⟨o,G,L,k _ o (λz=>(hf _ z).2.1 rfl) E,r⟩
 .refine (a.hok b u e).stay (λc v i q=>k c v ?_ q) (λ_ q=>q) λ_ _ q=>q;rcases i with z|z
  .rw[z];exact j b u e
  .exact j c _ z
def Cp(i:Inv X J4 Z H s){h':Heap}{t':Nat}{ch:RT}{ys:List V}{its:RU}(hf:∀b∈ch,i8 X J4 H b)(F:aL ys its)(G:ys.length<=sizeLine)(l:s.heap.objs.size∉ch)(L:h'.get? s.heap.objs.size=J { cls:=.type "tuple",data:=.seq its.toArray})(k:∀b o,b∉ch->s.heap.get? b=J o->h'.get? b=J o):
  Inv X J4 Z (upd H s.heap.objs.size (.tup ys)) { s with heap:=h',toks:=t'}/\(∀b∈ch,(upd H s.heap.objs.size (.tup ys)) b=Y)/\H s.heap.objs.size=Y:=by
 have C:=i.hok.fresh (mm s.heap.objs.size);have B:∀b∈ch,b≠s.heap.objs.size:=λb a z=>l (by rw[<-z];exact a);have E:Inv X J4 Z (upd H s.heap.objs.size (.tup ys)) { s with heap:=s.heap.push { cls:=.type "tuple",data:=.seq its.toArray},toks:=s.toks} :=
  i.laid (λb u q=>qr _ q) (mm _) ⟨G,its,F,_,AB _ rfl,rfl,⟨_,rfl⟩,rfl⟩
 have j:∀b∈ch,(upd H s.heap.objs.size (.tup ys)) b=Y:=λb a=>by rw[aB (B b a)];exact(hf b a).1
 refine⟨?_,j,C⟩;refine nI (t':=t') E (λb a=>⟨j b a,(hf b a).2⟩) λb o a e=>?_;by_cases z:b=s.heap.objs.size
 .have y:(s.heap.push { cls:=.type "tuple",data:=.seq its.toArray}).get? s.heap.objs.size=J { cls:=.type "tuple",data:=.seq its.toArray}:=AB _ rfl
  grind
 .have y:=e;rw[Heap.get?_push_ne _ _ _ z]at y;exact k b o a y
end
def Q4(K:g_)(j:Bool)(a:Addr):It :=
 ⟨λi H=>∃ys y,Ej j K H a ys/\ys[i]?=J y,λi H x l=>∃p y,H p=Y/\x=.ref p/\l=upd H p (.tup [.int i,y])/\∀ys,Ej j K H a ys->ys[i]?=J y,λi H=>∃ys,Ej j K H a ys/\ys.length<=i⟩
def wo{P:Program}{w:World}{K:g_}{S:RZ}{x1:Nat}{a1:Pos}(tp:Bool)(a e l:Addr)(M:e≠l)(as:a≠e)(ar:a≠l):
  Bg P w K (.Tuple S x1 a1) (Q4 K tp a) [e,l] e (λi h=>(∃old,IsEnum h e l i old)/\SqI tp h l a i) where
 mem:=by simp
 obj:=λi h st b R=>by
  obtain⟨⟨old,B⟩,F⟩:=st
  have:b=e\/b=l:=by simpa using R
  rcases this with rfl|rfl
  .exact⟨_,B,λv z=>nomatch z⟩
  .obtain⟨o,ho,hc,hd⟩:=F;exact⟨o,ho,λv z=>by rw[hd]at z;cases z⟩
 keep:=λi h h' st k=>let⟨⟨old,B⟩,F⟩:=st;⟨⟨old,k e (by simp) _ B⟩,F.at' λo q=>k l (by simp) o q⟩
 item:=by
  intro X hP hw hK hc i J4 s Z H E j hf st hg;subst hP hw hK;obtain⟨⟨old,B⟩,F⟩:=st;obtain⟨ys,y,hq,hy⟩:=hg;obtain⟨C,rv,so,hz⟩:=rE j hq;obtain⟨u,hu,ru⟩:=rv.get hy;have al:i<C.toArray.size:=by
   have:=(pj.mp hu).1
   simpa using this
  have O:(X.A.in1).handled=Y:=by have:=j.ok.hd hc;simpa using this
  refine wpAny_pyNext_enum_itemD (Kh O tp l a ar C.toArray) B ⟨F,so⟩ al M (by simp[M,Ne.symm as]) λx h1 tk hx a3 a8 a5 b0 an=>⟨_,rfl,?_⟩;have ap:x=u:=by
   have:C.toArray[i]?=J u:=by simpa using hu
   rw[this]at hx;exact(Option.some.inj hx).symm
  subst ap;refine wpAny_letOwnedTupleGo_enum (s:={ s with heap:=h1,toks:=tk+1}) a3 λh2 a4 L=>?_;have G:e<s.heap.objs.size:=pa B;have W:l<s.heap.objs.size:=F.lt;obtain⟨I2,a6,ai⟩:=Cp (t':=tk+1) (h':=h2) j (ch:=[e,l]) (ys:=[.int i,y]) (its:=[.int i tk,x]) hf (.cons ⟨tk,rfl⟩ (.cons ru .nil)) (by rw[sizeLine_eq];show 2<=_;decide)
   (by simp only[n8,DP,or_false,not_or];exact⟨DT G,DT W⟩)
   ((L.2 _ (DT G)).trans a5)
   (λb o R q=>by
    have U:b≠e:=λz=>R (by simp[z]);have ak:b≠l:=λz=>R (by simp[z])
    exact(L.2 b U).trans (an b o U ak q))
  refine⟨.ref s.heap.objs.size,_,I2,rfl,⟨_,y,ai,rfl,rfl,λzs a0=>by rw[Co j a0 hq];exact hy⟩,⟨⟨x,by simpa using a4⟩,?_⟩,a6⟩;exact a8.1.at' λo q=>(L.2 l (Ne.symm M)).trans q
 done:=by
  intro X hP hw hK hc i J4 s Z H E j hf st hg;subst hP hw hK;obtain⟨⟨old,B⟩,F⟩:=st;obtain⟨ys,hq,hy⟩:=hg;obtain⟨C,rv,so,hz⟩:=rE j hq;have O:(X.A.in1).handled=Y:=by have:=j.ok.hd hc;simpa using this
  have bm:=rv.length;have hT:s.TypeIs (.ref e) "enumerate":=⟨_,B,rfl⟩;unfold pyNext;refine i_ (wpAny_attempt (wpAny_callSpecial?_slot (name:=Str.ofString "__next__") hT PySem.F.slot_enumerate_next (wpAny_call_entry PySem.F.slot_enumerate_next hT PySem.F.entry_enumerate_next ?_ (PySem.F.args_enumerate_next_1 _))));show wpAny _ _ (field (.ref e) 2 >>= _) _ _ _;refine i_ (wpAny_field B rfl (x:=.ref l) rfl ?_);refine i_ (sT O F so (by simp;ext) λh1 x ab a2=>?_);obtain⟨o,ho,a9⟩:=a2;refine i_ (wpAny_isInstance (T:="StopIteration") (b:=I) ⟨o,ho,a9⟩ isSubtype_stop ?_);refine pz ⟨rfl,nI (t':=s.toks) j hf λb o R q=>ab b o (λz=>R (by simp[z])) q⟩
 self:=λA i s Q E st h=>let⟨⟨old,B⟩,_⟩:=st;wpAny_pyIter_enum B h
def eI(v:PV)(h:MH):Option (Bool×RL×List (Nat×RL)):=match v with
 |.loc n=>(match h[n]? with
  |some (.lst xs)=>J (T,xs,[(n,xs)])
  |_=>Y)
 |.frl xs=>J (T,xs,[])
 |.tup xs=>J (I,xs,[])
 |_=>Y
def Gm{X:Cx}{U:RT}{H:Hp}{h:MH}{x:PV}{y:V}{z:Bool}{xs:RL}{gd:List (Nat×RL)}(L:RH X.K X.mg U H h)(r:RP X.K U H x y)(e:eI x h=J (z,xs,gd)):
  ∃a,y=.ref a/\(∃ys,Ej z X.K H a ys)/\∀j i u,Le U H j i->RH X.K X.mg j i u->(∀p∈gd,u[p.1]?=J (.lst p.2))->∃ys,Ej z X.K i a ys/\RPs X.K j i xs ys:=by
 cases r with
 |frl s r=>cases e;exact⟨_,rfl,⟨_,s.sq⟩,λj i u l _ _=>⟨_,(l.sqf s).sq,r.le l⟩⟩
 |tup s r=>cases e;exact⟨_,rfl,⟨_,s⟩,λj i u l _ _=>⟨_,l.sqt s,r.le l⟩⟩
 |@loc n a G =>
  obtain⟨o,P,M⟩:=L.obj G;unfold eI at e;dsimp only at e;rw[P]at e
  cases o with
  |lst zs =>
   cases e;obtain⟨ys,O,Q⟩:=M;refine⟨a,rfl,⟨ys,SqL.of O⟩,λj i u l F ok=>?_⟩;obtain⟨E,C,B⟩:=F.at' n a _ (l.get G) (ok (n,xs) (by simp));exact⟨E,SqL.of C,B⟩
  |_=>cases e
 |_=>cases e
def cY(xs:RL):RL:=xs.zipIdx.map λp=>.tup [.int (p.2:Int),p.1]
def xw{xs:RL}{i:Nat}{x:PV}(h:xs[i]?=J x):(cY xs)[i]?=J (.tup [.int (i:Int),x]):=by unfold cY;rw[tx,IN,h];simp
def pW(xs:RL):(cY xs).length=xs.length:=by simp[cY]
def kW(m:Mx (RL)):Mx MIt:=λZ h=>(m Z h).bind λi a=>match i with
 |[x]=>(match eI x a with
  |some (_,xs,gd)=>.ok ⟨cY xs,gd⟩ a
  |none=>.bad)
 |_=>.bad
section
variable{X:Cx}{N W G:RM}{k:Nat}
def uu(g:Good X N W G k){a1:RZ}{x1:Nat}{tp:Pos}{a:Expr}{m:Mx (RL)}{p a0:Pos}{j:Nat}(hj:G[j]?=J "enumerate")(hm:X.mg "enumerate"=Y)(ha:MA X [a] m)(hs:starEach [a] X.env=[(T,eval a X.env)]:=by rfl):MI X (.Tuple a1 x1 tp) (.Call (.Name "enumerate" p) [a] [] a0) (kW m):=by
 have d:=g.dbg _ (tf _ (aD hj));intro J4 s Z H R ap ⟨U,an,h,rs,rh,q⟩;refine wpAny_Call_Name_kw (jh ap (g.gl _ (aD hj)) hm PyProof.Rows.Boot.«enumerate» ?_ d.2.2 d.1)
 refine PyProof.Rows.callWith_type1 (j_ (ha a0 J4 s Z H (λvs E=>∃P S xs,Le U H P E/\RH X.K X.mg P E S/\RPs X.K P E xs vs/\Ful X (sP X) an P E ((match xs with
   |[x]=>(match eI x S with|some (_,xs,gd)=>.ok ⟨cY xs,gd⟩ S|none=>.bad)
   |_=>.bad:Out MIt)) R) ap ⟨U,an,h,rs,rh,Ful.bind q λP E v v' S _ l1 M rv O=>⟨P,S,v,l1,M,rv,O⟩⟩) λus L ⟨vs,E,I1,r1,P,S,xs,l1,M,rv,O⟩=>?_) hs rfl
 cases rv with
 |nil=>exact O.elim
 |@cons y y' ys b1 ry t1 =>
  cases t1 with
  |cons _ _=>exact O.elim
  |nil =>
   dsimp only at O
   cases Q:eI y S with
   |none=>rw[Q]at O;exact O.elim
   |some z =>
    obtain⟨b,zs,gd⟩:=z;rw[Q]at O;obtain⟨ad,rfl,⟨ws,a4⟩,a3⟩:=Gm M ry Q;obtain⟨u,rfl,rx⟩:=iQ r1;cases rx;obtain⟨a9,bm,so,hz⟩:=rE I1 a4;refine ya so λh' he hi a8 hk=>?_;refine wpAny_pyIter_enum he ?_;have I2:Inv X J4 Z E { L with heap:=h',toks:=L.toks}:=I1.kept hk;obtain⟨oa,a5,b0,_⟩:=id so;have ar:ad<L.heap.objs.size:=pa a5;have ai:=I1.hok.fresh (mm L.heap.objs.size);have al:=I1.hok.fresh (E1 L.heap.objs.size);refine⟨L.heap.objs.size+1,_,_,_,E,rfl,I2,wo b ad _ L.heap.objs.size (DT (Mc _)) (wm (Nx ar)) (wm ar),⟨⟨_,he⟩,hi⟩,λc hc=>?_,?_⟩
    .have:c=L.heap.objs.size+1\/c=L.heap.objs.size:=by simpa using hc
     rcases this with rfl|rfl
     .have F:=Inv.fpOk I1 (H':=E) (b:=L.heap.objs.size+1) (E1 _) al;exact F
     .exact Inv.fpOk I1 (H':=E) (mm _) ai
    .refine O P E _ (Le.refl _ _) M ?_;intro U' H' h2 i l a2 ok;obtain⟨ab,C,as⟩:=a3 U' H' h2 l a2 ok;refine⟨λB=>?_,λB=>⟨ab,C,by rw[<-as.length];rw[pW]at B;exact B⟩⟩;rw[pW]at B;have hx:zs[i]?=J (zs[i]'B):=Ah B;obtain⟨w',ew,rw'⟩:=as.get hx;refine⟨⟨ab,w',C,ew⟩,λx' H3 ⟨pp,y2,hp,e1,e2,ak⟩=>?_⟩;subst e1;subst e2;have ey:y2=w':=by
      have:=ak ab C
      rw[ew]at this;exact(Option.some.inj this).symm
     subst ey;obtain⟨a6,l3⟩:=a2.tup hp [.int i,y2];exact⟨U',_,l3,a6,xw hx,.tup (SqT.of aN) (.cons (.int _) (.cons (rw'.le l3) .nil))⟩
end
end MM
namespace MM
open PySem.Spec PyProof.Rows L2 SetT SortT
def kQ:RL->Option (RN)
 |[]=>J []
 |.int i::r=>(kQ r).map (i::·)
 |_=>Y
def fv(l:RN):RN:=l.mergeSort λa b=>decide (a<=b)
def eY(l:RN):(fv l).Perm l:=List.mergeSort_perm _ _
def jQ(l:RN):(fv l).Pairwise (·<=·):=by
 have:=List.pairwise_mergeSort (le:=λa b:Int=>decide (a<=b)) (λa b c j i=>by
   simp only[decide_eq_true_eq]at j i ⊢;lia) (λa b=>by
   lia)
 unfold fv
 simp_all
def f9{l m:RN}(j:l.Pairwise (·<=·))(i:m.Pairwise (·<=·))(p:l.Perm m):l=m :=
 List.Perm.eq_of_pairwise (λa b _ _ x y=>by lia) j i p
def ue:∀{xs:RL}{k:RN},kQ xs=J k->xs=k.map .int
 |[],k,h=>by cases h;rfl
 |x::r,k,h=>by
  cases x with
  |int i =>
   unfold kQ at h
   cases hr:kQ r with
   |none=>rw[hr]at h;cases h
   |some a =>
    rw[hr]at h;cases h;rw[ue hr];rfl
  |_=>cases h
def t_(xs:RL)(h:MH):RB:=match xs with
 |[x]=>(match iL h x with
  |some ys=>(match kQ ys with
   |some ns=>if ns.length<64 then .ok (.loc h.length) (h++[.lst ((fv ns).map .int)])else .bad
   |none=>.bad)
  |none=>.bad)
 |_=>.bad
def tz:∀{ns:RN}{a:RU},aL (ns.map V.int) a->IntsAre a ns
 |[],_,h=>by cases h;exact .nil
 |i::k,_,h=>by
  cases h with
  |cons r t =>
   obtain⟨tk,rfl⟩:=r;exact .cons i tk (tz t)
def rO:∀{ns:RN}{a:RU},IntsAre a ns->aL (ns.map V.int) a
 |_,_,.nil=>.nil
 |_,_,.cons n t h=>.cons ⟨t,rfl⟩ (rO h)
section
variable{X:Cx}{N W G:RM}{k:Nat}
def rZ:c6 X (.builtin "sorted") (λxs H Q=>∃l ns,xs=[.ref l]/\SqL X.K H l (ns.map V.int)/\ns.length<64/\∀z,H z=Y->Q (.ref z) (upd H z (.lst ((fv ns).map V.int)))):=by
 intro J4 s Z H xs us Q i r ⟨l,ns,e,L,hz,q⟩;subst e;obtain⟨u,rfl,O⟩:=iQ r;cases O;obtain⟨a,E,S,P⟩:=i.list L;have y:=E.length;rw[yP]at y;refine sorted_ints S.isList (tz E) ⋯ λout ab h1 U M=>?_;have e:=f9 M (jQ ns) (U.trans (eY ns).symm);subst e;have C:((s.heap.push (seqObj "list" #[] 0)).update s.heap.objs.size (Obj.mapSeq (·++a.toArray))).objs.size=s.heap.objs.size+1:=by rw[Heap.size_update,size_push']
 have B:(((s.heap.push (seqObj "list" #[] 0)).update s.heap.objs.size (Obj.mapSeq (·++a.toArray))).push (seqObj "list" a.toArray 0)).get? (s.heap.objs.size+1)=J (seqObj "list" a.toArray 0):=by rw[<-C];exact AB _ rfl
 obtain⟨c,R⟩:=nU B out;refine⟨.ref (s.heap.objs.size+1),_,i.laid (o:=.lst ((fv ns).map V.int)) (t':=s.toks) (λb o F=>?_) (E1 _) (⟨?_,out.toList,c,rO h1,?_⟩),rfl,q _ (i.hok.fresh (E1 _))⟩
 .have j:=pa F;refine mE (wm (Nx j)) ?_ _;refine qr _ ?_;rw[IQ _ _ _ _ (wm j)];exact qr _ F
 .rw[yP,(eY ns).length_eq,sizeLine_eq];lia
 .unfold sortedAll;rw[R]
def pN:cZ X (.builtin "sorted") t_:=by
 intro O s Z H xs R Q u r ⟨U,h,S,B,rp,q⟩
 cases rp with
 |nil=>exact q.elim
 |@cons x y _ _ M F =>
  cases F with
  |cons _ _=>exact q.elim
  |nil =>
   unfold t_ at q;dsimp only at q
   cases hl:iL h x with
   |none=>rw[hl]at q;exact q.elim
   |some zs =>
    rw[hl]at q;dsimp only at q;obtain⟨P,ys,rfl,a,i⟩:=Ck B M hl
    cases C:kQ zs with
    |some ns =>
     rw[C]at q;dsimp only at q;by_cases z:ns.length<64
     .rw[c_ z]at q;rw[ue C]at i;rw[Ei i]at a;refine rZ O s Z H _ R Q u r ⟨P,ns,rfl,a,z,λl j=>?_⟩;obtain⟨E,L⟩:=B.new j (o:=.lst ((fv ns).map .int)) ⟨_,rfl,RPs.ints _⟩;exact q _ _ _ L E (.loc (by rw[<-B.len];simp))
     .rw[hI z]at q;exact q.elim
    |none=>rw[C]at q;exact q.elim
end
end MM
namespace MM
open PySem.Spec PyProof.Rows L2
def u8(a:Nat->lR->MH->Prop):∀(xs:RL)(j:Nat)(Z:lR)(h:MH),a j Z h->(∀j Z h,a j Z h->it.ok h) ->
  (∀m Z h x,a (j+m) Z h->xs[m]?=J x->∃B C l i,g x Z h=.nx B C/\b B C=.nx l i/\a (j+m+1) l i) ->
  ∃l i,vZ it g b xs Z h=.nx l i/\a (j+xs.length) l i
 |[],j,Z,h,u,hok,_=>⟨Z,h,lA (hok _ _ _ u),u⟩
 |x::r,j,Z,h,u,hok,st=>by
  obtain⟨B,C,H,M,e1,e2,F⟩:=st 0 Z h x u rfl;obtain⟨L,G,e3,E⟩:=u8 a r (j+1) H M F hok λm l i y q z=>by
   have:=st (m+1) l i y (by rw[show j+(m+1)=j+1+m by lia];exact q) (by simpa using z)
   rw[show j+(m+1)+1=j+1+m+1 by lia]at this;exact this
  refine⟨L,G,?_,by rw[Ax,show j+(r.length+1)=j+1+r.length by lia];exact E⟩;rw[im (hok _ _ _ u) e1,e2];exact e3
def MIt.ok_app{a:MIt}{h g:MH}(o:a.ok h):a.ok (h++g):=λp i=>u9 (o p i)
def mU{M:MIt}{i:MH}{gt:Mg}{mt:Mx Bool}{O:Mx PV}{G:Nat}{fr:lR}(ok:M.ok i)(p:PV->Bool)(f:PV->PV):∀(xs:RL)(B:lR)(a:RL)(l:MH),B.length=G->a.length+xs.length<=1000 ->
  (∀x∈xs,∀(B:lR)(g:MH),B.length=G->∃j:lR,j.length=G/\gt x (B++fr) (i++g)=.nx (j++fr) (i++g)/\∃z,mt (j++fr) (i++g)=.ok (p x) (i++g++z)/\(p x=I->∃C,O (j++fr) (i++g++z)=.ok (f x) (i++g++z++C))) ->
  ∃g,v7 M i.length gt mt O xs (B++fr) (i++.lst a::l)=.ok () (i++.lst (a++(xs.filter p).map f)::g)
 |[],B,a,l,hv,hl,u=>⟨l,by rw[jz (MIt.ok_app ok)];simp⟩
 |x::r,B,a,l,hv,hl,u=>by
  obtain⟨j,E,e1,z,e2,e3⟩:=u x (by simp) B (.lst a::l) hv;have rest:=λ(y:PV)(Q:y∈r)=>u y (n4 _ Q)
  cases F:p x with
  |true =>
   obtain⟨C,e4⟩:=e3 F;rw[F]at e2;have P:(i++.lst a::l++z++C)[i.length]?=J (.lst a):=by rw[A7,A7,AE (mm _)];simp
   rw[jx (MIt.ok_app ok) e1 e2 e4 P (by simp at hl;lia)];have H:(i++.lst a::l++z++C).set i.length (.lst (a++[f x]))=i++.lst (a++[f x])::(l++z++C):=by rw[A7,A7,List.set_append_right _ _ (mm _)];simp
   rw[H];obtain⟨L,e5⟩:=mU ok p f r j (a++[f x]) (l++z++C) E (by simp at hl ⊢;lia) rest;rw[e5,Nh F];simp
  |false =>
   rw[F]at e2;rw[Gi (MIt.ok_app ok) e1 e2];have H:i++.lst a::l++z=i++.lst a::(l++z):=by simp
   rw[H];obtain⟨L,e5⟩:=mU ok p f r j a (l++z) E (by simp at hl;lia) rest;refine⟨L,?_⟩;rw[e5,Ni (by simp[F])]
def x4{it:MIt}{Z:lR}{h h1:MH}{mi:Mx MIt}{gt:Mg}{mt:Mx Bool}{me:Mx PV}{nv:Nat}{fm:RQ}(em:mi Z h=.ok it h1)(ok:it.ok h1)(hl:it.xs.length<=1000)(p:PV->Bool)(f:PV->PV)(j:∀x∈it.xs,∀(u:lR)(g:MH),u.length=nv->∃a:lR,a.length=nv/\gt x (u++fm.map λi=>(Z[i]?).getD Y) (h1++g)=.nx (a++fm.map λi=>(Z[i]?).getD Y) (h1++g) /\
   ∃l,mt (a++fm.map λi=>(Z[i]?).getD Y) (h1++g)=.ok (p x) (h1++g++l)/\(p x=I->∃y,me (a++fm.map λi=>(Z[i]?).getD Y) (h1++g++l)=.ok (f x) (h1++g++l++y))):
  ∃g,bv nv fm mi gt mt me Z h=.ok (.loc h1.length) (h1++.lst ((it.xs.filter p).map f)::g):=by
 obtain⟨g,e⟩:=mU ok p f it.xs (List.replicate nv Y) [] [] (by simp) (by simpa using hl) j;refine⟨g,?_⟩;rw[fR,em];simp only[Out.bind_ok];unfold A9;rw[e];simp
end MM
namespace MM
open PySem.Spec PyProof.Rows L2 SetT SortT
section
variable{h:MH}{i:Int}{xs:RL}{n:Nat}
def pX(e:h[n]?=J (.lst xs)):cu h (.loc n)=J xs:=by simp[cu,e]
def nV(e:h[n]?=J (.lst xs))(hl:xs.length<1000):fJ n [v] h=.ok .non (h.set n (.lst (xs++[v]))):=by
 have z:1000<=sizeLine:=by decide
 simp only[fJ,e];rw[c_ ⋯]
def sR:∀(m:Nat),i7 (List.replicate m (.bl I))=J (List.replicate m I)
 |0=>rfl
 |m+1=>by
  rw[Ih];unfold i7;rw[sR m];rfl
def xJ(e:h[n]?=J (.lst (List.replicate m (.bl I)))):Ap [.loc n] h=.ok (.bl I) h:=by simp[Ap,pX e,sR]
end
def itR1'(em:m Z h=.ok [.int j] h1)(z:-(2^62)<=j/\j<2^62):dA m Z h=.ok ⟨bE 0 j.toNat,[]⟩ h1:=by simp_all
def Gn(em:m Z h=.ok [.int (n:Int)] h1)(a:n<=100000):dA m Z h=.ok ⟨bE 0 n,[]⟩ h1:=by
 have z1:-(2^62)<=(n:Int):=Int.le_trans (by decide) (Int.natCast_nonneg n);have i:(n:Int)<2^62:=Int.lt_of_le_of_lt (Int.ofNat_le.mpr a) (by decide)
 have:=itR1' em ⟨z1,i⟩
 rwa [EZ]at this
def j4:∀(k:RN),PyData.canLayAll0 (k.map .int)=I/\PyData.depthAll (k.map .int)<=1
 |[]=>⟨rfl,by simp[PyData.depthAll]⟩
 |i::k=>by
  obtain⟨a,b⟩:=j4 k;constructor
  .simp[PyData.canLayAll0,PyData.canLay0,a]
  .simp only[pk,PyData.depthAll,PyData.depth];lia
end MM
namespace MM
open PySem.Spec PyProof.Rows L2
def mM(h:MH):PV->Option Bool
 |.non=>J T
 |.bl b=>J b
 |.int i=>J (i != 0)
 |.str _=>Y
 |.tup xs=>J (!xs.isEmpty)
 |.frl xs=>J (!xs.isEmpty)
 |.loc n=>match h[n]? with
  |some (.lst xs)=>J (!xs.isEmpty)
  |_=>Y
def Qu(m:Mx PV):Mx Bool:=λZ h=>(m Z h).bind λv a=>match mM a v with
 |some b=>.ok b a
 |none=>.bad
section
variable{X:Cx}{N W G:RM}{k:Nat}
def kK{K:g_}{U:RT}{H:Hp}{xs:RL}{ys:List V}(r:RPs K U H xs ys):(!xs.isEmpty)=!ys.isEmpty:=by cases r<;>rfl
def Go{e:Expr}{m:Mx PV}(h:ME X e m)(S:∀u,isTrue e X.env u=(do let v <-u;standAt e.pos;holding [v] (truthy v)):=by intro _;rfl):MT X e (Qu m):=by
 refine PT.imp (zj h S) λZ H Q ⟨U,C,h,M,L,q⟩=>⟨U,C,h,M,L,Ful.bind q λy B x x' h1 _ l1 j F l=>?_⟩
 cases F with
 |non=>exact⟨T,rfl,l y B _ (Le.refl _ _) j rfl⟩
 |bl b=>exact⟨b,rfl,l y B _ (Le.refl _ _) j rfl⟩
 |int i=>exact⟨_,rfl,l y B _ (Le.refl _ _) j rfl⟩
 |str i=>exact l.elim
 |@tup xs a ys s r=>exact⟨_,.inr (.inl ⟨ys,s,rfl⟩),by rw[<-kK r];exact l y B _ (Le.refl _ _) j rfl⟩
 |@frl xs a ys s r=>exact⟨_,.inl ⟨ys,s.sq,rfl⟩,by rw[<-kK r];exact l y B _ (Le.refl _ _) j rfl⟩
 |@loc n a e =>
  obtain⟨o,E,O⟩:=j.obj e
  cases o with
  |lst xs =>
   obtain⟨ys,P,R⟩:=O;simp only[mM,E]at l;exact⟨_,.inl ⟨ys,.inl (.inl P),rfl⟩,by rw[<-kK R];exact l y B _ (Le.refl _ _) j rfl⟩
  |dic fz ks xs=>simp only[mM,E]at l;exact l.elim
  |exc z=>simp only[mM,E]at l;exact l.elim
inductive As(K:g_)(mg:Aq)(cs:RM):RT->RM->Prop where
 |nil:As K mg cs [] []
 |cons{D:Addr}{sup:RM}{Ds:RT}{sups:RM}(h:zY K mg (.ref D) cs sup)(t:As K mg cs Ds sups):As K mg cs (D::Ds) (sup++sups)
def Q5(a:RT):TA:=λZ H Q=>Q (a.map V.ref) H
def Ki(X:Cx)(l:RM)(j:RZ)(a:RM):Prop:=∃i,As X.K X.mg l i a/\PA X j (Q5 i)/\i.length=j.length
def Cq:Ki X cs [] []:=⟨[],.nil,PA.imp gC λZ H Q q=>q,rfl⟩
def zv(g:Good X N W G k){c:Str}{y i a:RM}{j:Nat}{q:Pos}{l:RZ}(z:G[j]?=J c)(C:∃D,X.mg c=J (.ref D)/\zY X.K X.mg (.ref D) y i)(t:Ki X y l a)(L:starEach (.Name c q::l) X.env=(T,eval (.Name c q) X.env)::starEach l X.env:=by rfl):Ki X y (.Name c q::l) (i++a):=by
 obtain⟨D,hm,E⟩:=C;obtain⟨F,M,B,hl⟩:=t;have d:=g.dbg c (tf _ (aD z));exact⟨D::F,.cons E M,PA.imp (cC (pD (v:=.ref D) (u:=.ref D) (g.gl c (aD z)) hm rfl d.1) B L) λZ H Q q=>q,congrArg (·+1) hl⟩
def tR{K:g_}{mg:Aq}{l:RM}{i:RT}{a:RM}(h:As K mg l i a){t:String}(u:t∈["NoneType","bool","int","str","tuple","list","dict"]):PySem.W.kitAny K (.type t) (i.map Value.ref)=J T:=by
 induction h with
 |nil=>rfl
 |cons y _ j=>rw[pk];unfold PySem.W.kitAny;rw[y.ty t u];exact j
def vV{K:g_}{mg:Aq}{u:RM}{l:RT}{a:RM}(h:As K mg u l a){x:Str}(H:x∈u){C:Addr}(hm:mg x=J (.ref C)):PySem.W.kitAny K (.ref C) (l.map Value.ref)=J (a.contains x):=by
 induction h with
 |nil=>rfl
 |@cons D i l a E _ F =>
  rw[pk];unfold PySem.W.kitAny;obtain⟨O,j,_,_,M⟩:=E.ex x H;rw[hm]at j;cases j;rw[M]
  cases z:i.contains x with
  |true =>
   have:(i++a).contains x=I:=by rw[IM]at z ⊢;exact Bx _ z
   rw[this]
  |false =>
   have:(i++a).contains x=a.contains x:=by
    have B:x∉i:=λy=>by rw[<-IM]at y;rw[y]at z;cases z
    cases y:a.contains x with
    |true=>rw[IM]at y ⊢;exact tf _ y
    |false =>
     have L:x∉a:=λq=>by rw[<-IM]at q;rw[q]at y;cases y
     cases w:(i++a).contains x with
     |false=>rfl
     |true=>rw[IM]at w;rcases AS.mp w with q | q;exact absurd q B;exact absurd q L
   rw[this];exact F
def xn{i:RT}:∀{a:RU},aL (i.map V.ref) a->a=i.map Value.ref:=by
 induction i with
 |nil=>intro a r;cases r;rfl
 |cons D i j =>
  intro a r
  cases r with
  |cons l u=>rw[j u];cases l;rfl
def zc(g:Good X N W G k){a:Expr}{m:Mx PV}{y:RZ}{B l:RM}{i:Nat}{p R pt:Pos}{kt}(hi:G[i]?=J "isinstance")(hm:X.mg "isinstance"=Y)(IC:Ki X B y l){c0:Str}{ab:RM}(an:∃D,X.mg c0=J (.ref D)/\zY X.K X.mg (.ref D) B ab)(hl:y.length<=100)(ha:ME X a m)(he:starEach [a,.Tuple y kt pt] X.env=(T,eval a X.env)::starEach [.Tuple y kt pt] X.env:=by rfl)(a8:starEach [.Tuple y kt pt] X.env=[(T,eval (.Tuple y kt pt) X.env)]:=by rfl)(a6:(backTo R (starEach [.Tuple y kt pt] X.env)).any (·.1)=T:=by rfl):
  ME X (.Call (.Name "isinstance" p) [a,.Tuple y kt pt] [] R) (yV (bf B l) m):=by
 obtain⟨Ds,u,a5,O⟩:=IC;obtain⟨D0,_,a4⟩:=an;have d1:=g.dbg _ (tf _ (aD hi));have E:c6 X (.builtin "isinstance") (λxs H Q=>∃x' M,xs=[x',.ref M]/\SqT X.K H M (Ds.map V.ref)/\uJ X (bf B l) x' H Q):=by
  intro J4 s Z H xs us Q j r ⟨x',M,e,a0,U,h,x,L,rx,q⟩;subst e
  cases r with
  |cons r1 t1=>cases t1 with
   |cons r2 t2 =>
    cases t2;cases r2;obtain⟨b0,rv,ht,_⟩:=j.tuple a0;have ei:=xn rv;subst ei;obtain⟨⟨oc,od,b1,bm⟩,ho,P,nn,ak⟩:=ht;dsimp only at P ak;subst P;subst ak;have plain:∀t,Ar h x=J t->bf B l x h=.ok (.bl T) h->wpAny (model X.prog X.w) X.A (call (.builtin "isinstance") [_,_]) (EP X J4 Z Q) X.xe s:=λt et ef=>by
     rw[ef]at q;obtain⟨a9,ar,Hq,Za,hz⟩:=pe j L rx r1 et;exact PySem.W.kia_tup Za j.kIn hz ho (tR u a9) ar λtk=>⟨.bl _,H,j.tok _,rfl,q U H _ (Le.refl _ _) L (.bl _)⟩
    cases x with
    |non=>exact plain _ rfl rfl
    |bl b=>exact plain _ rfl rfl
    |int i=>exact plain _ rfl rfl
    |str i=>exact plain _ rfl rfl
    |tup i=>exact plain _ rfl rfl
    |frl i=>exact plain _ rfl rfl
    |loc n =>
     cases F:h[n]? with
     |none=>simp only[bf,F]at q;exact q.elim
     |some o =>
      cases o with
      |lst xs=>exact plain "list" (by simp[Ar,F]) (by simp[bf,F])
      |dic fz ks xs=>exact plain "dict" (by simp[Ar,F]) (by simp[bf,F])
      |exc ex =>
       simp only[bf,F]at q;by_cases hc:B.contains ex.cls=I
       .rw[c_ hc]at q
        cases rx with
        |@loc n a e =>
         cases r1;obtain⟨o',ai,ro⟩:=L.obj e;rw[F]at ai;cases ai;obtain⟨_,C,al,hH⟩:=ro;have hx:ex.cls∈B:=by simpa using hc
         obtain⟨C',S,EQ,a1,_⟩:=a4.ex ex.cls hx;rw[al]at S;cases S;obtain⟨hz,_,_⟩:=(show ObjOk X.prog X.w H s.heap a (.ext (dz a C))from j.hok a _ hH);exact PySem.W.kia_tup (tO EQ a1) j.kIn hz ho (vV u hx al) (λz=>nomatch z) λtk=>⟨.bl _,H,j.tok _,rfl,q U H _ (Le.refl _ _) L (.bl _)⟩
       .rw[hI hc]at q;exact q.elim
 refine PE.imp (iB E (g.gl _ (aD hi)) hm PyProof.Rows.Boot.«isinstance» (cC ha (cC (wA a5) gC a8) he) d1.2.2 d1.1 he a6) λZ H Q ⟨U,a2,h,rs,L,q⟩=>?_;refine⟨U,a2,h,rs,L,Ful.bind q λU1 H1 x x' h1 _ l1 a3 rx q1=>?_⟩;refine⟨by rw[yP,O];exact pu hl (by decide),λM as=>?_⟩;obtain⟨ap,l2⟩:=a3.tup as (Ds.map V.ref);exact⟨x',M,rfl,SqT.of aN,U1,h1,x,ap,rx.le l2,(Ful.le l2 q1).zero⟩
end
end MM
namespace MM
open PySem.Spec PyProof.Rows L2 PySem.W
end MM
namespace MM
open PySem.Spec PyProof.Rows L2
section
variable{X:Cx}
def iP:RL->Option (RM)
 |[]=>J []
 |.str x::r=>(iP r).map (x::·)
 |_=>Y
def xz{K:g_}{U:RT}{H:Hp}:∀{xs:RL}{ys:List V}{i:RU}{a:RM},RPs K U H xs ys->aL ys i->iP xs=J a->∃l:List (Str×Tok),i=strValues l/\l.map (·.1)=a:=by
 intro xs
 induction xs with
 |nil =>
  intro ys i a r v e;cases r;cases v;cases e;exact⟨[],rfl,rfl⟩
 |cons x xs C =>
  intro ys i a r v e
  cases r with
  |cons y E =>
   cases v with
   |cons j u =>
    cases y with
    |str z =>
     unfold iP at e;rw[Ai]at e;obtain⟨B,e1,rfl⟩:=e;obtain⟨l,e2,e3⟩:=C E u e1;obtain⟨t,rfl⟩:=j;exact⟨(z,t)::l,by rw[e2];rfl,by rw[<-e3];rfl⟩
    |_=>cases e
def iH(z:Str)(xs:RL)(h:MH):RB:=match xs with
 |[.loc n]=>(match h[n]? with
  |some (.lst ys)=>(match iP ys with
   |some a=>if JoinOk z a=I then .ok (.str (Txt.join z a)) h else .bad
   |none=>.bad)
  |_=>.bad)
 |_=>.bad
def Kj(f:Str->RL->MH->RB)(m:Mx PV)(i:Mx (RL)):Mx PV:=λZ h=>(m Z h).bind λo l=>match o with
 |.str x=>(i Z l).bind λa j=>(f x a j).ne
 |_=>.bad
def Oy(X:Cx)(f:Str->RL->MH->RB):V->List V->Hp->VK->Prop:=λi a H Q=>∃U h z xs,i=.str z/\RH X.K X.mg U H h/\RPs X.K U H xs a/\ij X (RV' X) U H (f z xs h) Q
def Cr:DY X "str.join" (Oy X iH):=by
 intro J4 s Z H x vs v us Q i M O ⟨U,h,z,ps,e,y,rp,q⟩;subst e;obtain⟨t,rfl⟩:=M
 cases rp with
 |nil=>exact q.elim
 |cons B L =>
  cases L with
  |cons _ _=>cases B<;>exact q.elim
  |nil =>
   cases B with
   |@loc n a F =>
    dsimp only[iH]at q;obtain⟨o,eo,P⟩:=y.obj F;rw[eo]at q
    cases o with
    |lst xs =>
     obtain⟨ys,R,ry⟩:=P;obtain⟨u,rfl,S⟩:=O.one;cases S;obtain⟨_,E,n',r,hl,e⟩:=i.lstM R;dsimp only at q
     cases j:iP xs with
     |none=>rw[j]at q;exact q.elim
     |some ts =>
      rw[j]at q;dsimp only at q
      split at q
      .rename_i W
       obtain⟨l,rfl,C⟩:=xz ry r j;exact SC.join ⟨_,e,rfl,_,rfl⟩ C W λG k=>⟨.str _,H,i.tok k,⟨G,rfl⟩,q U H _ (Le.refl _ _) y (.str _)⟩
      .exact q.elim
    |_=>exact q.elim
   |_=>exact q.elim
variable{o e:Expr}{es:RZ}{name:Str}{apos cpos:Pos}{id:String}{f:Str->RL->MH->RB}{m:Mx PV}{ma:Mx (RL)}
def Kk(slot:Slot "str" name id)(B:typeOf (.builtin id)=pure (.type "method_descriptor"))(hm:DY X id (Oy X f))(M:ME X o m)(ha:MA X (e::es) ma)(i:attributeBase o name X.env (eval o X.env)=eval o X.env:=by rfl)(u:((backTo cpos (starEach (e::es) X.env)).all (λx=>!x.1)&&(backToKw cpos (keywordEach [] X.env)).all (λx=>x.1.isSome)
   && decide ((e::es).length+([]:List Keyword).length+(if([]:List Keyword).isEmpty then 0 else 1)<30))=I:=by rfl)(j:(apos.endLine==cpos.line)=I:=by rfl)(hs:starEach (e::es) X.env=(T,eval e X.env)::starEach es X.env:=by rfl)(a:(backTo cpos (starEach es X.env)).any (·.1)=T:=by rfl):
  ME X (.Call (.Attribute o name apos) (e::es) [] cpos) (Kj f m ma) :=
 PE.imp (DZ PySem.F.plainAttrs_str slot B hm M ha i u j hs a) λZ H Q tm=>by
  obtain⟨U,l,h,F,P,q⟩:=tm;refine⟨U,l,h,F,P,?_⟩;refine Ful.bind q λL H1 x x' h1 _ l1 C O G=>?_
  cases O with
  |str z =>
   refine⟨rfl,L,l,h1,F.le l1,C,?_⟩;exact Ful.bind G λS H2 vs W h2 _ l2 E y R=>⟨S,h2,z,vs,rfl,E,y,R.zero⟩
  |_=>exact G.elim
@[simp]theorem Oz:Kj f m ma Z h=(m Z h).bind λo h1=>match o with
 |.str x=>(ma Z h1).bind λvs h2=>(f x vs h2).ne
 |_=>.bad:=rfl
end
end MM
namespace DcT
open PyProof.Rows
section
variable{prog:Program}{w:World}{A:Around}{E:RC}{s:Shared}
def vT:typeLookup (.type "tuple") "keys"=pure Y:=by rw[typeLookup_type,builtinLookup_eq_fast];kernel_rfl
def wt(z:s.heap.get? a=J o)(G:o.cls=.type "tuple")(i:o.data=.seq xs k)(hd:o.dict=Y)(H:A.handled=Y)(h:∀u tk e,Heap.NewExcOf s.heap u e "AttributeError"->Q Y { s with heap:=u,toks:=tk}):wpAny (model prog w) A (getAttr? (.ref a) "keys") Q E s:=by
 obtain⟨c,B,L,sl⟩:=o;subst G i hd;obtain⟨C,g,d,tk,os⟩:=s;have y:∀l,(⟨C,g,d,l,os⟩:Shared).TypeIs (.ref a) "tuple":=λ_=>⟨_,z,rfl⟩;have M:=sub_AttributeError;have W:=F.slot_tuple_getattribute.lookup;have P:=F.slot_tuple_getattribute.bind (.ref a);have R:=am_tuple_getattr_none;unfold getAttr? getAttrBy? getAttrBy
 repeat (any_goals (first | assumption | exact y _ | ((with_reducible show wpAny _ _ (call (Value.builtin "tuple.__getattribute__") _ _) _ _ _);refine call_meets F.slot_tuple_getattribute (y _) am_entry_tuple_getattribute (F.args_tuple_getattribute_2 _ _) (meets_getattribute_miss_tuple a xs k sl "keys" _ vT (by decide +kernel) (by decide)) ⟨z,H,λu l e j=>?_⟩)|wp_step))
 obtain⟨O,S,U⟩:=j.there;show wpAny _ _ (getattributeRaised _ _ _ _ _ _ _) _ _ _;unfold getattributeRaised
 repeat (any_goals (first | assumption | wp_step))
 exact h _ _ _ j.of
def mq:entryFor table "dict.update.loop"=J Builtin.«dict.update.loop»:=entryFor_of_tree (by kernel_rfl)
def gx:plainId "dict.update.loop"=I:=by decide +kernel
def Gp(a h:Heap):Prop:=∀b o,a.get? b=J o->h.get? b=J o
def iV{h j:Heap}{d:Addr}{a:List (Int×Value)}(i:h.DictOf (intKind prog w) d a)(hd:∀o,h.get? d=J o->j.get? d=J o):j.DictOf (intKind prog w) d a:=by obtain⟨o,l,y,u,r⟩:=i;exact⟨o,l,y,hd o u,r⟩
def vj{a:List (Int×Value)}{k:Int}{v:Value}(h:k∉a.map (·.1)):stored a k v=a++[(k,v)]:=by unfold stored;rw[hI];intro z;rw[List.any_eq_true]at z;obtain⟨x,i,e⟩:=z;exact h (vp.mpr ⟨x,i,by simpa using e⟩)
def Kl{R:Result->Shared->Prop}{B:Addr}{fp L:RT}{G:Array GenState->Array GenState->Prop}{n:Nat}{P:Nat->Value->Prop}{St:Nat->Shared->Prop}(W:WalksS prog w A.in1 B fp L G n P St)(d:Addr)(a0:d∉fp){H0:Heap}(a5:H0.get? d=Y)(a4:∀b∈L,H0.get? b=Y)(l:List (Int×Value))(hn:l.length=n)(b4:n<=sizeLine)(nd:(l.map (·.1)).Nodup)(Z:∀i v y,P i v->l[i]?=J y->∃a t,v=.ref a/\H0.IsTuple a #[.int y.1 t,y.2]):
  ∀(c i:Nat)(s:Shared)(j:Int)(tj:Tok),n-i=c->i<=n->St i s->Gp H0 s.heap->s.heap.DictOf (intKind prog w) d (l.take i) ->
   (∀u,Moved (d::L) G s u->Gp H0 u.heap->u.heap.DictOf (intKind prog w) d l->R (.ok (.ret .none)) u) ->
   codeAny (model prog w) A (.builtin "dict.update.loop" ⟨[.ref d,.ref B,.int j tj,.none],[]⟩) R s:=by
 have a1:d∉L:=λh=>a0 (W.sub _ h);have F:∀b∈L,b∈d::L:=λb U=>n4 _ U;have C:∀{s u:Shared},Moved L G s u->Gp H0 s.heap->Gp H0 u.heap:=λ{s u} hm x b o e =>
  hm.heap b o (λU=>by rw[a4 b U]at e;cases e) (x b o e)
 intro c
 induction c with
 |zero =>
  intro i s j tj hc hi M hx hT H;have e:i=n:=by lia
  subst e;refine codeAny_builtin mq ?_;rw[Around.under_plainId gx _];show wpAny _ A.in1 (pyNext (.ref B) >>= _) _ _ s;refine i_ (W.done s _ _ M λu hm=>?_);show wpAny _ A.in1 (Builtin.Dict.addKeywords d [] >>= λ_=>ret Value.none) _ _ u;rw[<-hn,List.take_length]at hT;refine i_ ?_;show wpAny _ A.in1 (pure ()) _ _ u;exact pz (pz (H u (hm.mono F) (C hm hx) (iV hT λo e=>hm.heap d o a1 e)))
 |succ c ih =>
  intro i s j tj hc hi M hx hT H;have al:i<n:=by lia
  refine codeAny_builtin mq ?_;rw[Around.under_plainId gx _];show wpAny _ A.in1 (pyNext (.ref B) >>= _) _ _ s;refine i_ (W.item i s _ _ al M λv u hP as hm=>?_);obtain⟨y,hk⟩:∃k,l[i]?=J k:=⟨_,Ah ⋯⟩;obtain⟨a,t,rfl,ha⟩:=Z i v y hP hk;have ar:=C hm hx;have b0:=iV hT (λo e=>hm.heap d o a1 e);obtain⟨oa,b2,O,na,ak⟩:=ha;have ap:=ar a oa b2;have b1:u.TypeIs (.ref a) "tuple":=⟨oa,ap,O⟩;dsimp only;refine i_ (wpAny_holding (i_ ?_));have S:∀(Q:RU->Shared->Prop) (E:RC),Q [.int y.1 t,y.2] u->wpAny (model prog w) A.in1 (Builtin.Dict.pairItems (.ref a)) Q E u:=λQ E q=>by
   unfold Builtin.Dict.pairItems;refine i_ (wpAny_typeOf b1 ?_);obtain⟨b3,g',d',ca,b9⟩:=u;obtain⟨oc,od,b6,b5⟩:=oa;simp only at O ak;subst O ak;rw[c_ (by decide)]
   repeat (any_goals (first | assumption | wp_step))
  refine wpAny_tryCatch (S _ _ ?_);dsimp only;have ai:(l.take i).length<=sizeLine:=by rw[IU];lia
  have an:y.1∉(l.take i).map (·.1):=λz=>by
   obtain⟨x,a8,ex⟩:=vp.mp z;obtain⟨q,X⟩:=Qi.mp a8;rw[Nv]at X
   split at X
   .rename_i cc
    have e1:(l.map (·.1))[q]?=J y.1:=by rw[tx,X];simp[ex]
    have e2:(l.map (·.1))[i]?=J y.1:=by rw[tx,hk];rfl
    have l1:q<(l.map (·.1)).length:=(pj.mp e1).1
    have:=(Ii l1 nd).mp (e1.trans e2.symm)
    lia
   .cases X
  have a2:l.take (i+1)=l.take i++[y]:=by rw[List.take_succ,hk];rfl
  refine wpAny_holding (wpAny_dictSet_pairs (knd:=intKind prog w) (k:=y.1) (intKind_is prog w y.1 t) b0 (λh' hD sb=>?_) ai);rw[vj an,show l.take i++[(y.1,y.2)]=l.take (i+1)from a2.symm]at hD;have bm:Gp H0 h':=λq o e=>by
   have X:q≠d:=by rintro rfl;rw[a5]at e;cases e
   exact(sb.2 q X).trans (ar q o e)
  refine pz ⟨plainId_quiet gx _,ih (i+1) _ _ _ ⋯ al (W.frame _ u _ _ as (E1 _) λb U o e=>(sb.2 b (λq:b=d=>a0 (by rw[<-q];exact U))).trans e) bm hD λa3 ab a6 a9=>?_⟩;refine H a3 (Moved.trans W.gtrans ((hm.mono F).then_heap (E1 _) λb o U e=>?_) ab) a6 a9;exact(sb.2 b (λq:b=d=>U (by rw[q];exact A6))).trans e
set_option maxHeartbeats 3200000 in
theorem nR{a:Addr}{items:Array Value}{kvs:List (Int×Value)}{Q:RC}(hh:A.handled=Y)(ha:∃o k,s.heap.get? a=J o/\o.cls=.type "tuple"/\o.data=.seq items k/\o.dict=Y)(hn:kvs.length=items.size)(ai:items.size<=sizeLine)(nd:(kvs.map (·.1)).Nodup)(G:∀(i:Nat) v kv,items[i]?=J v->kvs[i]?=J kv->∃b t,v=.ref b/\s.heap.IsTuple b #[.int kv.1 t,kv.2])(h:∀(H:Heap) (tk:Nat),H.DictOf (intKind prog w) s.heap.objs.size kvs->Gp s.heap H->Q (.ref s.heap.objs.size) { s with heap:=H,toks:=tk}):
  wpAny (model prog w) A (call (.type "dict") [.ref a]) Q E s:=by
 refine callType_codes (Q₁:=λobj z=>obj=.ref s.heap.objs.size/\z={ s with heap:=s.heap.push { cls:=.type "dict",data:=.dict #[]}}) F.kt_called_dict (F.kt_typeCall_dict_1 _) F.entry_dict_init (kt_code_dict_new _ ⟨rfl,rfl⟩) ?_;rintro obj z ⟨rfl,rfl⟩;have l:(s.heap.push { cls:=.type "dict",data:=.dict #[]}).DictOf (intKind prog w) s.heap.objs.size []:=Heap.DictOf.new s.heap;refine⟨l.typeIs,F.args_dict_init_2 _ _,?_⟩;unfold Builtin.«dict.__init__»;refine i_ ?_;unfold Builtin.Dict.selfAndRest;refine i_ (wpAny_notOrdered_dict l.typeIs ?_);show wpAny _ _ (pure (s.heap.objs.size,[Value.ref a])) _ _ _;refine pz ?_;show wpAny _ _ (Builtin.Dict.updateFrom "dict.__init__" s.heap.objs.size (.ref a) [] .none) _ _ _;unfold Builtin.Dict.updateFrom;obtain⟨P,ka,u,C,S,W⟩:=ha;have y:(s.heap.push { cls:=.type "dict",data:=.dict #[]}).get? a=J P:=qr _ u;have R:A.in1.in1.handled=Y:=by simp[hh]
 refine i_ (wpAny_typeOf (T:="tuple") ⟨P,y,C⟩ ?_);rw[c_ (by decide)];refine i_ (wt y C S W R λB al e hx=>?_);rw[c_ (by rfl)];have x1:Gp s.heap B:=λb o eb=>hx.keeps b o (qr _ eb);have L:B.DictOf (intKind prog w) s.heap.objs.size []:=iV l λo eo=>hx.keeps _ o eo;have O:B.IsTuple a items:=⟨P,x1 a P u,C,ka,S⟩;refine i_ (wpAny_rule (i_ (wpAny_pyIter_tuple (s:={ s with heap:=B,toks:=al}) O ?_)));have M:s.heap.objs.size<B.objs.size:=by obtain⟨o,_,_,ho,_⟩:=L;exact pa ho
 have ak:a<B.objs.size:=pa (x1 a P u);have has:a<s.heap.objs.size:=pa u;have j:∀b,s.heap.objs.size<=b->s.heap.get? b=Y:=λb hb=>by
  cases e:s.heap.get? b with
  |none=>rfl
  |some o=>exact absurd (pa e) (Nat.not_lt.mpr hb)
 refine pz ⟨plainId_quiet gx _,?_⟩
 refine Kl (A:=A.in1) (H0:=s.heap) ((Walks.tuple (A:=A.in1.in1) R B.objs.size a (wm ak) items).toS) s.heap.objs.size (by simp only[n8,DP,or_false,not_or];exact⟨wm M,DT has⟩) (j _ (mm _)) (λb hb=>by
   have:b=B.objs.size:=by simpa using hb
   rw[this];exact j _ (E0 M)) kvs hn ai nd G items.size 0 _ 0 0 ⋯ (Ja _) ⟨⟨_,AB _ rfl,rfl,rfl⟩,O.push _⟩ (λb o e=>qr _ (x1 b o e)) (iV L λo e=>qr _ e) ?_
 intro s' hm X U;obtain⟨H,g',d',Z,ab⟩:=s';have eg:g'=s.gens:=hm.gens;have ed:d'=s.drawn:=hm.drawn;have eo:ab=s.os:=hm.os;subst eg;subst ed;subst eo;exact⟨rfl,h H Z U X⟩
end
end DcT
namespace MM
open PySem.Spec PyProof.Rows L2 DcT
section
variable{X:Cx}{N W G:RM}{k:Nat}
local instance inhPV:Inhabited PV:=⟨.non⟩
def ib:RL->Option (List (Int×PV))
 |[]=>J []
 |.tup [.int k,v]::r=>(ib r).map ((k,v)::·)
 |_=>Y
def Km(x:PV):Option (List (Int×PV)):=match x with
 |.tup i=>(match ib i with
  |some a=>if(a.map (·.1)).Nodup then J a else Y
  |none=>Y)
 |_=>Y
def vi{K:g_}{U:RT}{H:Hp}:∀{xs:RL}{ys:List V}{z:RU}{a:List (Int×PV)},RPs K U H xs ys->aL ys z->ib xs=J a ->
  xs.length=a.length/\∀(i:Nat) u j,z[i]?=J u->a[i]?=J j->∃b w,u=.ref b/\SqT K H b [.int j.1,w]/\RP K U H j.2 w:=by
 intro xs
 induction xs with
 |nil =>
  intro ys z a r v e;cases r;cases v;cases e;exact⟨rfl,λi u j h=>by simp at h⟩
 |cons x xs M =>
  intro ys z a r v e
  cases r with
  |cons F Q =>
   cases v with
   |cons C E =>
    unfold ib at e
    split at e
    .rename_i h;cases h
    .rename_i S Z r0 h
     injection h with y l
     subst y l;rw[Ai]at e;obtain⟨B,e1,rfl⟩:=e;obtain⟨hl,hv⟩:=M Q E e1;refine⟨by simp[hl],λi u j y l=>?_⟩
     cases i with
     |zero =>
      simp at y l;subst y l
      cases F with
      |tup sq rp =>
       cases rp with
       |cons P L=>cases L with
        |cons O R =>
         cases R;cases P;exact⟨_,_,C,sq,O⟩
     |succ i =>
      exact hv i u j y l
    .cases e
def nL(K:g_)(x:Str)(i j:Int):Prop:=∃(a:Addr) (t l:Tok) (n:Nat) (sl:Array (RW)),PySem.W.nsIn K mainGlobals x=J (J (.ref a))/\K.lookup a=J ⟨.type "tuple",Y,.seq #[.int i t,.int j l] n,sl⟩
def mH(K:g_)(mg:Aq)(x:Str)(i j:Int):Prop:=∃(a:Addr) (t l:Tok) (n:Nat) (sl:Array (RW)),mg x=J (.ref a)/\K.lookup a=J ⟨.type "tuple",Y,.seq #[.int i t,.int j l] n,sl⟩
def Cs{K:g_}{x:Str}{i j:Int}{a:Addr}{t u:Tok}{n:Nat}{sl:Array (RW)}(h:PySem.W.nsIn K mainGlobals x=J (J (.ref a)))(l:K.lookup a=J ⟨.type "tuple",Y,.seq #[.int i t,.int j u] n,sl⟩):nL K x i j:=⟨a,t,u,n,sl,h,l⟩
def nL.mg{K:g_}{mg:Aq}{base:Heap}{x:Str}{i j:Int}(z:nL K x i j)(kin:K.In base)(ns:base.Ns mainGlobals mg):mH K mg x i j:=by obtain⟨a,t,u,n,sl,h,l⟩:=z;exact⟨a,t,u,n,sl,PySem.W.mg_of kin ns h,l⟩
def w9(g:Good X N W G k){x:Str}{q:Nat}{i j:Int}{l:Pos}(u:G[q]?=J x)(hm:mH X.K X.mg x i j):ME X (.Name x l) (mC (.tup [.int i,.int j])):=by obtain⟨a,t,y,n,sl,hm,hl⟩:=hm;have d:=g.dbg x (tf _ (aD u));exact PE.imp (pD (v:=.ref a) (g.gl x (aD u)) hm rfl d.1) λZ H Q ⟨U,z,h,C,B,q⟩=>q U H _ (Le.refl _ _) B (.tup (ys:=[.int i,.int j]) (.inr ⟨_,_,n,hl,rfl,⟨rfl,rfl⟩,by show 2<=sizeLine;decide,.cons ⟨t,rfl⟩ (.cons ⟨y,rfl⟩ .nil)⟩) (.cons (.int _) (.cons (.int _) .nil)))
end
end MM
namespace MM
open PySem.Spec PyProof.Rows L2
end MM
namespace MM
open PySem.Spec PyProof.Rows L2 SetT SortT
end MM
namespace MM
open PySem.Spec PyProof.Rows L2 DcT
def Ct(a:List (q_×V))(k:q_):Option V:=(a.find? λi=>decide (i.1=k)).map (·.2)
def KV.val{a:List (q_×V)}{i:List (q_×Value)}(r:KV a i)(k:q_):gP (Ct a k) (valueAt i k):=by
 induction r with
 |nil=>exact True.intro
 |@cons p q y z h t j =>
  obtain⟨u,l⟩:=h;unfold Ct valueAt at *;rw[Me,Me,<-u];by_cases e:p.1=k
  .simp only[e];exact l
  .simp only[e];exact j
def Gq{a:List (q_×V)}{i:List (q_×Value)}(r:KV a i):a.length=i.length:=by
 induction r with
 |nil=>rfl
 |cons h t j=>simp[j]
def s_(a:RN)(xs:List α)(i:Int):Option α:=match a,xs with
 |k::a,x::xs=>if k=i then J x else s_ a xs i
 |_,_=>Y
def jn(a:RN)(xs:List α)(i:Int)(v:α):RN×List α:=match a,xs with
 |k::a,x::xs=>if k=i then(k::a,v::xs)else(k::(jn a xs i v).1,x::(jn a xs i v).2)
 |_,_=>([i],[v])
def yx{a:RN}{xs:List α}{i:Int}{v:α}(h:xs.length=a.length):(jn a xs i v).2.length=(jn a xs i v).1.length/\(jn a xs i v).1.length<=a.length+1:=by
 induction a generalizing xs with
 |nil=>simp[jn]
 |cons k a j =>
  cases xs with
  |nil=>simp at h
  |cons x xs =>
   simp at h;unfold jn;split
   .simp[h]
   .simp_all
def tQ{a:RN}{ys:List V}{i:Int}(h:ys.length=a.length):Ct (kz a ys) (.inl i)=s_ a ys i:=by
 induction a generalizing ys with
 |nil=>cases ys<;>rfl
 |cons k a j =>
  cases ys with
  |nil=>simp at h
  |cons y ys =>
   have:=j (by simpa using h)
   unfold kz Ct at *;rw[pk,List.zip_cons_cons,Me,s_];by_cases e:k=i
   .simp[e]
   .simp only[show ¬(Sum.inl k:q_)=.inl i from λz=>e (by cases z;rfl),hI e];exact this
def fE{a:List (q_×Value)}{i:q_}:a.any (λj=>decide (j.1=i))=I↔i∈a.map Prod.fst:=by simp
def Gu{a:RN}{ys:List V}{l:List (q_×Value)}{i:Int}{y:V}{u:Value}(h:ys.length=a.length)(nd:(l.map (·.1)).Nodup)(r:KV (kz a ys) l)(F:aQ y u):
  KV (kz (jn a ys i y).1 (jn a ys i y).2) (stored l (.inl i) u):=by
 induction a generalizing ys l with
 |nil =>
  have:l=[]:=by cases ys<;>cases r<;>rfl
  subst this;exact .cons ⟨rfl,F⟩ .nil
 |cons k a j =>
  cases ys with
  |nil=>simp at h
  |cons z ys =>
   have H:ys.length=a.length:=by simpa using h
   cases r with
   |@cons _ q _ B G t =>
    obtain⟨O,M⟩:=q;obtain⟨e1,e2⟩:=G;cases e1;rw[pk,Aj]at nd;have j:=j H nd.2 t;unfold stored at *;unfold jn;by_cases e:k=i
    .subst e;rw[c_ rfl,c_ (fE.mpr (by simp))];refine .cons ⟨by simp,by simp[F]⟩ ?_
     have:(B.map λC=>if C.1=(Sum.inl k:q_)then(C.1,u)else C)=B:=by
      conv=>rhs;rw[<-Jb B]
      refine BF λx L=>?_;rw[hI]
      .rfl
      .intro z;exact nd.1 (vp.mpr ⟨x,L,z⟩)
     rw[this];exact t
    .have E:¬(Sum.inl k:q_)=.inl i:=λz=>e (by cases z;rfl);rw[hI e];by_cases m:(Sum.inl i:q_)∈B.map Prod.fst
     .rw[c_ (fE.mpr m)]at j;rw[c_ (fE.mpr (n4 _ m))];exact .cons ⟨by simp[E],by simp[E,e2]⟩ j
     .rw[hI (λz=>m (fE.mp z))]at j;rw[hI (λz=>(n8.mp (fE.mp z)).elim (λz=>E z.symm) m)];exact .cons ⟨rfl,e2⟩ j
section
variable{K:g_}{U:RT}{H:Hp}
def o7{ks:RN}{xs:RL}{ys:List V}(r:RPs K U H xs ys)(i:Int):match s_ ks xs i with
  |some x=>∃y,s_ ks ys i=J y/\RP K U H x y
  |none=>s_ ks ys i=Y:=by
 induction ks generalizing xs ys with
 |nil=>cases xs<;>cases ys<;>rfl
 |cons k ks j =>
  cases r with
  |nil=>rfl
  |cons a t =>
   unfold s_;by_cases e:k=i
   .simp only[c_ e];exact⟨_,rfl,a⟩
   .simp only[hI e];exact j t
def zX{ks:RN}{xs:RL}{ys:List V}{v:PV}{y:V}(r:RPs K U H xs ys)(q:RP K U H v y)(i:Int):(jn ks xs i v).1=(jn ks ys i y).1/\RPs K U H (jn ks xs i v).2 (jn ks ys i y).2:=by
 induction ks generalizing xs ys with
 |nil=>exact⟨by simp[jn],by simpa using .cons q .nil⟩
 |cons k ks j =>
  cases r with
  |nil=>exact⟨rfl,.cons q .nil⟩
  |cons a t =>
   unfold jn;by_cases e:k=i
   .simp only[c_ e];exact⟨trivial,.cons q t⟩
   .simp only[hI e];obtain⟨l,u⟩:=j t;exact⟨by rw[l],.cons a u⟩
end
def cL(h:MH)(y:PV):Option (Bool×RN×RL):=match y with
 |.loc n=>(match h[n]? with
  |some (.dic fz a xs)=>J (fz,a,xs)
  |_=>Y)
 |_=>Y
def jq{X:Cx}{U:RT}{H:Hp}{h:MH}{x:PV}{y:V}{fz:Bool}{i:RN}{xs:RL}(u:RH X.K X.mg U H h)(r:RP X.K U H x y)(e:cL h x=J (fz,i,xs)):
  ∃n a ys,x=.loc n/\U[n]?=J a/\y=.ref a/\h[n]?=J (.dic fz i xs)/\ys.length=i.length/\RPs X.K U H xs ys/\dO fz (H a) (.dK (kz i ys)):=by
 cases r with
 |@loc n a j =>
  obtain⟨o,l,B⟩:=u.obj j;unfold cL at e;dsimp only at e;rw[l]at e
  cases o with
  |dic f k z =>
   cases e;obtain⟨ys,e1,e2,e3⟩:=B;exact⟨n,a,ys,rfl,j,rfl,l,e1,e2,e3⟩
  |_=>cases e
 |_=>cases e
def qU(a:Bool)(x y:PV)(h:MH):RB:=match x,cL h y with
 |.int i,J (_,j,xs)=>.ok (.bl (if a then !(s_ j xs i).isSome else(s_ j xs i).isSome)) h
 |_,_=>.bad
def lK(x y:PV)(h:MH):RB:=match y,cL h x with
 |.int i,J (_,a,xs)=>Out.ofO (s_ a xs i) h
 |_,_=>.bad
section
variable{X:Cx}{N W G:RM}{k:Nat}
def Aa{K:g_}{U:RT}{H:Hp}{j:RN}{xs:RL}{ys:List V}{z:List (q_×Value)}{i:Int}(hl:ys.length=j.length)(r:RPs K U H xs ys)(l:KV (kz j ys) z):(s_ j xs i).isSome=(valueAt z (.inl i)).isSome:=by
 have a:=KV.val l (.inl i);rw[tQ hl]at a;have b:=o7 (ks:=j) r i
 cases e:s_ j xs i with
 |none =>
  rw[e]at b;rw[b]at a;rw[gP.none_of a];rfl
 |some x =>
  rw[e]at b;obtain⟨y,e1,_⟩:=b;rw[e1]at a;obtain⟨u,e2,_⟩:=gP.some_of a;rw[e2];rfl
def xN(j:Bool):zE X (compareOp (if j then .NotIn else .In)) (qU j):=by
 intro S s Z H x' y' u v Q l L C ⟨U,h,x,y,E,O,P,q⟩;unfold qU at q
 split at q
 .rename_i i fz ks xs M
  obtain⟨n,a,ys,rfl,R,rfl,eo,hl,F,d⟩:=jq E P M;cases O;obtain⟨t,rfl⟩:=L;cases C;obtain⟨z,hd,vs,B,dd⟩:=lu l.hok d;have e:=Aa (i:=i) hl F B
  cases j with
  |false =>
   refine wpAny_in_of (eA _ _ i t) hd dd.mapOf ⟨.bl _,H,l.tok _,rfl,?_⟩;rw[<-e];exact q U H _ (Le.refl _ _) E (.bl _)
  |true =>
   refine wpAny_notIn_of (eA _ _ i t) hd dd.mapOf ⟨.bl _,H,l.tok _,rfl,?_⟩;rw[<-e];exact q U H _ (Le.refl _ _) E (.bl _)
 .exact q.elim
def xF{ea b:Expr}{ma mb:Mx PV}{al:Pos}(ha:ME X ea ma)(hb:ME X b mb)(hs:∀ov iv,subscripted b T ov iv=operate [ov,iv] (getItem ov iv):=by exact λ_ _=>rfl):ME X (.Subscript ea b al) (ao lK ma mb):=by
 intro J4 s Z H Q ak ⟨U,j,h,rs,rh,q⟩;refine Subscript_ (j_ (ha J4 s Z H (λx' F=>∃C P x,Le U H C F/\RH X.K X.mg C F P/\RP X.K C F x x'/\Ful X (RV' X) j C F ((mb j P).bind λy O=>(lK x y O).ne) Q) ak ⟨U,j,h,rs,rh,Ful.bind q λC F x x' P _ l1 M rx q1=>⟨C,P,x,l1,M,rx,q1⟩⟩) λu s1 ⟨x',F,I1,r1,C,P,x,l1,M,rx,q1⟩=>j_ (hb J4 s1 Z F (λy' L=>∃E O y,Le C F E L/\RH X.K X.mg E L O/\RP X.K E L y y'/\Ful X (RV' X) j E L (lK x y O).ne Q) I1 ⟨C,j,P,rs.le l1,M,Ful.bind q1 λE L y y' O _ l2 B R l=>⟨E,O,y,l2,B,R,l⟩⟩) λiv s2 ⟨y',L,I2,r2,E,O,y,l2,B,R,l⟩=>?_);unfold lK at l
 split at l
 .rename_i i fz ks xs ed
  obtain⟨n,a,ys,rfl,en,rfl,eo,hl,ai,d⟩:=jq B (rx.le l2) ed;cases R;obtain⟨t,rfl⟩:=r2;cases r1;obtain⟨z,hd,vs,ab,dd⟩:=lu I2.hok d
  cases ex:s_ ks xs i with
  |none=>rw[ex]at l;exact l.elim
  |some x =>
   rw[ex]at l;have b:=o7 (ks:=ks) ai i;rw[ex]at b;obtain⟨y,e1,R⟩:=b;have ra:=KV.val ab (.inl i);rw[tQ hl,e1]at ra;obtain⟨w',hw,rw'⟩:=gP.some_of ra;have hT:=dd.typeIs;refine i_ ?_;refine i_ (wpAny_specialOf hT PySem.F.slot_dict_getitem.lookup ?_);have fin:wpAny (model X.prog X.w) X.A (subscripted b T (.ref a) (.int i t)) (λr S=>wpAny (model X.prog X.w) X.A (letTemporaryGo ea (.ref a) r >>= λ_=>pure r) (EP X J4 Z Q) X.xe S) X.xe s2:=by rw[hs (.ref a) (.int i t)];exact wpAny_operating (wpAny_getItem_of (eA _ _ i t) dd.mapOf hw (i_ (wpAny_letTemporaryGo (pz ⟨y,L,I2.tok _,rw',l E L _ (Le.refl _ _) B R⟩))))
   first
    |exact pz (i_ fin)
 .exact l.elim
def Qw(m:Mx PV)(u:Mx (RL)):Mx PV:=λZ h=>(m Z h).bind λx j=>match x,cL j x with
 |.loc n,J _=>(u Z j).bind λl a=>match l,cL a (.loc n) with
  |[.int i,d],J (_,y,xs)=>.ok ((s_ y xs i).getD d) a
  |_,_=>.bad
 |_,_=>.bad
def Cu{z:RV}{Z:L2.St}{H:Hp}{s:Shared}{fz:Bool}{a:Addr}{l:List (q_×V)}(j:Inv X z Z H s)(d:dO fz (H a) (.dK l)):
  s.TypeIs (.ref a) "dict"/\(∀b,Value.ref a=.ref b->∃i,s.heap.get? b=J i/\i.dict=Y)/\(a==sysModules)=T:=by
 obtain⟨_,hd,B,_,dd⟩:=lu j.hok d;refine⟨dd.typeIs,λb q=>?_,hd⟩;cases q;obtain⟨i,_,_,y,u,_⟩:=dd;exact⟨i,y,u.2.1⟩
def Kn{o a b:Expr}{m:Mx PV}{ma:Mx (RL)}{R j:Pos}(he:ME X o m)(ha:MA X [a,b] ma)(S:attributeBase o "get" X.env (eval o X.env)=eval o X.env:=by rfl)(ar:((backTo j (starEach [a,b] X.env)).all (λx=>!x.1)&&(backToKw j (keywordEach [] X.env)).all (λx=>x.1.isSome)
   && decide ([a,b].length+([]:List Keyword).length+(if([]:List Keyword).isEmpty then 0 else 1)<30))=I:=by rfl)(al:(R.endLine==j.line)=I:=by rfl)(hs:starEach [a,b] X.env=(T,eval a X.env)::starEach [b] X.env:=by rfl)(O:(backTo j (starEach [b] X.env)).any (·.1)=T:=by rfl):
  ME X (.Call (.Attribute o "get" R) [a,b] [] j) (Qw m ma):=by
 intro J4 s Z H Q a5 ⟨U,l,h,rs,rh,q⟩
 refine wpAny_Call_method_late S ar al rfl (j_ (he J4 s Z H (λx' P=>∃F h1 x,Le U H F P/\RH X.K X.mg F P h1/\RP X.K F P x x'/\Ful X (RV' X) l F P (match x,cL h1 x with
 |.loc n,J _=>(ma l h1).bind λE M=>match E,cL M (.loc n) with
  |[.int i,d],J (_,ks,xs)=>.ok ((s_ ks xs i).getD d) M
  |_,_=>.bad
 |_,_=>.bad) Q) a5 ⟨U,l,h,rs,rh,Ful.bind q λF P x x' h1 _ l1 C rx q1=>⟨F,h1,x,l1,C,rx,q1⟩⟩) λv s1 ⟨x',P,I1,r1,F,h1,x,l1,C,rx,q1⟩=>?_)
 split at q1
 .rename_i n w ew
  obtain⟨_,ad,ys,e0,en,rfl,eo,hl,b0,d⟩:=jq C rx ew;cases e0;cases r1;obtain⟨t1,t2,_⟩:=Cu I1 d;refine⟨"dict","dict.get",PySem.F.plainAttrs_dict,PySem.F.slot_dict_get,PySem.F.type_dict_get,t1,t2,?_⟩
  have hA:=ha j J4 s1 Z P (λai L=>∃u M E,Le F P u L/\RH X.K X.mg u L M/\RPs X.K u L E ai/\Ful X (RV' X) l u L (match E,cL M (.loc n) with
   |[.int i,d],J (_,ks,xs)=>.ok ((s_ ks xs i).getD d) M
   |_,_=>.bad) Q) I1 ⟨F,l,h1,rs.le l1,C,Ful.bind q1 λu L E ai M _ l2 B ab q2=>⟨u,M,E,l2,B,ab,q2⟩⟩
  rw[hs]at hA ⊢;refine Calls.callWith_builtin (by show(T||(backTo j (starEach [b] X.env)).any (·.1))=T;rw[O]<;>rfl) (Calls.evalArgs_plain ?_);refine j_ hA λus s2 ⟨ai,L,I2,r2,u,M,E,l2,B,ab,q2⟩=>?_
  split at q2
  .rename_i i dd ca ak an a8
   obtain⟨_,b5,b9,e0,b6,e1,bm,as,ap,d2⟩:=jq B (.loc (l2.get en)) a8;cases e0;cases e1
   cases ab with
   |cons a1 a2=>cases a2 with
    |cons a3 a4 =>
     cases a4;cases a1
     cases r2 with
     |cons b1 b2=>cases b2 with
      |@cons _ u3 _ _ b3 b4 =>
       cases b4;obtain⟨t,rfl⟩:=b1;obtain⟨z,hd,E,a0,de⟩:=lu I2.hok d2;have ra:=KV.val a0 (.inl i);rw[tQ as]at ra;have rb:=o7 (ks:=ak) ap i;have fin:∃v',aQ v' ((valueAt E (.inl i)).getD u3)/\RP X.K u L ((s_ ak an i).getD dd) v':=by
        cases ex:s_ ak an i with
        |none =>
         rw[ex]at rb;dsimp only at rb;rw[rb]at ra;rw[gP.none_of ra];exact⟨_,b3,a3⟩
        |some x =>
         rw[ex]at rb;obtain⟨y,e1,ry⟩:=rb;rw[e1]at ra;obtain⟨w',hw,rw'⟩:=gP.some_of ra;rw[hw];exact⟨y,rw',ry⟩
       obtain⟨v',a9,a6⟩:=fin;exact call_meetsIn PySem.F.slot_dict_get de.typeIs PySem.F.entry_dict_get (PySem.F.args_dict_get_3 _ _ _) (meets_dict_get_default (eX X.prog X.w) ad (eA _ _ i t) hd _) ⟨_,de.mapOf,v',L,I2.tok _,a9,q2 u L _ (Le.refl _ _) B a6⟩
  .exact q2.elim
 .exact q1.elim
def kh(mo l mv:Mx PV):n0:=w_ mv λv=>w_ mo λo=>w_ l λi Z h=>match o,i,cL h o with
 |.loc n,.int j,J (T,a,xs)=>if a.length<sizeLine then .nx Z (h.set n (.dic T (jn a xs j v).1 (jn a xs j v).2))else .bad
 |_,_,_=>.bad
def Cv{o i B:Expr}{mo mi mv:Mx PV}{ab O:Pos}(ho:ME X o mo)(hi:ME X i mi)(hv:ME X B mv)(hs:swapsWith B (J (.Subscript o i O)) ab.line X.env=pure T:=by rfl):
  MS X (.Assign [.Subscript o i O] B ab) (kh mo mi mv):=by
 intro J4 s Z H D ap ⟨U,l,h,rs,rh,q⟩;unfold kh at q
 have kk:tM X (RV' X) mv Z H (λC H1=>tM X (RV' X) mo Z H1 λo' H2=>tM X (RV' X) mi Z H2 λi' F=>∃E L v o i,RH X.K X.mg E F L/\RS X.K E F l Z/\RP X.K E F v C/\RP X.K E F o o'/\RP X.K E F i i'/\bj X E F (match o,i,cL L o with
  |.loc n,.int j,J (T,y,xs)=>if y.length<sizeLine then .nx l (L.set n (.dic T (jn y xs j v).1 (jn y xs j v).2))else .bad
  |_,_,_=>.bad) D):=by
  refine⟨U,l,h,rs,rh,?_⟩;unfold w_ at q
  cases e:mv l h with
  |exc x h1=>rw[e]at q;exact q
  |bad=>rw[e]at q;exact q
  |ok v h1 =>
   rw[e]at q;intro U1 H1 C P as rv;dsimp only at q;refine⟨U1,l,h1,rs.le P,as,?_⟩
   cases e2:mo l h1 with
   |exc x h2=>rw[e2]at q;exact XP.le (X:=X) (σp:=l) (x:=x) (h:=h2) P q
   |bad=>rw[e2]at q;exact q
   |ok ov h2 =>
    rw[e2]at q;intro U2 H2 o' Q al ro;dsimp only at q;refine⟨U2,l,h2,(rs.le P).le Q,al,?_⟩
    cases e3:mi l h2 with
    |exc x L=>rw[e3]at q;exact XP.le (X:=X) (σp:=l) (x:=x) (h:=L) Q (XP.le (X:=X) (σp:=l) (x:=x) (h:=L) P q)
    |bad=>rw[e3]at q;exact q
    |ok iv L =>
     rw[e3]at q;intro E F i' l3 M ri;exact⟨E,L,v,ov,iv,M,((rs.le P).le Q).le l3,(rv.le Q).le l3,ro.le l3,ri,bj.le l3 (bj.le Q (bj.le P q))⟩
 refine wpAny_Assign_Subscript (j_ (hv J4 s Z H _ ap kk) λr s1 ⟨C,H1,I1,rv,q1⟩=>j_ (ho J4 s1 Z H1 _ I1 q1) λu s2 ⟨o',H2,I2,ru,q2⟩=>j_ (hi J4 s2 Z H2 _ I2 q2) λiv s3 ⟨i',F,I3,ri,E,L,v,ov,i,M,an,pv,po,pi,R⟩=>?_) hs
 split at R
 .rename_i n j y xs ed
  obtain⟨_,a,ys,e0,en,rfl,eo,hl,ak,d⟩:=jq M po ed;cases e0;cases pi;obtain⟨t,rfl⟩:=ri;cases ru;by_cases hz:y.length<sizeLine
  .rw[c_ hz]at R;have d':F a=J (.dK (kz y ys)):=d;obtain⟨z,hd,vs,S,dd⟩:=lu I3.hok d;obtain⟨p1,p2⟩:=zX (ks:=y) ak pv j;obtain⟨P,Q⟩:=yx (i:=j) (v:=C) hl;have nd:(vs.map (·.1)).Nodup:=by obtain⟨_,_,_,_,_,_,_,_,nd⟩:=dd;exact nd
   have ar:(kz (jn y ys j C).1 (jn y ys j C).2).length<=sizeLine:=by unfold kz;rw[List.length_zip,yP];lia
   refine wpAny_setItem_pairs (hsz:=by rw[<-Gq S];exact z) (eA _ _ j t) dd λh' ai a0=>?_;have he:∃q,h'.get? a=J q:=let⟨q,_,_,hq,_⟩:=ai;⟨q,hq⟩;have I4:Inv X J4 Z (upd F a (.dK (kz (jn y ys j C).1 (jn y ys j C).2))) { s3 with heap:=h',toks:=s3.toks+1} :=
    I3.write (x:=a) (e:=a) (by rw[d'];exact True.intro) (.inl rfl) (λb q hb z=>(a0.2 b hb).trans z) he ⟨ar,hd,_,Gu hl nd S rv,ai⟩
   obtain⟨a1,l4⟩:=M.put en (o:=.dic T (jn y xs j v).1 (jn y xs j v).2) (ho:=.dK (kz (jn y ys j C).1 (jn y ys j C).2)) ⟨(jn y ys j C).2,by rw[p1];exact P,p2,by rw[p1];rfl⟩;exact⟨Z,_,I4,R E _ Z l4 a1 (an.le l4)⟩
  .rw[hI hz]at R;exact R.elim
 .exact R.elim
end
section
variable{X:Cx}{N W G:RM}{k:Nat}
local instance inhPV2:Inhabited PV:=⟨.non⟩
def xX{P:Program}{w:World}{j:List DictEntry}{i:List (Int×Value)}(p:Pairs (intKind P w) j i):Pairs (eX P w) j (i.map λl=>((Sum.inl l.1:q_),l.2)):=by
 induction p with
 |nil=>exact .nil
 |cons a b _ u=>exact .cons a b u
def Gw{P:Program}{w:World}{h:Heap}{a:Addr}{l:List (Int×Value)}(d:h.DictOf (intKind P w) a l):h.DictOf (eX P w) a (l.map λj=>((Sum.inl j.1:q_),j.2)):=by
 obtain⟨o,B,C,H,F,u,L,y,nd⟩:=d;refine⟨o,B,C,H,F,u,λe E=>?_,xX y,?_⟩
 .obtain⟨i,e1,e2⟩:=L e E;exact⟨.inl i,e1,e2⟩
 .rw[wr];rw[show((λx:q_×Value=>x.1)∘λj:Int×Value=>((Sum.inl j.1:q_),j.2))=(Sum.inl∘λj:Int×Value=>j.1)from rfl,<-wr];exact(List.pairwise_map.mpr (List.Pairwise.imp (λh z=>h (by cases z;rfl)) nd))
def Gx{K:g_}{U:RT}{H:Hp}:∀{kvs:List (Int×PV)}{vals:List (Int×Value)},kvs.length=vals.length->(∀(i:Nat) a b,kvs[i]?=J a->vals[i]?=J b->a.1=b.1/\∃v,aQ v b.2/\RP K U H a.2 v) ->
  ∃ys:List V,ys.length=(kvs.map (·.1)).length/\RPs K U H (kvs.map (·.2)) ys/\KV (kz (kvs.map (·.1)) ys) (vals.map λj=>((Sum.inl j.1:q_),j.2)):=by
 intro kvs
 induction kvs with
 |nil =>
  intro vals hl _
  cases vals with
  |nil=>exact⟨[],rfl,.nil,.nil⟩
  |cons _ _=>simp at hl
 |cons a kvs u =>
  intro vals hl h
  cases vals with
  |nil=>simp at hl
  |cons b vals =>
   obtain⟨ys,e1,e2,e3⟩:=u (by simpa using hl) λi a b z y=>h (i+1) a b (by simpa using z) (by simpa using y);obtain⟨e,v,l,rp⟩:=h 0 a b rfl rfl;exact⟨v::ys,by simp at e1 ⊢;exact e1,.cons rp e2,.cons ⟨congrArg Sum.inl e,l⟩ e3⟩
def xg(i:RL)(h:MH):RB:=match i with
 |[x]=>(match Km x with
  |some a=>.ok (.loc h.length) (h++[.dic T (a.map (·.1)) (a.map (·.2))])
  |none=>.bad)
 |_=>.bad
def vF(g:Good X N W G k):c6 X (.type "dict") (λxs H Q=>∃U h ps j v,xs=[v]/\RH X.K X.mg U H h/\RP X.K U H (.tup ps) v/\ib ps=J j/\(j.map (·.1)).Nodup /\
   ∀l ys,H l=Y->ys.length=(j.map (·.1)).length->RPs X.K U H (j.map (·.2)) ys->Q (.ref l) (upd H l (.dK (kz (j.map (·.1)) ys)))):=by
 intro J4 s Z H xs us Q E r ⟨U,h,ps,j,v,e,rh,rp,ep,nd,q⟩;subst e;obtain⟨u,rfl,ru⟩:=r.one
 cases rp with
 |tup sq ab =>
  cases ru;obtain⟨B,rv,ht,hz⟩:=E.tupleN sq;obtain⟨hl,hv⟩:=vi ab rv ep;have a8:=rv.length;have a9:=ab.length;have S:∀i,i<B.length->∃b t C,B[i]?=J (.ref b)/\s.heap.IsTuple b #[.int (j[i]!).1 t,C]/\∃w,aQ w C/\RP X.K U H (j[i]!).2 w:=by
   intro i R;have F:i<j.length:=by lia
   obtain⟨b,w,e1,e2,e3⟩:=hv i B[i] j[i] (by simp[R]) (by simp[F]);obtain⟨bm,ar,ak,_⟩:=E.tuple e2
   cases ar with
   |cons a1 a2=>cases a2 with
    |cons a3 a4 =>
     cases a4;obtain⟨t,rfl⟩:=a1;refine⟨b,t,_,by rw[Ah R,e1],?_,w,a3,?_⟩
     .rw[getElem!_pos j i F];exact ak
     .rw[getElem!_pos j i F];exact e3
  have as:∃y:List (Int×Value),y.length=B.length/\∀i,i<B.length->∃b t C,y[i]?=J ((j[i]!).1,C)/\B[i]?=J (.ref b)/\s.heap.IsTuple b #[.int (j[i]!).1 t,C]/\∃w,aQ w C/\RP X.K U H (j[i]!).2 w:=by
   have:∀n,n<=B.length->∃y:List (Int×Value),y.length=n/\∀i,i<n->∃b t C,y[i]?=J ((j[i]!).1,C)/\B[i]?=J (.ref b)/\s.heap.IsTuple b #[.int (j[i]!).1 t,C]/\∃w,aQ w C/\RP X.K U H (j[i]!).2 w:=by
    intro n
    induction n with
    |zero=>exact λ_=>⟨[],rfl,λi R=>absurd R (Nat.not_lt_zero _)⟩
    |succ n ih =>
     intro hn;obtain⟨vs,e1,e2⟩:=ih ⋯;obtain⟨b,t,C,f1,f2,f3⟩:=S n ⋯;refine⟨vs++[((j[n]!).1,C)],by simp[e1],λi R=>?_⟩;by_cases z:i<n
     .obtain⟨b,t,C,L,g2⟩:=e2 i z;exact⟨b,t,C,by rw[qp ⋯];exact L,g2⟩
     .have:i=n:=by lia
      subst this;exact⟨b,t,C,by rw[AE ⋯,e1];simp,f1,f2,f3⟩
   exact this _ (mm _)
  obtain⟨y,al,M⟩:=as;have P:y.map (·.1)=j.map (·.1):=by
   apply IT;intro i;by_cases z:i<B.length
   .obtain⟨_,_,_,L,_⟩:=M i z;have F:i<j.length:=by lia
    rw[tx,tx,L,Ah F,getElem!_pos j i F];rfl
   .rw[Bf (by simp;lia),Bf (by simp;lia)]
  obtain⟨oa,a6,a0,⟨na,an⟩,ai⟩:=ht;refine nR (a:=_) (items:=B.toArray) (kvs:=y) (E.ok.hd g.calm) ⟨oa,na,a6,a0,an,ai⟩ (by simp[al]) (by simp;lia) (P▸nd) (λi v kv h1 O=>?_) λh' tk hD hx=>?_
  .have z:i<B.length:=by
    have:=(pj.mp O).1
    lia
   obtain⟨b,t,C,L,g2,g3,_⟩:=M i z;rw[L]at O;cases O
   have:v=.ref b:=by
    have e:B.toArray[i]?=B[i]?:=by simp
    rw[e,g2]at h1;exact(Option.some.inj h1).symm
   exact⟨b,t,this,g3⟩
  .have hn:H s.heap.objs.size=Y:=E.hok.fresh (mm _);have a5:=Inv.bigM E;obtain⟨ys,y1,y2,y3⟩:=Gx (K:=X.K) (U:=U) (H:=H) (kvs:=j) (vals:=y) ⋯ λi a b h1 O=>by
    have z:i<B.length:=by
     have:=(pj.mp O).1
     lia
    obtain⟨b',t,C,L,g2,g3,w,g4,g5⟩:=M i z;rw[L]at O;cases O;have F:i<j.length:=by lia
    rw[Ah F]at h1;cases h1;rw[getElem!_pos j i F]at g5 ⊢;exact⟨rfl,w,g4,g5⟩
   have ap:(kz (j.map (·.1)) ys).length<=sizeLine:=by unfold kz;rw[List.length_zip,yP,yP];lia
   exact⟨.ref s.heap.objs.size,_,E.laid (o:=.dK (kz (j.map (·.1)) ys)) hx (mm _) ⟨ap,beq_eq_false_iff_ne.mpr (DT a5),_,y3,Gw hD⟩,rfl,q _ ys hn y1 y2⟩
 |_=>cases ep
def Cw(g:Good X N W G k):cZ X (.type "dict") xg:=by
 intro L s Z H xs O Q j r ⟨U,h,B,u,rp,q⟩;unfold xg at q
 split at q
 .rename_i x
  cases rp with
  |cons E C =>
   cases C
   cases a:Km x with
   |none=>rw[a]at q;exact q.elim
   |some i =>
    rw[a]at q;unfold Km at a
    split at a
    .rename_i B
     split at a
     .rename_i z M
      split at a
      .rename_i nd
       cases a;refine vF g L s Z H _ O Q j r ⟨U,h,B,i,_,rfl,u,E,M,nd,λl ys hl S R=>?_⟩;have F:RO X.K X.mg U H l (.dic T (i.map Prod.fst) (i.map Prod.snd)) (J (.dK (kz (i.map Prod.fst) ys))):=⟨ys,S,R,rfl⟩;obtain⟨y,P⟩:=u.new hl F;exact q _ _ _ P y (.loc (by rw[<-u.len];simp))
      .cases a
     .cases a
    .cases a
 .exact q.elim
end
end MM
namespace PU
open MM
def ys{α:Type}{a b:α}(h:a=b):a=b:=h
inductive D where
 |non | bl (b:Bool) | int (i:Int) | str (x:Str) | tup (xs:List D) | lst (xs:List D) | dic (fz:Bool) (ks:RN) (ds:List D) | exc (c:Str) | pen
abbrev _root_.RR:=List D
abbrev _root_.RE:=Option D
abbrev d_:=Int×Int×Int
abbrev aq:=List (RE)
def bh(h:MH)(p:Nat)(s:d_):Prop:=h[p]?=J (.lst [.int s.1,.int s.2.1,.int s.2.2])
inductive OA(P:RL->Prop)(v:PV):Prop
 |mk(xs:RL)(e:v=.tup xs)(r:P xs):OA P v
inductive Qx(h:MH)(O:RQ)(P:RL->Prop)(v:PV):Prop
 |mk(n:Nat)(xs:RL)(e:v=.loc n)(no:n∉O)(g:h[n]?=J (.lst xs))(r:P xs):Qx h O P v
inductive Qy(h:MH)(O:RQ)(fz:Bool)(ks:RN)(P:RL->Prop)(v:PV):Prop
 |mk(n:Nat)(xs:RL)(e:v=.loc n)(no:n∉O)(g:h[n]?=J (.dic fz ks xs))(r:P xs):Qy h O fz ks P v
inductive Qz(h:MH)(O:RQ)(o:MO)(v:PV):Prop
 |mk(n:Nat)(e:v=.loc n)(no:n∉O)(g:h[n]?=J o):Qz h O o v
inductive OB(P:PV->Prop)(Q:RL->Prop)(vs:RL):Prop
 |mk(x:PV)(r:RL)(e:vs=x::r)(a:P x)(b:Q r):OB P Q vs
mutual
def Rp(p:Nat)(h:MH)(O:RQ):D->PV->Prop
 |.non,v=>v=.non
 |.bl b,v=>v=.bl b
 |.int i,v=>v=.int i
 |.str x,v=>v=.str x
 |.tup a,v=>OA (Rps p h O a) v
 |.lst a,v=>Qx h O (Rps p h O a) v
 |.dic fz j a,v=>Qy h O fz j (Rps p h O a) v
 |.exc c,v=>Qz h O (.exc ⟨c,[]⟩) v
 |.pen,v=>v=.loc p
def Rps(p:Nat)(h:MH)(O:RQ):RR->RL->Prop
 |[],a=>a=[]
 |d::i,a=>OB (Rp p h O d) (Rps p h O i) a
end
def aG{h:MH}{n:Nat}{o:MO}(e:h[n]?=J o):n<h.length:=(pj.mp e).1
structure Mv(O:RQ)(h:MH)(O':RQ)(h':MH):Prop where
 keep:∀n:Nat,n<h.length->n∉O->h'[n]?=h[n]?
 new:∀o∈O',o∈O\/h.length<=o
def Mv.get{O j:RQ}{h i:MH}(s:Mv O h j i){n:Nat}{o:MO}(e:h[n]?=J o)(a:n∉O):n∉j/\i[n]?=J o:=by
 have hl:=aG e;refine⟨λz=>?_,(s.keep n hl a).trans e⟩;rcases s.new n z with q|q
 .exact a q
 .lia
section
variable{p:Nat}{O O':RQ}{h h':MH}
def Rp.mv(s:Mv O h O' h')(r:Rp p h O d v):Rp p h' O' d v:=by
 refine D.rec (motive_2:=λu=>∀y,Rps p h O u y->Rps p h' O' u y)
  (λ_ r=>r) (λ_ _ r=>r) (λ_ _ r=>r) (λ_ _ r=>r) (λu i _ r=>?_) (λu i _ r=>?_) (λ_ _ u i _ r=>?_) (λ_ _ r=>?_) (λ_ r=>r) (λ_ r=>r) (λ_ _ i j _ r=>?_) d v r
 .obtain⟨xs,e,r⟩:=r;exact⟨xs,e,i _ r⟩
 .obtain⟨n,xs,e,l,g,r⟩:=r;exact⟨n,xs,e,(s.get g l).1,(s.get g l).2,i _ r⟩
 .obtain⟨n,xs,e,l,g,r⟩:=r;exact⟨n,xs,e,(s.get g l).1,(s.get g l).2,i _ r⟩
 .obtain⟨n,e,l,g⟩:=r;exact⟨n,e,(s.get g l).1,(s.get g l).2⟩
 .obtain⟨x,t,e,a,b⟩:=r;exact⟨x,t,e,i _ a,j _ b⟩
def Rps.mv(s:Mv O h O' h')(r:Rps p h O i vs):Rps p h' O' i vs:=by
 induction i generalizing vs with
 |nil=>exact r
 |cons d i j=>obtain⟨x,t,e,a,b⟩:=r;exact⟨x,t,e,a.mv s,j b⟩
def Rps.length(r:Rps p h O i vs):vs.length=i.length:=by
 induction i generalizing vs with
 |nil=>rw[show vs=[]from r];rfl
 |cons d i j=>obtain⟨x,t,e,a,b⟩:=r;rw[e,Ax,Ax,j b]
def Rps.get{j:RR}{l:RL}{i:Nat}{d:D}(r:Rps p h O j l)(g:j[i]?=J d):∃v,l[i]?=J v/\Rp p h O d v:=by
 induction j generalizing l i with
 |nil=>cases g
 |cons d j u =>
  obtain⟨x,t,e,a,b⟩:=r;subst e
  cases i with
  |zero=>cases g;exact⟨x,rfl,a⟩
  |succ i=>have z:=@u t i b g;exact z
def Rps.app(r:Rps p h O i vs)(s:Rps p h O es ws):Rps p h O (i++es) (vs++ws):=by
 induction i generalizing vs with
 |nil=>rw[show vs=[]from r];exact s
 |cons d i j=>obtain⟨x,t,e,a,b⟩:=r;subst e;exact⟨x,t++_,rfl,a,j b⟩
def Rps.take(n:Nat)(r:Rps p h O i vs):Rps p h O (i.take n) (vs.take n):=by
 induction i generalizing vs n with
 |nil=>rw[show vs=[]from r];cases n<;>rfl
 |cons d i j =>
  obtain⟨x,t,e,a,b⟩:=r;subst e
  cases n with
  |zero=>rfl
  |succ n=>exact⟨x,t.take n,rfl,a,j n b⟩
def Rps.drop(n:Nat)(r:Rps p h O i vs):Rps p h O (i.drop n) (vs.drop n):=by
 induction i generalizing vs n with
 |nil=>rw[show vs=[]from r];cases n<;>rfl
 |cons d i j =>
  cases n with
  |zero=>exact r
  |succ n=>obtain⟨x,t,e,a,b⟩:=r;subst e;exact j n b
def Rps.set(i:Nat)(r:Rps p h O j vs)(q:Rp p h O d v):Rps p h O (j.set i d) (vs.set i v):=by
 induction j generalizing vs i with
 |nil=>rw[show vs=[]from r];rfl
 |cons u j l =>
  obtain⟨x,t,e,a,b⟩:=r;subst e
  cases i with
  |zero=>exact⟨v,t,rfl,q,b⟩
  |succ i=>exact⟨x,t.set i v,rfl,a,l i b⟩
end
def dl:Option (RN)->RR->D
 |none,a=>.lst a
 |some i,a=>.dic T i a
def mo:Option (RN)->RL->MO
 |none,xs=>.lst xs
 |some a,xs=>.dic T a xs
def ir(e:D.lst ds=dl k es):k=Y/\ds=es:=by
 cases k with
 |none=>cases e;exact⟨rfl,rfl⟩
 |some _=>cases e
inductive QA(p:Nat)(h:MH)(L:Nat)(O:RQ)(d:D)(v:PV):Prop
 |mk(n:Nat)(k:Option (RN))(xs:RL)(ds:RR)(e:d=dl k ds)(e':v=.loc n)(o:n∈O)(l:L<=n)(g:h[n]?=J (mo k xs))(r:Rps p h O ds xs):QA p h L O d v
def Vw(p:Nat)(h:MH)(L:Nat)(O:RQ)(d:D)(v:PV):Prop:=Rp p h O d v\/QA p h L O d v
def Cy(p:Nat)(h:MH)(L:Nat)(O:RQ):RR->RL->Prop
 |[],a=>a=[]
 |d::i,a=>OB (Vw p h L O d) (Cy p h L O i) a
inductive Ko(p:Nat)(L:Nat)(O:RQ)(h:MH)(k:Option (RN))(ds:RR)(v:PV):Prop
 |mk(n:Nat)(xs:RL)(e:v=.loc n)(l:L<=n)(g:h[n]?=J (mo k xs))(r:Rps p h (n::O) ds xs):Ko p L O h k ds v
def Frs(p:Nat)(L:Nat)(O:RQ)(h:MH)(d:D)(v:PV):Prop:=∀k a,d=dl k a->Ko p L O h k a v
structure KB(p:Nat)(h h':MH):Prop where
 len:h.length<=h'.length
 keep:∀n:Nat,n<h.length->n≠p->h'[n]?=h[n]?
def KB.refl(p:Nat)(h:MH):KB p h h:=⟨mm _,λ_ _ _=>rfl⟩
def KB.trans(a:KB p h h1)(b:KB p h1 h2):KB p h h2 :=
 ⟨pu a.len b.len,λn j i=>(b.keep n (r_ j a.len) i).trans (a.keep n j i)⟩
def KB.app(p:Nat)(h g:MH):KB p h (h++g):=⟨by simp,λn a _=>qp a⟩
def KB.mv(k:KB p h h')(j:p∈O):Mv O h O h' :=
 ⟨λn l a=>k.keep n l λz=>a (z▸j),λo i=>.inl i⟩
def bh.app{p:Nat}{h g:MH}{s:d_}(e:bh h p s):bh (h++g) p s:=by unfold bh at *;rw[qp (aG e)];exact e
def Vw.kb{p L:Nat}{h a:MH}{O:RQ}{d:D}{v:PV}(k:KB p h a)(i:p∈O)(hL:p<L)(w:Vw p h L O d v):Vw p a L O d v:=by
 rcases w with r|⟨n,j,xs,y,e1,e2,l,u,g,r⟩
 .exact .inl (r.mv (k.mv i))
 .exact .inr ⟨n,j,xs,y,e1,e2,l,u,(k.keep n (aG g) ⋯).trans g,r.mv (k.mv i)⟩
inductive PR(α:Type) where
 |ok(a:α)(s:d_)
 |exc(c:qx)(s:d_)
 |bad
def PR.bind{α β:Type}(r:PR α)(f:α->d_->PR β):PR β:=match r with
 |.ok a s=>f a s
 |.exc c s=>.exc c s
 |.bad=>.bad
@[simp]theorem Pb(a:α)(s:d_)(f:α->d_->PR β):(PR.ok a s).bind f=f a s:=rfl
@[simp]theorem Pe(c:qx)(s:d_)(f:α->d_->PR β):(PR.exc c s).bind f=.exc c s:=rfl
@[simp]theorem Pd(f:α->d_->PR β):(PR.bad:PR α).bind f=.bad:=rfl
def PR.of{α:Type}(o:Option α)(s:d_):PR α:=match o with
 |some a=>.ok a s
 |none=>.bad
@[simp]theorem Pf(a:α)(s:d_):PR.of (J a) s=.ok a s:=rfl
@[simp]theorem Pn(s:d_):PR.of (Y:Option α) s=.bad:=rfl
inductive QB{α β:Type}(p:Nat)(h:MH)(o:Out β)(a:α)(s:d_)(R:MH->α->β->Prop):Prop
 |mk(b:β)(h':MH)(e:o=.ok b h')(k:KB p h h')(n:bh h' p s)(r:R h' a b):QB p h o a s R
inductive QC{β:Type}(p:Nat)(h:MH)(o:Out β)(c:qx)(s:d_):Prop
 |mk(h':MH)(e:o=.exc c h')(k:KB p h h')(n:bh h' p s):QC p h o c s
def Ok{α β:Type}(p:Nat)(h:MH)(o:Out β)(r:PR α)(R:MH->α->β->Prop):Prop:=match r with
 |.ok a s=>QB p h o a s R
 |.exc c s=>QC p h o c s
 |.bad=>True
def Ok.bind{α β γ δ:Type}{p:Nat}{h:MH}{o:Out β}{r:PR α}{R:MH->α->β->Prop}{f:β->MH->Out δ}{g:α->d_->PR γ}{S:MH->γ->δ->Prop}(q:Ok p h o r R)(k:∀a b i s,KB p h i->bh i p s->R i a b->Ok p i (f b i) (g a s) S):Ok p h (o.bind f) (r.bind g) S:=by
 cases r with
 |ok a s =>
  obtain⟨b,i,rfl,kb,pn,y⟩:=q
  have:=k a b i s kb pn y
  rw[Pb]
  cases e:g a s with
  |ok c z =>
   rw[e]at this;obtain⟨d,u,e2,j,l,B⟩:=this;exact⟨d,u,e2,kb.trans j,l,B⟩
  |exc c z =>
   rw[e]at this;obtain⟨u,e2,j,l⟩:=this;exact⟨u,e2,kb.trans j,l⟩
  |bad=>trivial
 |exc c s =>
  obtain⟨i,rfl,kb,pn⟩:=q;exact⟨i,rfl,kb,pn⟩
 |bad=>trivial
def Ok.imp{α β:Type}{p:Nat}{h:MH}{o:Out β}{r:PR α}{R S:MH->α->β->Prop}(q:Ok p h o r R)(k:∀i a b,KB p h i->R i a b->S i a b):Ok p h o r S:=by
 cases r with
 |ok a s=>obtain⟨b,j,e,kb,pn,l⟩:=q;exact⟨b,j,e,kb,pn,k _ _ _ kb l⟩
 |exc c s=>exact q
 |bad=>trivial
structure SR(p:Nat)(h:MH)(L:Nat)(O:RQ)(ws:RQ)(Z:lR)(env:aq):Prop where
 len:Z.length=env.length
 fz:∀i d,env[i]?=J (J d)->i∉ws->∃v,Z[i]?=J (J v)/\Rp p h O d v
 ow:∀i d,env[i]?=J (J d)->i∈ws->∃n k xs ds,d=dl k ds/\Z[i]?=J (J (.loc n))/\n∈O/\L<=n/\h[n]?=J (mo k xs)/\Rps p h O ds xs
structure Cx(p:Nat)(h:MH)(L:Nat)(B O:RQ)(ws:RQ)(Z:lR)(env:aq)(s:d_):Prop where
 bd:∀o∈O,o<h.length
 sub:∀o∈B,o∈O
 bb:∀o∈B,o<L
 pb:p∈B
 hL:L<=h.length
 pen:bh h p s
 sr:SR p h L O ws Z env
section
variable{p L:Nat}{h h':MH}{B O ws:RQ}{Z:lR}{env:aq}{s s':d_}
def Cx.pO(c:Cx p h L B O ws Z env s):p∈O:=c.sub p c.pb
def Cx.pL(c:Cx p h L B O ws Z env s):p<L:=c.bb p c.pb
def SR.mv{j:RQ}(m:Mv O h j h')(z:∀o∈O,o∈j)(u:∀n:Nat,n<h.length->L<=n->n∈O->h'[n]?=h[n]?)(r:SR p h L O ws Z env):SR p h' L j ws Z env :=
 ⟨r.len,λi d e l=>let⟨v,e1,q⟩:=r.fz i d e l;⟨v,e1,q.mv m⟩,λi d e l=>let⟨n,k,xs,y,e1,e2,a,b,g,q⟩:=r.ow i d e l;⟨n,k,xs,y,e1,e2,z n a,b,(u n (aG g) b a).trans g,q.mv m⟩⟩
def Cx.kb(c:Cx p h L B O ws Z env s)(k:KB p h h')(pn:bh h' p s'):Cx p h' L B O ws Z env s' :=
 ⟨λo a=>r_ (c.bd o a) k.len,c.sub,c.bb,c.pb,pu c.hL k.len,pn,c.sr.mv (k.mv c.pO) (λ_ h=>h) λn i hl _=>k.keep n i (by have:=c.pL;lia)⟩
def Vw.base(w:Vw p h L O d v)(sub:∀o∈B,o∈O)(bb:∀o∈B,o<L):Rp p h B d v:=by
 have m:Mv O h B h:=⟨λ_ _ _=>rfl,λo a=>.inl (sub o a)⟩;rcases w with r|⟨n,k,xs,j,rfl,rfl,_,i,g,r⟩
 .exact r.mv m
 .cases k<;>exact⟨n,xs,rfl,λz=>by have:=bb n z;lia,g,r.mv m⟩
def Frs.rp(f:Frs p L' O h d v)(bd:∀o∈O,o<L')(e:d=dl k ds):Rp p h O d v:=by obtain⟨n,xs,e1,i,g,r⟩:=f k ds e;subst e;cases k<;>exact⟨n,xs,e1,λz=>by have:=bd n z;lia,g,r.mv ⟨λ_ _ _=>rfl,λo a=>.inl (n4 _ a)⟩⟩
def Frs.le(f:Frs p L2 O h d v)(hl:L1<=L2):Frs p L1 O h d v:=λk i e =>
 let⟨n,xs,e1,a,g,r⟩:=f k i e;⟨n,xs,e1,pu hl a,g,r⟩
end
abbrev Bd(h:MH)(O:RQ):Prop:=∀o∈O,o<h.length
inductive Gv(p:Nat)(h:MH)(O:RQ)(fr:Bool)(o:RB)(d:D):Prop
 |mk(v:PV)(g:MH)(e:o=.ok v (h++g))(r:Rp p (h++g) O d v)(f:fr=I->Frs p h.length O (h++g) d v):Gv p h O fr o d
structure Kq where
 m:PV->MH->RB
 p:D->RE
 fr:Bool
 ok:∀{q h L O a x d},Bd h O->Vw q h L O a x->p a=J d->Gv q h O fr (m x h) d
structure x0 where
 m:PV->PV->MH->RB
 p:D->D->RE
 fr:Bool
 ok:∀{q h L O a x b y d},Bd h O->Vw q h L O a x->Vw q h L O b y->p a b=J d->Gv q h O fr (m x y h) d
structure A_ where
 k:RL->MH->RB
 p:RR->RE
 fr:Bool
 ok:∀{q h L O as xs d},Bd h O->Cy q h L O as xs->p as=J d->Gv q h O fr (k xs h) d
structure Fn where
 m:RL->MH->RB
 p:RR->d_->PR D
 fr:Bool
 ok:∀{q h O vs ds s},Bd h O->q∈O->bh h q s->Rps q h O ds vs->Ok q h (m vs h) (p ds s) (λh' d v=>Rp q h' O d v/\(fr=I->Frs q h.length O h' d v))
mutual
def flat:D->Bool
 |.lst _ | .dic _ _ _ | .exc _ | .pen=>T
 |.tup a=>e_ a
 |_=>I
def e_:RR->Bool
 |[]=>I
 |d::a=>flat d&&e_ a
end
section
variable{p:Nat}{h h':MH}{O O':RQ}
mutual
def Rp.flat:∀{d:D}{v:PV},PU.flat d=I->Rp p h O d v->Rp p h' O' d v
 |.non,_,_,r=>r
 |.bl _,_,_,r=>r
 |.int _,_,_,r=>r
 |.str _,_,_,r=>r
 |.tup a,_,f,⟨xs,e,r⟩=>⟨xs,e,Rps.flat (by simpa [PU.flat]using f) r⟩
 |.lst a,_,f,_=>by simp[PU.flat]at f
 |.dic _ _ _,_,f,_=>by simp[PU.flat]at f
 |.exc _,_,f,_=>by simp[PU.flat]at f
 |.pen,_,f,_=>by simp[PU.flat]at f
def Rps.flat:∀{i:RR}{j:RL},PU.e_ i=I->Rps p h O i j->Rps p h' O' i j
 |[],_,_,r=>r
 |_::_,_,f,⟨x,t,e,a,b⟩=>⟨x,t,e,Rp.flat (by simp[PU.e_]at f;exact f.1) a,Rps.flat (by simp[PU.e_]at f;exact f.2) b⟩
end
end
structure Xe(ws:RQ) where
 m:Mx PV
 p:aq->d_->PR D
 fz:Bool
 fr:Bool
 ok:∀{q h L B O Z env s},Cx q h L B O ws Z env s->Ok q h (m Z h) (p env s) (λh' d v=>Vw q h' L O d v/\(fz=I->Rp q h' O d v)/\(fr=I->Frs q h.length O h' d v))
structure Xs(ws:RQ) where
 m:Mx (RL)
 p:aq->d_->PR (RR)
 fz:Bool
 ok:∀{q h L B O Z env s},Cx q h L B O ws Z env s->Ok q h (m Z h) (p env s) (λh' ds vs=>Cy q h' L O ds vs/\(fz=I->Rps q h' O ds vs))
structure Xt(ws:RQ) where
 m:Mx Bool
 p:aq->d_->PR Bool
 ok:∀{q h L B O Z env s},Cx q h L B O ws Z env s->Ok q h (m Z h) (p env s) (λ_ a b=>a=b)
noncomputable section
variable{ws:RQ}
def AK{q L:Nat}{h a:MH}{O:RQ}{o:RB}{d:D}{s:d_}{fr:Bool}(le:h.length<=a.length)(pn:bh a q s)(g:Gv q a O fr o d):
  Ok q a o (.ok d s) (λi d v=>Vw q i L O d v/\(I=I->Rp q i O d v)/\(fr=I->Frs q h.length O i d v)):=by
 obtain⟨v,g,e,r,f⟩:=g;exact⟨v,a++g,e,KB.app _ _ _,pn.app,.inl r,λ_=>r,λz=>(f z).le le⟩
def ac(i:Nat):Xe ws where
 m:=af i
 p:=λenv s=>match env[i]? with
  |some (J d)=>.ok d s
  |_=>.bad
 fz:=!ws.contains i
 fr:=T
 ok {q h L B O Z env s} c:=by
  show Ok q h _ (match env[i]? with|some (J d)=>PR.ok d s|_=>.bad) _
  cases e:env[i]? with
  |none=>trivial
  |some o =>
   cases o with
   |none=>trivial
   |some d =>
    by_cases z:i∈ws
    .obtain⟨n,k,xs,j,e1,e2,a,b,g,r⟩:=c.sr.ow i d e z;exact⟨.loc n,h,by simp[af,e2],KB.refl _ _,c.pen,.inr ⟨n,k,xs,j,e1,rfl,a,b,g,r⟩,λf=>by simp[z]at f,λf=>by simp at f⟩
    .obtain⟨v,e1,r⟩:=c.sr.fz i d e z;exact⟨v,h,by simp[af,e1],KB.refl _ _,c.pen,.inl r,λ_=>r,λf=>by simp at f⟩
inductive Cn where
 |non | bl (b:Bool) | int (i:Int) | str (x:Str)
def Cn.v:Cn->PV
 |.non=>.non
 |.bl b=>.bl b
 |.int i=>.int i
 |.str x=>.str x
def Cn.d:Cn->D
 |.non=>.non
 |.bl b=>.bl b
 |.int i=>.int i
 |.str x=>.str x
def Cn.rp(c:Cn){q:Nat}{h:MH}{O:RQ}:Rp q h O c.d c.v:=by cases c<;>rfl
def xC(k:Cn):Xe ws where
 m:=mC k.v
 p:=λ_ s=>.ok k.d s
 fz:=I
 fr:=I
 ok {q h L B O Z env s} c:=⟨k.v,h,rfl,KB.refl _ _,c.pen,.inl k.rp,λ_=>k.rp,λ_ a i e=>by cases k<;>cases a<;>cases e⟩
def ag(o:x0)(a b:Xe ws):Xe ws where
 m:=ao o.m a.m b.m
 p:=λenv s=>(a.p env s).bind λx l=>(b.p env l).bind λy z=>.of (o.p x y) z
 fz:=I
 fr:=o.fr
 ok {q h L B O Z env s} c:=by
  refine(a.ok c).bind λx v P l j E ⟨H,_,_⟩=>?_;refine(b.ok (c.kb j E)).bind λy w M z i C ⟨G,_,_⟩=>?_
  cases e:o.p x y with
  |none=>trivial
  |some d =>
   have F:=(c.kb j E).kb i C;obtain⟨u,g,e1,r,f⟩:=o.ok F.bd (H.kb i c.pO c.pL) G e;exact AK (pu j.len i.len) C ⟨u,g,by rw[e1];rfl,r,f⟩
def x_(o:Kq)(a:Xe ws):Xe ws where
 m:=yV o.m a.m
 p:=λenv s=>(a.p env s).bind λx i=>.of (o.p x) i
 fz:=I
 fr:=o.fr
 ok {q h L B O Z env s} c:=by
  refine(a.ok c).bind λx v z i j l ⟨y,_,_⟩=>?_
  cases e:o.p x with
  |none=>trivial
  |some d =>
   obtain⟨u,g,e1,r,f⟩:=o.ok (c.kb j l).bd y e;exact AK j.len l ⟨u,g,by rw[e1];rfl,r,f⟩
def a_:Xs ws where
 m:=b_
 p:=λ_ s=>.ok [] s
 fz:=I
 ok {q h L B O Z env s} c:=⟨[],h,rfl,KB.refl _ _,c.pen,rfl,λ_=>rfl⟩
def aa(a:Xe ws)(r:Xs ws):Xs ws where
 m:=ae a.m r.m
 p:=λenv s=>(a.p env s).bind λx j=>(r.p env j).bind λy l=>.ok (x::y) l
 fz:=a.fz&&r.fz
 ok {q h L B O Z env s} c:=by refine(a.ok c).bind λx v M j z H ⟨C,z1,_⟩=>?_;refine(r.ok (c.kb z H)).bind λy w G l i F ⟨u,E⟩=>?_;refine⟨v::w,G,rfl,KB.refl _ _,F,⟨v,w,rfl,C.kb i c.pO c.pL,u⟩,λf=>?_⟩;rw[AC]at f;exact⟨v,w,rfl,(z1 f.1).mv (i.mv c.pO),E f.2⟩
def qs(o:A_)(a:Xs ws):Xe ws where
 m:=λZ h=>(a.m Z h).bind o.k
 p:=λenv s=>(a.p env s).bind λx j=>.of (o.p x) j
 fz:=I
 fr:=o.fr
 ok {q h L B O Z env s} c:=by
  refine(a.ok c).bind λx v y j i l ⟨u,_⟩=>?_
  cases e:o.p x with
  |none=>trivial
  |some d=>exact AK i.len l (o.ok (c.kb i l).bd u e)
def ay(f:Fn)(a:Xs ws)(u:a.fz=I:=by exact ys rfl):Xe ws where
 m:=bo f.m a.m
 p:=λenv s=>(a.p env s).bind f.p
 fz:=I
 fr:=f.fr
 ok {q h L B O Z env s} c:=by refine(a.ok c).bind λx v E y i l ⟨_,z⟩=>?_;have j:=c.kb i l;refine(f.ok j.bd j.pO l (z u)).imp λC d v kb ⟨r,fr⟩=>⟨.inl r,λ_=>r,λz=>(fr z).le i.len⟩
def dP:100000<=sizeLine:=by decide
def lP(bd:Bd h O)(r:Rps q h O ds xs)(hl:ds.length<=100000):Gv q h O I (q7 xs h) (.lst ds):=by
 have u:=r.length;have m:Mv O h O (h++[MO.lst xs]):=⟨λn i _=>qp i,λo a=>.inl a⟩
 have j:Mv O h (h.length::O) (h++[MO.lst xs]):=⟨λn i _=>qp i,λo a=>by
  rcases n8.mp a with z|z
  .exact .inr ⋯
  .exact .inl z⟩
 have g:(h++[MO.lst xs])[h.length]?=J (.lst xs):=by simp
 refine⟨.loc h.length,[.lst xs],?_,⟨_,_,rfl,λz=>by have:=bd _ z;lia,g,r.mv m⟩,λ_ k l e=>?_⟩
 .unfold q7;have:=dP;lia
 .obtain⟨rfl,rfl⟩:=ir e;exact⟨_,_,rfl,mm _,g,r.mv j⟩
def ui(r:Rps q h O ds xs)(hl:ds.length<=100000):Gv q h O I (m2 xs h) (.tup ds):=by
 have i:=r.length;refine⟨.tup xs,[],?_,?_,λ_ k a e=>by cases k<;>cases e⟩
 .unfold m2;rw[c_ (by have:=dP;lia)];simp
 .simpa using⟨xs,rfl,r⟩
def bT(a:Xs ws)(u:a.fz=I:=by exact ys rfl):Xe ws where
 m:=bX a.m
 p:=λenv s=>(a.p env s).bind λx j=>if x.length<=100000 then .ok (.lst x) j else .bad
 fz:=I
 fr:=I
 ok {q h L B O Z env s} c:=by
  refine(a.ok c).bind λx v y j i l ⟨_,z⟩=>?_;by_cases hl:x.length<=100000
  .rw[c_ hl];exact AK i.len l (lP (c.kb i l).bd (z u) hl)
  .rw[hI hl];trivial
def aZ(a:Xs ws)(l:a.fz=I:=by exact ys rfl):Xe ws where
 m:=bU a.m
 p:=λenv s=>(a.p env s).bind λx i=>if x.length<=100000 then .ok (.tup x) i else .bad
 fz:=I
 fr:=I
 ok {q h L B O Z env s} c:=by
  refine(a.ok c).bind λx v y i j u ⟨_,z⟩=>?_;by_cases hl:x.length<=100000
  .rw[c_ hl];exact AK j.len u (ui (z l) hl)
  .rw[hI hl];trivial
def AL:Xe ws where
 m:=Bn
 p:=λ_ s=>.ok (.dic T [] []) s
 fz:=I
 fr:=I
 ok {q h L B O Z env s} c:=by
  have g:(h++[MO.dic T [] []])[h.length]?=J (.dic T [] []):=by simp
  have r:Rp q (h++[MO.dic T [] []]) O (.dic T [] []) (.loc h.length):=⟨_,[],rfl,λz=>by have:=c.bd _ z;lia,g,rfl⟩
  exact⟨.loc h.length,h++[.dic T [] []],rfl,KB.app _ _ _,c.pen.app,.inl r,λ_=>r,λ_ k i e=>by
   cases k with
   |none=>cases e
   |some a=>cases e;exact⟨_,[],rfl,mm _,g,rfl⟩⟩
def Vw.bl(w:Vw q h L O (.bl b) v):v=.bl b:=by
 rcases w with r|⟨n,k,xs,a,e,_⟩
 .exact r
 .cases k<;>cases e
def PR.bl(r:PR D):PR Bool:=r.bind λd s=>match d with
 |.bl b=>.ok b s
 |_=>.bad
@[simp]theorem Pl:(PR.ok (D.bl b) s).bl=.ok b s:=rfl
def xB(a:Xe ws):Xt ws where
 m:=mB a.m
 p:=λenv s=>(a.p env s).bl
 ok {q h L B O Z env s} c:=by
  refine(a.ok c).bind λx v j u l i ⟨w,_,_⟩=>?_
  cases x with
  |bl b=>rw[w.bl];exact⟨b,j,rfl,KB.refl _ _,i,rfl⟩
  |_=>trivial
def hZ(a:Xt ws):Xt ws where
 m:=j9 a.m
 p:=λenv s=>(a.p env s).bind λb s=>.ok (!b) s
 ok {q h L B O Z env s} c:=(a.ok c).bind λx v j u l i e=>⟨!v,j,rfl,KB.refl _ _,i,by rw[e]⟩
def oU(a b:Xt ws):Xt ws where
 m:=B3 a.m b.m
 p:=λenv s=>(a.p env s).bind λx s=>if x=I then b.p env s else .ok T s
 ok {q h L B O Z env s} c:=(a.ok c).bind λx v l u j i e=>by
  subst e
  cases x with
  |true=>simpa using b.ok (c.kb j i)
  |false=>exact⟨T,l,rfl,KB.refl _ _,i,rfl⟩
def Ek(a b:Xt ws):Xt ws where
 m:=JL a.m b.m
 p:=λenv s=>(a.p env s).bind λx s=>if x=I then .ok I s else b.p env s
 ok {q h L B O Z env s} c:=(a.ok c).bind λx v l u j i e=>by
  subst e
  cases x with
  |false=>simpa using b.ok (c.kb j i)
  |true=>exact⟨I,l,rfl,KB.refl _ _,i,rfl⟩
def qo:Xt ws where
 m:=mh
 p:=λ_ s=>.ok I s
 ok {q h L B O Z env s} c:=⟨I,h,rfl,KB.refl _ _,c.pen,rfl⟩
def Ok.after{α β:Type}{p:Nat}{h u:MH}{o:Out β}{r:PR α}{R:MH->α->β->Prop}(k:KB p h u)(q:Ok p u o r R):Ok p h o r R:=by
 cases r with
 |bad=>trivial
 |exc C B=>obtain⟨l,i,j,a⟩:=q;exact⟨l,i,k.trans j,a⟩
 |ok E B=>obtain⟨y,l,i,j,a,z⟩:=q;exact⟨y,l,i,k.trans j,a,z⟩
def vA(pn:bh h q s):Ok q h (.ok (.bl b) h) (.ok (.bl b) s) (λa d v=>Vw q a L O d v/\(I=I->Rp q a O d v)/\(I=I->Frs q l O a d v)) :=
 ⟨.bl b,h,rfl,KB.refl _ _,pn,.inl rfl,λ_=>rfl,λ_ k i e=>by cases k<;>cases e⟩
def wD(k:Ok q h o r (λa d v=>Vw q a L O d v/\(fz=I->Rp q a O d v)/\(fr=I->Frs q l' O a d v))):
  Ok q h o (r.bl.bind λb s=>.ok (.bl b) s) (λa d v=>Vw q a L O d v/\(I=I->Rp q a O d v)/\(I=I->Frs q l O a d v)):=by
 cases r with
 |bad=>trivial
 |exc c s=>exact k
 |ok d s =>
  obtain⟨v,a,e,kb,pn,w,_,_⟩:=k
  cases d with
  |bl b=>exact⟨v,a,e,kb,pn,w,λ_=>by rw[w.bl];rfl,λ_ k i e=>by cases k<;>cases e⟩
  |_=>trivial
def kE(a b:Xe ws):Xe ws where
 m:=lU a.m b.m
 p:=λenv s=>(a.p env s).bl.bind λx s=>if x=I then(b.p env s).bl.bind λy s=>.ok (.bl y) s else .ok (.bl T) s
 fz:=I
 fr:=I
 ok {q h L B O Z env s} c:=by
  have k:=a.ok c;show Ok q h ((a.m Z h).bind _) _ _
  cases e:a.p env s with
  |bad=>trivial
  |exc x z =>
   rw[e]at k;obtain⟨u,e1,i,j⟩:=k;rw[e1];exact⟨u,rfl,i,j⟩
  |ok d z =>
   rw[e]at k;obtain⟨v,u,e1,i,j,w,_,_⟩:=k
   cases d with
   |bl x =>
    rw[w.bl]at e1;rw[e1]
    cases x with
    |true =>
     exact Ok.after i (wD (l:=h.length) (b.ok (c.kb i j)))
    |false =>
     obtain⟨E,M,G,H,C,F⟩:=vA (L:=L) (l:=h.length) (O:=O) (b:=T) j;exact⟨E,M,G,i.trans H,C,F⟩
   |_=>trivial
def sF(a b:Xe ws):Xe ws where
 m:=FP a.m b.m
 p:=λenv s=>(a.p env s).bl.bind λx s=>if x=I then .ok (.bl I) s else(b.p env s).bl.bind λy s=>.ok (.bl y) s
 fz:=I
 fr:=I
 ok {q h L B O Z env s} c:=by
  have k:=a.ok c;show Ok q h ((a.m Z h).bind _) _ _
  cases e:a.p env s with
  |bad=>trivial
  |exc x z =>
   rw[e]at k;obtain⟨u,e1,i,j⟩:=k;rw[e1];exact⟨u,rfl,i,j⟩
  |ok d z =>
   rw[e]at k;obtain⟨v,u,e1,i,j,w,_,_⟩:=k
   cases d with
   |bl x =>
    rw[w.bl]at e1;rw[e1]
    cases x with
    |false =>
     exact Ok.after i (wD (l:=h.length) (b.ok (c.kb i j)))
    |true =>
     obtain⟨E,M,G,H,C,F⟩:=vA (L:=L) (l:=h.length) (O:=O) (b:=I) j;exact⟨E,M,G,i.trans H,C,F⟩
   |_=>trivial
def qT(a:Xe ws):Xe ws where
 m:=nA a.m
 p:=λenv s=>(a.p env s).bl.bind λx s=>.ok (.bl (!x)) s
 fz:=I
 fr:=I
 ok {q h L B O Z env s} c:=by
  have k:=a.ok c;show Ok q h ((a.m Z h).bind _) _ _
  cases e:a.p env s with
  |bad=>trivial
  |exc x y =>
   rw[e]at k;obtain⟨u,e1,i,j⟩:=k;rw[e1];exact⟨u,rfl,i,j⟩
  |ok d y =>
   rw[e]at k;obtain⟨v,u,e1,i,j,w,_,_⟩:=k
   cases d with
   |bl x =>
    rw[w.bl]at e1;rw[e1];obtain⟨C,H,F,G,z,E⟩:=vA (L:=L) (l:=h.length) (O:=O) (b:=!x) j;exact⟨C,H,F,i.trans G,z,E⟩
   |_=>trivial
def Gy(t:Xt ws)(a b:Xe ws)(fz:Bool)(hf:fz=(a.fz&&b.fz):=by exact ys rfl):Xe ws where
 m:=FT t.m a.m b.m
 p:=λenv s=>(t.p env s).bind λx s=>if x=I then a.p env s else b.p env s
 fz:=fz
 fr:=T
 ok {q h L B O Z env s} c:=(t.ok c).bind λx v y u i j e=>by
  subst e
  cases x with
  |true=>exact(a.ok (c.kb i j)).imp λl d v kb r=>⟨r.1,λf=>r.2.1 (by rw[hf,AC]at f;exact f.1),λf=>by simp at f⟩
  |false=>exact(b.ok (c.kb i j)).imp λl d v kb r=>⟨r.1,λf=>r.2.1 (by rw[hf,AC]at f;exact f.2),λf=>by simp at f⟩
def og(f g:x0)(a b e:Xe ws):Xe ws where
 m:=kN f.m g.m a.m b.m e.m
 p:=λenv s=>(a.p env s).bind λx H=>(b.p env H).bind λy C=>match f.p x y with
  |some (.bl t)=>if t=I then(e.p env C).bind λz S=>.of (g.p y z) S else .ok (.bl T) C
  |_=>.bad
 fz:=I
 fr:=T
 ok {q h L B O Z env s} c:=by
  refine(a.ok c).bind λx v h1 H Q W ⟨w1,_,_⟩=>?_;refine(b.ok (c.kb Q W)).bind λy w l C F E ⟨P,_,_⟩=>?_;have G:=(c.kb Q W).kb F E
  cases e1:f.p x y with
  |none=>trivial
  |some d =>
   cases d with
   |bl t =>
    obtain⟨u,j,e2,r,_⟩:=f.ok G.bd (w1.kb F c.pO c.pL) P e1;have hu:u=.bl t:=r;subst hu;rw[e2];have i:=KB.app q l j;have R:=G.kb i E.app
    cases t with
    |true =>
     refine Ok.after i ?_;show Ok q (l++j) ((e.m Z (l++j)).bind _) _ _;refine(e.ok R).bind λz u h3 S U X ⟨w3,_,_⟩=>?_
     cases e4:g.p y z with
     |none=>trivial
     |some d =>
      obtain⟨u2,g2,e5,M,_⟩:=g.ok (R.kb U X).bd ((P.kb i c.pO c.pL).kb U c.pO c.pL) w3 e4;refine⟨u2,h3++g2,by rw[e5];rfl,KB.app _ _ _,X.app,.inl M,λ_=>M,λf=>by simp at f⟩
    |false=>exact⟨.bl T,l++j,rfl,i,E.app,.inl rfl,λ_=>rfl,λf=>by simp at f⟩
   |_=>trivial
end
structure Xi(ws:RQ) where
 m:Mx MIt
 p:aq->d_->PR (RR)
 fz:Bool
 ok:∀{q h L B O Z env s},Cx q h L B O ws Z env s->Ok q h (m Z h) (p env s) (λh' ds it=>Rps q h' O ds it.xs/\(∀g∈it.gd,h'[g.1]?=J (.lst g.2)/\g.1≠q)/\(fz=I->∀g∈it.gd,g.1∉O))
inductive GI(q:Nat)(h:MH)(O:RQ)(ds as:RR)(xs:RL)(o:Out MIt):Prop
 |mk(it:MIt)(e:o=.ok it h)(r:Rps q h O ds it.xs)(g:∀g∈it.gd,h[g.1]?=J (.lst g.2)/\g.1≠q)(z:Rps q h O as xs->∀g∈it.gd,g.1∉O):GI q h O ds as xs o
structure MX where
 k:RL->MH->Out MIt
 p:RR->Option (RR)
 ok:∀{q h L O as xs ds},q<L->q∈O->Bd h O->Cy q h L O as xs->p as=J ds->GI q h O ds as xs (k xs h)
def D.items:D->Option (RR)
 |.lst a=>J a
 |.tup a=>J a
 |_=>Y
@[simp]theorem iU:(D.lst ds).items=J ds:=rfl
@[simp]theorem Iw:(D.tup ds).items=J ds:=rfl
noncomputable section
variable{ws:RQ}
def iY(o:MX)(a:Xs ws):Xi ws where
 m:=λZ h=>(a.m Z h).bind o.k
 p:=λenv s=>(a.p env s).bind λx i=>.of (o.p x) i
 fz:=a.fz
 ok {q h L B O Z env s} c:=by
  refine(a.ok c).bind λx v E i u j ⟨w,z⟩=>?_
  cases e:o.p x with
  |none=>trivial
  |some F =>
   obtain⟨y,e1,r,l,C⟩:=o.ok c.pL c.pO (c.kb u j).bd w e;exact⟨y,E,e1,KB.refl _ _,j,r,l,λf=>C (z f)⟩
def Vw.seq(H:q<L)(E:q∈O)(w:Vw q h L O d v)(e:d.items=J ds):∃xs gd,vo v h=.ok ⟨xs,gd⟩ h/\Rps q h O ds xs/\(∀g∈gd,h[g.1]?=J (.lst g.2)/\g.1≠q)/\(Rp q h O d v->∀g∈gd,g.1∉O):=by
 have one:∀n xs,h[n]?=J (MO.lst xs)->n≠q->(∀g∈[(n,xs)],h[g.1]?=J (MO.lst g.2)/\g.1≠q):=λn xs g C y a=>by
  have:y=(n,xs):=by simpa using a
  subst this;exact⟨g,C⟩
 cases d with
 |lst j =>
  have:j=ds:=by simpa using e
  subst this;rcases w with⟨n,xs,e1,l,g,r⟩|⟨n,B,xs,u,i,e1,_,C,g,r⟩
  .subst e1;refine⟨xs,[(n,xs)],by simp only[vo,g],r,one n xs g (λz=>l (z▸E)),λ_ y a=>?_⟩
   have:y=(n,xs):=by simpa using a
   subst this;exact l
  .obtain⟨rfl,rfl⟩:=ir i;subst e1;replace g:h[n]?=J (.lst xs):=g;refine⟨xs,[(n,xs)],by simp only[vo,g],r,one n xs g ⋯,λ⟨G,F,e1,l,_,_⟩ y a=>?_⟩
   grind
 |tup j =>
  have:j=ds:=by simpa using e
  subst this;rcases w with⟨xs,e1,r⟩|⟨n,B,xs,u,i,_⟩
  .subst e1;exact⟨xs,[],rfl,r,(λ_ a=>nomatch a),λ_ _ a=>nomatch a⟩
  .cases B<;>cases i
 |_=>simp[D.items]at e
def bx(a:Xe ws):Xi ws where
 m:=cH a.m
 p:=λenv s=>(a.p env s).bind λx i=>.of x.items i
 fz:=a.fz
 ok {q h L B O Z env s} c:=by
  refine(a.ok c).bind λx v y i C u ⟨w,z,_⟩=>?_
  cases e:x.items with
  |none=>trivial
  |some E =>
   obtain⟨xs,gd,e1,r,j,l⟩:=w.seq c.pL c.pO e;exact⟨⟨xs,gd⟩,y,e1,KB.refl _ _,u,r,j,λf=>l (z f)⟩
structure Xg(ws:RQ) where
 m:Mg
 p:D->aq->Option aq
 ok:∀{q h L O Z env d v env'},SR q h L O ws Z env->Rp q h O d v->p d env=J env'->∃Z',m v Z h=.nx Z' h/\SR q h L O ws Z' env'/\∀i∈ws,Z'[i]?=Z[i]?/\env'[i]?=env[i]?
structure El(ws:RQ) where
 m:Bz
 p:RR->aq->Option aq
 ok:∀{q h L O Z env ds vs env'},SR q h L O ws Z env->Rps q h O ds vs->p ds env=J env'->∃Z',m vs Z h=.nx Z' h/\SR q h L O ws Z' env'/\∀i∈ws,Z'[i]?=Z[i]?/\env'[i]?=env[i]?
def SR.set(r:SR q h L O ws Z env)(y:i∉ws)(w:Rp q h O d v):SR q h L O ws (Z.set i (J v)) (env.set i (J d))/\∀j∈ws,(Z.set i (J v))[j]?=Z[j]?/\(env.set i (J d))[j]?=env[j]?:=by
 have ne:∀j∈ws,i≠j:=λj a z=>y (z▸a);refine⟨⟨by simp[r.len],λj e a hw=>?_,λj e a hw=>?_⟩,λj a=>⟨mA (ne j a),mA (ne j a)⟩⟩
 .by_cases z:i=j
  .subst z;have hl:i<env.length:=by
    have:=(pj.mp a).1;simpa using this
   rw[u_ hl]at a;cases a;exact⟨v,u_ (by rw[r.len];exact hl),w⟩
  .rw[mA z]at a;obtain⟨u,e1,C⟩:=r.fz j e a hw
   simp_all
 .rw[mA (ne j hw)]at a;obtain⟨n,l,xs,B,e1,e2,rest⟩:=r.ow j e a hw;exact⟨n,l,xs,B,e1,by rw[mA (ne j hw)];exact e2,rest⟩
def pf(i:Nat)(l:ws.contains i=T:=by exact ys rfl):Xg ws where
 m:=m_ i
 p:=λd env=>J (env.set i (J d))
 ok {q h L O Z env d v env'} r w e:=by
  cases e;have j:i∉ws:=λz=>by simp[z]at l
  obtain⟨a,b⟩:=r.set j w;exact⟨_,rfl,a,b⟩
def AM:El ws where
 m:=An
 p:=λa env=>match a with
  |[]=>J env
  |_=>Y
 ok {q h L O Z env a vs env'} r w e:=by
  cases a with
  |nil =>
   cases e
   have:vs=[]:=w
   subst this;exact⟨Z,rfl,r,λ_ _=>⟨rfl,rfl⟩⟩
  |cons _ _=>cases e
def v_(a:Xg ws)(t:El ws):El ws where
 m:=sk a.m t.m
 p:=λl env=>match l with
  |d::l=>(a.p d env).bind λj=>t.p l j
  |[]=>Y
 ok {q h L O Z env l vs env'} r w e:=by
  cases l with
  |nil=>cases e
  |cons d l =>
   obtain⟨x,y,rfl,G,F⟩:=w;dsimp only at e
   cases e1:a.p d env with
   |none=>rw[e1]at e;cases e
   |some j =>
    rw[e1]at e;obtain⟨Q,E,C,B⟩:=a.ok r G e1;obtain⟨H,P,M,z⟩:=t.ok C F e;exact⟨H,by show(a.m x Z h).then (t.m y)=_;rw[E];exact P,M,λi u=>⟨(z i u).1.trans (B i u).1,(z i u).2.trans (B i u).2⟩⟩
def AN(t:El ws)(n:Nat):Xg ws where
 m:=Ao t.m n
 p:=λd env=>match d with
  |.tup i=>if i.length=n then t.p i env else Y
  |_=>Y
 ok {q h L O Z env d v env'} r w e:=by
  cases d with
  |tup i =>
   obtain⟨xs,rfl,w⟩:=w;dsimp only at e;by_cases z:i.length=n
   .rw[c_ z]at e;obtain⟨j,a,b⟩:=t.ok r w e;exact⟨j,by show(if xs.length=n then t.m xs Z h else .bad)=_;rw[c_ (by rw[w.length];exact z)];exact a,b⟩
   .rw[hI z]at e;cases e
  |_=>cases e
def Bq(a:Nat)(fm ws:RQ):RQ:=((List.range fm.length).filter λj=>ws.contains (fm.getD j 0)).map (a+·)
def vG(a:Nat)(fm:RQ)(env:aq):aq:=List.replicate a Y++fm.map λi=>(env[i]?).getD Y
def PR.ne{α:Type}(r:PR α):PR α:=match r with
 |.exc _ _=>.bad
 |r=>r
@[simp]theorem PR.ne_ok(a:α)(s:d_):(PR.ok a s).ne=.ok a s:=rfl
def eJ(g:D->aq->Option aq)(t:aq->d_->PR Bool)(e:aq->d_->PR D):RR->aq->d_->PR (RR)
 |[],_,s=>.ok [] s
 |d::j,env,s=>match g d env with
  |none=>.bad
  |some a=>(t a s).bind λb i=>if b=I then(e a i).bind λx u=>(eJ g t e j a u).bind λr l=>.ok (x::r) l else eJ g t e j a i
def Kr{a:Nat}{fm:RQ}{α:Type}{env:List (Option α)}{i:Nat}{d:α}(e:(List.replicate a Y++fm.map λi=>(env[i]?).getD Y)[i]?=J (J d)):∃j k,i=a+j/\fm[j]?=J k/\env[k]?=J (J d):=by
 by_cases z:i<a
 .rw[qp (by simpa using z)]at e;simp[z]at e
 .rw[AE (by simp;lia)]at e;simp only[IL,tx]at e
  cases l:fm[i-a]? with
  |none=>rw[l]at e;cases e
  |some k =>
   rw[l]at e;simp only[DQ]at e;refine⟨i-a,k,⋯,l,?_⟩
   cases u:env[k]? with
   |none=>rw[u]at e;cases e
   |some o=>rw[u]at e;simp at e;rw[e]
def Ks{a:Nat}{fm:RQ}{α:Type}{Z:List (Option α)}{j k:Nat}{v:α}(e1:fm[j]?=J k)(e2:Z[k]?=J (J v)):(List.replicate a Y++fm.map λi=>(Z[i]?).getD Y)[a+j]?=J (J v):=by rw[AE (by simp)];simp[e1,e2]
def uV(e:fm[j]?=J k):nv+j∈Bq nv fm ws↔k∈ws:=by
 have a:=(pj.mp e).1;unfold Bq
 simp_all
def SR.comp{q:Nat}{h:MH}{L:Nat}{O:RQ}{Z:lR}{env:aq}(a:Nat)(fm:RQ)(r:SR q h L O ws Z env):SR q h L O (Bq a fm ws) (A9 a fm Z) (vG a fm env):=by
 refine⟨by simp[A9,vG],λi d e l=>?_,λi d e l=>?_⟩
 .obtain⟨j,k,rfl,e1,e2⟩:=Kr e;obtain⟨v,e3,w⟩:=r.fz k d e2 λz=>l ((uV e1).mpr z);exact⟨v,Ks e1 e3,w⟩
 .obtain⟨j,k,rfl,e1,e2⟩:=Kr e;obtain⟨n,u,xs,B,y,e3,w⟩:=r.ow k d e2 ((uV e1).mp l);exact⟨n,u,xs,B,y,Ks e1 e3,w⟩
def Gz(gt:Xg C)(t:Xt C)(e:Xe C)(hz:e.fz=I)(hq:q<h1.length)(gd:∀g∈it.gd,h1[g.1]?=J (.lst g.2)/\g.1≠q):
  ∀(R:RR)(xs:RL)(env:aq)(Z:lR)(h:MH)(l:RR)(j:RL)(s:d_)(r:RR)(U:d_),(∀i∈C,∀d,env[i]?=J (J d)->∀n,Z[i]?=J (J (.loc n))->n<h1.length)->KB q h1 h->Cx q h L B (h1.length::O) C Z env s->Rps q h (h1.length::O) R xs->h[h1.length]?=J (.lst j)->Rps q h (h1.length::O) l j->l.length+R.length<=100000 ->
  eJ gt.p t.p e.p R env s=.ok r U->∃F zs,v7 it h1.length gt.m t.m e.m xs Z h=.ok () F/\KB q h1 F/\bh F q U/\F[h1.length]?=J (.lst zs)/\Rps q F (h1.length::O) (l++r) zs:=by
 intro R
 induction R with
 |nil =>
  intro xs env Z h l j s r U on kb c rx ga ra hl a
  have:xs=[]:=rx
  subst this;cases a;have ok:it.ok h:=λg hg=>(kb.keep _ (aG (gd g hg).1) (gd g hg).2).trans (gd g hg).1;exact⟨h,j,by rw[v7,c_ ok],kb,c.pen,ga,by simpa using ra⟩
 |cons d R ih =>
  intro xs env Z h l j s r U on kb c rx ga ra hl a;obtain⟨x,xr,rfl,r1,r2⟩:=rx;have ok:it.ok h:=λg hg=>(kb.keep _ (aG (gd g hg).1) (gd g hg).2).trans (gd g hg).1;rw[eJ]at a
  cases eg:gt.p d env with
  |none=>rw[eg]at a;cases a
  |some u =>
   rw[eg]at a;dsimp only at a;obtain⟨X,f1,ak,k1⟩:=gt.ok c.sr r1 eg;have Q:∀i∈C,∀d,u[i]?=J (J d)->∀n,X[i]?=J (J (.loc n))->n<h1.length:=λi M d e n z=>on i M d ((k1 i M).2▸e) n ((k1 i M).1▸z);have c1:Cx q h L B (h1.length::O) C X u s:=⟨c.bd,c.sub,c.bb,c.pb,c.hL,c.pen,ak⟩;have kt:=t.ok c1
   cases et:t.p u s with
   |bad=>rw[et]at a;cases a
   |exc _ _=>rw[et]at a;cases a
   |ok b s1 =>
    rw[et]at a kt;obtain⟨b',h2,f2,k2,p2,eb⟩:=kt;subst eb;have c2:=c1.kb k2 p2;have E:Mv (h1.length::O) h (h1.length::O) h2:=k2.mv c.pO;have hn:h1.length<h.length:=aG ga;have S:h2[h1.length]?=J (.lst j):=(k2.keep _ hn ⋯).trans ga;rw[Pb]at a
    cases b with
    |false =>
     rw[hI (by simp)]at a;obtain⟨F,zs,a1,a2⟩:=ih xr u X h2 l j s1 r U Q (kb.trans k2) c2 (r2.mv E) S (ra.mv E) (by simp at hl;lia) a;refine⟨F,zs,?_,a2⟩;rw[v7,c_ ok,f1];simp only[f2,Out.ne_ok,Out.bind_ok,Am,if_false];exact a1
    |true =>
     rw[c_ rfl]at a;have ke:=e.ok c2
     cases ee:e.p u s1 with
     |bad=>rw[ee]at a;cases a
     |exc _ _=>rw[ee]at a;cases a
     |ok y s2 =>
      rw[ee]at a ke;obtain⟨v,H,f3,k3,p3,_,rv,_⟩:=ke;have rv:=rv hz;have P:=c2.kb k3 p3;have ab:Mv (h1.length::O) h2 (h1.length::O) H:=k3.mv c.pO;have W:H[h1.length]?=J (.lst j):=(k3.keep _ (aG S) ⋯).trans S;have G:Mv (h1.length::O) H (h1.length::O) (H.set h1.length (.lst (j++[v]))) :=
       ⟨λn hn no=>mA (λz=>no (by simp[z])),λo ho=>.inl ho⟩
      have al:Rps q H (h1.length::O) (l++[y]) (j++[v]):=((ra.mv E).mv ab).app ⟨v,[],rfl,rv,rfl⟩;rw[Pb]at a
      cases er:eJ gt.p t.p e.p R u s2 with
      |bad=>rw[er]at a;cases a
      |exc _ _=>rw[er]at a;cases a
      |ok r' s3 =>
       rw[er]at a;cases a;have ai:KB q h1 H:=(kb.trans k2).trans k3;have c4:Cx q (H.set h1.length (.lst (j++[v]))) L B (h1.length::O) C X u s2:=by
        refine⟨λo ho=>by simpa using P.bd o ho,P.sub,P.bb,P.pb,by simpa using P.hL,?_,?_⟩
        .unfold bh;rw[mA ⋯];exact p3
        .refine⟨P.sr.len,λi d e M=>let⟨v,e1,q1⟩:=P.sr.fz i d e M;⟨v,e1,q1.mv G⟩,λi d e M=>?_⟩;obtain⟨n,kd,ys,es,b1,b2,b3,b4,b5,b6⟩:=P.sr.ow i d e M;have z:=Q i M d e n b2;exact⟨n,kd,ys,es,b1,b2,b3,b4,by rw[mA ⋯];exact b5,b6.mv G⟩
       obtain⟨F,zs,a1,a2,a3,a4,a5⟩:=ih xr u X (H.set h1.length (.lst (j++[v]))) (l++[y]) (j++[v]) s2 r' _ Q ⟨by simpa using ai.len,λn hn hp=>by rw[mA ⋯];exact ai.keep n hn hp⟩ c4 (((r2.mv E).mv ab).mv G) (u_ (aG W)) (al.mv G) (by simp at hl ⊢;lia) er;refine⟨F,zs,?_,a2,a3,a4,by simpa using a5⟩;rw[v7,c_ ok,f1];simp only[f2,Out.ne_ok,Out.bind_ok,if_true,f3,W];rw[c_ (by have:=dP;have:=ra.length;simp at hl;lia)];exact a1
def bO(a:Nat)(fm:RQ)(i:Xi ws){ws':RQ}(g:Xg ws')(t:Xt ws')(e:Xe ws')(hw:Bq a fm ws=ws':=by exact ys rfl)(hz:e.fz=I:=by exact ys rfl):Xe ws where
 m:=bv a fm i.m g.m t.m e.m
 p:=λenv s=>(i.p env s).bind λu y=>if u.length<=100000 then (match eJ g.p t.p e.p u (vG a fm env) y with
  |.ok r F=>.ok (.lst r) F
  |_=>.bad)else .bad
 fz:=I
 fr:=I
 ok {q h L B O Z env s} c:=by
  subst hw;refine(i.ok c).bind λu it j y M G ⟨X,gd,_⟩=>?_;have C:=c.kb M G;by_cases hl:u.length<=100000
  .rw[c_ hl]
   cases er:eJ g.p t.p e.p u (vG a fm env) y with
   |bad=>trivial
   |exc _ _=>trivial
   |ok r F =>
    have mv:Mv O j (j.length::O) (j++[MO.lst []]):=⟨λn E _=>qp E,λo l=>by
     rcases n8.mp l with z|z
     .exact .inr ⋯
     .exact .inl z⟩
    have sr:=(C.sr.comp a fm).mv mv (λo l=>n4 _ l) λn E _ _=>qp E;have R:Cx q (j++[MO.lst []]) L B (j.length::O) (Bq a fm ws) (A9 a fm Z) (vG a fm env) y:=by
     refine⟨λo l=>?_,λo l=>n4 _ (c.sub o l),c.bb,c.pb,by have:=C.hL;simp;lia,G.app,sr⟩;rcases n8.mp l with z|z
     .subst z;simp
     .have:=C.bd o z;simp;lia
    have S:q<j.length:=aG G
    obtain⟨P,zs,a1,a2,U,a4,a5⟩:=Gz g t e hz (L:=L) (B:=B) (O:=O) S gd u it.xs (vG a fm env) (A9 a fm Z) (j++[MO.lst []]) [] [] y r F (λi hi d W n H=>by
     obtain⟨n',_,_,_,_,b2,_,_,b5,_⟩:=(C.sr.comp a fm).ow i d W hi;rw[b2]at H;cases H
     exact aG b5) (KB.app _ _ _) R (X.mv mv) (by simp) rfl (by simpa using hl) er
    have f:Frs q h.length O P (.lst r) (.loc j.length):=λk u e=>by
     obtain⟨rfl,rfl⟩:=ir e;exact⟨_,zs,rfl,M.len,a4,by simpa using a5⟩
    have Q:=f.rp (k:=Y) c.bd rfl;exact⟨.loc j.length,P,by show(v7 _ _ _ _ _ _ _ _).bind _=_;rw[a1];rfl,a2,U,.inl Q,λ_=>Q,λ_=>f⟩
  .rw[hI hl];trivial
end
inductive PS where
 |nx(e:aq)(s:d_)
 |rt(d:D)(s:d_)
 |bk(e:aq)(s:d_)
 |ct(e:aq)(s:d_)
 |exc(c:qx)(e:aq)(s:d_)
 |rse(c:qx)(e:aq)(s:d_)
 |bad
structure Stp(q L:Nat)(h:MH)(O:RQ)(h':MH)(O':RQ):Prop where
 len:h.length<=h'.length
 mv:Mv O h O' h'
 sub:∀o∈O,o∈O'
 base:∀n:Nat,n<L->n≠q->h'[n]?=h[n]?
def Stp.refl(q L:Nat)(h:MH)(O:RQ):Stp q L h O h O:=⟨mm _,⟨λ_ _ _=>rfl,λ_ h=>.inl h⟩,λ_ h=>h,λ_ _ _=>rfl⟩
def Stp.trans(a:Stp q L h O h1 O1)(b:Stp q L h1 O1 h2 O2):Stp q L h O h2 O2:=by
 refine⟨pu a.len b.len,⟨λn i l=>?_,λo j=>?_⟩,λo j=>b.sub o (a.sub o j),λn i u=>(b.base n i u).trans (a.base n i u)⟩
 .have y:n∉O1:=λz=>by
   rcases a.mv.new n z with q|q
   .exact l q
   .lia
  exact(b.mv.keep n (r_ i a.len) y).trans (a.mv.keep n i l)
 .rcases b.mv.new o j with z|z
  .exact a.mv.new o z
  .exact .inr (pu a.len z)
def Dis(a:RQ)(Z:lR)(env:aq):Prop:=∀i j,i∈a->j∈a->i≠j->∀d l n,env[i]?=J (J d)->env[j]?=J (J l)->Z[i]?=J (J (.loc n))->Z[j]?≠J (J (.loc n))
inductive Nxt(q L:Nat)(h:MH)(B O ws:RQ)(Z':lR)(h':MH)(env:aq)(s:d_):Prop
 |mk(O':RQ)(a:Stp q L h O h' O')(c:Cx q h' L B O' ws Z' env s)(d:Dis ws Z' env):Nxt q L h B O ws Z' h' env s
inductive Ix(q L:Nat)(h:MH)(B O ws:RQ)(f:lR->MH->SOut)(o:SOut)(env:aq)(s:d_):Prop
 |mk(Z':lR)(h':MH)(e:o=f Z' h')(n:Nxt q L h B O ws Z' h' env s):Ix q L h B O ws f o env s
inductive QD(q L:Nat)(h:MH)(B:RQ)(fr:Bool)(o:SOut)(d:D)(s:d_):Prop
 |mk(v:PV)(h':MH)(e:o=.rt v h')(l:h.length<=h'.length)(b:∀n:Nat,n<L->n≠q->h'[n]?=h[n]?)(p:bh h' q s)(r:Rp q h' B d v)(f:fr=I->Frs q L B h' d v):QD q L h B fr o d s
def SOk(q L:Nat)(h:MH)(B O a:RQ)(fr:Bool)(o:SOut)(r:PS):Prop:=match r with
 |.nx env s=>Ix q L h B O a .nx o env s
 |.bk env s=>Ix q L h B O a .bk o env s
 |.ct env s=>Ix q L h B O a .ct o env s
 |.exc c env s=>Ix q L h B O a (.exc c) o env s
 |.rse c env s=>Ix q L h B O a (.rse c) o env s
 |.rt d s=>QD q L h B fr o d s
 |.bad=>True
structure Xd(ws:RQ) where
 m:n0
 p:aq->d_->PS
 fr:Bool
 ok:∀{q h L B O Z env s},Cx q h L B O ws Z env s->Dis ws Z env->SOk q L h B O ws fr (m Z h) (p env s)
def Nxt.after(a:Stp q L h O h1 O1)(n:Nxt q L h1 B O1 ws Z' h' env s):Nxt q L h B O ws Z' h' env s :=
 let⟨i,b,c,d⟩:=n;⟨i,a.trans b,c,d⟩
def SOk.after(a:Stp q L h O h1 O1)(k:SOk q L h1 B O1 ws fr o r):SOk q L h B O ws fr o r:=by
 cases r with
 |nx env s=>obtain⟨j,i,e,n⟩:=k;exact⟨j,i,e,n.after a⟩
 |bk env s=>obtain⟨j,i,e,n⟩:=k;exact⟨j,i,e,n.after a⟩
 |ct env s=>obtain⟨j,i,e,n⟩:=k;exact⟨j,i,e,n.after a⟩
 |exc c env s=>obtain⟨j,i,e,n⟩:=k;exact⟨j,i,e,n.after a⟩
 |rse c env s=>obtain⟨j,i,e,n⟩:=k;exact⟨j,i,e,n.after a⟩
 |rt d s=>obtain⟨v,i,e,l,b,z,E,C⟩:=k;exact⟨v,i,e,pu a.len l,λn y u=>(b n y u).trans (a.base n y u),z,E,C⟩
 |bad=>trivial
def SOk.fr(hf:f'=I->f=I)(k:SOk q L h B O ws f o r):SOk q L h B O ws f' o r:=by
 cases r with
 |rt d s=>obtain⟨v,a,e,l,b,p,r,z⟩:=k;exact⟨v,a,e,l,b,p,r,λy=>z (hf y)⟩
 |nx env s=>exact k
 |bk env s=>exact k
 |ct env s=>exact k
 |exc c env s=>exact k
 |rse c env s=>exact k
 |bad=>trivial
def KB.stp(c:Cx q h L B O ws Z env s)(k:KB q h h'):Stp q L h O h' O :=
 ⟨k.len,k.mv c.pO,λ_ h=>h,λn i a=>k.keep n (r_ i c.hL) a⟩
def PR.go{α:Type}(r:PR α)(env:aq)(k:α->aq->d_->PS):PS:=match r with
 |.ok a s=>k a env s
 |.exc c s=>.exc c env s
 |.bad=>.bad
@[simp]theorem Pg(a:α)(s:d_)(env:aq)(k:α->aq->d_->PS):(PR.ok a s).go env k=k a env s:=rfl
@[simp]theorem PR.go_exc(c:qx)(s:d_)(env:aq)(k:α->aq->d_->PS):(PR.exc c s:PR α).go env k=.exc c env s:=rfl
@[simp]theorem PR.go_bad(env:aq)(k:α->aq->d_->PS):(PR.bad:PR α).go env k=.bad:=rfl
theorem SOk.ex{α β:Type}{q L:Nat}{h:MH}{B O l:RQ}{fr:Bool}{Z:lR}{env:aq}{s:d_}{o:Out β}{r:PR α}{R:MH->α->β->Prop}{f:β->n0}{g:α->aq->d_->PS}(c:Cx q h L B O l Z env s)(d:Dis l Z env)(k:Ok q h o r R)(n:∀a b i j,KB q h i->Cx q i L B O l Z env j->R i a b->SOk q L i B O l fr (f b Z i) (g a env j)):
  SOk q L h B O l fr (o.go Z f) (r.go env g):=by
 cases r with
 |ok a j =>
  obtain⟨b,i,rfl,kb,pn,u⟩:=k;exact(n a b i j kb (c.kb kb pn) u).after (kb.stp c)
 |exc x j =>
  obtain⟨i,rfl,kb,pn⟩:=k;exact⟨Z,i,rfl,O,kb.stp c,c.kb kb pn,d⟩
 |bad=>trivial
noncomputable section
variable{ws:RQ}
def PS.then(r:PS)(k:aq->d_->PS):PS:=match r with
 |.nx env s=>k env s
 |r=>r
@[simp]theorem aw:(PS.nx env s).then k=k env s:=rfl
@[simp]theorem u5:(PS.rt d s).then k=.rt d s:=rfl
@[simp]theorem then_bk:(PS.bk env s).then k=.bk env s:=rfl
@[simp]theorem then_ct:(PS.ct env s).then k=.ct env s:=rfl
@[simp]theorem zt:(PS.exc c env s).then k=.exc c env s:=rfl
@[simp]theorem zH:(PS.rse c env s).then k=.rse c env s:=rfl
@[simp]theorem yN:PS.bad.then k=.bad:=rfl
def aO(a b:Xd ws):Xd ws where
 m:=bi a.m b.m
 p:=λenv s=>(a.p env s).then b.p
 fr:=a.fr&&b.fr
 ok {q h L B O Z env s} c d:=by
  have k:=a.ok c d;show SOk q L h B O ws _ ((a.m Z h).then b.m) _
  cases e:a.p env s with
  |nx i u =>
   rw[e]at k;obtain⟨P,Q,e1,M,st,G,C⟩:=k;rw[e1];exact((b.ok G C).fr (by simp)).after st
  |rt x u=>rw[e]at k;obtain⟨v,j,e1,E,H,F,y,z⟩:=k;rw[e1];exact SOk.fr (f:=a.fr) (by simp;exact λh _=>h) (show SOk q L h B O ws a.fr (.rt v j) (.rt x u) from⟨v,j,rfl,E,H,F,y,z⟩)
  |bk i u=>rw[e]at k;obtain⟨l,j,e1,r⟩:=k;rw[e1];exact⟨l,j,rfl,r⟩
  |ct i u=>rw[e]at k;obtain⟨l,j,e1,r⟩:=k;rw[e1];exact⟨l,j,rfl,r⟩
  |exc x i u=>rw[e]at k;obtain⟨l,j,e1,r⟩:=k;rw[e1];exact⟨l,j,rfl,r⟩
  |rse x i u=>rw[e]at k;obtain⟨l,j,e1,r⟩:=k;rw[e1];exact⟨l,j,rfl,r⟩
  |bad=>trivial
def nz:Xd ws where
 m:=kq
 p:=.nx
 fr:=I
 ok {q h L B O Z env s} c d:=⟨Z,h,rfl,O,Stp.refl _ _ _ _,c,d⟩
def GA{m:Mx PV}{Z:lR}{h:MH}:bC m Z h=(m Z h).go Z λv _ a=>.rt v a:=by unfold bC;cases m Z h<;>rfl
def bw(e:Xe ws):Xd ws where
 m:=bC e.m
 p:=λenv s=>(e.p env s).go env λd _ s=>.rt d s
 fr:=e.fr
 ok {q h L B O Z env s} c d:=by
  rw[GA];refine SOk.ex (f:=λv _ j=>.rt v j) (g:=λd _ s=>.rt d s) c d (e.ok c) λx v F H kb a ⟨w,z,f⟩=>?_;refine⟨v,F,rfl,mm _,λ_ _ _=>rfl,a.pen,w.base a.sub a.bb,λy=>?_⟩;intro k E G;obtain⟨n,xs,C,M,i,u⟩:=f y k E G
  have:=c.hL
  exact⟨n,xs,C,⋯,i,u.mv ⟨λ_ _ _=>rfl,λo l=>.inl (by
   rcases n8.mp l with z|z
   .subst z;simp
   .exact n4 _ (c.sub o z))⟩⟩
def j5(i:Nat)(E:ws.contains i=I:=by exact ys rfl):Xd ws where
 m:=bC (af i)
 p:=λenv s=>match env[i]? with
  |some (J d)=>.rt d s
  |_=>.bad
 fr:=I
 ok {q h L B O Z env s} c d:=by
  show SOk q L h B O ws _ _ (match env[i]? with|some (J d)=>PS.rt d s|_=>.bad)
  cases e:env[i]? with
  |none=>trivial
  |some o =>
   cases o with
   |none=>trivial
   |some x =>
    obtain⟨n,l,xs,y,e1,e2,a,b,g,r⟩:=c.sr.ow i x e (by simpa using E);subst e1
    have F:Mv O h (n::B) h:=⟨λ_ _ _=>rfl,λo C=>.inl (by
     rcases n8.mp C with z|z
     .subst z;exact a
     .exact c.sub o z)⟩
    have f:Frs q L B h (dl l y) (.loc n):=λu j e=>by
     have:u=l/\j=y:=by cases l<;>cases u<;>cases e<;>exact⟨rfl,rfl⟩
     obtain⟨rfl,rfl⟩:=this;exact⟨n,xs,rfl,b,g,r.mv F⟩
    refine⟨.loc n,h,by simp[bC,af,e2],mm _,λ_ _ _=>rfl,c.pen,f.rp c.bb rfl,λ_=>f⟩
def gf(e:Xe ws):Xd ws where
 m:=fw e.m
 p:=λenv s=>(e.p env s).go env λ_=>.nx
 fr:=I
 ok {q h L B O Z env s} c d:=SOk.ex (f:=λ_=>kq) (g:=λ_=>.nx) c d (e.ok c) λx v i j kb a _=>⟨Z,i,rfl,O,Stp.refl _ _ _ _,a,d⟩
def Az(t:Xt ws)(a b:Xd ws):Xd ws where
 m:=zJ t.m a.m b.m
 p:=λenv s=>(t.p env s).go env λx env s=>if x=I then a.p env s else b.p env s
 fr:=a.fr&&b.fr
 ok {q h L B O Z env s} c d:=SOk.ex (f:=λx=>if x=I then a.m else b.m) (g:=λx env s=>if x=I then a.p env s else b.p env s) c d (t.ok c) λx v l j kb i e=>by
  subst e
  cases x with
  |true=>exact(a.ok i d).fr (by simp;exact λh _=>h)
  |false=>exact(b.ok i d).fr (by simp)
def Dis.keep(d:Dis ws Z env)(k:∀i∈ws,Z'[i]?=Z[i]?/\env'[i]?=env[i]?):Dis ws Z' env':=λi j u l ne x y n a b e=>by
 rw[(k i u).1]at e;rw[(k i u).2]at a;rw[(k j l).2]at b;rw[(k j l).1];exact d i j u l ne x y n a b e
def bq(i:Nat)(e:Xe ws)(l:ws.contains i=T:=by exact ys rfl)(u:e.fz=I:=by exact ys rfl):Xd ws where
 m:=bt i e.m
 p:=λenv s=>(e.p env s).go env λd env s=>.nx (env.set i (J d)) s
 fr:=I
 ok {q h L B O Z env s} c d:=by refine SOk.ex (f:=λv Z h=>.nx (Z.set i (J v)) h) (g:=λd env s=>.nx (env.set i (J d)) s) c d (e.ok c) λx v y C kb j ⟨_,z,_⟩=>?_;obtain⟨a,b⟩:=j.sr.set (i:=i) (λz=>by simp[z]at l) (z u);exact⟨_,y,rfl,O,Stp.refl _ _ _ _,⟨j.bd,j.sub,j.bb,j.pb,j.hL,j.pen,a⟩,d.keep b⟩
def D.mine:D->Bool
 |.lst _=>I
 |.dic fz _ _=>!fz
 |_=>T
def dW(i:Nat)(e:Xe ws)(hi:ws.contains i=I:=by exact ys rfl)(hz:e.fr=I:=by exact ys rfl):Xd ws where
 m:=bt i e.m
 p:=λenv s=>(e.p env s).go env λd env s=>if d.mine=I then .nx (env.set i (J d)) s else .bad
 fr:=I
 ok {q h L B O Z env s} c d:=by
  show SOk q L h B O ws _ _ _;have k:=e.ok c;show SOk q L h B O ws _ ((e.m Z h).go Z λv Z h=>.nx (Z.set i (J v)) h) _
  cases S:e.p env s with
  |bad=>trivial
  |exc x s1 =>
   rw[S]at k;obtain⟨H,e1,kb,pn⟩:=k;rw[e1];exact⟨Z,H,rfl,O,kb.stp c,c.kb kb pn,d⟩
  |ok x s1 =>
   rw[S]at k;obtain⟨v,H,e1,kb,pn,_,_,f⟩:=k;rw[e1];by_cases hm:x.mine=I
   .obtain⟨E,u,rfl⟩:∃E u,x=dl E u:=by
     cases x with
     |lst u=>exact⟨Y,u,rfl⟩
     |dic fz ks u =>
      cases fz with
      |false=>exact⟨J ks,u,rfl⟩
      |true=>cases hm
     |_=>cases hm
    obtain⟨n,xs,rfl,hn,g,r⟩:=f hz E u rfl;show SOk q L h B O ws _ _ (if(dl E u).mine=I then _ else _);rw[c_ hm];have c1:=c.kb kb pn;have Q:i∈ws:=by simpa using hi
    have mv:Mv O h (n::O) H:=⟨λm hm no=>kb.keep m hm λz=>no (z▸c.pO),λo C=>by
     rcases n8.mp C with z|z
     .exact .inr ⋯
     .exact .inl z⟩
    have R:n∉O:=λz=>by have:=c.bd n z;lia
    refine⟨Z.set i (J (.loc n)),H,rfl,n::O,⟨kb.len,mv,λo C=>n4 _ C,λm hm hq=>kb.keep m (r_ hm c.hL) hq⟩,⟨λo C=>?_,λo C=>n4 _ (c.sub o C),c.bb,c.pb,c1.hL,pn,?_⟩,?_⟩
    .rcases n8.mp C with z|z
     .subst z;exact aG g
     .exact c1.bd o z
    .have sr:=c.sr.mv mv (λo C=>n4 _ C) λm hm hl _=>kb.keep m hm (by have:=c.pL;lia);refine⟨by simp[sr.len],λj x l G=>?_,λj x l G=>?_⟩
     .have ne:i≠j:=λz=>G (z▸Q);rw[mA ne]at l;rw[mA ne];exact sr.fz j x l G
     .by_cases z:i=j
      .subst z;have hl:i<env.length:=by have:=(pj.mp l).1;simpa using this
       rw[u_ hl]at l;cases l;exact⟨n,E,xs,u,rfl,u_ (by rw[sr.len];exact hl),by simp,by have:=c.hL;lia,g,r⟩
      .rw[mA z]at l;rw[mA z];exact sr.ow j x l G
    .have old:∀j d,j∈ws->i≠j->(env.set i (J (dl E u)))[j]?=J (J d)->(Z.set i (J (.loc n)))[j]?≠J (J (.loc n)):=λj d G ne l z=>by
      rw[mA ne]at l z;obtain⟨n',_,_,_,_,b2,b3,_⟩:=c.sr.ow j d l G;rw[z]at b2;cases b2;exact R b3
     intro a b W X ne x y m M P F;by_cases z1:i=a
     .subst z1;have hl:i<Z.length:=by have:=(pj.mp F).1;simpa using this
      rw[u_ hl]at F;cases F;exact old b y X ne P
     .by_cases U:i=b
      .subst U;intro z;have hl:i<Z.length:=by have:=(pj.mp z).1;simpa using this
       rw[u_ hl]at z;cases z;exact old a x W z1 M F
      .rw[mA z1]at M F;rw[mA U]at P ⊢;exact d a b W X ne x y m M P F
   .show SOk q L h B O ws _ _ (if x.mine=I then _ else _);rw[hI hm];trivial
def tF(e:Xe ws)(g:Xg ws)(E:e.fz=I:=by exact ys rfl):Xd ws where
 m:=ja e.m g.m
 p:=λenv s=>(e.p env s).go env λd env s=>match g.p d env with
  |some a=>.nx a s
  |none=>.bad
 fr:=I
 ok {q h L B O Z env s} c d:=by
  refine SOk.ex (f:=λv Z h=>match g.m v Z h with|.nx j l=>.nx j l|.exc x j l=>.exc x j l|_=>.bad) (g:=λd env s=>match g.p d env with|some a=>.nx a s|none=>.bad) c d (e.ok c) λx v F G kb i ⟨_,z,_⟩=>?_
  cases C:g.p x env with
  |none=>trivial
  |some a =>
   obtain⟨y,u,sr,k⟩:=g.ok i.sr (z E) C;rw[u];exact⟨y,F,rfl,O,Stp.refl _ _ _ _,⟨i.bd,i.sub,i.bb,i.pb,i.hL,i.pen,sr⟩,d.keep k⟩
def lb(x:Str)(a:Xs ws):Xd ws where
 m:=lg x a.m
 p:=λenv s=>(a.p env s).go env λi env s=>if i.length<=100000 then .rse ⟨x,[]⟩ env s else .bad
 fr:=I
 ok {q h L B O Z env s} c d:=by
  refine SOk.ex (f:=λ(j:RL) Z h=>if j.length<=sizeLine then .rse ⟨x,[]⟩ Z h else .bad) (g:=λ(i:RR) env s=>if i.length<=100000 then .rse ⟨x,[]⟩ env s else .bad) c d (a.ok c) λi j l C kb y ⟨w,_⟩=>?_;have hl:∀{i:RR}{j:RL},Cy q l L O i j->j.length=i.length:=by
   intro i
   induction i with
   |nil=>intro j w;rw[show j=[]from w];rfl
   |cons d i u=>intro j w;obtain⟨x,r,e,_,b⟩:=w;rw[e,Ax,Ax,u b]
  by_cases z:i.length<=100000
  .rw[c_ z,c_ (by have:=dP;rw[hl w];lia)];exact⟨Z,l,rfl,O,Stp.refl _ _ _ _,y,d⟩
  .rw[hI z];trivial
end
end PU
namespace PU
open MM
open L2 (vr)
noncomputable section
variable{ws:RQ}
def PS.turn(r:PS)(k:aq->d_->PS):PS:=match r with
 |.nx e s=>k e s
 |.ct e s=>k e s
 |.bk e s=>.nx e s
 |r=>r
@[simp]theorem uG:(PS.nx e s).turn k=k e s:=rfl
@[simp]theorem turn_ct:(PS.ct e s).turn k=k e s:=rfl
@[simp]theorem turn_bk:(PS.bk e s).turn k=.nx e s:=rfl
@[simp]theorem turn_rt:(PS.rt d s).turn k=.rt d s:=rfl
@[simp]theorem zS:(PS.exc c e s).turn k=.exc c e s:=rfl
@[simp]theorem yH:(PS.rse c e s).turn k=.rse c e s:=rfl
@[simp]theorem Kt:PS.bad.turn k=.bad:=rfl
def AU(g:D->aq->Option aq)(b:aq->d_->PS):RR->aq->d_->PS
 |[],env,s=>.nx env s
 |d::i,env,s=>match g d env with
  |none=>.bad
  |some a=>(b a s).turn (AU g b i)
def GB(g:Xg ws)(b:Xd ws):∀(G:RR)(xs:RL)(env:aq)(Z:lR)(h:MH)(O:RQ)(s:d_),Cx q h L B O ws Z env s->Dis ws Z env->Rps q h O G xs->(∀y∈it.gd,h[y.1]?=J (.lst y.2)/\y.1∉O) ->
  SOk q L h B O ws b.fr (vZ it g.m b.m xs Z h) (AU g.p b.p G env s):=by
 intro G
 induction G with
 |nil =>
  intro xs env Z h O s c d r gd
  have:xs=[]:=r
  subst this;have ok:it.ok h:=λy C=>(gd y C).1;refine⟨Z,h,by rw[vZ];dsimp only;rw[c_ ok],O,Stp.refl _ _ _ _,c,d⟩
 |cons x G U =>
  intro xs env Z h O s c d r gd;obtain⟨v,F,rfl,R,M⟩:=r;have ok:it.ok h:=λy C=>(gd y C).1;rw[AU]
  cases eg:g.p x env with
  |none=>trivial
  |some l =>
   obtain⟨S,W,sr,k⟩:=g.ok c.sr R eg;have c1:Cx q h L B O ws S l s:=⟨c.bd,c.sub,c.bb,c.pb,c.hL,c.pen,sr⟩;have kb:=b.ok c1 (d.keep k)
   have em:vZ it g.m b.m (v::F) Z h=(match b.m S h with
    |.nx j i=>vZ it g.m b.m F j i
    |.ct j i=>vZ it g.m b.m F j i
    |.bk j i=>.nx j i
    |.rt v i=>.rt v i
    |.exc e j i=>.exc e j i
    |.rse e j i=>.rse e j i
    |.bad=>.bad):=by rw[vZ];dsimp only;(rw[c_ ok,W])<;>rfl
   rw[em];have H:∀{i:MH}{E:RQ},Stp q L h O i E->∀y∈it.gd,i[y.1]?=J (.lst y.2)/\y.1∉E:=λst y C=>by
    obtain⟨a,b⟩:=st.mv.get (gd y C).1 (gd y C).2;exact⟨b,a⟩
   dsimp only
   cases z:b.p l s with
   |bad=>trivial
   |nx e2 u =>
    rw[z]at kb;obtain⟨j,i,e1,E,st,P,Q⟩:=kb;rw[e1];exact(U F e2 j i E u P Q (M.mv st.mv) (H st)).after st
   |ct e2 u =>
    rw[z]at kb;obtain⟨j,i,e1,E,st,P,Q⟩:=kb;rw[e1];exact(U F e2 j i E u P Q (M.mv st.mv) (H st)).after st
   |bk e2 u=>rw[z]at kb;obtain⟨j,i,e1,r⟩:=kb;rw[e1];exact⟨j,i,rfl,r⟩
   |exc x e2 u=>rw[z]at kb;obtain⟨j,i,e1,r⟩:=kb;rw[e1];exact⟨j,i,rfl,r⟩
   |rse x e2 u=>rw[z]at kb;obtain⟨j,i,e1,r⟩:=kb;rw[e1];exact⟨j,i,rfl,r⟩
   |rt x u=>rw[z]at kb;obtain⟨v,i,e1,R,M,r3,X,r5⟩:=kb;rw[e1];exact⟨v,i,rfl,R,M,r3,X,r5⟩
def mI(i:Xi ws)(g:Xg ws)(b:Xd ws)(C:i.fz=I:=by exact ys rfl):Xd ws where
 m:=fD i.m g.m b.m
 p:=λenv s=>(i.p env s).go env λa env s=>AU g.p b.p a env s
 fr:=b.fr
 ok {q h L B O Z env s} c d:=SOk.ex (f:=λj=>vZ j g.m b.m j.xs) (g:=λa env s=>AU g.p b.p a env s) c d (i.ok c) λa j E u kb z r =>
  GB g b a j.xs env Z E O u z d r.1 λy l=>⟨(r.2.1 y l).1,r.2.2 C y l⟩
def dQ(t:aq->d_->PR Bool)(b:aq->d_->PS):Nat->aq->d_->PS
 |0,_,_=>.bad
 |n+1,env,s=>(t env s).go env λx env s=>if x=I then(b env s).turn (dQ t b n)else .nx env s
def ot(t:Xt ws)(b:Xd ws):∀(n:Nat)(env:aq)(Z:lR)(h:MH)(O:RQ)(s:d_),Cx q h L B O ws Z env s->Dis ws Z env->SOk q L h B O ws b.fr (cy t.m b.m n Z h) (dQ t.p b.p n env s)
 |0,env,Z,h,O,s,c,d=>trivial
 |n+1,env,Z,h,O,s,c,d=>by
  refine SOk.ex c d (t.ok c) λx v P E kb C e=>?_;subst e
  cases x with
  |false=>exact⟨Z,P,rfl,O,Stp.refl _ _ _ _,C,d⟩
  |true =>
   have k:=b.ok C d;rw[c_ rfl]
   cases l:b.p env E with
   |bad=>trivial
   |nx e2 j =>
    rw[l]at k;obtain⟨i,a,e1,z,st,u,y⟩:=k;rw[e1];exact(ot t b n e2 i a z j u y).after st
   |ct e2 j =>
    rw[l]at k;obtain⟨i,a,e1,z,st,u,y⟩:=k;rw[e1];exact(ot t b n e2 i a z j u y).after st
   |bk e2 j=>rw[l]at k;obtain⟨i,a,e1,r⟩:=k;rw[e1];exact⟨i,a,rfl,r⟩
   |exc x e2 j=>rw[l]at k;obtain⟨i,a,e1,r⟩:=k;rw[e1];exact⟨i,a,rfl,r⟩
   |rse x e2 j=>rw[l]at k;obtain⟨i,a,e1,r⟩:=k;rw[e1];exact⟨i,a,rfl,r⟩
   |rt x j=>rw[l]at k;obtain⟨v,a,e1,H,Q,M,F,G⟩:=k;rw[e1];exact⟨v,a,rfl,H,Q,M,F,G⟩
def Ku(N:Nat)(t:Xt ws)(b:Xd ws)(hm:∀{Z h n},cy t.m b.m n Z h≠.bad->F1 t.m b.m Z h=cy t.m b.m n Z h):Xd ws where
 m:=F1 t.m b.m
 p:=dQ t.p b.p N
 fr:=b.fr
 ok {q h L B O Z env s} c d:=by
  have k:=ot t b N env Z h O s c d;by_cases z:cy t.m b.m N Z h=.bad
  .rw[z]at k
   cases e:dQ t.p b.p N env s with
   |bad=>trivial
   |nx e2 a=>rw[e]at k;obtain⟨_,_,e1,_⟩:=k;cases e1
   |ct e2 a=>rw[e]at k;obtain⟨_,_,e1,_⟩:=k;cases e1
   |bk e2 a=>rw[e]at k;obtain⟨_,_,e1,_⟩:=k;cases e1
   |exc x e2 a=>rw[e]at k;obtain⟨_,_,e1,_⟩:=k;cases e1
   |rse x e2 a=>rw[e]at k;obtain⟨_,_,e1,_⟩:=k;cases e1
   |rt x a=>rw[e]at k;obtain⟨_,_,e1,_⟩:=k;cases e1
  .rw[hm z];exact k
structure En where
 m:Nat->RL->MH->RB
 p:RR->RR->Option (D×RR)
 ok:∀{q:Nat}{h:MH}{O:RQ}{n:Nat}{xs:RL}{ds as:RR}{vs:RL}{d:D}{ds':RR},h[n]?=J (.lst xs)->Rps q h O ds xs->Rps q h O as vs->p ds as=J (d,ds')->∃v xs',m n vs h=.ok v (h.set n (.lst xs'))/\Rps q h O ds' xs'/\Rp q h O d v
def rP{q h L B O Z env s n xs' ds' i d0 kd}(c:Cx q h L B O ws Z env s)(d:Dis ws Z env)(F:i∈ws)(e:env[i]?=J (J d0))(G:Z[i]?=J (J (.loc n)))(r:Rps q h O ds' xs'):
  Nxt q L h B O ws Z (h.set n (mo kd xs')) (env.set i (J (dl kd ds'))) s:=by
 obtain⟨n',k0,xs,R,e0,e2,a,b,g,r0⟩:=c.sr.ow i _ e F;rw[G]at e2;cases e2;have mv:Mv O h O (h.set n (mo kd xs')):=⟨λm hm X=>mA (λ(z:n=m)=>X (z▸a)),λo E=>.inl E⟩;have hp:=c.pL;have W:=(pj.mp e).1;refine⟨O,⟨by simp,mv,λ_ h=>h,λm hm _=>mA ⋯⟩,⟨λo E=>by simpa using c.bd o E,c.sub,c.bb,c.pb,by simpa using c.hL,?_,⟨by simp[c.sr.len],λj x l u=>?_,λj x l u=>?_⟩⟩,?_⟩
 .unfold bh;rw[mA ⋯];exact c.pen
 .have ne:i≠j:=λz=>u (z▸F);rw[mA ne]at l;obtain⟨v,e1,w⟩:=c.sr.fz j x l u;exact⟨v,e1,w.mv mv⟩
 .by_cases z:i=j
  .subst z;rw[u_ W]at l;cases l;exact⟨n,kd,xs',ds',rfl,G,a,b,u_ (aG g),r.mv mv⟩
  .rw[mA z]at l;obtain⟨m,S,ys,M,e1,e3,b3,U,b5,b6⟩:=c.sr.ow j x l u
   have:n≠m:=λy=>d i j F u z _ _ n e l G (y▸e3)
   exact⟨m,S,ys,M,e1,e3,b3,U,by rw[mA this];exact b5,b6.mv mv⟩
 .intro j k u hk ne x y m l ek e1;have Q:∀j x,(env.set i (J (dl kd ds')))[j]?=J (J x)->∃P,env[j]?=J (J P):=λj x l=>by
   by_cases z:i=j
   .subst z;exact⟨_,e⟩
   .rw[mA z]at l;exact⟨x,l⟩
  obtain⟨P,H⟩:=Q j x l;obtain⟨y',C⟩:=Q k y ek;exact d j k u hk ne P y' m H C e1
def Cz{q h L B O Z env s n xs' ds' i ds}(c:Cx q h L B O ws Z env s)(d:Dis ws Z env)(j:i∈ws)(e:env[i]?=J (J (D.lst ds)))(a:Z[i]?=J (J (.loc n)))(r:Rps q h O ds' xs'):
  Nxt q L h B O ws Z (h.set n (.lst xs')) (env.set i (J (.lst ds'))) s:=rP (kd:=Y) c d j e a r
def Kv(o:En)(i:Nat)(a:Xs ws)(M:i∈ws)(R:a.fz=I){q h L B O Z env s}(c:Cx q h L B O ws Z env s)(d:Dis ws Z env)(y:a.p env s=.ok as s1)(E:env[i]?=J (J (.lst ds)))(P:o.p ds as=J (r,ds')):∃v l n j,KB q h l/\Cx q l L B O ws Z env s1/\Z[i]?=J (J (.loc n))/\Ef o.m (af i) a.m Z h=.ok v (l.set n (.lst j))/\Rps q l O ds' j/\Rp q l O r v:=by
 obtain⟨n,U,xs,z,F,e2,W,X,g,r0⟩:=c.sr.ow i _ E M;obtain⟨rfl,rfl⟩:=ir F;replace g:h[n]?=J (.lst xs):=g;have u:=a.ok c;rw[y]at u;obtain⟨vs,l,e3,kb,pn,_,G⟩:=u;have Q:=c.kb kb pn;have C:=(kb.keep n (aG g) (by have:=c.pL;lia)).trans g;obtain⟨v,j,e4,H,S⟩:=o.ok C (r0.mv (kb.mv c.pO)) (G R) P;refine⟨v,l,n,j,kb,Q,e2,?_,H,S⟩;have em:af i Z h=.ok (.loc n) h:=by simp[af,e2]
 simp_all
def Bb(o:En)(i:Nat)(a:aq->d_->PR (RR))(env:aq)(s:d_)(k:D->aq->d_->PS):PS:=match a env s with
 |.ok u l=>(match env[i]? with
  |some (J (.lst y))=>(match o.p y u with
   |some (r,j)=>k r (env.set i (J (.lst j))) l
   |none=>.bad)
  |_=>.bad)
 |_=>.bad
def wK(e1:a env s=.ok as s1)(e2:env[i]?=J (J (.lst ds)))(e3:o.p ds as=J (r,ds')):Bb o i a env s k=k r (env.set i (J (.lst ds'))) s1:=by simp only[Bb,e1,e2,e3]
def CA:Bb o i a env s k=.bad\/∃l z u r j,a env s=.ok l z/\env[i]?=J (J (.lst u))/\o.p u l=J (r,j)/\Bb o i a env s k=k r (env.set i (J (.lst j))) z:=by
 cases e1:a env s with
 |bad=>left;simp only[Bb,e1]
 |exc _ _=>left;simp only[Bb,e1]
 |ok l z =>
  cases e2:env[i]? with
  |none=>left;simp only[Bb,e1,e2]
  |some x =>
   cases x with
   |none=>left;simp only[Bb,e1,e2]
   |some d =>
    cases d with
    |lst u =>
     cases e3:o.p u l with
     |none=>left;simp only[Bb,e1,e2,e3]
     |some y=>exact .inr ⟨l,z,u,y.1,y.2,rfl,rfl,e3,wK e1 e2 e3⟩
    |_=>left;simp only[Bb,e1,e2]
def BD(o:En)(i:Nat)(a:Xs ws)(C:ws.contains i=I:=by exact ys rfl)(G:a.fz=I:=by exact ys rfl):Xd ws where
 m:=fw (Ef o.m (af i) a.m)
 p:=λenv s=>Bb o i a.p env s λ_=>.nx
 fr:=I
 ok {q h L B O Z env s} c d:=by
  rcases CA (o:=o) (i:=i) (a:=a.p) (env:=env) (s:=s) (k:=λ_=>.nx)with z|⟨P,M,Q,r,u,e1,e2,e3,z⟩
  .rw[z];trivial
  .rw[z];have j:i∈ws:=by simpa using C
   obtain⟨v,H,n,l,kb,F,E,em,y,R⟩:=Kv o i a j G c d e1 e2 e3;refine⟨Z,H.set n (.lst l),?_,(Cz F d j e2 E y).after (kb.stp c)⟩;unfold fw w_;rw[em];rfl
def Vw.int(w:Vw q h L O (.int b) v):v=.int b:=by
 rcases w with r|⟨n,a,xs,i,e,_⟩
 .exact r
 .cases a<;>cases e
def PS.fin(r:PS):PR D:=match r with
 |.nx _ s=>.ok .non s
 |.rt d s=>.ok d s
 |.exc c _ s=>.exc c s
 |.rse c _ s=>.exc c s
 |_=>.bad
@[simp]theorem ye:(PS.nx e s).fin=.ok .non s:=rfl
@[simp]theorem cr:(PS.rt d s).fin=.ok d s:=rfl
@[simp]theorem fin_exc:(PS.exc c e s).fin=.exc c s:=rfl
@[simp]theorem fin_rse:(PS.rse c e s).fin=.exc c s:=rfl
@[simp]theorem MY:PS.bad.fin=.bad:=rfl
def lw(n:Nat)(a:RR):aq:=a.map J++List.replicate (n-a.length) Y
def b8(n np:Nat)(b:Xd ws)(hw:ws.all (λi=>decide (np<=i))=I:=by exact ys rfl):Fn where
 m:=bP n np b.m
 p:=λu s=>if u.length=np then(b.p (lw n u) s).fin else .bad
 fr:=b.fr
 ok {q h O vs u s} bd H pn r:=by
  by_cases hl:u.length=np
  .rw[c_ hl];have hv:vs.length=np:=by rw[r.length];exact hl
   have F:∀i d,(lw n u)[i]?=J (J d)->i<np/\u[i]?=J d:=λi d e=>by
    by_cases z:i<u.length
    .refine⟨⋯,?_⟩;unfold lw at e;rw[qp (by simpa using z)]at e;simp at e;simpa using e
    .unfold lw at e;rw[AE (by simpa using z)]at e;by_cases y:i-(u.map J).length<n-u.length
     .simp[EX,y]at e
     .simp at y e;exact absurd e (by simp[EX])
   have L:∀i d,(lw n u)[i]?=J (J d)->i∉ws:=λi d e C=>by
    have:=(F i d e).1
    rw[NA]at hw
    have:=hw i C
    simp at this;lia
   have c:Cx q h h.length O O ws (aY n vs) (lw n u) s:=by refine⟨bd,λ_ h=>h,bd,H,mm _,pn,⟨by simp[aY,lw,r.length],λi d e _=>?_,λi d e C=>absurd C (L i d e)⟩⟩;obtain⟨v,M,Q⟩:=r.get (F i d e).2;refine⟨v,?_,Q⟩;unfold aY;rw[qp (by simpa using(pj.mp M).1)];simp[M]
   have k:=b.ok c λi j C _ _ d _ _ e=>absurd C (L i d e)
   have em:bP n np b.m vs h=(match b.m (aY n vs) h with
    |.nx _ a=>.ok .non a
    |.rt v a=>.ok v a
    |.exc x _ a=>.exc x a
    |.rse x _ a=>.exc x a
    |_=>.bad):=by unfold bP;(rw[c_ hv])<;>(cases b.m (aY n vs) h<;>rfl)
   rw[em];have kb:∀{a G},Stp q h.length h O a G->KB q h a:=λst=>⟨st.len,λm hm H=>st.base m hm H⟩
   cases e:b.p (lw n u) s with
   |nx e1 B=>rw[e]at k;obtain⟨P,a,f,G,st,E,_⟩:=k;rw[f];exact⟨.non,a,rfl,kb st,E.pen,rfl,λ_ k u e=>by cases k<;>cases e⟩
   |exc x e1 B=>rw[e]at k;obtain⟨P,a,f,G,st,E,_⟩:=k;rw[f];exact⟨a,rfl,kb st,E.pen⟩
   |rse x e1 B=>rw[e]at k;obtain⟨P,a,f,G,st,E,_⟩:=k;rw[f];exact⟨a,rfl,kb st,E.pen⟩
   |rt x B=>rw[e]at k;obtain⟨v,a,f,l,b,p,S,R⟩:=k;rw[f];exact⟨v,a,rfl,⟨l,b⟩,p,S,R⟩
   |bk e1 B=>trivial
   |ct e1 B=>trivial
   |bad=>trivial
  .rw[hI hl];trivial
end
end PU
namespace PU
open MM SetT SortT
open L2 (vr nr fL)
noncomputable section
section
variable{q:Nat}{h:MH}{L:Nat}{O:RQ}{v:PV}
def Vw.non(w:Vw q h L O .non v):v=.non:=by
 rcases w with r|⟨n,a,xs,i,e,_⟩
 .exact r
 .cases a<;>cases e
def Vw.str(w:Vw q h L O (.str x) v):v=.str x:=by
 rcases w with r|⟨n,a,xs,i,e,_⟩
 .exact r
 .cases a<;>cases e
inductive QE(h:MH)(P:RL->Prop)(v:PV):Prop
 |mk(n:Nat)(xs:RL)(e:v=.loc n)(g:h[n]?=J (.lst xs))(r:P xs):QE h P v
def Vw.lst(w:Vw q h L O (.lst ds) v):QE h (Rps q h O ds) v:=by
 rcases w with⟨n,xs,e,_,g,r⟩|⟨n,i,xs,a,e,e1,_,_,g,r⟩
 .exact⟨n,xs,e,g,r⟩
 .obtain⟨rfl,rfl⟩:=ir e;exact⟨n,xs,e1,g,r⟩
def Vw.tup(w:Vw q h L O (.tup ds) v):OA (Rps q h O ds) v:=by
 rcases w with r|⟨n,i,xs,a,e,_⟩
 .exact r
 .cases i<;>cases e
def Eo(r:Rp q h O d v)(hf:fr=I->∀k a,d≠dl k a):Gv q h O fr (.ok v h) d :=
 ⟨v,[],by simp,by simpa using r,λz k a e=>absurd e (hf z k a)⟩
def A2:Gv q h O fr (.ok (.int i) h) (.int i):=Eo rfl λ_ k _ e=>by cases k<;>cases e
def vg:Gv q h O fr (.ok (.bl i) h) (.bl i):=Eo rfl λ_ k _ e=>by cases k<;>cases e
def eP(w:Cy q h L O [d] vs):∃x,vs=[x]/\Vw q h L O d x:=by
 obtain⟨x,r,e,a,b⟩:=w
 have:r=[]:=b
 subst this;exact⟨x,e,a⟩
def OC(w:Cy q h L O [d,d'] vs):∃x y,vs=[x,y]/\Vw q h L O d x/\Vw q h L O d' y:=by obtain⟨x,r,e,a,b⟩:=w;obtain⟨y,rfl,c⟩:=eP b;exact⟨x,y,e,a,c⟩
end
def tJ(m:PV->PV->MH->RB)(f:Int->Int->D)(g:Int->Int->PV)(hm:∀i j h,m (.int i) (.int j) h=.ok (g i j) h)(hg:∀i j q h O fr,Gv q h O fr (.ok (g i j) h) (f i j)):x0 where
 m:=m
 p:=λa b=>match a,b with
  |.int i,.int j=>J (f i j)
  |_,_=>Y
 fr:=I
 ok {q h L O a x b y d} bd wa wb e:=by
  cases a with
  |int i =>
   cases b with
   |int j=>cases e;rw[wa.int,wb.int,hm];exact hg i j q h O I
   |_=>cases e
  |_=>cases e
def mY:x0:=tJ Bl (λi j=>.int (i-j)) (λi j=>.int (i-j)) (λ_ _ _=>rfl) λ_ _ _ _ _ _=>A2
def Kw:x0:=tJ A0 (λi j=>.bl (decide (i<j))) (λi j=>.bl (decide (i<j))) (λ_ _ _=>rfl) λ_ _ _ _ _ _=>vg
def OD:x0:=tJ B8 (λi j=>.bl (decide (i<=j))) (λi j=>.bl (decide (i<=j))) (λ_ _ _=>rfl) λ_ _ _ _ _ _=>vg
def Ep:x0:=tJ Bk (λi j=>.bl (decide (j<i))) (λi j=>.bl (decide (j<i))) (λ_ _ _=>rfl) λ_ _ _ _ _ _=>vg
def OE:x0:=tJ A1 (λi j=>.bl (decide (j<=i))) (λi j=>.bl (decide (j<=i))) (λ_ _ _=>rfl) λ_ _ _ _ _ _=>vg
def aX:x0 where
 m:=l_
 p:=λa b=>match a,b with
  |.int i,.int j=>J (.int (i+j))
  |.lst x,.lst y=>if x.length+y.length<=100000 then J (.lst (x++y))else Y
  |.tup (a::x),.tup y=>if x.length+1+y.length<=100000 then J (.tup (a::x++y))else Y
  |_,_=>Y
 fr:=I
 ok {q h L O a x b y d} bd wa wb e:=by
  cases a with
  |int i =>
   cases b with
   |int j=>cases e;rw[wa.int,wb.int];exact A2
   |_=>cases e
  |lst x =>
   cases b with
   |lst y =>
    dsimp only at e;by_cases z:x.length+y.length<=100000
    .rw[c_ z]at e;cases e;obtain⟨n,xs,rfl,g,r⟩:=wa.lst;obtain⟨u,ys,rfl,B,l⟩:=wb.lst;show Gv q h O I (match h[n]?,h[u]? with|some (.lst xs),J (.lst ys)=>q7 (xs++ys) h|_,_=>.bad) _;rw[g,B];exact lP bd (r.app l) (by simpa using z)
    .rw[hI z]at e;cases e
   |_=>cases e
  |tup x =>
   cases x with
   |nil=>cases b<;>cases e
   |cons a x =>
    cases b with
    |tup y =>
     dsimp only at e;by_cases z:x.length+1+y.length<=100000
     .rw[c_ z]at e;cases e;obtain⟨xs,rfl,r⟩:=wa.tup;obtain⟨ys,rfl,l⟩:=wb.tup;have ne:xs≠[]:=λz=>by have:=r.length;simp[z]at this
      show Gv q h O I (if xs≠[]then m2 (xs++ys) h else .bad) _;rw[c_ ne];exact ui (r.app l) (by simp;lia)
     .rw[hI z]at e;cases e
    |_=>cases e
  |_=>cases e
def Rps.rep(r:Rps q h O ds xs):∀n,Rps q h O (List.replicate n ds).flatten (List.replicate n xs).flatten
 |0=>rfl
 |n+1=>by
  exact r.app (Rps.rep r n)
def bI:x0 where
 m:=ki
 p:=λa b=>match a,b with
  |.int i,.int j=>if IntMulOk i j then J (.int (i*j))else Y
  |.lst x,.int j=>if(0<=j/\j<=1000)/\((List.replicate j.toNat x).flatten).length<=100000 then J (.lst (List.replicate j.toNat x).flatten)else Y
  |_,_=>Y
 fr:=I
 ok {q h L O a x b y d} bd wa wb e:=by
  cases a with
  |int i =>
   cases b with
   |int j =>
    dsimp only at e;by_cases z:IntMulOk i j
    .rw[c_ z]at e;cases e;rw[wa.int,wb.int];show Gv q h O I (if IntMulOk i j then .ok (.int (i*j)) h else .bad) _;rw[c_ z];exact A2
    .rw[hI z]at e;cases e
   |_=>cases e
  |lst x =>
   cases b with
   |int j =>
    dsimp only at e;by_cases z:(0<=j/\j<=1000)/\((List.replicate j.toNat x).flatten).length<=100000
    .rw[c_ z]at e;cases e;obtain⟨n,xs,rfl,g,r⟩:=wa.lst;rw[wb.int];show Gv q h O I (match h[n]? with|some (.lst xs)=>if -(2^63)<=j/\j<2^63 then q7 (List.flatten (List.replicate j.toNat xs)) h else .bad|_=>.bad) _;rw[g];dsimp only;rw[c_ ⋯];exact lP bd (r.rep _) z.2
    .rw[hI z]at e;cases e
   |_=>cases e
  |_=>cases e
def CC:x0 where
 m:=AI
 p:=λa b=>match a,b with
  |.int i,.int j=>if j≠0 then J (.int (i.fdiv j))else Y
  |_,_=>Y
 fr:=I
 ok {q h L O a x b y d} bd wa wb e:=by
  cases a with
  |int i =>
   cases b with
   |int j =>
    dsimp only at e;by_cases z:j≠0
    .rw[c_ z]at e;cases e;rw[wa.int,wb.int];show Gv q h O I (if j≠0 then .ok (.int (i.fdiv j)) h else .bad) _;rw[c_ z];exact A2
    .rw[hI z]at e;cases e
   |_=>cases e
  |_=>cases e
def mT:x0 where
 m:=nw
 p:=λa b=>match a,b with
  |.int i,.int j=>if j≠0 then J (.int (i.fmod j))else Y
  |_,_=>Y
 fr:=I
 ok {q h L O a x b y d} bd wa wb e:=by
  cases a with
  |int i =>
   cases b with
   |int j =>
    dsimp only at e;by_cases z:j≠0
    .rw[c_ z]at e;cases e;rw[wa.int,wb.int];show Gv q h O I (if j≠0 then .ok (.int (i.fmod j)) h else .bad) _;rw[c_ z];exact A2
    .rw[hI z]at e;cases e
   |_=>cases e
  |_=>cases e
def pg:x0 where
 m:=rk
 p:=λa b=>match a,b with
  |.int i,.int j=>if fL i j then J (.int (i^j.toNat))else Y
  |_,_=>Y
 fr:=I
 ok {q h L O a x b y d} bd wa wb e:=by
  cases a with
  |int i =>
   cases b with
   |int j =>
    dsimp only at e;by_cases z:fL i j
    .rw[c_ z]at e;cases e;rw[wa.int,wb.int];show Gv q h O I (if fL i j then .ok (.int (i^j.toNat)) h else .bad) _;rw[c_ z];exact A2
    .rw[hI z]at e;cases e
   |_=>cases e
  |_=>cases e
def k_:x0 where
 m:=aM
 p:=λa b=>match a,b with
  |.lst x,.int j=>nr x j
  |.tup x,.int j=>nr x j
  |_,_=>Y
 fr:=T
 ok {q h L O a x b y d} bd wa wb e:=by
  have at':∀{i:RR}{xs:RL}{j:Int},Rps q h O i xs->nr i j=J d->∃v,nr xs j=J v/\Rp q h O d v:=λ{i xs j} r e=>by
   unfold nr at e ⊢;rw[r.length]
   cases e1:vr i.length j with
   |none=>rw[e1]at e;cases e
   |some k=>rw[e1]at e;exact r.get e
  cases b with
  |int j =>
   rw[wb.int]
   cases a with
   |lst i =>
    obtain⟨n,xs,rfl,g,r⟩:=wa.lst;obtain⟨v,e1,l⟩:=at' r e;show Gv q h O T (match h[n]? with|some (.lst xs)=>(match nr xs j with|some v=>.ok v h|none=>.bad)|_=>.bad) _;rw[g];dsimp only;rw[e1];exact Eo l λz=>by cases z
   |tup i =>
    obtain⟨xs,rfl,r⟩:=wa.tup;obtain⟨v,e1,l⟩:=at' r e;show Gv q h O T (match nr xs j with|some v=>.ok v h|none=>.bad) _;rw[e1];exact Eo l λz=>by cases z
   |_=>cases e
  |_=>cases a<;>cases e
def QF(i:Bool):x0 where
 m:=pG i
 p:=λa b=>match b with
  |.non=>(match a with
   |.non=>J (.bl (!i))
   |_=>J (.bl i))
  |.bl b=>(match a with
   |.bl c=>J (.bl (if i then !(c==b)else c==b))
   |.non=>J (.bl i)
   |.int _=>J (.bl i)
   |.str _=>J (.bl i)
   |.tup _=>J (.bl i)
   |_=>Y)
  |_=>Y
 fr:=I
 ok {q h L O a x b y d} bd wa wb e:=by
  have loc:∀{a:D}{x:PV},Vw q h L O a x->(∃j,a=.lst j)\/(∃fz l j,a=.dic fz l j)\/(∃c,a=.exc c)\/a=.pen->∃n,x=.loc n:=λ{a x} w z=>by
   rcases w with r|⟨n,u,xs,j,e,e1,_⟩
   .rcases z with⟨j,rfl⟩|⟨_,_,_,rfl⟩|⟨c,rfl⟩|rfl
    .obtain⟨n,_,e,_⟩:=r;exact⟨n,e⟩
    .obtain⟨n,_,e,_⟩:=r;exact⟨n,e⟩
    .obtain⟨n,e,_⟩:=r;exact⟨n,e⟩
    .exact⟨q,r⟩
   .exact⟨n,e1⟩
  cases b with
  |non =>
   rw[wb.non]
   cases a with
   |non=>cases e;rw[wa.non];exact vg
   |bl c=>cases e;rw[wa.bl];exact vg
   |int c=>cases e;rw[wa.int];exact vg
   |str c=>cases e;rw[wa.str];exact vg
   |tup c=>cases e;obtain⟨xs,rfl,_⟩:=wa.tup;exact vg
   |lst c=>cases e;obtain⟨n,rfl⟩:=loc wa (.inl ⟨_,rfl⟩);exact vg
   |dic a b c=>cases e;obtain⟨n,rfl⟩:=loc wa (.inr (.inl ⟨_,_,_,rfl⟩));exact vg
   |exc c=>cases e;obtain⟨n,rfl⟩:=loc wa (.inr (.inr (.inl ⟨_,rfl⟩)));exact vg
   |pen=>cases e;obtain⟨n,rfl⟩:=loc wa (.inr (.inr (.inr rfl)));exact vg
  |bl b =>
   rw[wb.bl]
   cases a with
   |non=>cases e;rw[wa.non];exact vg
   |bl c=>cases e;rw[wa.bl];exact vg
   |int c=>cases e;rw[wa.int];exact vg
   |str c=>cases e;rw[wa.str];exact vg
   |tup c=>cases e;obtain⟨xs,rfl,_⟩:=wa.tup;exact vg
   |_=>cases e
  |_=>cases e
mutual
def py:D->Option PyData
 |.non=>J .none
 |.bl b=>J (.bool b)
 |.int i=>J (.int i)
 |.str x=>J (.str x)
 |.tup a=>(AV a).map .tuple
 |.lst a=>(AV a).map .list
 |_=>Y
def AV:RR->Option (List PyData)
 |[]=>J []
 |d::a=>match py d,AV a with
  |some x,J xs=>J (x::xs)
  |_,_=>Y
end
mutual
def y_:D->Nat
 |.tup a=>1+we a
 |.lst a=>1+we a
 |_=>0
def we:RR->Nat
 |[]=>0
 |d::a=>max (y_ d) (we a)
end
def ua(d:D):(∀(v:PV)(e:PyData)(n:Nat),Rp q h O d v->py d=J e->y_ d<=n->rd n h v=J e):=by
 refine D.rec (motive_1:=λd=>∀(v:PV)(e:PyData)(n:Nat),Rp q h O d v->py d=J e->y_ d<=n->rd n h v=J e)
  (motive_2:=λi=>∀(u:RL)(j:List PyData)(n:Nat),Rps q h O i u->AV i=J j->we i<=n->cM (rd n h) u=J j)
  (λv _ n r e _=>?_) (λb v _ n r e _=>?_) (λb v _ n r e _=>?_) (λb v _ n r e _=>?_) (λi z v e n r l hd=>?_) (λi z v e n r l hd=>?_) (λ_ _ _ _ _ _ _ _ e _=>?_) (λ_ _ _ _ _ e _=>?_) (λ_ _ _ _ e _=>?_)
  (λu j n r e _=>?_) (λd i B C u j n r e hd=>?_) d
 .rw[show v=PV.non from r];cases e;cases n<;>rfl
 .rw[show v=PV.bl b from r];cases e;cases n<;>rfl
 .rw[show v=PV.int b from r];cases e;cases n<;>rfl
 .rw[show v=PV.str b from r];cases e;cases n<;>rfl
 .obtain⟨xs,ex,r⟩:=r;subst ex;rw[py,Ai]at l;obtain⟨j,e1,rfl⟩:=l;rw[y_]at hd
  cases n with
  |zero=>lia
  |succ n=>simp only[rd];rw[z _ _ n r e1 ⋯];rfl
 .obtain⟨m,xs,ex,_,g,r⟩:=r;subst ex;rw[py,Ai]at l;obtain⟨j,e1,rfl⟩:=l;rw[y_]at hd
  cases n with
  |zero=>lia
  |succ n=>simp only[rd,g];rw[z _ _ n r e1 ⋯];rfl
 .simp[py]at e
 .simp[py]at e
 .simp[py]at e
 .rw[show u=[]from r];rw[AV]at e;cases e;rfl
 .obtain⟨x,t,ex,a,b⟩:=r;subst ex;rw[we]at hd;rw[AV]at e
  cases e1:py d with
  |none=>rw[e1]at e;cases e
  |some y =>
   cases e2:AV i with
   |none=>rw[e1,e2]at e;cases e
   |some ys =>
    rw[e1,e2]at e;cases e;have F:=B _ _ n a e1 ⋯;have E:=C _ _ n b e2 ⋯;simp only[cM,F,E]
def Kx(r:Rp q h O d v)(a:py d=J e)(hd:y_ d<=n):rd n h v=J e:=ua d v e n r a hd
def wI(r:Rps q h O ds vs)(a:AV ds=J es)(hd:we ds<=n):cM (rd n h) vs=J es:=by
 have:=ua (.tup ds) (.tup vs) (.tuple es) (n+1) (⟨vs,rfl,r⟩) (by rw[py,a];rfl) (by rw[y_];lia)
 simp only[rd]at this
 simp_all
def nS(w:Vw q h L O d v)(a:py d=J e)(hd:y_ d<=60):rd 60 h v=J e:=by
 rcases w with r|⟨n,j,xs,u,rfl,rfl,_,_,g,r⟩
 .exact Kx r a hd
 .cases j with
  |some _=>simp[dl,py]at a
  |none =>
   replace g:h[n]?=J (.lst xs):=g;unfold dl at a hd;rw[py,Ai]at a;obtain⟨l,e1,rfl⟩:=a;rw[y_]at hd;have i:=wI (n:=59) r e1 ⋯;show(match h[n]? with|some (.lst xs)=>(cM (rd 59 h) xs).map PyData.list|_=>Y)=_;rw[g];dsimp only;rw[i];rfl
def yB(i:Bool)(a b:D):RE:=match py a,py b with
 |some x,J y=>if(y_ a<=60/\y_ b<=60)/\SeqAt.shaped x=I/\SeqAt.shaped y=I then J (.bl (if i then !PyData.eqv x y else PyData.eqv x y))else Y
 |_,_=>Y
def uN(e:yB neg a b=J d):∃x y,py a=J x/\py b=J y/\(y_ a<=60/\y_ b<=60)/\(SeqAt.shaped x=I/\SeqAt.shaped y=I)/\d=.bl (if neg then !PyData.eqv x y else PyData.eqv x y):=by
 unfold yB at e
 cases e1:py a with
 |none=>rw[e1]at e;cases e
 |some x =>
  cases e2:py b with
  |none=>rw[e1,e2]at e;cases e
  |some y =>
   simp_all
def v4:x0 where
 m:=zL
 p:=yB T
 fr:=I
 ok {q h L O a x b y d} bd wa wb e:=by obtain⟨u,w,e1,e2,hd,i,rfl⟩:=uN e;unfold zL;rw[nS wa e1 hd.1,nS wb e2 hd.2];dsimp only;rw[c_ i];exact vg
def AF:x0 where
 m:=yJ
 p:=yB I
 fr:=I
 ok {q h L O a x b y d} bd wa wb e:=by obtain⟨u,w,e1,e2,hd,i,rfl⟩:=uN e;unfold yJ;rw[nS wa e1 hd.1,nS wb e2 hd.2];dsimp only;rw[c_ i];exact vg
def Vw.seqOf(w:Vw q h L O d v)(e:d.items=J ds):∃xs,MM.cu h v=J xs/\Rps q h O ds xs:=by
 cases d with
 |lst a=>cases e;obtain⟨n,xs,rfl,g,r⟩:=w.lst;exact⟨xs,by simp[MM.cu,g],r⟩
 |tup a=>cases e;obtain⟨xs,rfl,r⟩:=w.tup;exact⟨xs,rfl,r⟩
 |_=>cases e
def Ky(i:Bool)(a b:D):RE:=match b.items with
 |some j=>(match py a,AV j with
  |some x,J ys=>if(y_ a<=60/\we j<=60)/\x.canLay0=I/\PyData.canLayAll0 ys=I then J (.bl (if i then !ys.any (λe=>PyData.eqv e x)else ys.any (λe=>PyData.eqv e x)))else Y
  |_,_=>Y)
 |none=>Y
def Kz(i:Bool):x0 where
 m:=Ch i
 p:=Ky i
 fr:=I
 ok {q h L O a x b y d} bd wa wb e:=by
  unfold Ky at e
  cases j:b.items with
  |none=>rw[j]at e;cases e
  |some l =>
   rw[j]at e;dsimp only at e
   cases e1:py a with
   |none=>rw[e1]at e;cases e
   |some u =>
    cases e2:AV l with
    |none=>rw[e1,e2]at e;cases e
    |some C =>
     rw[e1,e2]at e;dsimp only at e;by_cases z:(y_ a<=60/\we l<=60)/\u.canLay0=I/\PyData.canLayAll0 C=I
     .rw[c_ z]at e;cases e;obtain⟨xs,B,r⟩:=wb.seqOf j;unfold Ch;rw[B,nS wa e1 z.1.1];dsimp only;rw[wI r e2 z.1.2];dsimp only;rw[c_ z.2];exact vg
     .rw[hI z]at e;cases e
end
noncomputable section
def ik:Kq where
 m:=Bm
 p:=λa=>match a with
  |.int i=>J (.int (-i))
  |_=>Y
 fr:=I
 ok {q h L O a x d} bd w e:=by
  cases a with
  |int i=>cases e;rw[w.int];exact A2
  |_=>cases e
def A3:D->Option String
 |.non=>J "NoneType"
 |.bl _=>J "bool"
 |.int _=>J "int"
 |.str _=>J "str"
 |.tup _=>J "tuple"
 |.lst _=>J "list"
 |.dic _ _ _=>J "dict"
 |_=>Y
def KA(w:Vw q h L O d v)(e:A3 d=J t):Ar h v=J t:=by
 cases d with
 |non=>cases e;rw[w.non];rfl
 |bl b=>cases e;rw[w.bl];rfl
 |int b=>cases e;rw[w.int];rfl
 |str b=>cases e;rw[w.str];rfl
 |tup b=>cases e;obtain⟨xs,rfl,_⟩:=w.tup;rfl
 |lst b=>cases e;obtain⟨n,xs,rfl,g,_⟩:=w.lst;simp[Ar,g]
 |dic fz l j =>
  cases e;rcases w with⟨n,xs,rfl,_,g,_⟩|⟨n,i,xs,a,e,rfl,_,_,g,_⟩
  .simp[Ar,g]
  .cases i with
   |none=>cases e
   |some _=>simp[Ar,g,mo]
 |_=>cases e
def fX(i:List String):Kq where
 m:=eR i
 p:=λa=>(A3 a).map λt=>.bl (i.any (dm t))
 fr:=I
 ok {q h L O a x d} bd w e:=by rw[Ai]at e;obtain⟨t,e1,rfl⟩:=e;unfold eR;rw[KA w e1];exact vg
def lz(l i:RM):Kq where
 m:=bf l i
 p:=λa=>match a with
  |.exc c=>if l.contains c=I then J (.bl (i.contains c))else Y
  |.pen=>Y
  |_=>J (.bl T)
 fr:=I
 ok {q h L O a x d} bd w e:=by
  cases a with
  |non=>cases e;rw[w.non];exact vg
  |bl b=>cases e;rw[w.bl];exact vg
  |int b=>cases e;rw[w.int];exact vg
  |str b=>cases e;rw[w.str];exact vg
  |tup b=>cases e;obtain⟨xs,rfl,_⟩:=w.tup;exact vg
  |lst b=>cases e;obtain⟨n,xs,rfl,g,_⟩:=w.lst;simp only[bf,g];exact vg
  |dic fz B y =>
   cases e;rcases w with⟨n,xs,rfl,_,g,_⟩|⟨n,j,xs,u,e,rfl,_,_,g,_⟩
   .simp only[bf,g];exact vg
   .cases j with
    |none=>cases e
    |some _=>simp only[bf,g,mo];exact vg
  |exc c =>
   dsimp only at e;by_cases z:l.contains c=I
   .rw[c_ z]at e;cases e;rcases w with⟨n,rfl,_,g⟩|⟨n,j,xs,y,e,_⟩
    .simp only[bf,g];rw[c_ z];exact vg
    .cases j<;>cases e
   .rw[hI z]at e;cases e
  |pen=>cases e
def oC:A_ where
 k:=λxs h=>(Ay xs h).ne
 p:=λj=>match j with
  |[.int i]=>J (.int (if i<0 then -i else i))
  |_=>Y
 fr:=I
 ok {q h L O j xs d} bd w e:=by
  match j,e with
  |[.int i],e=>cases e;obtain⟨x,rfl,a⟩:=eP w;rw[a.int];exact A2
def m8:A_ where
 k:=λxs h=>(yL xs h).ne
 p:=λj=>match j with
  |[.int i]=>J (.int i)
  |[.bl b]=>J (.int (if b then 1 else 0))
  |_=>Y
 fr:=I
 ok {q h L O j xs d} bd w e:=by
  match j,e with
  |[.int i],e=>cases e;obtain⟨x,rfl,a⟩:=eP w;rw[a.int];exact A2
  |[.bl i],e=>cases e;obtain⟨x,rfl,a⟩:=eP w;rw[a.bl];exact A2
def pF:A_ where
 k:=λxs h=>(oh xs h).ne
 p:=λj=>match j with
  |[.lst i]=>J (.int i.length)
  |[.tup i]=>J (.int i.length)
  |[.str x]=>if x.length<=sizeLine then J (.int x.length)else Y
  |_=>Y
 fr:=I
 ok {q h L O j xs d} bd w e:=by
  match j,e with
  |[.lst i],e =>
   cases e;obtain⟨x,rfl,a⟩:=eP w;obtain⟨n,ys,rfl,g,r⟩:=a.lst;simp only[oh,g];rw[r.length];exact A2
  |[.tup i],e =>
   cases e;obtain⟨x,rfl,a⟩:=eP w;obtain⟨ys,rfl,r⟩:=a.tup;simp only[oh];rw[r.length];exact A2
  |[.str x],e =>
   dsimp only at e;by_cases z:x.length<=sizeLine
   .rw[c_ z]at e;cases e;obtain⟨x,rfl,a⟩:=eP w;rw[a.str];simp only[oh];rw[c_ z];exact A2
   .rw[hI z]at e;cases e
def oo:A_ where
 k:=λxs h=>(AT xs h).ne
 p:=λj=>match j with
  |[d]=>d.items.bind λi=>if i.length<=100000 then J (.lst i)else Y
  |_=>Y
 fr:=I
 ok {q h L O j xs d} bd w e:=by
  match j,e with
  |[a],e =>
   obtain⟨x,rfl,wx⟩:=eP w;rw[L4]at e;obtain⟨i,e1,e2⟩:=e;obtain⟨xs,e3,r⟩:=wx.seqOf e1;by_cases z:i.length<=100000
   .rw[c_ z]at e2;cases e2;obtain⟨v,g,e4,l,u⟩:=lP bd r z;exact⟨v,g,by simp only[AT,e3];rw[e4];rfl,l,u⟩
   .rw[hI z]at e2;cases e2
def cE:A_ where
 k:=λxs h=>(v9 xs h).ne
 p:=λi=>match i with
  |[d]=>d.items.map .tup
  |_=>Y
 fr:=I
 ok {q h L O i xs d} bd w e:=by
  match i,e with
  |[a],e =>
   obtain⟨x,rfl,wx⟩:=eP w;rw[Ai]at e;obtain⟨j,e1,rfl⟩:=e;obtain⟨xs,e3,r⟩:=wx.seqOf e1;simp only[v9,e3];exact Eo ⟨xs,rfl,r⟩ λ_ k _ e=>by cases k<;>cases e
def i9:RR->Option (List Bool)
 |[]=>J []
 |.bl b::r=>(i9 r).map (b::·)
 |_=>Y
def yh:∀{i:RR}{xs:RL}{bs:List Bool},Rps q h O i xs->i9 i=J bs->i7 xs=J bs
 |[],_,_,r,e=>by rw[show _=[]from r];cases e;rfl
 |d::i,_,bs,⟨x,t,ex,a,b⟩,e=>by
  subst ex
  cases d with
  |bl c =>
   rw[show x=PV.bl c from a];rw[i9,Ai]at e;obtain⟨j,e1,rfl⟩:=e;rw[i7,yh b e1];rfl
  |_=>cases e
def rW:A_ where
 k:=λxs h=>(Ap xs h).ne
 p:=λi=>match i with
  |[d]=>(d.items.bind i9).map λbs=>.bl (bs.all id)
  |_=>Y
 fr:=I
 ok {q h L O i xs d} bd w e:=by
  match i,e with
  |[a],e =>
   obtain⟨x,rfl,wx⟩:=eP w;rw[Ai]at e;obtain⟨bs,e1,rfl⟩:=e;rw[L4]at e1;obtain⟨j,e1,e2⟩:=e1;obtain⟨xs,e3,r⟩:=wx.seqOf e1;simp only[Ap,e3,BH,yh r e2];exact vg
def jV:RR->Option (RN)
 |[]=>J []
 |.int b::r=>(jV r).map (b::·)
 |_=>Y
def rf:∀{i:RR}{xs:RL}{bs:RN},Rps q h O i xs->jV i=J bs->xs=bs.map .int
 |[],_,_,r,e=>by rw[show _=[]from r];cases e;rfl
 |d::i,_,bs,⟨x,t,ex,a,b⟩,e=>by
  subst ex
  cases d with
  |int c =>
   rw[show x=PV.int c from a];rw[jV,Ai]at e;obtain⟨j,e1,rfl⟩:=e;rw[rf b e1];rfl
  |_=>cases e
def qB:∀(bs:RN),kQ (bs.map .int)=J bs
 |[]=>rfl
 |b::bs=>by rw[pk,kQ,qB bs];rfl
def mR:∀(bs:RN),Rps q h O (bs.map .int) (bs.map .int)
 |[]=>rfl
 |b::bs=>⟨_,_,rfl,rfl,mR bs⟩
def Vw.lstOf(w:Vw q h L O (.lst ds) v):∃xs,MM.iL h v=J xs/\Rps q h O ds xs:=by obtain⟨n,xs,rfl,g,r⟩:=w.lst;exact⟨xs,by simp[MM.iL,g],r⟩
def QG(bd:Bd h O)(r:∀h O,Rps q h O ds xs):Gv q h O I (.ok (.loc h.length) (h++[.lst xs])) (.lst ds):=by
 have g:(h++[MO.lst xs])[h.length]?=J (.lst xs):=by simp
 exact⟨_,_,rfl,⟨_,_,rfl,λz=>by have:=bd _ z;ext,g,r _ _⟩,λ_ k a e=>by obtain⟨rfl,rfl⟩:=ir e;exact⟨_,_,rfl,mm _,g,r _ _⟩⟩
def qZ(a:RR):Option (RR):=match jV a with
 |some ns=>if ns.length<64 then J ((fv ns).map .int)else Y
 |none=>Y
def dH:A_ where
 k:=λxs h=>(t_ xs h).ne
 p:=λa=>match a with
  |[.lst i]=>(qZ i).map .lst
  |_=>Y
 fr:=I
 ok {q h L O a xs d} bd w e:=by
  match a,e with
  |[.lst i],e =>
   obtain⟨x,rfl,wx⟩:=eP w;obtain⟨ys,j,r⟩:=wx.lstOf;rw[Ai]at e;obtain⟨l,e1,rfl⟩:=e;unfold qZ at e1
   cases e2:jV i with
   |some ns =>
    rw[e2]at e1;dsimp only at e1;by_cases z:ns.length<64
    .rw[c_ z]at e1;cases e1
     have:t_ [x] h=.ok (.loc h.length) (h++[.lst ((fv ns).map .int)]):=by simp only[t_,j,rf r e2,qB];rw[c_ z]
     show Gv q h O I (t_ [x] h).ne _;rw[this];exact QG bd λ_ _=>mR _
    .rw[hI z]at e1;cases e1
   |none=>rw[e2]at e1;cases e1
def gS(lo:Int)(n:Nat):RR:=(List.range n).map λ(i:Nat)=>D.int (lo+(i:Int))
def uI:Rps q h O (gS lo n) (bE lo n):=by
 have:=mR (q:=q) (h:=h) (O:=O) ((List.range n).map λ(i:Nat)=>lo+(i:Int))
 rw[wr,wr]at this;exact this
def GC:A_ where
 k:=λl i=>match l with
  |[.int j]=>if -(2^62)<=j/\j<2^62/\j.toNat<=sizeLine then .ok (.loc i.length) (i++[.lst (bE 0 j.toNat)])else .bad
  |_=>.bad
 p:=λa=>match a with
  |[.int j]=>if -100000<=j/\j<=100000 then J (.lst (gS 0 j.toNat))else Y
  |_=>Y
 fr:=I
 ok {q h L O a xs d} bd w e:=by
  match a,e with
  |[.int j],e =>
   obtain⟨x,rfl,wx⟩:=eP w;rw[wx.int];dsimp only at e;by_cases z:-100000<=j/\j<=100000
   .rw[c_ z]at e;cases e;dsimp only
    have:=dP
    rw[c_ ⟨by ext,by ext,by ext⟩];exact QG bd λ_ _=>uI
   .rw[hI z]at e;cases e
def OF:MX where
 k:=λi l=>match i with
  |[.int j]=>if -(2^62)<=j/\j<2^62 then .ok ⟨bE 0 j.toNat,[]⟩ l else .bad
  |_=>.bad
 p:=λa=>match a with
  |[.int j]=>if -100000<=j/\j<=100000 then J (gS 0 j.toNat)else Y
  |_=>Y
 ok {q h L O a xs d} hq hO bd w e:=by
  match a,e with
  |[.int j],e =>
   obtain⟨x,rfl,wx⟩:=eP w;rw[wx.int];dsimp only at e;by_cases z:-100000<=j/\j<=100000
   .rw[c_ z]at e;cases e;dsimp only;rw[c_ ⟨by ext,by ext⟩];exact⟨_,rfl,uI,(λ_ hg=>nomatch hg),λ_ _ hg=>nomatch hg⟩
   .rw[hI z]at e;cases e
def Vw.sqAny(l:q<L)(u:q∈O)(w:Vw q h L O d v)(e:d.items=J ds):∃t xs gd,MM.eI v h=J (t,xs,gd)/\Rps q h O ds xs/\(∀g∈gd,h[g.1]?=J (.lst g.2)/\g.1≠q)/\(Rp q h O d v->∀g∈gd,g.1∉O):=by
 obtain⟨xs,gd,e1,r,i,j⟩:=w.seq l u e
 cases d with
 |lst y =>
  cases e;obtain⟨n,ys,rfl,g,a⟩:=w.lst;simp only[vo,g]at e1;cases e1;exact⟨T,xs,[(n,xs)],by simp[MM.eI,g],a,i,j⟩
 |tup y =>
  cases e;obtain⟨ys,rfl,a⟩:=w.tup;cases e1;exact⟨I,_,[],rfl,a,i,j⟩
 |_=>cases e
def bz(a:RR):RR:=a.zipIdx.map λp=>.tup [.int (p.2:Int),p.1]
def sd:∀{i:RR}{xs:RL}(n:Nat),Rps q h O i xs->Rps q h O ((i.zipIdx n).map λp=>.tup [.int (p.2:Int),p.1]) ((xs.zipIdx n).map λp=>.tup [.int (p.2:Int),p.1])
 |[],_,_,r=>by rw[show _=[]from r];rfl
 |d::i,_,n,⟨x,t,e,a,b⟩=>by
  subst e;exact⟨_,_,rfl,⟨_,rfl,⟨_,_,rfl,rfl,⟨_,_,rfl,a,rfl⟩⟩⟩,sd (n+1) b⟩
def iE:MX where
 k:=λu j=>match u with
  |[x]=>(match eI x j with
   |some (_,xs,gd)=>.ok ⟨cY xs,gd⟩ j
   |none=>.bad)
  |_=>.bad
 p:=λi=>match i with
  |[d]=>d.items.map bz
  |_=>Y
 ok {q h L O i xs d} hq hO bd w e:=by
  match i,e with
  |[a],e =>
   obtain⟨x,rfl,wx⟩:=eP w;rw[Ai]at e;obtain⟨C,e1,rfl⟩:=e;obtain⟨t,ys,gd,e2,r,l,y⟩:=wx.sqAny hq hO e1;refine⟨⟨cY ys,gd⟩,by simp only[e2],sd 0 r,l,λz=>y ?_⟩;obtain⟨B,E,e3,a,_⟩:=z;cases e3;exact a
def fj(xs:RR)(lo a:RX):RR:=(xs.drop (HT.mu xs.length 0 lo)).take (HT.mu xs.length xs.length a-HT.mu xs.length 0 lo)
def uU(lo a:RX)(r:Rps q h O ds xs):Rps q h O (fj ds lo a) (fM xs lo a):=by unfold fj fM;rw[r.length];exact(r.drop _).take _
structure Xo(ws:RQ) where
 m:Mx (RX)
 p:aq->d_->PR (RX)
 ok:∀{q h L B O Z env s},Cx q h L B O ws Z env s->Ok q h (m Z h) (p env s) (λ_ a b=>a=b)
section
variable{ws:RQ}
def vv:Xo ws where
 m:=Ka
 p:=λ_ s=>.ok Y s
 ok {q h L B O Z env s} c:=⟨Y,h,rfl,KB.refl _ _,c.pen,rfl⟩
def vz(e:Xe ws):Xo ws where
 m:=Kb e.m
 p:=λenv s=>(e.p env s).bind λd s=>match d with
  |.int i=>.ok (J i) s
  |_=>.bad
 ok {q h L B O Z env s} c:=by
  refine(e.ok c).bind λx v j u l a ⟨w,_,_⟩=>?_
  cases x with
  |int i=>rw[w.int];exact⟨J i,j,rfl,KB.refl _ _,a,rfl⟩
  |_=>trivial
def Iy(d:D)(lo i:RX):RE:=match d with
 |.lst a=>J (.lst (fj a lo i))
 |.tup a=>if HT.mu a.length 0 lo=0/\HT.mu a.length a.length i=a.length then Y else J (.tup (fj a lo i))
 |_=>Y
def KC(bd:Bd h O)(w:Vw q h L O a x)(e:Iy a lo hi=J d):Gv q h O I (Gj x lo hi h) d:=by
 cases a with
 |lst i =>
  cases e;obtain⟨n,xs,rfl,g,r⟩:=w.lst;simp only[Gj,g];have r:=uU lo hi r;have m:Mv O h O (h++[MO.lst (fM xs lo hi)]):=⟨λn l _=>qp l,λo j=>.inl j⟩
  have u:Mv O h (h.length::O) (h++[MO.lst (fM xs lo hi)]):=⟨λn l _=>qp l,λo j=>by
   rcases n8.mp j with z|z
   .exact .inr (by ext)
   .exact .inl z⟩
  have g:(h++[MO.lst (fM xs lo hi)])[h.length]?=J (.lst (fM xs lo hi)):=by simp
  exact⟨_,_,rfl,⟨_,_,rfl,λz=>by have:=bd _ z;ext,g,r.mv m⟩,λ_ k y e=>by obtain⟨rfl,rfl⟩:=ir e;exact⟨_,_,rfl,mm _,g,r.mv u⟩⟩
 |tup i =>
  unfold Iy at e;dsimp only at e;by_cases z:HT.mu i.length 0 lo=0/\HT.mu i.length i.length hi=i.length
  .rw[c_ z]at e;cases e
  .rw[hI z]at e;cases e;obtain⟨xs,rfl,r⟩:=w.tup;simp only[Gj];rw[r.length,hI z];exact Eo ⟨_,rfl,uU lo hi r⟩ λ_ k _ e=>by cases k<;>cases e
 |_=>cases e
def vB(a:Xe ws)(lo z:Xo ws):Xe ws where
 m:=Kc a.m lo.m z.m
 p:=λenv s=>(a.p env s).bind λx s=>(lo.p env s).bind λl s=>(z.p env s).bind λu s=>.of (Iy x l u) s
 fz:=I
 fr:=I
 ok {q h L B O Z env s} c:=by
  refine(a.ok c).bind λx v h1 R E Q ⟨w,_,_⟩=>?_;have G:=c.kb E Q;refine(lo.ok G).bind λl S h2 s2 i P e=>?_;subst e;have C:=G.kb i P;refine(z.ok C).bind λu X U W j F e=>?_;subst e;have H:=C.kb j F
  cases e:Iy x l u with
  |none=>trivial
  |some d =>
   obtain⟨y,g,e1,r,M⟩:=KC H.bd ((w.kb i c.pO c.pL).kb j c.pO c.pL) e;exact AK (pu (pu E.len i.len) j.len) F ⟨y,g,by rw[e1];rfl,r,M⟩
end
def uq:En where
 m:=fJ
 p:=λi j=>match j with
  |[a]=>if i.length<100000 then J (.non,i++[a])else Y
  |_=>Y
 ok {q h O n xs i j vs d ds'} g r ra e:=by
  match j,e with
  |[a],e =>
   obtain⟨x,t,rfl,a,b⟩:=ra
   have:t=[]:=b
   subst this;dsimp only at e;by_cases z:i.length<100000
   .rw[c_ z]at e;cases e;refine⟨.non,xs++[x],?_,r.app ⟨x,[],rfl,a,rfl⟩,rfl⟩;simp only[fJ,g];rw[c_ (by have:=dP;rw[r.length];ext)]
   .rw[hI z]at e;cases e
def za:En where
 m:=lV
 p:=λj l=>match l with
  |[.int i,a]=>if(0<=i/\i<=100000)/\j.length<100000 then J (.non,j.take (min i.toNat j.length)++a::j.drop (min i.toNat j.length))else Y
  |_=>Y
 ok {q h O n xs j l vs d ds'} g r ra e:=by
  match l,e with
  |[.int i,a],e =>
   obtain⟨x,t,rfl,B,y,u,rfl,w,b⟩:=ra
   have:u=[]:=b
   subst this;rw[show x=PV.int i from B];dsimp only at e;by_cases z:(0<=i/\i<=100000)/\j.length<100000
   .rw[c_ z]at e;cases e;refine⟨.non,k6 xs i y,?_,?_,rfl⟩
    .simp only[lV,g];rw[c_ ⟨by ext,by have:=dP;rw[r.length];ext⟩]
    .unfold k6;rw[hI (by ext),r.length];exact(r.take _).app ⟨y,_,rfl,w,r.drop _⟩
   .rw[hI z]at e;cases e
end
section
variable{ws:RQ}{env:aq}{s:d_}
@[simp]theorem au{d:D}{r:aq}:(ac 0:Xe ws).p (J d::r) s=.ok d s:=rfl
@[simp]theorem ax{i:Nat}{o:RE}{r:aq}:(ac (i+1):Xe ws).p (o::r) s=(ac i:Xe ws).p r s:=by simp[ac]
theorem uv(e:env[i]?=J (J d)):(ac i:Xe ws).p env s=.ok d s:=by show(match env[i]? with|some (J d)=>PR.ok d s|_=>.bad)=_;rw[e]
@[simp]theorem bg:(xC k:Xe ws).p env s=.ok k.d s:=rfl
@[simp]theorem lh:Cn.non.d=.non:=rfl
@[simp]theorem Er:(Cn.bl b).d=.bl b:=rfl
@[simp]theorem aT:(Cn.int b).d=.int b:=rfl
@[simp]theorem jC:(Cn.str b).d=.str b:=rfl
@[simp]theorem aI:(ag o a b).p env s=(a.p env s).bind λx s1=>(b.p env s1).bind λy s2=>.of (o.p x y) s2:=rfl
@[simp]theorem lW:(x_ o a).p env s=(a.p env s).bind λx s1=>.of (o.p x) s1:=rfl
@[simp]theorem az:(a_:Xs ws).p env s=.ok [] s:=rfl
@[simp]theorem am:(aa a r).p env s=(a.p env s).bind λx s1=>(r.p env s1).bind λy s2=>.ok (x::y) s2:=rfl
@[simp]theorem ce:(qs o a).p env s=(a.p env s).bind λx s1=>.of (o.p x) s1:=rfl
@[simp]theorem aJ:(ay f a h).p env s=(a.p env s).bind f.p:=rfl
@[simp]theorem ny:(bT a h).p env s=(a.p env s).bind λx s1=>if x.length<=100000 then .ok (.lst x) s1 else .bad:=rfl
@[simp]theorem bW:(aZ a h).p env s=(a.p env s).bind λx s1=>if x.length<=100000 then .ok (.tup x) s1 else .bad:=rfl
@[simp]theorem wB:(AL:Xe ws).p env s=.ok (.dic T [] []) s:=rfl
@[simp]theorem cN:(xB a).p env s=(a.p env s).bl:=rfl
@[simp]theorem gM:(hZ a).p env s=(a.p env s).bind λb s=>.ok (!b) s:=rfl
@[simp]theorem xx:(oU a b).p env s=(a.p env s).bind λx s=>if x=I then b.p env s else .ok T s:=rfl
@[simp]theorem Es:(Ek a b).p env s=(a.p env s).bind λx s=>if x=I then .ok I s else b.p env s:=rfl
@[simp]theorem MZ:(qo:Xt ws).p env s=.ok I s:=rfl
@[simp]theorem uk:(kE a b).p env s=(a.p env s).bl.bind λx s=>if x=I then(b.p env s).bl.bind λy s=>.ok (.bl y) s else .ok (.bl T) s:=rfl
@[simp]theorem wq:(sF a b).p env s=(a.p env s).bl.bind λx s=>if x=I then .ok (.bl I) s else(b.p env s).bl.bind λy s=>.ok (.bl y) s:=rfl
@[simp]theorem CD:(qT a).p env s=(a.p env s).bl.bind λx s=>.ok (.bl (!x)) s:=rfl
@[simp]theorem yn:(Gy t a b z h).p env s=(t.p env s).bind λx s=>if x=I then a.p env s else b.p env s:=rfl
@[simp]theorem KG:(og f g a b e).p env s=(a.p env s).bind λx s1=>(b.p env s1).bind λy s2=>match f.p x y with
  |some (.bl t)=>if t=I then(e.p env s2).bind λz s3=>.of (g.p y z) s3 else .ok (.bl T) s2
  |_=>.bad:=rfl
@[simp]theorem sW:(iY o a).p env s=(a.p env s).bind λx s1=>.of (o.p x) s1:=rfl
@[simp]theorem dj:(bx a).p env s=(a.p env s).bind λx s1=>.of x.items s1:=rfl
@[simp]theorem Et{i:Nat}{h:ws.contains i=T}{d:D}:(pf i h).p d env=J (env.set i (J d)):=rfl
@[simp]theorem Eu:(AM:El ws).p [] env=J env:=rfl
@[simp]theorem Ev:(v_ a t).p (d::ds) env=(a.p d env).bind λenv1=>t.p ds env1:=rfl
@[simp]theorem Ew:(AN t n).p (.tup ds) env=if ds.length=n then t.p ds env else Y:=rfl
@[simp]theorem pB{nv:Nat}{fm:RQ}{i:Xi ws}{ws':RQ}{g:Xg ws'}{t:Xt ws'}{e:Xe ws'}{hw:Bq nv fm ws=ws'}{hz:e.fz=I}:(bO nv fm i g t e hw hz).p env s=(i.p env s).bind λds s1=>if ds.length<=100000 then (match eJ g.p t.p e.p ds (vG nv fm env) s1 with
  |.ok r s2=>.ok (.lst r) s2
  |_=>.bad)else .bad:=rfl
@[simp]theorem fZ:(vv:Xo ws).p env s=.ok Y s:=rfl
@[simp]theorem fY:(vz e).p env s=(e.p env s).bind λd s=>match d with
  |.int i=>.ok (J i) s
  |_=>.bad:=rfl
@[simp]theorem gu:(vB a lo hi).p env s=(a.p env s).bind λx s=>(lo.p env s).bind λl s=>(hi.p env s).bind λu s=>.of (Iy x l u) s:=rfl
@[simp]theorem aK:(aO a b).p env s=(a.p env s).then b.p:=rfl
@[simp]theorem dh:(nz:Xd ws).p env s=.nx env s:=rfl
@[simp]theorem bZ:(bw e).p env s=(e.p env s).go env λd _ s=>.rt d s:=rfl
theorem lF{i:Nat}{h:ws.contains i=I}{d:D}(e:env[i]?=J (J d)):(j5 i h).p env s=.rt d s:=by show(match env[i]? with|some (J d)=>PS.rt d s|_=>.bad)=_;rw[e]
@[simp]theorem o6:(gf e).p env s=(e.p env s).go env λ_=>.nx:=rfl
@[simp]theorem dL:(Az t a b).p env s=(t.p env s).go env λx env s=>if x=I then a.p env s else b.p env s:=rfl
@[simp]theorem bV:(bq i e hi hz).p env s=(e.p env s).go env λd env s=>.nx (env.set i (J d)) s:=rfl
@[simp]theorem nG:(D.lst ds).mine=I:=rfl
@[simp]theorem OG:(D.dic T ks ds).mine=I:=rfl
@[simp]theorem uc{hi hz}:(dW i e hi hz:Xd ws).p env s=(e.p env s).go env λd env s=>if d.mine=I then .nx (env.set i (J d)) s else .bad:=rfl
@[simp]theorem wU:(tF e g hz).p env s=(e.p env s).go env λd env s=>match g.p d env with
  |some env1=>.nx env1 s
  |none=>.bad:=rfl
@[simp]theorem KH:(lb x a).p env s=(a.p env s).go env λds env s=>if ds.length<=100000 then .rse ⟨x,[]⟩ env s else .bad:=rfl
@[simp]theorem nQ:(mI i g b hz).p env s=(i.p env s).go env λds env s=>AU g.p b.p ds env s:=rfl
@[simp]theorem KI:(BD o i a hi hz).p env s=Bb o i a.p env s λ_=>.nx:=rfl
theorem bu{hw}(hl:ds.length=np):(b8 n np b hw).p ds s=(b.p (lw n ds) s).fin:=by show(if ds.length=np then _ else _)=_;rw[c_ hl]
variable{i j:Int}{b:Bool}{x y:RR}
@[simp]theorem cQ:aX.p (.int i) (.int j)=J (.int (i+j)):=rfl
theorem CF(h:x.length+y.length<=100000):aX.p (.lst x) (.lst y)=J (.lst (x++y)):=by show(if x.length+y.length<=100000 then _ else _)=_;rw[c_ h]
@[simp]theorem lI:mY.p (.int i) (.int j)=J (.int (i-j)):=rfl
@[simp]theorem GD:Kw.p (.int i) (.int j)=J (.bl (decide (i<j))):=rfl
@[simp]theorem OH:OD.p (.int i) (.int j)=J (.bl (decide (i<=j))):=rfl
@[simp]theorem wW:Ep.p (.int i) (.int j)=J (.bl (decide (j<i))):=rfl
@[simp]theorem GF:OE.p (.int i) (.int j)=J (.bl (decide (j<=i))):=rfl
@[simp]theorem lY:k_.p (.lst x) (.int j)=nr x j:=rfl
@[simp]theorem lE:k_.p (.tup x) (.int j)=nr x j:=rfl
theorem CG(h:j≠0):mT.p (.int i) (.int j)=J (.int (i.fmod j)):=by show(if j≠0 then _ else _)=_;rw[c_ h]
@[simp]theorem GG:(fX Ts).p d=(A3 d).map λt=>.bl (Ts.any (dm t)):=rfl
@[simp]theorem OI:A3 .non=J "NoneType":=rfl
@[simp]theorem QH:A3 (.bl b)=J "bool":=rfl
@[simp]theorem OK:A3 (.int i)=J "int":=rfl
@[simp]theorem OL:A3 (.str z)=J "str":=rfl
@[simp]theorem OM:A3 (.tup x)=J "tuple":=rfl
@[simp]theorem ON:A3 (.lst x)=J "list":=rfl
@[simp]theorem OO:A3 (.dic fz ks es)=J "dict":=rfl
@[simp]theorem GH:m8.p [.bl b]=J (.int (if b then 1 else 0)):=rfl
@[simp]theorem OP:m8.p [.int i]=J (.int i):=rfl
@[simp]theorem GJ:pF.p [.lst x]=J (.int x.length):=rfl
@[simp]theorem OQ:pF.p [.tup x]=J (.int x.length):=rfl
theorem CH(h:x.length<=100000):oo.p [.lst x]=J (.lst x):=by show(if x.length<=100000 then _ else _)=_;rw[c_ h]
@[simp]theorem eT:cE.p [.lst x]=J (.tup x):=rfl
@[simp]theorem KJ:cE.p [.tup x]=J (.tup x):=rfl
theorem Ex(h:-100000<=i/\i<=100000):GC.p [.int i]=J (.lst (gS 0 i.toNat)):=by show(if _ then _ else _)=_;rw[c_ h]
def KL(h:-100000<=i/\i<=100000):OF.p [.int i]=J (gS 0 i.toNat):=by show(if _ then _ else _)=_;rw[c_ h]
@[simp]theorem KN:iE.p [.lst x]=J (bz x):=rfl
@[simp]theorem gc:Iy (.lst x) lo hi=J (.lst (fj x lo hi)):=rfl
theorem qz(h:x.length<100000):uq.p x [a]=J (.non,x++[a]):=by show(if _ then _ else _)=_;rw[c_ h]
def xY{a:D}{i:Nat}(h:i<=x.length)(hl:x.length<100000):za.p x [.int i,a]=J (.non,x.take i++a::x.drop i):=by show(if _ then _ else _)=_;rw[c_ ⟨by ext,hl⟩,EZ,Mf h]
end
section
variable{i j:Int}{b c:Bool}
def qe(a:x.canLay0=I)(l:x.depth<=64):SeqAt.shaped x=I:=by simp[SeqAt.shaped,a,l]
@[simp]theorem jo:yB neg (.int i) (.int j)=J (.bl (if neg then !decide (i=j)else decide (i=j))):=rfl
@[simp]theorem OS:yB neg (.bl b) (.bl c)=J (.bl (if neg then !(b==c)else b==c)):=rfl
@[simp]theorem fC:v4.p a d=yB T a d:=rfl
@[simp]theorem nE:AF.p a d=yB I a d:=rfl
@[simp]theorem KO:(Kz neg).p a d=Ky neg a d:=rfl
theorem ko:∀(k:RN),AV (k.map .int)=J (k.map .int)/\we (k.map .int)=0
 |[]=>⟨rfl,rfl⟩
 |i::k=>by
  obtain⟨a,b⟩:=ko k;simp[AV,py,a,we,y_,b]
def pV:∀(xs:RN),(xs.map PyData.int).any (λe=>PyData.eqv e (.int x))=decide (x∈xs)
 |[]=>by simp
 |y::ys=>by
  rw[pk,NG,pV ys]
  have:PyData.eqv (.int y) (.int x)=decide (x=y):=by simp[PyData.eqv,Bool.beq_eq_decide_eq,eq_comm]
  grind
def iZ:∀(k l:RN),PyData.eqvAll (k.map .int) (l.map .int)=decide (k=l)
 |[],[]=>by simp[PyData.eqvAll]
 |[],_::_=>by simp[PyData.eqvAll]
 |_::_,[]=>by simp[PyData.eqvAll]
 |a::k,b::l=>by
  simp only[pk,PyData.eqvAll,PyData.eqv,iZ k l];by_cases z:a=b<;>simp[z]
def GK{l:Bool}{x:Int}{d:D}{xs:RN}(e:d.items=J (xs.map .int)):Ky l (.int x) d=J (.bl (if l then !decide (x∈xs)else decide (x∈xs))):=by obtain⟨a,b⟩:=ko xs;simp only[Ky,e,py,a];rw[c_ ⟨⟨by simp[y_],⋯⟩,rfl,(j4 xs).1⟩,pV]
def rn{l:Bool}{xs ys:RN}:yB l (.lst (xs.map .int)) (.lst (ys.map .int))=J (.bl (if l then !decide (xs=ys)else decide (xs=ys))):=by obtain⟨a,b⟩:=ko xs;obtain⟨c,d⟩:=ko ys;obtain⟨y,z⟩:=j4 xs;obtain⟨u,B⟩:=j4 ys;simp only[yB,py,a,c,DQ];rw[c_ ⟨⟨by simp[y_,b],by simp[y_,d]⟩,qe (by simpa [PyData.canLay0]using y) (by simp only[PyData.depth];lia),qe (by simpa [PyData.canLay0]using u) (by simp only[PyData.depth];lia)⟩];simp only[PyData.eqv,iZ]
end
@[simp]theorem M0:AU g b [] env s=.nx env s:=rfl
theorem sX(e:g d env=J env1):AU g b (d::ds) env s=(b env1 s).turn (AU g b ds):=by rw[AU,e]
def pI(i:Nat->aq->d_->Prop):∀(y:RR)(j:Nat)(env:aq)(s:d_),i j env s ->
  (∀m env s d,i (j+m) env s->y[m]?=J d->∃l a u,g d env=J l/\b l s=.nx a u/\i (j+m+1) a u)->∃a u,AU g b y env s=.nx a u/\i (j+y.length) a u
 |[],j,env,s,E,_=>⟨env,s,rfl,E⟩
 |d::y,j,env,s,E,st=>by
  obtain⟨l,B,L,e1,e2,F⟩:=st 0 env s d E rfl;obtain⟨C,H,e3,G⟩:=pI i y (j+1) B L F λm a u x q z=>by
   have:=st (m+1) a u x (by rw[show j+(m+1)=j+1+m by lia];exact q) (by simpa using z)
   rw[show j+(m+1)+1=j+1+m+1 by lia]at this;exact this
  refine⟨C,H,?_,by rw[Ax,show j+(y.length+1)=j+1+y.length by lia];exact G⟩;rw[sX e1,e2];exact e3
def nt(h:0<=i):∃n:Nat,i=(n:Int):=⟨i.toNat,⋯⟩
noncomputable section
def CJ:D->Option Bool
 |.non=>J T
 |.bl b=>J b
 |.int i=>J (i != 0)
 |.tup xs=>J (!xs.isEmpty)
 |.lst xs=>J (!xs.isEmpty)
 |_=>Y
def Rps.empty(r:Rps p h O a vs):vs.isEmpty=a.isEmpty:=by
 cases a with
 |nil=>rw[show vs=[]from r];rfl
 |cons d a=>obtain⟨x,t,e,_⟩:=r;rw[e];rfl
def rQ(w:Vw q h L O d v)(e:CJ d=J b):mM h v=J b:=by
 cases d with
 |non=>cases e;rw[w.non];rfl
 |bl c=>cases e;rw[w.bl];rfl
 |int c=>cases e;rw[w.int];rfl
 |tup c=>cases e;obtain⟨xs,rfl,r⟩:=w.tup;rw[mM,r.empty]
 |lst c=>cases e;obtain⟨n,xs,rfl,g,r⟩:=w.lst;simp only[mM,g];rw[r.empty]
 |_=>cases e
section
variable{ws:RQ}
def KP(a:Xe ws):Xt ws where
 m:=Qu a.m
 p:=λenv s=>(a.p env s).bind λd s=>.of (CJ d) s
 ok {q h L B O Z env s} c:=by
  refine(a.ok c).bind λx v j u l i ⟨w,_,_⟩=>?_
  cases e:CJ x with
  |none=>trivial
  |some b=>rw[rQ w e];exact⟨b,j,rfl,KB.refl _ _,i,rfl⟩
structure OpR where
 m:Nat->RL->MH->RB
 p:RR->RR->RE
 ok:∀{q:Nat}{h:MH}{L:Nat}{O:RQ}{n:Nat}{xs:RL}{ds as:RR}{vs:RL}{d:D},h[n]?=J (.lst xs)->Rps q h O ds xs->Cy q h L O as vs->p ds as=J d->∃v,m n vs h=.ok v h/\Rp q h O d v/\∀k es,d≠dl k es
end
section
variable{ws:RQ}{env:aq}{s:d_}
@[simp]theorem QI:(KP a).p env s=(a.p env s).bind λd s=>.of (CJ d) s:=rfl
end
end
noncomputable section
def oj:RR->Option (RM)
 |[]=>J []
 |.str x::r=>(oj r).map (x::·)
 |_=>Y
def zP:∀{a:RR}{xs:RL}{i:RM},Rps q h O a xs->oj a=J i->iP xs=J i:=by
 intro a
 induction a with
 |nil=>intro xs i r e;rw[show xs=[]from r];cases e;rfl
 |cons d a u =>
  intro xs i r e;obtain⟨x,t,rfl,j,y⟩:=r
  cases d with
  |str z =>
   unfold oj at e;rw[Ai]at e;obtain⟨l,e1,rfl⟩:=e;rw[show x=PV.str z from j];unfold iP;rw[u y e1];rfl
  |_=>cases e
structure M1 where
 f:Str->RL->MH->RB
 p:Str->RR->RE
 fr:Bool
 ok:∀{q h L O z as xs d},Bd h O->Cy q h L O as xs->p z as=J d->Gv q h O fr (f z xs h) d
def Ey:M1 where
 f:=iH
 p:=λz j=>match j with
  |[.lst y]=>(match oj y with
   |some i=>if JoinOk z i=I then J (.str (Txt.join z i))else Y
   |none=>Y)
  |_=>Y
 fr:=I
 ok {q h L O z j xs d} bd w e:=by
  match j,e with
  |[.lst y],e =>
   dsimp only at e
   cases l:oj y with
   |none=>rw[l]at e;cases e
   |some i =>
    rw[l]at e;dsimp only at e;by_cases u:JoinOk z i=I
    .rw[c_ u]at e;cases e;obtain⟨x,rfl,a⟩:=eP w;obtain⟨n,xs,rfl,g,r⟩:=a.lst;have e2:iH z [.loc n] h=.ok (.str (Txt.join z i)) h:=by
      simp only[iH,g,zP r l];rw[c_ u]
     rw[e2];exact Eo rfl λ_ k _ e=>by cases k<;>cases e
    .rw[hI u]at e;cases e
section
variable{ws:RQ}
def M2(o:M1)(a:Xe ws)(i:Xs ws):Xe ws where
 m:=Kj o.f a.m i.m
 p:=λenv s=>(a.p env s).bind λx l=>match x with
  |.str z=>(i.p env l).bind λy E=>.of (o.p z y) E
  |_=>.bad
 fz:=I
 fr:=o.fr
 ok {q h L B O Z env s} c:=by
  refine(a.ok c).bind λx v R l C M ⟨w,_,_⟩=>?_
  cases x with
  |str z =>
   have F:=c.kb C M;rw[w.str];dsimp only;refine(i.ok F).bind λy P Q E j G ⟨H,_⟩=>?_
   cases e:o.p z y with
   |none=>trivial
   |some d =>
    obtain⟨u,g,e1,r,f⟩:=o.ok (F.kb j G).bd H e;exact AK (pu C.len j.len) G ⟨u,g,by rw[e1];rfl,r,f⟩
  |_=>trivial
def oQ(i j:Nat)(a:Xs ws)(F:ws.contains i=T:=by exact ys rfl)(P:ws.contains j=T:=by exact ys rfl)(R:a.fz=I:=by exact ys rfl):Xd ws where
 m:=FY i j a.m
 p:=λenv s=>(a.p env s).go env λu env s=>match u with
  |[x,y]=>.nx ((env.set i (J x)).set j (J y)) s
  |_=>.bad
 fr:=I
 ok {q h L B O Z env s} c d:=by
  refine SOk.ex (f:=λC Z h=>match C with|[v,w]=>.nx ((Z.set i (J v)).set j (J w)) h|_=>.bad) (g:=λu env s=>match u with|[x,y]=>.nx ((env.set i (J x)).set j (J y)) s|_=>.bad) c d (a.ok c) λxs C S W kb l ⟨_,z⟩=>?_;have z:=z R
  match xs,z with
  |[],_=>trivial
  |[_],_=>trivial
  |[x,y],z =>
   obtain⟨v,t,rfl,E,t2⟩:=z;obtain⟨w,U,rfl,rw',rfl⟩:=t2;obtain⟨H,G⟩:=l.sr.set (i:=i) (λz=>by simp[z]at F) E;obtain⟨M,Q⟩:=H.set (i:=j) (λz=>by simp[z]at P) rw';exact⟨_,S,rfl,O,Stp.refl _ _ _ _,⟨l.bd,l.sub,l.bb,l.pb,l.hL,l.pen,M⟩,(d.keep G).keep Q⟩
  |_::_::_::_,_=>trivial
variable{env:aq}{s:d_}
@[simp]theorem QJ:(M2 o a as).p env s=(a.p env s).bind λx s1=>match x with
  |.str z=>(as.p env s1).bind λy s2=>.of (o.p z y) s2
  |_=>.bad:=rfl
@[simp]theorem GL:(oQ i j a hi hj hz).p env s=(a.p env s).go env λds env s=>match ds with
  |[x,y]=>.nx ((env.set i (J x)).set j (J y)) s
  |_=>.bad:=rfl
end
end
noncomputable section
def jb:RR->Option (List (Int×D))
 |[]=>J []
 |.tup [.int k,v]::r=>(jb r).map ((k,v)::·)
 |_=>Y
def KQ(x:D):Option (List (Int×D)):=match x with
 |.tup i=>(match jb i with
  |some a=>if(a.map (·.1)).Nodup then J a else Y
  |none=>Y)
 |_=>Y
def Rkv(q:Nat)(h:MH)(O:RQ):List (Int×D)->List (Int×PV)->Prop
 |[],r=>r=[]
 |a::t,r=>∃b u,r=b::u/\a.1=b.1/\Rp q h O a.2 b.2/\Rkv q h O t u
def wz:∀{j:RR}{xs:RL}{i:List (Int×D)},Rps q h O j xs->jb j=J i->∃l,ib xs=J l/\Rkv q h O i l:=by
 intro j
 induction j with
 |nil=>intro xs i r e;rw[show xs=[]from r];cases e;exact⟨[],rfl,rfl⟩
 |cons d j G =>
  intro xs i r e;obtain⟨x,t,rfl,F,L⟩:=r;unfold jb at e
  split at e
  .rename_i z;cases z
  .rename_i y M r0 z
   injection z with z1 z2
   subst z1 z2;rw[Ai]at e;obtain⟨u,e1,rfl⟩:=e;obtain⟨l,e2,e3⟩:=G L e1;obtain⟨P,rfl,a,E,rfl,H,b,C,rfl,B,rfl⟩:=F;rw[show a=PV.int y from H];exact⟨(y,b)::l,by unfold ib;rw[e2];rfl,_,_,rfl,rfl,B,e3⟩
  .cases e
def Rkv.keys:∀{i:List (Int×D)}{j:List (Int×PV)},Rkv q h O i j->j.map (·.1)=i.map (·.1)
 |[],_,r=>by rw[show _=[]from r];rfl
 |a::t,_,⟨b,u,e,e1,_,r⟩=>by rw[e,pk,pk,e1,Rkv.keys r]
def GN(r:Rp q h O x v)(e:KQ x=J kvs):∃a,Km v=J a/\Rkv q h O kvs a:=by
 unfold KQ at e
 split at e
 .rename_i l
  split at e
  .rename_i i j
   split at e
   .rename_i nd
    cases e;obtain⟨xs,rfl,r⟩:=r;obtain⟨a,e1,e2⟩:=wz r j;refine⟨a,?_,e2⟩;simp only[Km,e1];rw[c_ (by rw[e2.keys];exact nd)]
   .cases e
  .cases e
 .cases e
section
variable{ws:RQ}
def z_(i j:Int):Xe ws where
 m:=mC (.tup [.int i,.int j])
 p:=λ_ s=>.ok (.tup [.int i,.int j]) s
 fz:=I
 fr:=I
 ok {q h L B O Z env s} c:=by have r:Rp q h O (.tup [.int i,.int j]) (.tup [.int i,.int j]):=⟨_,rfl,_,_,rfl,rfl,_,_,rfl,rfl,rfl⟩;exact⟨_,h,rfl,KB.refl _ _,c.pen,.inl r,λ_=>r,λ_ k a e=>by cases k<;>cases e⟩
end
end
noncomputable section
variable{ws:RQ}
end
end PU
namespace MM
open PySem.Spec PyProof.Rows L2
def KR:n0:=λ_ _=>.bad
def GO{X:Cx}{st:Stmt}:MS X st KR:=λu s Z H D a ⟨U,i,h,l,j,q⟩=>q.elim
end MM
namespace PU
open MM
def CK{ws:RQ}:Xd ws where
 m:=KR
 p:=λ_ _=>.bad
 fr:=I
 ok _ _:=trivial
end PU
namespace MM
open PySem.Spec PyProof.Rows L2
abbrev Iz(scope sc:Scope)(vars frees:RM):Prop:=(∀y∈scope.names,y.2=.cell->scope.names.lookup y.1=J .cell)/\(∀y∈scope.names,y.2=.local->scope.names.lookup y.1=J .local)/\(∀x∈vars,scope.names.lookup x=J .local\/scope.names.lookup x=J .cell)/\(∀x∈frees,scope.names.lookup x=J .free)/\(∀y∈scope.names,y.2=.free->y.1∈frees)/\(∀x∈frees,sc.names.lookup x=J .cell)
def GP(a i:Scope):Scope:={ a with names:=a.names.map λ(n,k)=>if(k == .free&&i.kind == .function&&i.names.lookup n==J .cell)then(n,.cell)else(n,k)}
def oq{a i:Scope}{env:Env}(h:env.scope=i):relabel a env=GP a i:=by subst h;rfl
def hW{X:Cx}{N:RM}{a u:Scope}{j frees:RM}{fm:RQ}(l:X.env.scope=u)(z:a.kind=.function)(y:fm.map (λi=>N[i]?)=frees.map J)(h:Iz a u j frees):zR X N a j frees fm :=
 Gh l z h.1 h.2.1 h.2.2.1 h.2.2.2.1 h.2.2.2.2.1 y h.2.2.2.2.2
def M3{Q:RU->Prop}(h:∀i,Q [i]):∀a,a.length=1->Q a
 |[_],_=>h _
def OT{Q:RU->Prop}(h:∀j i,Q [j,i]):∀a,a.length=2->Q a
 |[_,_],_=>h _ _
def OU{Q:RU->Prop}(h:∀l i j,Q [l,i,j]):∀a,a.length=3->Q a
 |[_,_,_],_=>h _ _ _
def OV{Q:RU->Prop}(h:∀l i j u,Q [l,i,j,u]):∀a,a.length=4->Q a
 |[_,_,_,_],_=>h _ _ _ _
def OW{Q:RU->Prop}(h:∀u j l y i,Q [u,j,l,y,i]):∀a,a.length=5->Q a
 |[_,_,_,_,_],_=>h _ _ _ _ _
abbrev Zn(K:g_)(x:Str):Prop:=PySem.W.nsIn K mainGlobals x=J Y
abbrev Nn(X:Cx)(x:Str):Prop:=X.mg x=Y
abbrev Sc(X:Cx)(s:Stmt):Prop:=X.env.scope=ah s
abbrev Gd(X:Cx)(N G:RM)(k:Nat):Prop:=Good X N N G k
structure Ba(P:Program)(w:World)(K:g_)(mg:RD)(base:Heap):Prop where
 kin:K.In base
 ns:base.Ns mainGlobals mg
structure EE(X:Cx)(P:Program)(w:World)(K:g_)(mg:RD)(base:Heap):Prop where
 e1:X.prog=P
 e2:X.w=w
 e3:X.K=K
 e4:X.mg=mg
 e5:X.base=base
 b:Ba P w K mg base
section
variable{P:Program}{w:World}{K:g_}{mg:RD}{base:Heap}{X:Cx}
def EE.n(e:EE X P w K mg base){x:Str}(z:Zn K x):Nn X x:=by show X.mg x=Y;rw[e.e4];exact PySem.W.mg_none_of e.b.kin e.b.ns z
def FnAt.c{x:Str}{l:RM}{F:RL->MH->RB}{i j:Nat}(a:FnAt P w K mg base x l F i)(e:EE X P w K mg base)(h:i<=j:=by decide):Cal X x l F j :=
 (a.mono h).cal e.e1 e.e2 e.e3 e.e4 e.e5
def KS{x:Str}{st:Stmt}{N G ps:RM}{m:n0}{k:Nat}(b:Ba P w K mg base)(D:f_ K x st)(l:∀X:Cx,EE X P w K mg base->Sc X st->Gd X N G k->h_ X->AD X (aH st) m)(B:hJ x st ps:=by first | exact λ_ _ _ _ _ _=>M3 λ_=>rfl | exact λ_ _ _ _ _ _=>OT λ_ _=>rfl | exact λ_ _ _ _ _ _=>OU λ_ _ _=>rfl | exact λ_ _ _ _ _ _=>OV λ_ _ _ _=>rfl | exact λ_ _ _ _ _ _=>OW λ_ _ _ _ _=>rfl)(S:o0 N ps (ah st):=by exact⟨rfl,rfl,rfl,by decide +kernel,rfl,by decide +kernel,by decide +kernel⟩)(hl:∀y∈N,(ah st).names.lookup y=J .local\/(ah st).names.lookup y=J .cell:=by decide +kernel)(a:∀y∈G,(ah st).names.lookup y=J .globalImplicit:=by decide +kernel)(dbg:∀x∈N++G,(x==("__debug__":Str))=T/\(x==("__classdict__":Str))=T/\x≠"__name__":=by decide +kernel):
  FnAt P w K mg base x ps (bP N.length ps.length m) (k+1) :=
 sE b.kin b.ns D S B hl a dbg λX e1 e2 e3 e4 e5 j g i=>l X ⟨e1,e2,e3,e4,e5,b⟩ j g i
end
structure YE(Y X:Cx):Prop where
 e1:Y.prog=X.prog
 e2:Y.w=X.w
 e3:Y.K=X.K
 e4:Y.mg=X.mg
 e5:Y.base=X.base
section
variable{X Y:Cx}{N W G:RM}{k:Nat}{x:Str}{p pos:Pos}{e:Expr}{es:RZ}{m:Mx (RL)}{f:RL->MH->RB}
def YE.n(y:YE Y X)(h:X.mg x=none):Y.mg x=none:=y.e4.symm▸h
def YE.c(y:YE Y X){a:RM}{F:RL->MH->RB}{i:Nat}(c:Cal X x a F i):Cal Y x a F i:=c.at y.e1 y.e2 y.e3 y.e4 y.e5
def kV(g:Good X N W G k)(i:Nat)(a:N[i]?=J x:=by rfl):ME X (.Name x pos) (af i):=yf g i a
def Ak(g:Good X N W G k)(i:Nat)(a:N[i]?=J x:=by rfl)(hw:W[i]?=J x:=by rfl):MG X (.Name x pos) (m_ i):=uR g i a hw
def Ad{a b:Expr}{i mb:Mx PV}(u:ME X a i)(l:ME X b mb)(j:jA b:=by exact λ_ _=>rfl):ME X (.Subscript a b pos) (ao aM i mb):=Ed u l j
def Br{i:CmpOp}{f:PV->PV->MH->RB}{a b:Expr}{j mb:Mx PV}(l:zE X (compareOp i) f)(y:ME X a j)(u:ME X b mb)(hm:behindInMarks i b=T:=by first | exact Bh _ | rfl):MT X (.Compare a [i] [b] pos) (mB (ao f j mb)):=yi l y u hm
def Bc(g:Good X N W G k)(j:Nat){u:RM}{F:RL->MH->RB}(C:Cal X x u F k)(y:MA X (e::es) m)(l:G[j]?=J x:=by rfl)(i:starEach (e::es) X.env=(T,eval e X.env)::starEach es X.env:=by rfl)(a:(backTo pos (starEach es X.env)).any (·.1)=T:=by rfl):ME X (.Call (.Name x p) (e::es) [] pos) (bo F m):=oO g l C y i a
def A4{id:String}(g:Good X N W G k)(j:Nat)(y:cZ X (.builtin id) f)(hm:X.mg x=none)(hv:bootBuiltins x=J (.builtin id))(u:MA X (e::es) m)(l:G[j]?=J x:=by rfl)(i:starEach (e::es) X.env=(T,eval e X.env)::starEach es X.env:=by rfl)(a:(backTo pos (starEach es X.env)).any (·.1)=T:=by rfl):ME X (.Call (.Name x p) (e::es) [] pos) (n_ f m):=rj g j l y hm hv u i a
def OX{a:String}(g:Good X N W G k)(j:Nat)(z:cZ X (.type a) f)(hm:X.mg x=none)(hv:bootBuiltins x=J (.type a))(y:MA X (e::es) m)(u:G[j]?=J x:=by rfl)(l:starEach (e::es) X.env=(T,eval e X.env)::starEach es X.env:=by rfl)(i:(backTo pos (starEach es X.env)).any (·.1)=T:=by rfl):ME X (.Call (.Name x p) (e::es) [] pos) (n_ f m):=qE g j u z hm hv y l i
def OY{l a:Expr}(g:Good X N W G k)(j:Nat)(hm:X.mg "range"=none)(y:MA X [a] m)(u:G[j]?=J "range":=by rfl)(i:starEach [a] X.env=[(T,eval a X.env)]:=by rfl):MI X l (.Call (.Name "range" p) [a] [] pos) (dA m):=ql (g.gl _ (aD u)) hm y i
def QK{i:RZ}{B:Nat}{l:Pos}{a:Expr}(g:Good X N W G k)(j:Nat)(hm:X.mg "enumerate"=none)(z:MA X [a] m)(y:G[j]?=J (("enumerate":String):Str):=by rfl)(u:starEach [a] X.env=[(T,eval a X.env)]:=by rfl):MI X (.Tuple i B l) (.Call (.Name "enumerate" p) [a] [] pos) (kW m):=uu g y hm z u
section
variable{tg iter elt:Expr}{ifs:RZ}{scope sc:Scope}{mi:Mx MIt}{gt:Mg}{mt:Mx Bool}{me:Mx PV}
def OZ(g:Good X N W G k)(j:X.env.scope=sc)(a frees l:RM)(fm:RQ)(E:MI X tg iter mi)(C:∀Y:Cx,YE Y X->Good Y (a++frees) a l k->MG Y tg gt/\BC Y ifs mt/\ME Y elt me)(O:scope.kind=.function:=by rfl)(B:fm.map (λi=>N[i]?)=frees.map J:=by rfl)(h:Iz scope sc a frees:=by decide +kernel)(nd:(a++frees).Nodup:=by decide +kernel)(u:∀x∈l,scope.names.lookup x=J .globalImplicit:=by decide +kernel)(dbg:∀x∈(a++frees)++l,(x==("__debug__":Str))=T/\(x==("__classdict__":Str))=T/\x≠"__name__":=by decide +kernel)(M:∀x,foldedSetIterable iter X.env x=pure x:=by exact λ_=>rfl):ME X (.ListComp elt [⟨tg,iter,ifs,0⟩] scope pos) (bv a.length fm mi gt mt me) :=
 oM g (hW j O B h) nd u dbg E (λY L H y F z _ g=>C Y ⟨L,H,y,F,z⟩ g) M
def Q6{j py:Pos}{y:Str}(g:Good X N W G k)(l:X.env.scope=sc)(i:Nat)(a frees z:RM)(fm:RQ)(M:MI X tg iter mi)(L:∀Y:Cx,YE Y X->Good Y (a++frees) a z k->MG Y tg gt/\BC Y ifs mt/\ME Y elt me)(u:∀env:Env,env.scope=sc->swapsWith (.ListComp elt [⟨tg,iter,ifs,0⟩] scope pos) (J (.Name y py)) j.line env=pure I:=by(intro env h;cases env;cases h;rfl))(B:N[i]?=J y:=by rfl)(hw:W[i]?=J y:=by rfl)(S:scope.kind=.function:=by rfl)(H:fm.map (λi=>N[i]?)=frees.map J:=by rfl)(h:Iz scope sc a frees:=by decide +kernel)(nd:(a++frees).Nodup:=by decide +kernel)(C:∀x∈z,scope.names.lookup x=J .globalImplicit:=by decide +kernel)(dbg:∀x∈(a++frees)++z,(x==("__debug__":Str))=T/\(x==("__classdict__":Str))=T/\x≠"__name__":=by decide +kernel)(R:∀x,foldedSetIterable iter X.env x=pure x:=by exact λ_=>rfl):MS X (.Assign [.Name y py] (.ListComp elt [⟨tg,iter,ifs,0⟩] scope pos) j) (bt i (bv a.length fm mi gt mt me)) :=
 pw g i B hw (u X.env l) (hW l S H h) nd C dbg M (λY Q P E O F _ g=>L Y ⟨Q,P,E,O,F⟩ g) R
def Q7(g:Good X N W G k)(j:X.env.scope=sc)(a frees l:RM)(fm:RQ)(E:MI X tg iter mi)(C:∀Y:Cx,YE Y X->Y.env.scope=GP scope sc->Good Y (a++frees) a l k->MG Y tg gt/\BC Y ifs mt/\ME Y elt me)(P:scope.kind=.function:=by rfl)(B:fm.map (λi=>N[i]?)=frees.map J:=by rfl)(h:Iz scope sc a frees:=by decide +kernel)(nd:(a++frees).Nodup:=by decide +kernel)(u:∀x∈l,scope.names.lookup x=J .globalImplicit:=by decide +kernel)(dbg:∀x∈(a++frees)++l,(x==("__debug__":Str))=T/\(x==("__classdict__":Str))=T/\x≠"__name__":=by decide +kernel)(O:∀x,foldedSetIterable iter X.env x=pure x:=by exact λ_=>rfl):ME X (.ListComp elt [⟨tg,iter,ifs,0⟩] scope pos) (bv a.length fm mi gt mt me) :=
 oM g (hW j P B h) nd u dbg E (λY M L y H z F g=>C Y ⟨M,L,y,H,z⟩ (F.trans (oq j)) g) O
def Q8{j py:Pos}{y:Str}(g:Good X N W G k)(l:X.env.scope=sc)(i:Nat)(a frees z:RM)(fm:RQ)(M:MI X tg iter mi)(L:∀Y:Cx,YE Y X->Y.env.scope=GP scope sc->Good Y (a++frees) a z k->MG Y tg gt/\BC Y ifs mt/\ME Y elt me)(u:∀env:Env,env.scope=sc->swapsWith (.ListComp elt [⟨tg,iter,ifs,0⟩] scope pos) (J (.Name y py)) j.line env=pure I:=by(intro env h;cases env;cases h;rfl))(B:N[i]?=J y:=by rfl)(hw:W[i]?=J y:=by rfl)(U:scope.kind=.function:=by rfl)(H:fm.map (λi=>N[i]?)=frees.map J:=by rfl)(h:Iz scope sc a frees:=by decide +kernel)(nd:(a++frees).Nodup:=by decide +kernel)(C:∀x∈z,scope.names.lookup x=J .globalImplicit:=by decide +kernel)(dbg:∀x∈(a++frees)++z,(x==("__debug__":Str))=T/\(x==("__classdict__":Str))=T/\x≠"__name__":=by decide +kernel)(S:∀x,foldedSetIterable iter X.env x=pure x:=by exact λ_=>rfl):MS X (.Assign [.Name y py] (.ListComp elt [⟨tg,iter,ifs,0⟩] scope pos) j) (bt i (bv a.length fm mi gt mt me)) :=
 pw g i B hw (u X.env l) (hW l U H h) nd C dbg M (λY R Q E P F O g=>L Y ⟨R,Q,E,P,F⟩ (O.trans (oq l)) g) S
end
end
abbrev sN:=@PyProof.Rows.Boot.«abs»
abbrev rG:=@PyProof.Rows.Boot.«min»
abbrev GQ:=@PyProof.Rows.Boot.«max»
abbrev yd:=@PyProof.Rows.Boot.«int»
abbrev jJ:=@PyProof.Rows.Boot.«len»
abbrev uh:=@PyProof.Rows.Boot.«list»
abbrev m3:=@PyProof.Rows.Boot.«tuple»
abbrev xL:=@PyProof.Rows.Boot.«all»
abbrev pP:=@PyProof.Rows.Boot.«sorted»
abbrev CL:=@PyProof.Rows.Boot.«bool»
abbrev CM:=@PyProof.Rows.Boot.«dict»
abbrev qJ:=@PyProof.Rows.Boot.«ValueError»
abbrev pK:=@PySem.F.slot_list_append
abbrev qk:=@PySem.F.type_list_append
abbrev w8:=@PySem.F.slot_list_insert
abbrev xH:=@PySem.F.type_list_insert
end MM
namespace PU
open MM
open L2 (vr nr fL)
noncomputable section
end
noncomputable section
end
noncomputable section
end
end PU
namespace PU
open MM L2
noncomputable section
inductive VwD(h:MH)(fz:Bool)(ks:RN)(P:RL->Prop)(v:PV):Prop
 |mk(n:Nat)(xs:RL)(e:v=.loc n)(g:h[n]?=J (.dic fz ks xs))(r:P xs):VwD h fz ks P v
def Vw.dic{q:Nat}{h:MH}{L:Nat}{O:RQ}{v:PV}{fz:Bool}{i:RN}{a:RR}(w:Vw q h L O (.dic fz i a) v):VwD h fz i (Rps q h O a) v:=by
 rcases w with⟨n,xs,e,_,g,r⟩|⟨n,l,xs,j,e,e1,_,_,g,r⟩
 .exact⟨n,xs,e,g,r⟩
 .cases l with
  |none=>cases e
  |some _=>cases e;exact⟨n,xs,e1,g,r⟩
def VwD.of{h:MH}{fz:Bool}{a:RN}{P:RL->Prop}{v:PV}(w:VwD h fz a P v):∃xs,cL h v=J (fz,a,xs)/\P xs:=by obtain⟨n,xs,rfl,g,r⟩:=w;exact⟨xs,by simp only[cL,g],r⟩
def rK{q:Nat}{h:MH}{O:RQ}{j:RR}{xs:RL}{ks:RN}(r:Rps q h O j xs)(i:Int):match s_ ks j i with
  |some d=>∃v,s_ ks xs i=J v/\Rp q h O d v
  |none=>s_ ks xs i=Y:=by
 induction ks generalizing j xs with
 |nil=>cases j<;>cases xs<;>rfl
 |cons k ks l =>
  cases j with
  |nil=>rw[show xs=[]from r];rfl
  |cons d j =>
   obtain⟨x,t,rfl,a,b⟩:=r;unfold s_;by_cases e:k=i
   .simp only[c_ e];exact⟨_,rfl,a⟩
   .simp only[hI e];exact l b
def CN{q:Nat}{h:MH}{O:RQ}{j:RR}{xs:RL}{ks:RN}{d:D}{v:PV}(r:Rps q h O j xs)(w:Rp q h O d v)(i:Int):(jn ks j i d).1=(jn ks xs i v).1/\Rps q h O (jn ks j i d).2 (jn ks xs i v).2:=by
 induction ks generalizing j xs with
 |nil=>exact⟨by simp[jn],by simpa using⟨v,[],rfl,w,rfl⟩⟩
 |cons k ks y =>
  cases j with
  |nil=>rw[show xs=[]from r];exact⟨rfl,v,[],rfl,w,rfl⟩
  |cons z j =>
   obtain⟨x,t,rfl,a,b⟩:=r;unfold jn;by_cases e:k=i
   .simp only[c_ e];exact⟨trivial,v,t,rfl,w,b⟩
   .simp only[hI e];obtain⟨l,u⟩:=y b;exact⟨by rw[l],x,_,rfl,a,u⟩
def CO(l:Bool):x0 where
 m:=qU l
 p:=λa b=>match a,b with
  |.int i,.dic _ j u=>J (.bl (if l then !(s_ j u i).isSome else(s_ j u i).isSome))
  |_,_=>Y
 fr:=I
 ok {q h L O a x b y d} bd wa wb e:=by
  cases a with
  |int i =>
   cases b with
   |dic fz j u =>
    cases e;rw[wa.int];obtain⟨xs,e1,r⟩:=wb.dic.of;have z:(s_ j u i).isSome=(s_ j xs i).isSome:=by
     have:=rK (ks:=j) r i
     cases e2:s_ j u i with
     |none=>rw[e2]at this;rw[this];rfl
     |some d=>rw[e2]at this;obtain⟨v,e3,_⟩:=this;rw[e3];rfl
    simp only[qU,e1];rw[z];exact vg
   |_=>cases e
  |_=>cases e
def kI:x0 where
 m:=lK
 p:=λa b=>match a,b with
  |.dic _ j l,.int i=>s_ j l i
  |_,_=>Y
 fr:=T
 ok {q h L O a x b y d} bd wa wb e:=by
  cases a with
  |dic fz j l =>
   cases b with
   |int i =>
    rw[wb.int];obtain⟨xs,e1,r⟩:=wa.dic.of;have z:=rK (ks:=j) r i;rw[show s_ j l i=J d from e]at z;obtain⟨v,e3,u⟩:=z;simp only[lK,e1,e3];exact Eo u λz=>by cases z
   |_=>cases e
  |_=>cases e
def pU{q:Nat}{h:MH}{O:RQ}:∀{i:List (Int×D)}{j:List (Int×PV)},Rkv q h O i j->j.map (·.1)=i.map (·.1)/\Rps q h O (i.map (·.2)) (j.map (·.2))
 |[],j,r=>by rw[show j=[]from r];exact⟨rfl,rfl⟩
 |kv::i,j,r=>by
  obtain⟨z,u,rfl,e,a,b⟩:=r;obtain⟨l,y⟩:=pU b;exact⟨by simp[l,<-e],_,_,rfl,a,y⟩
variable{ws:RQ}
def AO(a:Xe ws)(l:Xs ws):Xe ws where
 m:=Qw a.m l.m
 p:=λenv s=>(a.p env s).bind λx H=>match x with
  |.dic _ j u=>(l.p env H).bind λy E=>match y with
   |[.int i,d]=>.ok ((s_ j u i).getD d) E
   |_=>.bad
  |_=>.bad
 fz:=l.fz
 fr:=T
 ok {q h L B O Z env s} c:=by
  refine(a.ok c).bind λx v h1 H k1 p1 ⟨w,_,_⟩=>?_
  cases x with
  |dic fz j u =>
   have c1:=c.kb k1 p1;obtain⟨n,xs,rfl,g,r⟩:=w.dic;have X:n≠q:=by
    rcases w with⟨R,F,e,no,_⟩|⟨R,kd,F,S,_,e,_,hn,_⟩
    .cases e;exact λz=>no (z▸c.pO)
    .cases e;have:=c.pL;lia
   have e1:cL h1 (.loc n)=J (fz,j,xs):=by simp only[cL,g]
   dsimp only;rw[e1];dsimp only;refine(l.ok c1).bind λy vs C E G Q ⟨U,z2⟩=>?_;have g2:C[n]?=J (.dic fz j xs):=(G.keep n (aG g) X).trans g;have e2:cL C (.loc n)=J (fz,j,xs):=by simp only[cL,g2]
   have r2:=r.mv (G.mv c.pO);by_cases P:∃i d,y=[.int i,d]
   .obtain⟨i,d,rfl⟩:=P;obtain⟨v1,v2,rfl,u1,W⟩:=OC U;rw[u1.int,e2];dsimp only;have z:=rK (ks:=j) r2 i
    cases e3:s_ j u i with
    |none =>
     rw[e3]at z;dsimp only at z;rw[z];refine⟨_,C,rfl,KB.refl _ _,Q,W,λzz=>?_,λz=>by cases z⟩;obtain⟨_,_,e5,_,_,_,e6,r6,_⟩:=z2 zz;cases e5;cases e6;exact r6
    |some d' =>
     rw[e3]at z;obtain⟨v',e4,M⟩:=z;rw[e4];exact⟨_,C,rfl,KB.refl _ _,Q,.inl M,λ_=>M,λz=>by cases z⟩
   .have:(match y with|[.int i,d]=>PR.ok ((s_ j u i).getD d) E|_=>.bad)=PR.bad:=by
     split
     .exact absurd ⟨_,_,rfl⟩ P
     .rfl
    rw[this];trivial
  |_=>trivial
@[simp]theorem nB{a:Xe ws}{as:Xs ws}{env:aq}{s:d_}:(AO a as).p env s=(a.p env s).bind λx s1=>match x with
  |.dic _ ks ds=>(as.p env s1).bind λy s2=>match y with
   |[.int i,d]=>.ok ((s_ ks ds i).getD d) s2
   |_=>.bad
  |_=>.bad:=rfl
def jU(i:Nat)(y e:aq->d_->PR D)(env:aq)(s:d_):PS:=match e env s with
 |.ok v u=>(match y env u with
  |.ok (.int j) z=>(match env[i]? with
   |some (J (.dic T a l))=>if a.length<100000 then .nx (env.set i (J (.dic T (jn a l j v).1 (jn a l j v).2))) z else .bad
   |_=>.bad)
  |_=>.bad)
 |_=>.bad
def yI{i:Nat}{a e:aq->d_->PR D}{env:aq}{s s1 s2:d_}{v:D}{j:Int}{ks:RN}{ds:RR}(e1:e env s=.ok v s1)(e2:a env s1=.ok (.int j) s2)(e3:env[i]?=J (J (.dic T ks ds)))(e4:ks.length<100000):
  jU i a e env s=.nx (env.set i (J (.dic T (jn ks ds j v).1 (jn ks ds j v).2))) s2:=by
 simp only[jU,e1,e2,e3];rw[c_ e4]
def xv{i:Nat}{ix e:aq->d_->PR D}{env:aq}{s:d_}:jU i ix e env s=.bad\/∃v u j y a l,e env s=.ok v u/\ix env u=.ok (.int j) y/\env[i]?=J (J (.dic T a l))/\a.length<100000/\jU i ix e env s=.nx (env.set i (J (.dic T (jn a l j v).1 (jn a l j v).2))) y:=by
 unfold jU;split
 .rename_i v u e1
  split
  .rename_i j y e2
   split
   .rename_i a l e3
    by_cases h:a.length<100000
    .rw[c_ h];exact .inr ⟨v,u,j,y,a,l,e1,e2,e3,h,rfl⟩
    .rw[hI h];exact .inl rfl
   .exact .inl rfl
  .exact .inl rfl
 .exact .inl rfl
def kB(i:Nat)(E e:Xe ws)(hi:ws.contains i=I:=by exact ys rfl)(hz:e.fz=I:=by exact ys rfl):Xd ws where
 m:=kh (af i) E.m e.m
 p:=jU i E.p e.p
 fr:=I
 ok {q h L B O Z env s} c d:=by
  rcases xv (i:=i) (e:=e.p) (ix:=E.p) (env:=env) (s:=s)with z|⟨v,s1,j,s2,l,W,e1,e2,e3,e4,z⟩
  .rw[z];trivial
  .rw[z];have u:i∈ws:=by simpa using hi
   have Q:=e.ok c;rw[e1]at Q;obtain⟨x,h1,f1,C,G,_,rx,_⟩:=Q;have X:=c.kb C G;have R:=E.ok X;rw[e2]at R;obtain⟨y,h2,f2,a,H,w,_,_⟩:=R;have P:=X.kb a H;obtain⟨M,kd,xs,ab,S,U,b1,b2,g,r0⟩:=P.sr.ow i _ e3 u
   cases kd with
   |none=>cases S
   |some ai =>
    cases S;replace g:h2[M]?=J (.dic T l xs):=g;have hy:=w.int;subst hy;have em:af i Z h1=.ok (.loc M) h1:=by simp[af,U]
    obtain⟨p1,p2⟩:=CN (ks:=l) r0 ((rx hz).mv (a.mv c.pO)) j;have nx:=rP (kd:=J (jn l W j v).1) P d u e3 U p2;refine⟨Z,h2.set M (.dic T (jn l W j v).1 (jn l xs j x).2),?_,nx.after ((C.trans a).stp c)⟩;have F:l.length<sizeLine:=by have:=dP;lia
    unfold kh w_;rw[f1];simp only[em,f2,cL,g];rw[c_ F,p1]
def CP{i:Nat}{a e:Xe ws}{hi hz}{env:aq}{s:d_}:(kB i a e hi hz).p env s=jU i a.p e.p env s:=rfl
end
end PU
namespace MM
open PySem.Spec PyProof.Rows L2
section
variable{X:Cx}{a b:Expr}{pos:Pos}{k:Nat}
def bB:Expr->Bool
 |.Starred _ _=>T
 |_=>I
def aW(h:bB e=I):starEach (e::es) env=(T,eval e env)::starEach es env:=by cases e<;>first | rfl | cases h
def GR(j:ME X e m)(hr:MA X es ms)(i:bB e=I:=by rfl):MA X (e::es) (ae m ms):=aC j hr (aW i)
structure js(X:Cx)(e:Expr)(m:Mx PV):Prop where
 h:ME X e m
structure Ae(X:Cx)(es:RZ)(ms:Mx (RL)):Prop where
 h:MA X es ms
structure yG(X:Cx)(st:Stmt)(m:n0):Prop where
 h:MS X st m
structure nc(X:Cx)(st:RF)(m:n0):Prop where
 h:AD X st m
section
variable{e:Expr}{es:RZ}{m ma mb:Mx PV}{ms:Mx (RL)}{st:Stmt}{rest:RF}{u v:n0}{f:PV->PV->MH->RB}{N W G:RM}{x:Str}
def cb:Ae X [] b_:=⟨aP⟩
def aR(j:js X e m)(hr:Ae X es ms)(i:bB e=I:=by rfl):Ae X (e::es) (ae m ms):=⟨GR j.h hr.h i⟩
def p_(h:ME X e m):js X e m:=⟨h⟩
def IA(h:Ae X es ms):js X (.List es pos) (bX ms):=⟨xj h.h⟩
def A5(h:Ae X es ms):js X (.Tuple es j pos) (bU ms):=⟨rT h.h⟩
def yO(h:MS X st u):yG X st u:=⟨h⟩
def CQ(g:Good X N W G k)(i:Nat){j:Pos}(l:js X e m)(z:N[i]?=J x:=by rfl)(hw:W[i]?=J x:=by rfl)(y:swapsWith e (J (.Name x j)) pos.line X.env=pure T:=by rfl):
  yG X (.Assign [.Name x j] e pos) (bt i m):=⟨td g i z hw l.h y⟩
def BE(i:js X e m):yG X (.Return (J e) pos) (bC m):=⟨FX i.h⟩
def zg(h:yG X st u):nc X [st] u:=⟨B5 h.h⟩
def At(i:yG X st u)(j:nc X rest v):nc X (st::rest) (bi u v):=⟨zT i.h j.h⟩
end
end
end MM
namespace PU
open MM
noncomputable section
end
end PU
namespace MM
open PySem.Spec PyProof.Rows L2 SetT SortT
end MM
namespace PU
open MM SetT
noncomputable section
end
end PU
namespace MM
open PySem.Spec PyProof.Rows L2
open PU (Xe Xs Xt Xi Xg El Xo Xd Kq x0 A_ MX En OpR Fn ac xC ag x_ a_ aa qs ay bT aZ AL xB hZ oU Ek qo kE sF qT Gy og bO iY bx pf AM v_ AN aO nz bw j5 gf Az bq dW tF lb mI Ku BD b8 vv vz vB KP oQ CK AO kB z_)
structure Bs(X:Cx)(e:Expr)(m:Mx Bool):Prop where
 h:MT X e m
structure M4(X:Cx)(e:Expr)(m:Mx Bool):Prop where
 h:MW X e m
structure IB(X:Cx)(tg e:Expr)(m:Mx MIt):Prop where
 h:MI X tg e m
structure ID(X:Cx)(e:Expr)(m:Mg):Prop where
 h:MG X e m
structure M5(X:Cx)(e:RZ)(m:Bz):Prop where
 h:JO X e m
structure O0(X:Cx)(e:RZ)(m:Mx Bool):Prop where
 h:BC X e m
structure M6(X:Cx)(e:Option Expr)(m:Mx (RX)):Prop where
 h:MO' X e m
structure OJ(X:Cx)(r:Value->Value->Sem Value)(o:x0):Prop where
 h:zE X r o.m
def CT(a:Scope):RM:=(a.names.filter λy=>match y.2 with|.globalImplicit=>I|_=>T).map (·.1)
abbrev gm(sc:Scope)(x:Str):Prop:=x∈CT sc
def Ez:Expr->RM
 |.Name x _=>[x]
 |.Tuple a _ _=>a.flatMap λe=>match e with
  |.Name x _=>[x]
  |.Tuple a _ _=>a.flatMap λe=>match e with
   |.Name x _=>[x]
   |_=>[]
  |_=>[]
 |_=>[]
def IE(N:RM)(fm:RQ):RM:=fm.filterMap (N[·]?)
structure Wc(X:Cx)(P:Program)(w:World)(K:g_)(mg:RD)(base:Heap)(N W:RM)(k:Nat)(sc:Scope):Prop where
 g:Good X N W (CT sc) k
 e:EE X P w K mg base
 s:X.env.scope=sc
section
variable{X Y:Cx}{P:Program}{w:World}{K:g_}{mg:RD}{base:Heap}{N W:RM}{k:Nat}{sc:Scope}{ws:RQ}{x y:Str}{p p' pos spos:Pos}{e a b d tg:Expr}{es:RZ}{i j:Nat}{st:Stmt}{rest body:RF}{xa xb xd:Xe ws}{ta tb:Xt ws}{sa:Xs ws}{da db:Xd ws}
def Wc.gj(c:Wc X P w K mg base N W k sc)(h:gm sc x):∃j:Nat,(CT sc)[j]?=J x:=No h
def Wc.n(c:Wc X P w K mg base N W k sc)(z:Zn K x):X.mg x=none:=c.e.n z
def KU{i:Int}:js X (.Constant (.int i) j pos) (xC (ws:=ws) (.int i)).m:=⟨aE⟩
def KW{i:Str}:js X (.Constant (.str i) j pos) (xC (ws:=ws) (.str i)).m:=⟨tt⟩
def O3{i:Bool}:js X (.Constant (.bool i) j pos) (xC (ws:=ws) (.bl i)).m:=⟨qV⟩
def KY:js X (.Constant .none j pos) (xC (ws:=ws) .non).m:=⟨tK⟩
def KZ{l:Operator}{o:x0}(u:OJ X (binaryOp l) o)(z:js X a xa.m)(B:js X b xb.m):js X (.BinOp a l b pos) (ag o xa xb).m:=⟨aV u.h z.h B.h⟩
def K0{l:CmpOp}{o:x0}(u:OJ X (compareOp l) o)(z:js X a xa.m)(B:js X b xb.m)(hm:behindInMarks l b=T):js X (.Compare a [l] [b] pos) (ag o xa xb).m:=⟨FJ u.h z.h B.h hm⟩
def O4(u:js X a xa.m)(z:js X b xb.m)(l:jA b):js X (.Subscript a b pos) (ag PU.k_ xa xb).m:=⟨Ed u.h z.h l⟩
def K1(l:js X a xa.m):js X (.UnaryOp .USub a pos) (x_ PU.ik xa).m:=⟨JJ F3 l.h⟩
def GS(l:js X a xa.m):js X (.UnaryOp .Not a pos) (qT xa).m:=⟨FS l.h⟩
def CU{u l:CmpOp}{o B:x0}(C:OJ X (compareOp u) o)(z:OJ X (compareOp l) B)(E:js X a xa.m)(F:js X b xb.m)(hd:js X d xd.m)(hm:lastMarks [u,l] [b,d]=T):js X (.Compare a [u,l] [b,d] pos) (og o B xa xb xd).m:=⟨zn C.h z.h E.h F.h hd.h hm⟩
def K2{l:BoolOp}(u:js X a xa.m):js X (.BoolOp l [a] pos) xa.m:=⟨FQ u.h⟩
def GU(l:js X a xa.m)(u:js X (.BoolOp .And (b::es) pos) xb.m):js X (.BoolOp .And (a::b::es) pos) (kE xa xb).m:=⟨FR l.h u.h⟩
def K3(l:js X a xa.m)(u:js X (.BoolOp .Or (b::es) pos) xb.m):js X (.BoolOp .Or (a::b::es) pos) (sF xa xb).m:=⟨JN l.h u.h⟩
def K4{hz}(h:Ae X es sa.m):js X (.Tuple es j pos) (aZ sa hz).m:=A5 h
def K5{hz}(h:Ae X es sa.m):js X (.List es pos) (bT sa hz).m:=IA h
def K6:js X (.Dict [] [] pos) (AL (ws:=ws)).m:=⟨uD⟩
def O5{lo z:Option Expr}{l u:Xo ws}(C:js X a xa.m)(hl:M6 X lo l.m)(B:M6 X z u.m):js X (.Subscript a (.Slice lo z none p) pos) (vB xa l u).m:=⟨nh C.h hl.h B.h⟩
def O6:M6 X none (vv (ws:=ws)).m:=⟨jG⟩
def O7(l:js X a xa.m):M6 X (J a) (vz xa).m:=⟨je l.h⟩
def K7:Ae X [] (a_ (ws:=ws)).m:=cb
def GV(u:js X e xa.m)(l:Ae X es sa.m)(z:bB e=I):Ae X (e::es) (aa xa sa).m:=aR u l z
def K8:OJ X (binaryOp .Add) PU.aX:=⟨dy⟩
def K9:OJ X (binaryOp .Sub) PU.mY:=⟨F2⟩
def K_:OJ X (binaryOp .Mult) PU.bI:=⟨gF⟩
def La(u:js X a xa.m)(z:js X b xb.m)(l:jA b):js X (.Subscript a b pos) (ag PU.kI xa xb).m:=⟨xF u.h z.h l⟩
def Lb:OJ X (binaryOp .Mod) PU.mT:=⟨dM⟩
def Lc:OJ X (binaryOp .Pow) PU.pg:=⟨re⟩
def O8:OJ X (compareOp .Lt) PU.Kw:=⟨Ea⟩
def O9:OJ X (compareOp .LtE) PU.OD:=⟨JR⟩
def O_:OJ X (compareOp .Gt) PU.Ep:=⟨Eb⟩
def Pa:OJ X (compareOp .GtE) PU.OE:=⟨Ec⟩
def Pc:OJ X (compareOp .Is) (PU.QF T):=⟨JS⟩
section
variable(c:Wc X P w K mg base N W k sc)
include c
def w_var(l:N[i]?=J x):js X (.Name x pos) (ac (ws:=ws) i).m:=⟨yf c.g i l⟩
def Ph:OJ X (binaryOp .FloorDiv) PU.CC:=⟨vO c.g.room⟩
def Ld{i j:Int}(v:mH K mg x i j)(u:gm sc x):js X (.Name x pos) (z_ (ws:=ws) i j).m :=
 let⟨_,l⟩:=c.gj u
 ⟨w9 c.g l (by rw[c.e.e3,c.e.e4];exact v)⟩
def Pj:OJ X (compareOp .Eq) PU.v4:=⟨nZ c.g.room⟩
def Pk:OJ X (compareOp .NotEq) PU.AF:=⟨vq c.g.room⟩
def Pm:OJ X (compareOp .In) (PU.Kz T):=⟨J9 c.g.room T⟩
end
def fG{env:Env}:∀{es:RZ},es.all bB=I->(backTo pos (starEach es env)).any (·.1)=T
 |[],_=>rfl
 |e::es,h=>by
  have l:bB e=I/\es.all bB=I:=by simpa using h
  have:=fG (env:=env) l.2
  rw[aW l.1];simpa [backTo]using this
section
variable(c:Wc X P w K mg base N W k sc)
include c
def GW{F:Fn}{C:RM}{hz}(E:Ae X (e::es) sa.m)(f:FnAt P w K mg base x C F.m i)(h:i<=k)(B:gm sc x)(u:(e::es).all bB=I):js X (.Call (.Name x p) (e::es) [] pos) (ay F sa hz).m :=
 let⟨_,z⟩:=c.gj B
 have l:bB e=I/\es.all bB=I:=by simpa using u
 ⟨oO c.g z (f.c c.e h) E.h (aW l.1) (fG l.2)⟩
end
inductive BB(X:Cx)(x:Str)(o:A_):Prop
 |fn(id:String)(f:RL->MH->RB)(h:bootBuiltins x=J (.builtin id))(c:cZ X (.builtin id) f)(e:o.k=λxs h=>(f xs h).ne:=by rfl):BB X x o
 |ty(T:String)(f:RL->MH->RB)(h:bootBuiltins x=J (.type T))(c:cZ X (.type T) f)(e:o.k=λxs h=>(f xs h).ne:=by rfl):BB X x o
def Lf:BB X "abs" PU.oC:=.fn _ _ sN sj
def Lg:BB X "int" PU.m8:=.ty _ _ yd F5
def Lh:BB X "len" PU.pF:=.fn _ _ jJ jw
def GX:BB X "list" PU.oo:=.ty _ _ uh Ci
def CV:BB X "tuple" PU.cE:=.ty _ _ m3 mF
def yo:BB X "sorted" PU.dH:=.fn _ _ pP pN
section
variable(c:Wc X P w K mg base N W k sc)
include c
def Li{o:A_}(B:BB X x o)(C:Ae X (e::es) sa.m)(z:Zn K x)(F:gm sc x)(E:(e::es).all bB=I):js X (.Call (.Name x p) (e::es) [] pos) (qs o sa).m:=by
 obtain⟨j,u⟩:=c.gj F;have l:bB e=I/\es.all bB=I:=by simpa using E
 refine⟨?_⟩;show ME X _ (λZ h=>(sa.m Z h).bind o.k)
 cases B with
 |fn id f h d q=>rw[q];exact rj c.g j u d (c.n z) h C.h (aW l.1) (fG l.2)
 |ty G f h d q=>rw[q];exact qE c.g j u d (c.n z) h C.h (aW l.1) (fG l.2)
def Lj:BB X "all" PU.rW:=.fn _ _ xL (xA c.g)
def Po(C:Ae X [a] sa.m)(z1:Zn K "list")(z:Zn K "range")(B:gm sc "list")(u:gm sc "range")(l:bB a=I):js X (.Call (.Name "list" p) [.Call (.Name "range" p') [a] [] spos] [] pos) (qs PU.GC sa).m :=
 let⟨_,i⟩:=c.gj B;let⟨_,j⟩:=c.gj u
 ⟨yq c.g i (c.n z1) j (c.n z) C.h (aW l)⟩
end
structure BT(x:Str)(T:String):Prop where
 h:bootBuiltins x=J (.type T)
 o:Ip T
def Lk:BT "int" "int":=⟨yd,B9⟩
def GY:BT "bool" "bool":=⟨CL,yF⟩
def GZ:BT "list" "list":=⟨uh,zm⟩
section
variable(c:Wc X P w K mg base N W k sc)
include c
def Ll{l:String}(B:BT x l)(F:js X a xa.m)(z1:Zn K "isinstance")(C:Zn K x)(E:gm sc "isinstance")(z:gm sc x)(u:bB a=I):js X (.Call (.Name "isinstance" p) [a,.Name x p'] [] pos) (x_ (PU.fX [l]) xa).m :=
 let⟨_,i⟩:=c.gj E;let⟨_,j⟩:=c.gj z
 ⟨F6 c.g i (c.n z1) j (c.n C) B.h B.o F.h (aW u)⟩
end
abbrev MJ(X:Cx)(name:Str)(f:Nat->RL->MH->RB):Prop:=∃id,Slot "list" name id/\typeOf (.builtin id)=pure (.type "method_descriptor")/\DY X id (J7 X f)
section
variable{name:Str}{f:Nat->RL->MH->RB}{o:En}{m:Mx PV}
def Pp{l:Mx (RL)}(M:MJ X name f)(u:js X a m)(B:Ae X (e::es) l)(h:(((backTo pos (starEach (e::es) X.env)).all (λx=>!x.1)&&(backToKw pos (keywordEach [] X.env)).all (λx=>x.1.isSome)&&decide ((e::es).length+([]:List Keyword).length+(if([]:List Keyword).isEmpty then 0 else 1)<30))=I/\(p.endLine==pos.line)=I)/\attributeBase a name X.env (eval a X.env)=eval a X.env/\starEach (e::es) X.env=(T,eval e X.env)::starEach es X.env/\(backTo pos (starEach es X.env)).any (·.1)=T):js X (.Call (.Attribute a name p) (e::es) [] pos) (Ef f m l) :=
 let⟨_,x,y,z⟩:=M
 ⟨Eg x y z u.h B.h h.2.1 h.1.1 h.1.2 h.2.2.1 h.2.2.2⟩
def Pq{hi hz}(h:js X e (Ef o.m (ac (ws:=ws) i).m sa.m))(l:swapsWith e none pos.line X.env=pure T):yG X (.Expr e pos) (BD o i sa hi hz).m:=⟨lB h.h l⟩
end
def zU:MJ X "append" PU.uq.m:=⟨_,pK,qk,qt⟩
def zF:MJ X "insert" PU.za.m:=⟨_,w8,xH,xq⟩
def Pr(l:js X a xa.m)(u:Ae X [b,d] sa.m)(h:(((backTo pos (starEach [b,d] X.env)).all (λx=>!x.1)&&(backToKw pos (keywordEach [] X.env)).all (λx=>x.1.isSome)&&decide ([b,d].length+([]:List Keyword).length+(if([]:List Keyword).isEmpty then 0 else 1)<30))=I/\(p.endLine==pos.line)=I)/\attributeBase a "get" X.env (eval a X.env)=eval a X.env/\starEach [b,d] X.env=(T,eval b X.env)::starEach [d] X.env/\(backTo pos (starEach [d] X.env)).any (·.1)=T):js X (.Call (.Attribute a "get" p) [b,d] [] pos) (AO xa sa).m:=⟨Kn l.h u.h h.2.1 h.1.1 h.1.2 h.2.2.1 h.2.2.2⟩
def G0{l:CmpOp}{o:x0}(u:OJ X (compareOp l) o)(z:js X a xa.m)(B:js X b xb.m)(hm:behindInMarks l b=T):Bs X (.Compare a [l] [b] pos) (xB (ag o xa xb)).m:=⟨yi u.h z.h B.h hm⟩
def G1(h:Bs X a ta.m):Bs X (.UnaryOp .Not a pos) (hZ ta).m:=⟨FL h.h⟩
def Ps{l:BoolOp}(h:M4 X (.BoolOp l es pos) ta.m):Bs X (.BoolOp l es pos) ta.m:=⟨MW.mt h.h⟩
def Lm(h:Bs X a ta.m):M4 X (.BoolOp .Or [a] pos) ta.m:=⟨FM h.h⟩
def w_or(h:Bs X a ta.m)(l:M4 X (.BoolOp .Or (b::es) pos) tb.m):M4 X (.BoolOp .Or (a::b::es) pos) (Ek ta tb).m:=⟨JM h.h l.h⟩
def Ln(h:js X e xa.m)(u:∀l,isTrue e X.env l=(do let v <-l;standAt e.pos;holding [v] (truthy v))):Bs X e (KP xa).m:=⟨Go h.h u⟩
def Lo(h:js X e xa.m)(u:∀l,isTrue e X.env l=(do let v <-l;standAt e.pos;holding [v] (truthy v))):Bs X e (xB xa).m:=⟨FK h.h u⟩
def Lp:O0 X [] (qo (ws:=ws)).m:=⟨hX⟩
def Lq(h:Bs X a ta.m):O0 X [a] ta.m:=⟨u7 h.h⟩
def Pu:M5 X [] (AM (ws:=ws)).m:=⟨fW⟩
def Pw{ga:Xg ws}{l:El ws}(B:ID X e ga.m)(z:M5 X es l.m)(u:(assignEach (e::es) X.env).map (·.2)=assign e X.env::(assignEach es X.env).map (·.2)):M5 X (e::es) (v_ ga l).m:=⟨bH B.h z.h u⟩
def Lr(h:js X a xa.m):IB X tg a (bx xa).m:=⟨eG h.h⟩
section
variable(c:Wc X P w K mg base N W k sc)
include c
def Px{hi}(h:N[i]?=J x)(hw:W[i]?=J x):ID X (.Name x pos) (pf (ws:=ws) i hi).m:=⟨uR c.g i h hw⟩
def Py{u:El ws}{n:Nat}(h:M5 X es u.m)(z:(assignEach es X.env).length=n)(l:(assignEach es X.env).findIdx? (·.1)=none):ID X (.Tuple es j pos) (AN u n).m:=⟨iA c.g h.h z l⟩
def Pz{n:Nat}(h:Ae X [a] sa.m)(z:Zn K "enumerate")(B:gm sc "enumerate")(l:bB a=I):IB X (.Tuple es n p) (.Call (.Name "enumerate" p') [a] [] pos) (iY PU.iE sa).m:=let⟨_,u⟩:=c.gj B;⟨uu c.g u (c.n z) h.h (aW l)⟩
def Ls(h:Ae X [a] sa.m)(z:Zn K "range")(l:gm sc "range")(u:bB a=I):IB X tg (.Call (.Name "range" p) [a] [] pos) (iY PU.OF sa).m:=⟨ql (c.g.gl _ l) (c.n z) h.h (aW u)⟩
end
structure CB(Y:Cx)(tg elt:Expr)(ifs:RZ)(gt:Mg)(mt:Mx Bool)(me:Mx PV):Prop where
 g:ID Y tg gt
 t:O0 Y ifs mt
 e:js Y elt me
section
variable{iter elt:Expr}{ifs:RZ}{scope:Scope}{nv:Nat}{fm ws':RQ}{xi:Xi ws}{gt:Xg ws'}{xt:Xt ws'}{xe:Xe ws'}
abbrev QL(N:RM)(tg:Expr)(nv:Nat)(fm:RQ)(scope sc:Scope):Prop:=Iz scope sc (Ez tg) (IE N fm)/\(Ez tg++IE N fm).Nodup/\(∀x∈CT (GP scope sc),scope.names.lookup x=J .globalImplicit)/\(∀x∈(Ez tg++IE N fm)++CT (GP scope sc),(x==("__debug__":Str))=T/\(x==("__classdict__":Str))=T/\x≠"__name__")/\fm.map (λi=>N[i]?)=(IE N fm).map J/\(Ez tg).length=nv
section
variable(c:Wc X P w K mg base N W k sc)
include c
def G3{hw:PU.Bq nv fm ws=ws'}{M:xe.fz=I}(C:IB X tg iter xi.m)(B:∀Y:Cx,Wc Y P w K mg base (Ez tg++IE N fm) (Ez tg) k (GP scope sc)->CB Y tg elt ifs gt.m xt.m xe.m)(Q:scope.kind=.function)(h:QL N tg nv fm scope sc)(L:∀x,foldedSetIterable iter X.env x=pure x):js X (.ListComp elt [⟨tg,iter,ifs,0⟩] scope pos) (bO nv fm xi gt xt xe hw M).m:=by
 obtain⟨O,nd,hg,dbg,z,rfl⟩:=h;exact⟨oM c.g (hW c.s Q z O) nd hg dbg C.h (λY H G l F u E g=>let q:=B Y ⟨g,⟨H.trans c.e.e1,G.trans c.e.e2,l.trans c.e.e3,F.trans c.e.e4,u.trans c.e.e5,c.e.b⟩,E.trans (oq c.s)⟩;⟨q.g.h,q.t.h,q.e.h⟩) L⟩
end
section
variable(c:Wc X P w K mg base N W k sc)(hsw:∀env:Env,env.scope=sc->swapsWith (.ListComp elt [⟨tg,iter,ifs,0⟩] scope pos) (some (.Name y p)) spos.line env=pure true)(hi:IB X tg iter xi.m)(hY:∀Y:Cx,Wc Y P w K mg base (Ez tg++IE N fm) (Ez tg) k (GP scope sc)->CB Y tg elt ifs gt.m xt.m xe.m)(hyi:N[i]?=some y)(hyw:W[i]?=some y)(h1:scope.kind=.function)(h:QL N tg nv fm scope sc)(hs:∀x,foldedSetIterable iter X.env x=pure x)
include hsw hi hY c hyi hyw h1 h hs
def ud:yG X (.Assign [.Name y p] (.ListComp elt [⟨tg,iter,ifs,0⟩] scope pos) spos) (bt i (bv nv fm xi.m gt.m xt.m xe.m)):=by obtain⟨F,nd,hg,dbg,E,rfl⟩:=h;exact⟨pw c.g i hyi hyw (hsw X.env c.s) (hW c.s h1 E F) nd hg dbg hi.h (λY z l u G C B g=>let q:=hY Y ⟨g,⟨z.trans c.e.e1,l.trans c.e.e2,u.trans c.e.e3,G.trans c.e.e4,C.trans c.e.e5,c.e.b⟩,B.trans (oq c.s)⟩;⟨q.g.h,q.t.h,q.e.h⟩) hs⟩
def G4{hw:PU.Bq nv fm ws=ws'}{l:xe.fz=I}{hi' hz'}:yG X (.Assign [.Name y p] (.ListComp elt [⟨tg,iter,ifs,0⟩] scope pos) spos) (bq i (bO nv fm xi gt xt xe hw l) hi' hz').m:=ud c hsw hi hY hyi hyw h1 h hs
def CW{hw:PU.Bq nv fm ws=ws'}{l:xe.fz=I}{hi' hz'}:yG X (.Assign [.Name y p] (.ListComp elt [⟨tg,iter,ifs,0⟩] scope pos) spos) (dW i (bO nv fm xi gt xt xe hw l) hi' hz').m:=ud c hsw hi hY hyi hyw h1 h hs
end
end
def PB:nc X [] (nz (ws:=ws)).m:=⟨fO⟩
def gN(h:yG X st da.m):nc X [st] da.m:=zg h
def fF(l:yG X st da.m)(u:nc X rest db.m):nc X (st::rest) (aO da db).m:=At l u
def G5{hi hz}(u:js X e xa.m)(l:js X a (ac (ws:=ws) i).m)(B:js X b xb.m)(z:swapsWith e (J (.Subscript a b p)) pos.line X.env=pure T):yG X (.Assign [.Subscript a b p] e pos) (kB i xb xa hi hz).m:=⟨Cv l.h B.h u.h z⟩
def Lu(h:js X e xa.m):yG X (.Return (J e) pos) (bw xa).m:=BE h
def G6{hi}(h:js X e (ac (ws:=ws) i).m):yG X (.Return (J e) pos) (j5 (ws:=ws) i hi).m:=BE h
def G7(h:js X e xa.m)(l:swapsWith e none pos.line X.env=pure T):yG X (.Expr e pos) (gf xa).m:=⟨lB h.h l⟩
def PC(z:Bs X e ta.m)(u:nc X body da.m)(l:nc X rest db.m):yG X (.If e body rest pos) (Az ta da db).m:=⟨gX z.h u.h l.h⟩
def Lv:yG X st (CK (ws:=ws)).m:=⟨GO⟩
def Lw{l:Xg ws}{hz}(u:js X e xa.m)(hg:ID X tg l.m)(z:swapsWithSole [tg] e pos.line X.env=pure T)(hw:swappedStores [tg] e X.env=pure none)(B:(assignEach [tg] X.env).map (·.2)=[assign tg X.env]):yG X (.Assign [tg] e pos) (tF xa l hz).m:=⟨jc u.h hg.h z hw B⟩
section
variable(c:Wc X P w K mg base N W k sc)
include c
def Lx{l:Xi ws}{u:Xg ws}{hz}(C:IB X tg e l.m)(hg:ID X tg u.m)(B:nc X body da.m)(z:∀x,foldedSetIterable e X.env x=pure x):yG X (.For tg e body [] pos) (mI l u da hz).m:=⟨fu c.g C.h hg.h B.h z⟩
def PD{n hm}(u:Bs X e ta.m)(l:nc X body da.m):yG X (.While e body [] pos) (Ku n ta da hm).m:=⟨yu c.g u.h l.h⟩
def G8{hi' hz}(u:∀env:Env,env.scope=sc->swapsWith e (J (.Name x p)) pos.line env=pure T)(l:js X e xa.m)(z:N[i]?=J x)(hw:W[i]?=J x):yG X (.Assign [.Name x p] e pos) (bq i xa hi' hz).m:=⟨td c.g i z hw l.h (u _ c.s)⟩
def CY{hi' hz}(u:∀env:Env,env.scope=sc->swapsWith e (J (.Name x p)) pos.line env=pure T)(l:js X e xa.m)(z:N[i]?=J x)(hw:W[i]?=J x):yG X (.Assign [.Name x p] e pos) (dW i xa hi' hz).m:=⟨td c.g i z hw l.h (u _ c.s)⟩
def Ly{x y:Str}{z py pt l:Pos}{kt k2}{hi' hj' hz}(hw:∀env:Env,env.scope=sc->swappedStores [.Tuple [.Name x z,.Name y py] kt pt] (.Tuple [a,b] k2 l) env=pure (J [x,y]))(G:Ae X [a,b] sa.m)(H:N[i]?=J x)(E:N[j]?=J y)(u:i≠j)(F:sc.names.lookup x=J .local)(B:sc.names.lookup y=J .local)(C:swapsWithSole [.Tuple [.Name x z,.Name y py] kt pt] (.Tuple [a,b] k2 l) pos.line X.env=pure T):yG X (.Assign [.Tuple [.Name x z,.Name y py] kt pt] (.Tuple [a,b] k2 l) pos) (oQ i j sa hi' hj' hz).m:=⟨FZ c.g i j H E u G.h (by rw[c.s];exact F) (by rw[c.s];exact B) (hw _ c.s) C⟩
end
def Af{F:Fn}{np:Nat}{ws:RQ}{B:Xd ws}{hw}(N:RM)(b:Ba P w K mg base)(D:f_ K x st)(H:∀X:Cx,Wc X P w K mg base N N k (ah st)->h_ X->nc X (aH st) B.m)(z:F=b8 N.length np B hw:=by rfl)(u:hJ x st (N.take np):=by first | exact λ_ _ _ _ _ _=>M3 λ_=>rfl | exact λ_ _ _ _ _ _=>OT λ_ _=>rfl | exact λ_ _ _ _ _ _=>OU λ_ _ _=>rfl | exact λ_ _ _ _ _ _=>OV λ_ _ _ _=>rfl | exact λ_ _ _ _ _ _=>OW λ_ _ _ _ _=>rfl)(S:o0 N (N.take np) (ah st):=by exact⟨rfl,rfl,rfl,by decide +kernel,rfl,by decide +kernel,by decide +kernel⟩)(hl:∀y∈N,(ah st).names.lookup y=J .local\/(ah st).names.lookup y=J .cell:=by decide +kernel)(l:∀y∈CT (ah st),(ah st).names.lookup y=J .globalImplicit:=by decide +kernel)(dbg:∀x∈N++CT (ah st),(x==("__debug__":Str))=T/\(x==("__classdict__":Str))=T/\x≠"__name__":=by decide +kernel)(E:(N.take np).length=np:=by rfl):
  FnAt P w K mg base x (N.take np) F.m (k+1):=by
 have q:=sE b.kin b.ns D S u hl l dbg λX e1 e2 e3 e4 e5 G g C=>(H X ⟨g,⟨e1,e2,e3,e4,e5,b⟩,G⟩ C).h;rw[E]at q;subst z;exact q
end
end MM
namespace MM
open PySem.Spec PyProof.Rows L2
end MM
namespace PU
open MM
end PU
namespace TupM
open PySem.Builtin
section
open PyProof.Rows
variable{prog:Program}{w:World}{A:Around}{E:RC}{s:Shared}
end
end TupM
namespace MM
open PySem.Spec PyProof.Rows L2
end MM
namespace PU
open MM
noncomputable section
end
end PU
namespace PU
open MM
open L2 (vr nr fL)
noncomputable section
abbrev Rd:=Option (RN)×RR
def cz(rd:List Rd):D:=.lst (rd.map λr=>dl r.1 r.2)
structure Gr(h:MH)(L a:Nat)(ms:RQ)(rd:List Rd):Prop where
 top:h[a]?=J (.lst (ms.map .loc))
 len:ms.length=rd.length
 nd:(a::ms).Nodup
 ge:∀m∈a::ms,L<=m
 row:∀(i:Nat)(r:Rd),rd[i]?=J r->e_ r.2=I/\∃m xs,ms[i]?=J m/\h[m]?=J (mo r.1 xs)/\Rps 0 [] [] r.2 xs
def rH{q:Nat}{h:MH}{O:RQ}:∀{j:RR}{a:RL},a.length=j.length->(∀(i:Nat) d v,j[i]?=J d->a[i]?=J v->Rp q h O d v)->Rps q h O j a
 |[],[],_,_=>rfl
 |d::j,v::a,hl,r=>⟨v,a,rfl,r 0 d v rfl rfl,rH (by simpa using hl) λi d v e1 e2=>r (i+1) d v (by simpa using e1) (by simpa using e2)⟩
def Rp.dl{q:Nat}{h:MH}{O:RQ}{k:Option (RN)}{i:RR}{xs:RL}{m:Nat}(a:m∉O)(e:h[m]?=J (mo k xs))(r:Rps q h O i xs):Rp q h O (dl k i) (.loc m):=by
 cases k with
 |none=>exact⟨m,xs,rfl,a,e,r⟩
 |some j=>exact⟨m,xs,rfl,a,e,r⟩
mutual
def Rp.fq{p j:Nat}{h i:MH}{O a:RQ}:∀{d:D}{v:PV},PU.flat d=I->Rp p h O d v->Rp j i a d v
 |.non,_,_,r=>r
 |.bl _,_,_,r=>r
 |.int _,_,_,r=>r
 |.str _,_,_,r=>r
 |.tup l,_,f,⟨xs,e,r⟩=>⟨xs,e,Rps.fq (by simpa [PU.flat]using f) r⟩
 |.lst l,_,f,_=>by simp[PU.flat]at f
 |.dic _ _ _,_,f,_=>by simp[PU.flat]at f
 |.exc _,_,f,_=>by simp[PU.flat]at f
 |.pen,_,f,_=>by simp[PU.flat]at f
def Rps.fq{p y:Nat}{h l:MH}{O u:RQ}:∀{i:RR}{j:RL},PU.e_ i=I->Rps p h O i j->Rps y l u i j
 |[],_,_,r=>r
 |_::_,_,f,⟨x,t,e,a,b⟩=>⟨x,t,e,Rp.fq (by simp[PU.e_]at f;exact f.1) a,Rps.fq (by simp[PU.e_]at f;exact f.2) b⟩
end
section
variable{h h':MH}{L a:Nat}{ms:RQ}{rd:List Rd}{O:RQ}{q:Nat}
def Gr.lt(g:Gr h L a ms rd):∀m∈a::ms,m<h.length:=λm hm=>by
 rcases n8.mp hm with rfl|hm
 .exact aG g.top
 .obtain⟨i,j,rfl⟩:=L7 hm;have hl:=g.len;obtain⟨_,m,xs,e1,e2,_⟩:=g.row i (rd[i]'⋯) (Ah ⋯);rw[Ah j]at e1;cases e1;exact aG e2
def Gr.rp(g:Gr h L a ms rd)(j:∀m∈a::ms,m∉O):Rp q h O (cz rd) (.loc a):=by refine⟨a,ms.map .loc,rfl,j a (by simp),g.top,rH (by simp[g.len]) λi d v e1 e2=>?_⟩;rw[tx,Ai]at e1 e2;obtain⟨r,y,rfl⟩:=e1;obtain⟨m,em,rfl⟩:=e2;obtain⟨l,z,xs,e3,e4,u⟩:=g.row i r y;rw[em]at e3;cases e3;exact Rp.dl (j m (n4 _ (Al em))) e4 (Rps.fq l u)
def Gr.keep(g:Gr h L a ms rd)(k:∀m∈a::ms,h'[m]?=h[m]?):Gr h' L a ms rd :=
 ⟨(k a (by simp)).trans g.top,g.len,g.nd,g.ge,λi r e=>let⟨f,m,xs,e1,e2,e3⟩:=g.row i r e;⟨f,m,xs,e1,(k m (n4 _ (Al e1))).trans e2,e3⟩⟩
def Gr.put(g:Gr h L a ms rd){i m:Nat}{r':Rd}{l:RL}(u:ms[i]?=J m)(E:e_ r'.2=I)(e:h'[m]?=J (mo r'.1 l))(G:Rps 0 [] [] r'.2 l)(k:∀n∈a::ms,n≠m->h'[n]?=h[n]?):Gr h' L a ms (rd.set i r'):=by
 have H:=Al u;have nd:=g.nd;rw[Aj]at nd;have ne:a≠m:=λz=>nd.1 (z▸H);refine⟨(k a (by simp) ne).trans g.top,by simp[g.len],g.nd,g.ge,λj r B=>?_⟩;have F:i<rd.length:=by have:=(pj.mp u).1;rw[g.len]at this;exact this
 by_cases z:i=j
 .subst z;rw[u_ F]at B;cases B;exact⟨E,m,l,u,e,G⟩
 .rw[mA z]at B;obtain⟨f,C,xs,e1,e2,e3⟩:=g.row j r B
  have:C≠m:=λy=>z ((Ii (pj.mp u).1 nd.2).mp (by rw[u,e1,y]))
  exact⟨f,C,xs,e1,(k C (n4 _ (Al e1)) this).trans e2,e3⟩
end
def Kp(i:Nat)(o:SOut)(Z:lR):Prop:=match o with
 |.nx a _=>a[i]?=Z[i]?
 |.bk a _=>a[i]?=Z[i]?
 |.ct a _=>a[i]?=Z[i]?
 |_=>True
def uY{n:Nat}{a:RR}{i:Nat}{d:D}(e:(lw n a)[i]?=J (J d)):a[i]?=J d:=by
 unfold lw at e;by_cases z:i<a.length
 .rw[qp (by simpa using z)]at e
  simp_all
 .rw[AE (by simp;lia),EX]at e
  split at e<;>cases e
def k8:∀{a:RR}{d:D},e_ a=I->d∈a->flat d=I
 |x::a,d,f,h=>by
  simp[e_]at f;rcases n8.mp h with rfl|h
  .exact f.1
  .exact k8 f.2 h
def zW{q:Nat}{h:MH}{O:RQ}{s R:d_}{B:Xd [0]}{n np m:Nat}{k k':Option (RN)}{ds ds' as:RR}{vs xs:RL}{y:aq}(bd:∀o∈O,o<m)(hq:q∈O)(pn:bh h q s)(g:h[m]?=J (mo k xs))(fl:e_ ds=I)(r:Rps 0 [] [] ds xs)(fa:e_ as=I)(U:Rps 0 [] [] as vs)(ab:as.length+1=np)(hn:np<=n)(kp:∀Z h,Kp 0 (B.m Z h) Z)(e:B.p (lw n (dl k ds::as)) s=.nx y R)(e0:y[0]?=J (J (dl k' ds'))):
  ∃u,bP n np B.m (.loc m::vs) h=.ok .non u/\h.length<=u.length/\(∀j,j<h.length->j≠m->j≠q->u[j]?=h[j]?)/\bh u q R/\∃G a,u[m]?=J (mo k' a)/\Rps q u G ds' a:=by
 have hm:=aG g;have vl:vs.length=as.length:=U.length;have c:Cx q h m O (m::O) [0] (aY n (.loc m::vs)) (lw n (dl k ds::as)) s:=by
  refine⟨λo C=>?_,λo C=>n4 _ C,bd,hq,⋯,pn,?_,λi d l E=>?_,λi d l E=>?_⟩
  .rcases n8.mp C with rfl|C
   .exact hm
   .have:=bd o C;lia
  .simp[aY,lw,vl]
  .have l:=uY l
   cases i with
   |zero=>simp at E
   |succ i =>
    obtain⟨v,ev,rv⟩:=U.get l;have fd:flat d=I:=by exact k8 fa (Al l)
    exact⟨v,by obtain⟨l1,l2⟩:=pj.mp ev;simp[aY,List.getElem?_append,l1,l2],Rp.fq fd rv⟩
  .have:i=0:=by simpa using E
   subst this;have l:=uY l;cases l;exact⟨m,k,xs,ds,rfl,rfl,by simp,mm _,g,Rps.fq fl r⟩
 have P:=B.ok c λi j E H ne=>absurd (by simp at E H;lia) ne;rw[e]at P;obtain⟨Z',u,W,G,st,S,_⟩:=P;have F:=kp (aY n (.loc m::vs)) h;rw[W]at F;have F:Z'[0]?=J (J (.loc m)):=F;obtain⟨n',M,a,L,e2,Q,_,_,g',r'⟩:=S.sr.ow 0 _ e0 (by simp);rw[F]at Q;cases Q
 have:k'=M/\ds'=L:=by cases k'<;>cases M<;>cases e2<;>exact⟨rfl,rfl⟩
 obtain⟨rfl,rfl⟩:=this;refine⟨u,?_,st.len,λj H X n2=>?_,S.pen,G,a,g',r'⟩
 .rw[bJ (by simp[vl];lia),W];rfl
 .by_cases z:j∈m::O
  .rcases n8.mp z with rfl|z
   .exact absurd rfl X
   .exact st.base j (bd j z) n2
  .exact st.mv.keep j H z
end
end PU
namespace MM
open PySem.Spec PyProof.Rows L2
def PF{P:Program}{w:World}{K:g_}{mg:RD}{base:Heap}{x:Str}{st:Stmt}{k:Nat}{np:Nat}{C:RQ}{B:PU.Xd C}(N:RM)(b:Ba P w K mg base)(D:f_ K x st)(z:∀X:Cx,Wc X P w K mg base N N k (ah st)->h_ X->nc X (aH st) B.m)(i:hJ x st (N.take np):=by first | exact λ_ _ _ _ _ _=>M3 λ_=>rfl | exact λ_ _ _ _ _ _=>OT λ_ _=>rfl | exact λ_ _ _ _ _ _=>OU λ_ _ _=>rfl | exact λ_ _ _ _ _ _=>OV λ_ _ _ _=>rfl | exact λ_ _ _ _ _ _=>OW λ_ _ _ _ _=>rfl)(S:o0 N (N.take np) (ah st):=by exact⟨rfl,rfl,rfl,by decide +kernel,rfl,by decide +kernel,by decide +kernel⟩)(hl:∀y∈N,(ah st).names.lookup y=J .local\/(ah st).names.lookup y=J .cell:=by decide +kernel)(a:∀y∈CT (ah st),(ah st).names.lookup y=J .globalImplicit:=by decide +kernel)(dbg:∀x∈N++CT (ah st),(x==("__debug__":Str))=T/\(x==("__classdict__":Str))=T/\x≠"__name__":=by decide +kernel)(l:(N.take np).length=np:=by rfl):
  FnAt P w K mg base x (N.take np) (bP N.length np B.m) (k+1):=by
 have q:=sE b.kin b.ns D S i hl a dbg λX e1 e2 e3 e4 e5 u g j=>(z X ⟨g,⟨e1,e2,e3,e4,e5,b⟩,u⟩ j).h;rw[l]at q;exact q
abbrev pE(C t:Addr):Obj:={ cls:=.ref C,data:=.fields #[.ref t,.none,.none,.none,.bool T,.none]}
section
variable{prog:Program}{w:World}{A:Around}{E:RC}{h:Heap}{gs:Array GenState}{dr:Drawn}{tk:Nat}{os:OsState}{nm qn:Str}{C N:Addr}{bs bm bmB:RU}{hd:Bool}{sn:RM}{sub:RU}{ab:Bool}{col:Option Bool}{dd:RG}{k0 k1 k2 k3 k5:RW}{B nid iid:String}{mN:RD}{rest:RU}{fI:Addr}{oI:Obj}
def CZ{Q:PySem.Fin->Shared->Prop}(F:ExcBaseFacts B nid iid bmB)(a:OwnTail h bmB bm)(i:h.get? C=J (excClassObj nm qn C N bs bm hd sn sub ab col dd k0 k1 k2 k3 k5 nid))(M:h.Ns N mN)(O:mN "__init__"=J (.ref fI))(hf:h.get? fI=J oI)(j:oI.cls=.type "function")(hl:rest.length<=sizeLine)(run:∀l e,Heap.MadeExcOf h l e (.ref C) rest->wpAny (model prog w) A (call (.ref fI) (.ref e::rest)) (λr u=>r=.none/\Q (.done (.ret (.ref e))) u) E ⟨l,gs,dr,tk,os⟩):
  wpAny (model prog w) A (Builtin.«type.__call__» ⟨.ref C::rest,[]⟩) Q E ⟨h,gs,dr,tk,os⟩:=by
 repeat (first | with_reducible refine wpAny_loadPart_at i ?_ | with_reducible refine wpAny_madeBy_exc i ?_ | wp_step)
 refine codeAny_call_builtin_code (Code.quiet_builtin _ F.quiet) (wpAny_check_new_subT F a i (codeAny_exc_new_subT F a i ?_ hl));have kp:∀b o,h.get? b=J o->((h.push { cls:=.type "tuple",data:=.seq rest.toArray}).push (pE C h.objs.size)).get? b=J o:=λb o e=>qr _ (qr _ e);have y:=kp _ _ i;have G:=kp _ _ hf;have H:=M.keeps kp;have L:=a.keeps kp;have e1:((h.push { cls:=.type "tuple",data:=.seq rest.toArray}).push (pE C h.objs.size)).get? (h.objs.size+1)=J (pE C h.objs.size):=by heap_get
 have P:(Value.ref C::bm).contains (.ref C)=I:=by simp
 show wpAny _ _ _ _ _ _;unfold isInstance
 repeat (first | with_reducible refine wpAny_loadPart_at e1 ?_ | (with_reducible refine wpAny_isSubtype_exc y ?_;rw[P]) | wp_step)
 refine(show wpAny _ _ (typeLookup (.ref C) _) _ _ _ from wpAny_typeLookup_tail y H L F.mroIs F.init.lookup ?_);rw[O];refine wpAny_holding (i_ ?_);unfold bindSpecial;refine i_ (wpAny_typeOf (T:="function") ⟨_,G,j⟩ ?_);rw[c_ (by decide)];refine pz (i_ (wpAny_mono (run _ (h.objs.size+1) ⟨kp,L6 (E1 _),h.objs.size,e1,L6 (mm _),qr _ (Heap.get?_push_at rfl rfl)⟩) (λr u ⟨R,q⟩=>?_) λ_ _ z=>z));subst R
 wp_walk
 exact q
def yc{Q:RC}(F:ExcBaseFacts B nid iid bmB)(j:OwnTail h bmB bm)(a:h.get? C=J (excClassObj nm qn C N bs bm hd sn sub ab col dd k0 k1 k2 k3 k5 nid))(y:h.Ns N mN)(z:mN "__init__"=J (.ref fI))(hf:h.get? fI=J oI)(i:oI.cls=.type "function")(hl:rest.length<=sizeLine)(run:∀l e,Heap.MadeExcOf h l e (.ref C) rest->wpAny (model prog w) (A.under (.builtin "type.__call__" ⟨.ref C::rest,[]⟩)) (call (.ref fI) (.ref e::rest)) (λr u=>r=.none/\Q (.ref e) u) E ⟨l,gs,dr,tk,os⟩):
  wpAny (model prog w) A (call (.ref C) rest) Q E ⟨h,gs,dr,tk,os⟩:=by
 have H:=tc_lookup;have G:=tc_bind (.ref C);have ty:(⟨h,gs,dr,tk,os⟩:Shared).TypeIs (.ref C) "type":=⟨_,a,rfl⟩;refine wpAny_call (codeAny_of_tree (show wpAny _ _ (callAny (.ref C) _) _ _ _ from ?_))
 repeat (any_goals (first | assumption | with_reducible refine wpAny_loadPart_at a ?_ | wp_step))
 exact⟨rfl,codeAny_call_builtin_at (Code.quiet_builtin _ (by decide +kernel)) entry_typeCall (wpAny_check_type_call_sub a (CZ F j a y z hf i hl run))⟩
end
@[inline]abbrev Q9(C F:Addr):RU:=.ref C::.ref F::[.type "ValueError",.type "Exception",.type "BaseException",.type "object"]
section
open Builtin.ObjectAttr
variable{prog:Program}{w:World}{A:Around}{E:RC}{s:Shared}{K:g_}{x C F:Addr}{o:Obj}{name:Str}{v:Value}{cd:ClassData}
def C0{Q:Unit->Shared->Prop}(X:K.In s.heap)(L:s.heap.get? x=J o)(hc:o.cls=.ref C)(G:o.dict=Y){vs:Array Value}(u:o.data=.fields vs)(hs:PySem.W.findIn K (.ref C) "__setattr__"=J (J (.builtin "object.__setattr__")))(hm:PySem.W.clsIn K C=J cd)(j:cd.mro=Q9 C F)(hd:cd.hasDict=I)(ht:PySem.W.takerIn K C name=J Y)(q:∀z U W,(∀b ob,b≠x->s.heap.get? b=J ob->z.get? b=J ob)->z.get? x=J { o with dict:=J W}->s.heap.get? W=Y->z.Ns1 W (λy=>if y=name then J v else Y)->Q () { s with heap:=z,toks:=U}):
  wpAny (model prog w) A (setAttr (.ref x) name v) Q E s:=by
 have i:PySem.W.InstAt s.heap x o C Y:=⟨L,hc,by unfold PySem.W.notCls;rw[u],by rw[G];trivial⟩;refine PySem.W.set_plain X i hs ?_;have B:=PySem.F.store_object;have P:PySem.W.Looks (model prog w) s.heap (mroOf (.ref C)) cd.mro:=(PySem.W.looks_clsIn X hm).andThen .now;have sub:PySem.W.Looks (model prog w) s.heap (isInstance (.ref x) (.type "object")) I:=i.type.andThen (PySem.W.looks_mroIn X (by unfold PySem.W.mroIn;rw[hm,BH,j];rfl));refine codeAny_call_builtin B.slot.plain B.entry (@PySem.W.check_slot (model prog w) _ _ { s with toks:=s.toks+1} "object.__setattr__" "object" "__setattr__" (.ref x) [.str name s.toks,v] [] _ B.kind B.split sub (B.args (.ref x) (.str name s.toks) v) ?_);obtain⟨l,ha,hr⟩:=L4.mp ht;have L3:PySem.W.Looks (model prog w) s.heap (storeTaker? l) Y:=by
  cases l with
  |none=>exact .now
  |some a =>
   obtain⟨b,hb,e⟩:=Ai.mp hr;refine(PySem.W.looks_takesIn X hb).andThen ?_;cases b
   .exact .now
   .cases e
 rw[PySem.W.osa_eq,refuse_eq];refine i_ (i_ (PySem.W.Looks.here (s:={ s with toks:=s.toks+1}) i.type (i_ (PySem.W.Looks.here (s:={ s with toks:=s.toks+1}) P ?_))));rw[j,refuseLoop_ref,refuseLoop_ref,PySem.F.store_ValueError.passes];refine pz (i_ (PySem.W.Looks.here (s:={ s with toks:=s.toks+1}) i.type (i_ (PySem.W.Looks.here (s:={ s with toks:=s.toks+1}) (PySem.W.looks_findIn X ha) (i_ (PySem.W.Looks.here (s:={ s with toks:=s.toks+1}) L3 ?_))))));have S:({ s with toks:=s.toks+1}:Shared).heap.get? x=J o:=L;refine i_ (pz (i_ (i_ (wpAny_loadPart S ?_))));rw[hc];refine i_ (PySem.W.Looks.here (s:={ s with toks:=s.toks+1}) (PySem.W.looks_clsIn X hm) ?_);rw[hd,hI (by decide)];dsimp only;rw[G];dsimp only;rw[hI (by simp[typeHasDict]),u];dsimp only;have xs:x≠s.heap.objs.size:=wm (pa L);have x1:(s.heap.push { cls:=.type "dict",data:=.dict #[]}).get? x=J o:=qr _ L;refine i_ (wpAny_alloc' (i_ (wpAny_update' x1 (pz ?_))));have gd:((s.heap.push { cls:=.type "dict",data:=.dict #[]}).update x λo=>{ o with dict:=J s.heap.objs.size}).get? s.heap.objs.size=J { cls:=.type "dict",data:=.dict #[]} :=
  (IQ _ _ _ _ xs.symm).trans (Heap.get?_push_at rfl rfl)
 have nd:((s.heap.push { cls:=.type "dict",data:=.dict #[]}).update x λo=>{ o with dict:=J s.heap.objs.size}).Ns s.heap.objs.size (λ_=>Y):=⟨_,#[],_,gd,rfl,λe he=>absurd he (by simp),λ_=>rfl⟩;refine(show wpAny _ _ (storeInDict s.heap.objs.size (.str name s.toks) name v) _ _ _ from i_ (pz (i_ (wpAny_nsSet1 (Heap.Ns1.of_empty nd) λz n' H=>?_))));obtain⟨oD,es,ep,M,O,R⟩:=n'.count (Within.cons name v Within.nil);refine i_ (wpAny_lookBehind M (by rw[O];exact pastItsLine_dict (pu R (by rw[Ax,NE,sizeLine_eq];lia))) (pz ?_));refine q z _ s.heap.objs.size (λb ob nb e=>(H.2 b (wm (pa e))).trans ((IQ _ _ _ _ nb).trans (qr _ e))) ((H.2 x xs).trans (L5 _ x1 ?_)) (L6 (mm _)) n';obtain⟨oc,od,Z,ab⟩:=o;cases Z<;>first | rfl | cases u
end
section
variable{prog:Program}{w:World}{A:Around}{E:RC}{h:Heap}{gs:Array GenState}{dr:Drawn}{tk:Nat}{os:OsState}{nm qn:Str}{C N e t0:Addr}{bs bm bmB:RU}{hd:Bool}{sn:RM}{sub:RU}{ab:Bool}{col:Option Bool}{dd:RG}{k0 k1 k2 k3 k5:RW}{B nid iid:String}{rest:RU}
def yA{Q:RC}(F:ExcBaseFacts B nid iid bmB)(j:OwnTail h bmB bm)(y:h.get? C=J (excClassObj nm qn C N bs bm hd sn sub ab col dd k0 k1 k2 k3 k5 nid))(l:h.get? e=J (pE C t0))(hl:rest.length<=sizeLine)(q:∀a t,(∀b i,b≠e->h.get? b=J i->a.get? b=J i)->a.get? e=J (pE C t)->Q .none ⟨a,gs,dr,tk,os⟩):
  wpAny (model prog w) A (call (.builtin iid) (.ref e::rest)) Q E ⟨h,gs,dr,tk,os⟩:=by
 refine wpAny_call (codeAny_call_builtin F.init.plain F.initEntry (wpAny_check_init_subT F j y l rfl ?_))
 wp_walk
 refine q _ h.objs.size (λb i u e=>?_) ?_
 .rw[Nj _ _ (Ne.symm u)];exact qr _ e
 .rw[L5 _ (qr _ l) rfl];rfl
end
structure AA(K:g_)(mg:RD)(x:Str)(C F fI:Addr)(fld:Str):Prop where
 bd:mg x=J (.ref C)
 lk:∃(nm qn:Str) (N:Addr) (bs:RU) (sn:RM) (sub:RU) (ab:Bool) (col:Option Bool) (dd:RG) (k0 k1 k2 k3 k5:RW),K.lookup C=J (excClassObj nm qn C N bs (.ref F::fH) I sn sub ab col dd k0 k1 k2 k3 k5 "ValueError.__new__")/\PySem.W.nsOkIn K N=I/\PySem.W.nsIn K N "__init__"=J (J (.ref fI))
 tl:PySem.W.tailIn K fH (.ref F::fH)=I
 sa:PySem.W.findIn K (.ref C) "__setattr__"=J (J (.builtin "object.__setattr__"))
 tk:PySem.W.takerIn K C fld=J Y
structure G9(K:g_)(mg:RD)(x:Str)(F:Addr):Prop where
 bd:mg x=J (.ref F)
 hg:PySem.W.specialIn K (.ref F) "__getattribute__"=J (J (.builtin "type.__getattribute__"))
 hr:PySem.W.readsIn K F (.type "type")=I
 fc:PySem.W.findCls K (.ref F) (.type "type") "__init__"=J (.val (.builtin "ValueError.__init__"))
def eS(e C:Addr)(h:Heap):Prop:=∃t,h.get? e=J (pE C t)
def ug{P:Program}{w:World}{H:Hp}{h:Heap}{e C:Addr}(x:eS e C h):ObjOk P w H h e (.ext (eS e C)):=by obtain⟨t,a⟩:=x;exact⟨⟨t,a⟩,⟨_,a⟩,λj i ⟨t,z⟩ k=>⟨t,k _ z⟩⟩
abbrev C2(C t:Addr)(dx:RG):Obj:={ cls:=.ref C,dict:=dx,data:=.fields #[.ref t,.none,.none,.none,.bool T,.none]}
section
variable{X:Cx}{x fx fld:Str}{C F fI:Addr}{a b:Expr}{t:RZ->TE}{p apos cpos:Pos}
def yE{ta:TA}{pl:Sem Bool}(L:Gl X fx)(l:G9 X.K X.mg fx F)(M:AA X.K X.mg x C F fI fld)(ha:PA X [a,b] ta)(dbg:(fx==("__debug__":Str))=T)(he:eval (.Call (.Attribute (.Name fx p) "__init__" apos) [a,b] [] cpos) X.env=(do
   let ov <-eval (.Name fx p) X.env
   standAt apos.atName
   let(f,fs1) <-holding [ov] (getMethod ov "__init__" pl)
   callWith cpos f fs1 (backTo cpos (starEach [a,b] X.env)) (backToKw cpos (keywordEach [] X.env))))(hs:starEach [a,b] X.env=(T,eval a X.env)::starEach [b] X.env)(G:(backTo cpos (starEach [b] X.env)).any (·.1)=T):
  PE X (.Call (.Attribute (.Name fx p) "__init__" apos) [a,b] [] cpos) (λZ H Q=>ta Z H λvs U=>∃e z,vs=[.ref e,.str z]/\U e=J (.ext (eS e C))/\Q .non U):=by
 intro J4 s Z H Q i h;refine PySem.W.methodCall_KW (pl:=pl) (jg i L l.bd (PySem.W.method_cls i.kIn l.hg (PySem.W.cls_value i.kIn l.hr l.fc rfl ?_)) dbg) he;have S:=ha cpos J4 _ Z H _ (i.tok (s.toks+1)) h;rw[hs]at S ⊢;refine Calls.callWith_builtin (by show(T||(backTo cpos (starEach [b] X.env)).any (·.1))=T;rw[G];rfl) (Calls.evalArgs_plain ?_);refine j_ S λus W ⟨vs,u,j,r2,e,z,ev,E,q2⟩=>?_;subst ev;obtain⟨u1,u2,rfl,e1,_⟩:=r2.two;obtain rfl:u1=Value.ref e:=e1;obtain⟨⟨t0,B⟩,_,_⟩:=(show ObjOk X.prog X.w u W.heap e (.ext (eS e C))from j.hok e _ E);obtain⟨nm,qn,N,bs,sn,sub,ab,ai,dd,k0,k1,k2,k3,k5,lC,_,_⟩:=M.lk;obtain⟨hp,gs,dr,tk,os⟩:=W;refine yA PySem.F.excBase_ValueError (PySem.W.tail_of_in j.kIn M.tl) (j.kIn _ _ lC) B (by rw[sizeLine_eq];show 1<=_;decide) λh' t kp R=>?_;have O:=j.write (t':=tk) (x:=e) (e:=e) (o:=.ext (eS e C)) (by rw[E];trivial) (.inl rfl) kp ⟨_,R⟩ (ug ⟨t,R⟩);have eu:upd u e (.ext (eS e C))=u:=by
  funext y;by_cases P:y=e
  .subst P;rw[aN,E]
  .rw[aB P]
 rw[eu]at O;exact⟨.non,u,O,rfl,q2⟩
end
section
variable{X:Cx}{x fx fld:Str}{C F fI:Addr}{o value e:Expr}{ta tv te:TE}{p pos pos' p1 p2 p3:Pos}{c1 c2:Str}{j1 j2:Nat}
def fP(c1 c2:Str)(i:Int):Prop:=i.natAbs.log2<1920/\(Str.empty++c1).length<=sizeLine/\(Str.empty++c1++(toString i:Str)).length<=sizeLine/\(Str.empty++c1++(toString i:Str)++c2).length<=sizeLine
def G_(z0:(Str.empty++c1).length<=sizeLine)(B:PE X e te):PE X (.JoinedStr [.Constant (.str c1) j1 p1,.FormattedValue e (-1) Y p2,.Constant (.str c2) j2 p3] pos) (λZ H Q=>te Z H λx j=>∃i,x=.int i/\fP c1 c2 i/\Q (.str (Str.empty++c1++(toString i:Str)++c2)) j):=by intro y s Z H Q a h;refine wpAny_JoinedStr ?_;refine Calls.Constant_str ⟨_,_,rfl,z0,?_⟩;refine wpAny_FormattedValue_plain ?_;refine j_ (B y _ Z H _ (a.tok _) h) λv G ⟨x,j,l,u,i,e1,z,E⟩=>?_;subst e1;obtain⟨t,rfl⟩:=u;refine wpAny_formatField_int z.1 ⟨_,_,rfl,z.2.2.1,?_⟩;exact Calls.Constant_str ⟨_,_,rfl,z.2.2.2,z.2.2.2,.str _,j,((l.tok _).tok _).tok _,⟨_,rfl⟩,E⟩
end
section
variable{prog:Program}{w:World}{A:Around}{E:RC}{s:Shared}{env:Env}{nm qn:Str}{C N:Addr}{bs bm:RU}{hd:Bool}{sn:RM}{sub:RU}{ab:Bool}{col:Option Bool}{dd:RG}{k0 k1 k2 k3 k5:RW}{nid:String}
def tX{M:Model}{x:Sem Value}{Q:Flow->Shared->Prop}(y:bm.contains (.type "BaseException")=I)(F:A.handled=Y)(h:wpAny M A x (λv a=>∃e t j,v=.ref e/\a.heap.get? C=J (excClassObj nm qn C N bs bm hd sn sub ab col dd k0 k1 k2 k3 k5 nid)/\a.heap.get? e=J (C2 C t j)/\E (.ref e) a) E s):wpAny M A (raiseStmt env (J x) Y) Q E s:=by
 have u:(Value.ref C::bm).contains (.type "BaseException")=I:=by rw[L9,y,NH]
 refine i_ (wpAny_mono h (λv a ⟨e,t,j,B,i,l,hE⟩=>?_) λ_ _ z=>z);subst B
 repeat (first | with_reducible refine wpAny_loadPart_at l ?_ | with_reducible refine wpAny_loadPart_at i ?_ | (with_reducible refine wpAny_isSubtype_exc i ?_;rw[u]) | wp_step)
 exact wpAny_raiseNew_none F hE
def tZ{x:Str}{np j u:Pos}{i:RZ}{Q:Flow->Shared->Prop}(R:bm.contains (.type "BaseException")=I)(G:A.handled=Y)(y:(backTo j (starEach i env)).any (·.1)=T)(h:wpAny (model prog w) A (eval (.Name x np) env) (λf F=>f=.ref C/\wpAny (model prog w) A (evalArgs (.ref C) I (backTo j (starEach i env)) [])
   (λa B=>a.kw=[]/\B.heap.get? C=J (excClassObj nm qn C N bs bm hd sn sub ab col dd k0 k1 k2 k3 k5 nid)/\wpAny (model prog w) A (call (.ref C) a.pos) (λv l=>∃e t M,v=.ref e/\l.heap.get? C=J (excClassObj nm qn C N bs bm hd sn sub ab col dd k0 k1 k2 k3 k5 nid)/\l.heap.get? e=J (C2 C t M)/\E (.ref e) l) E B) E F) E s):
  wpAny (model prog w) A (exec (.Raise (J (.Call (.Name x np) i [] j)) Y u) env) Q E s:=by
 rw[arm_exec_Raise];simp only[evalOpt,Option.map];refine i_ (wpAny_standAt (tX (C:=C) (nm:=nm) (qn:=qn) (N:=N) (bs:=bs) (hd:=hd) (sn:=sn) (sub:=sub) (ab:=ab) (col:=col) (dd:=dd) (k0:=k0) (k1:=k1) (k2:=k2) (k3:=k3) (k5:=k5) (nid:=nid) R G ?_));refine i_ (wpAny_mono (wpAny_Call_ofName (wpAny_mono h (λf F ⟨L,U⟩=>?_) λ_ _ z=>z)) (λv l H=>i_ (wpAny_standAt (pz H))) λ_ _ z=>z);subst L;refine i_ (wpAny_holding (wpAny_mono U (λa B O=>i_ (wpAny_standAt ?_)) λ_ _ z=>z));obtain⟨W,X⟩:=a;obtain⟨S,P,run⟩:=O;obtain rfl:=S;simp only[y];refine i_ (wpAny_keeperOf_exc P ?_);exact i_ (wpAny_mono run (λv l z=>i_ (wpAny_holding (wpAny_point (pz z)))) λ_ _ z=>z)
end
def Ha{K:g_}{h:Heap}{N:Addr}{a:RD}{n:Str}{v:Value}(X:K.In h)(G:h.Ns N a)(e:PySem.W.nsIn K N n=J (J v)):a n=J v:=by
 obtain⟨o,j,l,i,hd,_,hf⟩:=G;unfold PySem.W.nsIn at e
 split at e
 .rename_i q
  have z:=X _ _ q;rw[i]at z
  split at e
  .rw[<-hf];unfold nsFind findBy
   grind
  .split at e<;>cases e
 .cases e
section
variable{X:Cx}{J4:List (Addr × Obj)}{Z:L2.St}{H:Hp}{s:Shared}{e:Addr}{φ:Heap->Prop}
def Inv.hide(a:Inv X J4 Z (upd H e (.ext φ)) s)(he:H e=Y)(h0:X.s₀.heap.get? e=Y)(hL:e≠X.env.locals)(G:∀x c,X.env.cells.lookup x=J c->c≠e)(O:∀p∈X.pn++J4,p.1≠e):
  Inv X J4 Z H { s with heap:=PySem.W.hideAll s.heap [e]}:=by
 have kp:∀b o,b≠e->s.heap.get? b=J o->(PySem.W.hideAll s.heap [e]).get? b=J o:=λb o nb z=>PySem.W.hideAll_get _ z (by simpa using nb);have F:∀b o,X.s₀.heap.get? b=J o->b≠e:=λb o z q=>by rw[q,h0]at z;cases z
 have ne:∀b u,H b=J u->b≠e:=λb u z q=>by rw[q,he]at z;cases z
 have up:∀b u,H b=J u->upd H e (.ext φ) b=J u:=λb u z=>by rw[aB (ne b u z)];exact z
 obtain⟨m,hn,hl⟩:=a.loc;refine⟨a.ok,a.os,a.bare,⟨λb o z n hf B=>kp b o (F b o z) (a.base.keep b o z n hf B),λb o z n hf B=>?_,λb o z n B=>?_,λb o z B=>?_,λb xs z=>?_,λb o u z=>?_,λb U z=>?_⟩,⟨m,?_,λi x v e1 e2 e3=>?_⟩,λx c z=>?_,?_,λx c z=>?_,λp y=>?_,λb u z=>?_,a.len⟩
 .obtain⟨sl,e1⟩:=a.base.slot b o z n hf B;exact⟨sl,kp b _ (F b o z) e1⟩
 .have:=a.base.free b o z n B
  rwa [aB (F b o z)]at this
 .obtain⟨R,e1⟩:=a.base.there b o z B;exact⟨R,kp b R (F b o z) e1⟩
 .have q:=a.base.tups b xs z;by_cases j:b=e
  .subst j;rw[aN]at q;cases q
  .rwa [aB j]at q
 .have q:=a.base.frzs b o u z;by_cases j:b=e
  .subst j;rw[aN]at q;cases q
  .rwa [aB j]at q
 .obtain⟨C,q⟩:=a.base.tbls b U z;by_cases j:b=e
  .subst j;rw[aN]at q;cases q
  .rw[aB j]at q;exact⟨C,q⟩
 .obtain⟨o,es,ep,ho,r⟩:=hn;exact⟨o,es,ep,kp _ o (Ne.symm hL) ho,r⟩
 .obtain⟨u,ru,E⟩:=hl i x v e1 e2 e3;refine⟨u,ru,?_⟩;rcases E with z|⟨z1,c,P,z3⟩
  .exact .inl z
  .obtain⟨o,L,M⟩:=z3;exact .inr ⟨z1,c,P,o,kp c o (G x c P) L,M⟩
 .obtain⟨v,o,L,M⟩:=a.cell x c z;exact⟨v,o,kp c o (G x c z) L,M⟩
 .have:=a.free
  rwa [aB (Ne.symm hL)]at this
 .have:=a.freeC x c z
  rwa [aB (G x c z)]at this
 .obtain⟨a1,Q,S⟩:=a.pin p y;rw[aB (O p y)]at Q;exact⟨kp _ _ (O p y) a1,Q,S⟩
 .refine (a.hok b u (up b u z)).stay (λc v l q=>kp c v ?_ q) (λc q=>?_) λc xs q=>?_
  .rcases l with rfl|l
   .exact ne _ _ z
   .intro W;subst W;rw[aN]at l;cases l
  .by_cases j:c=e
   .subst j;rw[aN]at q;cases q
   .rwa [aB j]at q
  .by_cases j:c=e
   .subst j;rw[aN]at q;cases q
   .rwa [aB j]at q
end
end MM
namespace PU
open MM
noncomputable section
end
end PU
namespace MM
open PySem.Spec PyProof.Rows L2
open PU (Xe Xs Xt Xi Xg Xd)
def Q_:Stmt->Nat->Stmt
 |.ClassDef _ _ _ a _ _ _ _ _ _ _,i=>a.getD i (.Pass ⟨0,0,0,0⟩)
 |s,_=>s
end MM
namespace L2
open PySem.Spec PyProof.Rows
variable{X:Cx}
end L2
namespace MM
open PySem.Spec PyProof.Rows L2
variable{X:Cx}
end MM
namespace PU
open MM SetT SortT
open L2 (vr nr fL)
noncomputable section
end
end PU
namespace MM
open PySem.Spec PyProof.Rows L2
open PU (Xe Xs Xt Xi Xo M1 x_ xC M2)
section
variable{X:Cx}{P:Program}{w:World}{K:g_}{mg:RD}{base:Heap}{N W:RM}{k:Nat}{sc:Scope}{ws:RQ}{x name:Str}{p pos:Pos}{a e tg:Expr}{es:RZ}{xa:Xe ws}{sa:Xs ws}{f:Str->RL->MH->RB}
structure SJ(X:Cx)(name:Str)(f:Str->RL->MH->RB):Prop where
 h:∃id,Slot "str" name id/\typeOf (.builtin id)=pure (.type "method_descriptor")/\DY X id (Oy X f)
def Hb:SJ X "join" PU.Ey.f:=⟨_,PySem.F.slot_str_join,PySem.F.type_str_join,Cr⟩
def PH{o:M1}(M:SJ X name o.f)(i:js X a xa.m)(j:Ae X (e::es) sa.m)(h:(((backTo pos (starEach (e::es) X.env)).all (λx=>!x.1)&&(backToKw pos (keywordEach [] X.env)).all (λx=>x.1.isSome)&&decide ((e::es).length+([]:List Keyword).length+(if([]:List Keyword).isEmpty then 0 else 1)<30))=I/\(p.endLine==pos.line)=I)/\attributeBase a name X.env (eval a X.env)=eval a X.env/\starEach (e::es) X.env=(T,eval e X.env)::starEach es X.env/\(backTo pos (starEach es X.env)).any (·.1)=T):js X (.Call (.Attribute a name p) (e::es) [] pos) (M2 o xa sa).m :=
 let⟨_,x,y,z⟩:=M.h
 ⟨Kk x y z i.h j.h h.2.1 h.1.1 h.1.2 h.2.2.1 h.2.2.2⟩
variable(c:Wc X P w K mg base N W k sc)
include c
end
end MM
namespace MM
open PySem.Spec PyProof.Rows L2
def i5(e C d:Addr)(h:Heap):Prop:=∃t,h.get? e=J (C2 C t (J d))
def C3{P:Program}{w:World}{H:Hp}{h:Heap}{e C t d:Addr}(a:h.get? e=J (C2 C t (J d))):ObjOk P w H h e (.ext (i5 e C d)) :=
 ⟨⟨t,a⟩,⟨_,a⟩,λj i ⟨t,z⟩ k=>⟨t,k _ z⟩⟩
def Lz{P:Program}{w:World}{H:Hp}{h:Heap}{d:Addr}{f:Str}{i:Int}(n:FD d f i h):ObjOk P w H h d (.ext (FD d f i)):=by
 refine⟨n,?_,λy u ⟨t,z⟩ k=>⟨t,?_⟩⟩
 .obtain⟨t,o,j,l,a,r⟩:=n;exact⟨o,a⟩
 .obtain⟨o,j,l,a,r⟩:=z;exact⟨o,j,l,k _ a,r⟩
section
variable{X:Cx}{x fx fld:Str}{C F fI:Addr}{o value e:Expr}{ta tv te:TE}{p pos pos' p1 p2 p3:Pos}{c1 c2:Str}{j1 j2:Nat}
def wQ(M:AA X.K X.mg x C F fI fld)(S:X.ex=[])(ha:PE X o ta)(hv:PE X value tv)(hs:swapsWith value (J (.Attribute o fld pos')) pos.line X.env=pure T):
  PS X (.Assign [.Attribute o fld pos'] value pos) (λD Z H=>tv Z H λy R=>ta Z R λx B=>∃e i,x=.ref e/\y=.int i/\B e=J (.ext (eS e C))/\∀d,B d=Y->d≠e->D.nx Z (upd (upd B e (.ext (i5 e C d))) d (.ext (FD d fld i)))):=by
 intro O s Z H D Q h;refine plainObj_wpAny_Assign_Attribute (j_ (hv O s Z H _ Q h) λu s1 ⟨y,R,I1,ry,q⟩=>j_ (ha O s1 Z R _ I1 q) λov s2 ⟨x,B,j,rx,e,i,ex,ey,W,q2⟩=>?_) hs;subst ex ey;obtain rfl:=rx;obtain⟨tu,rfl⟩:=ry;obtain⟨⟨t0,E⟩,_,_⟩:=(j.hok e _ W);obtain⟨nm,qn,N,bs,sn,sub,ab,ai,dd,k0,k1,k2,k3,k5,lC,_,_⟩:=M.lk;refine C0 j.kIn E rfl rfl rfl M.sa (by unfold PySem.W.clsIn;rw[lC]) rfl rfl M.tk λh' U a kp G l ns=>?_;have ne:a≠e:=λz=>by rw[z,E]at l;cases l
 have a1:B a=Y:=by
  cases z:B a with
  |none=>rfl
  |some o=>obtain⟨u,eu⟩:=(j.hok a o z).has;rw[l]at eu;cases eu
 have a2:X.s₀.heap.get? a=Y:=by
  cases z:X.s₀.heap.get? a with
  |none=>rfl
  |some o=>obtain⟨o',G⟩:=j.base.there a o z (by rw[S];simp);rw[l]at G;cases G
 have a3:a≠X.env.locals:=λz=>by
  obtain⟨m',⟨o,_,_,L,_⟩,_⟩:=j.loc;rw[<-z,l]at L;cases L
 have a4:∀z c,X.env.cells.lookup z=J c->c≠a:=λz c e1 e2=>by
  obtain⟨v,o,L,_⟩:=j.cell z c e1;rw[e2,l]at L;cases L
 have a5:∀p∈X.pn++O,p.1≠a:=λp P e2=>by
  have:=(j.pin p P).1
  rw[e2,l]at this;cases this
 have I3:=j.write (t':=U) (o:=.ext (i5 e C a)) (by rw[W];trivial) (.inl rfl) kp ⟨_,G⟩ (C3 G);have I4:=Inv.track (φ:=FD a fld i) I3 (by rw[aB ne];exact a1) a2 a3 a4 a5 (Lz ⟨tu,ns⟩);exact⟨Z,_,I4,q2 a a1 ne⟩
end
def tP(C:Addr)(u l fld:Str):TS:=Ji (DV λZ H Q=>vk (sD 0) (vk (λZ H Q=>sD 1 Z H λx a=>∃i,x=.int i/\fP u l i/\Q (.str (Str.empty++u++(toString i:Str)++l)) a) JA) Z H λB a=>∃e z,B=[.ref e,.str z]/\a e=J (.ext (eS e C))/\Q .non a)
 (λD Z H=>sD 1 Z H λy a=>sD 0 Z a λx j=>∃e i,x=.ref e/\y=.int i/\j e=J (.ext (eS e C))/\∀d,j d=Y->d≠e->D.nx Z (upd (upd j e (.ext (i5 e C d))) d (.ext (FD d fld i))))
def M7(C:Addr)(l a fld:Str):Sp:=λj H Q E=>∃e i,j=[.ref e,.int i]/\H e=J (.ext (eS e C))/\fP l a i/\∀d,H d=Y->d≠e->Q .non (upd (upd H e (.ext (i5 e C d))) d (.ext (FD d fld i)))
def Hc{C e:Addr}{l a fld y B:Str}{i:Int}{H:Hp}{Q:VK}(j:H e=J (.ext (eS e C)))(z:fP l a i)(q:∀d,H d=Y->d≠e->Q .non (upd (upd H e (.ext (i5 e C d))) d (.ext (FD d fld i)))):tP C l a fld { nx:=λ_ u=>Q .non u,rt:=Q} (start [y,B] [.ref e,.int i]) H :=
 ⟨.ref e,rfl,.int i,rfl,i,rfl,z,e,_,rfl,j,.int i,rfl,.ref e,rfl,e,i,rfl,rfl,j,q⟩
def zb{P:Program}{w:World}{K:g_}{mg:RD}{base:Heap}{a:Str}{st:Stmt}{f:Addr}{fd:FuncData}{k:Nat}{C:Addr}{y u fld j l:Str}(F:Fun K "__init__" a st f fd)(S:o0 [j,l] [j,l] (ah st))(G:∀X:Cx,X.K=K->X.mg=mg->X.env.scope=ah st->X.N=[j,l]->X.ex=[]->PSs X (aH st) (tP C y u fld)):FnOk P w K mg base Io (k+1) f fd [j,l] (M7 C y u fld):=by
 refine F.ok S (λL H Q E ⟨e,i,h,_⟩=>by rw[h];rfl) λz A outer s H L Q E hr ⟨e,i,h,B,M,q⟩=>?_;subst h;exact⟨_,G _ rfl rfl rfl rfl rfl,Hc B M q⟩
def RH.ext{K:g_}{mg:Aq}{U:RT}{H:Hp}{h:MH}(r:RH K mg U H h){p:Addr}(i:H p=Y)(φ:Heap->Prop):RH K mg U (upd H p (.ext φ)) h/\Le U H U (upd H p (.ext φ)):=by
 have j:∀n a,U[n]?=J a->a≠p:=λn a e z=>by
  obtain⟨y,_,q⟩:=r.obj e;rw[z,i]at q;exact q.some rfl
 have l:Le U H U (upd H p (.ext φ)):=⟨⟨[],by simp⟩,λa xs e=>by rw[aB (br e i)];exact e,λa B u e=>by rw[aB (br e i)];exact e⟩;exact⟨⟨r.len,r.nd,λn a o e1 e2=>by rw[aB (j n a e1)];exact(r.at' n a o e1 e2).le l⟩,l⟩
def uo(x l a fld:Str)(m:Mx (RL)):n0:=w_ m λj Z h=>match j with
 |[.int i]=>if fP l a i then .rse ⟨x,[(fld,.int i)]⟩ Z h else .bad
 |_=>.bad
section
variable{X:Cx}{N W G:RM}{k:Nat}{x fld sf pl c1 c2:Str}{C F fI:Addr}{fd:FuncData}
def xP(g:Good X N W G (k+1)){j:Nat}(hj:G[j]?=J x)(EI:AA X.K X.mg x C F fI fld)(FO:FnOk X.prog X.w X.K X.mg X.base Io k fI fd [sf,pl] (M7 C c1 c2 fld))(hb:jS X.K fd [sf,pl] []){oI:Obj}(hf:X.K.lookup fI=J oI)(b6:oI.cls=.type "function")(dc:h_ X){e:Expr}{m:Mx (RL)}{np P b0:Pos}(ha:MA X [e] m)(he:starEach [e] X.env=[(T,eval e X.env)]):MS X (.Raise (J (.Call (.Name x np) [e] [] P)) Y b0) (uo x c1 c2 fld m):=by
 intro J4 s Z H D R ⟨U,an,h,rs,rh,q⟩;have d:=g.dbg x (tf _ (aD hj));obtain⟨nm,qn,N',bs,sn,sub,ab,b4,dd,k0,k1,k2,k3,k5,lC,b5,a9⟩:=EI.lk;refine tZ (C:=C) (nm:=nm) (qn:=qn) (N:=N') (bs:=bs) (bm:=.ref F::fH) (hd:=I) (sn:=sn) (sub:=sub) (ab:=ab) (col:=b4) (dd:=dd) (k0:=k0) (k1:=k1) (k2:=k2) (k3:=k3) (k5:=k5) (nid:="ValueError.__new__") rfl (R.ok.hd g.calm) (by rw[he];rfl) (jg R (g.gl x (aD hj)) EI.bd ⟨rfl,?_⟩ d.1)
 have A:=ha P J4 s Z H (λvs E=>∃O xs h1,Le U H O E/\RH X.K X.mg O E h1/\RPs X.K O E xs vs/\bj X O E (match xs with
   |[.int i]=>if fP c1 c2 i then .rse ⟨x,[(fld,.int i)]⟩ an h1 else .bad
   |_=>.bad) D) R ⟨U,an,h,rs,rh,bj.ex q λO E v v' h1 l r z w=>⟨O,v,h1,l,r,z,w⟩⟩
 rw[he]at A ⊢;refine Calls.evalArgs_plain (wpAny_mono A (λus s2 ⟨vs,E,L,rv,O,xs,h1,l1,a8,rx,w⟩=>?_) λ_ _ y=>y);refine⟨rfl,L.kIn _ _ lC,?_⟩
 cases rx with
 |nil=>exact w.elim
 |cons r1 t1 =>
  cases r1 with
  |int i =>
   cases t1 with
   |cons _ _=>exact w.elim
   |nil =>
    dsimp only at w;by_cases hz:fP c1 c2 i
    .rw[c_ hz]at w;obtain⟨u,rfl,tu,rfl⟩:=rv.one;have n2:=Heap.Ns.of_isNs (PySem.W.isNs_of_in L.kIn b5);have b9:=L.kIn;have T2:=PySem.W.tail_of_in L.kIn EI.tl;have b2:=L.kIn _ _ lC;have b3:=L.kIn _ _ hf;have a6:=Ha L.kIn n2 a9;obtain⟨hp,gs,dr,tk,os⟩:=s2;refine yc PySem.F.excBase_ValueError T2 b2 n2 a6 b3 b6 (by rw[sizeLine_eq];show 1<=_;decide) λh' a M=>?_;have en:hp.get? a=Y:=M.new;have I2:Inv X J4 Z E ⟨h',gs,dr,tk,os⟩:=L.kept (t':=tk) M.keeps;have a1:E a=Y:=by
      cases z:E a with
      |none=>rfl
      |some o=>obtain⟨u,eu⟩:=(L.hok a o z).has;rw[en]at eu;cases eu
     have a2:X.s₀.heap.get? a=Y:=by
      cases z:X.s₀.heap.get? a with
      |none=>rfl
      |some o=>obtain⟨o',e'⟩:=L.base.there a o z (by rw[dc.ex];simp);rw[en]at e';cases e'
     have a3:a≠X.env.locals:=λz=>by
      obtain⟨m',⟨o,_,_,eo,_⟩,_⟩:=L.loc;rw[<-z,en]at eo;cases eo
     have a4:∀z c,X.env.cells.lookup z=J c->c≠a:=λz c e1 e2=>by
      obtain⟨v,o,eo,_⟩:=L.cell z c e1;rw[e2,en]at eo;cases eo
     have a5:∀p∈X.pn++J4,p.1≠a:=λp as e2=>by
      have:=(L.pin p as).1
      rw[e2,en]at this;cases this
     obtain⟨t0,ar,_,_⟩:=M.there;have I3:=Inv.track (φ:=eS a C) I2 a1 a2 a3 a4 a5 (ug ⟨t0,ar⟩);have al:=hb ⟨h',gs,dr,tk,os⟩ [.ref a,.int i tu] I3.kIn rfl;rw[By]at al;refine wpAny_call (codeAny_mono (FO.run _ X.stack ⟨h',gs,dr,tk,os⟩ (upd E a (.ext (eS a C))) ⟨[.ref a,.int i tu],[]⟩ [.ref a,.int i tu] [.ref a,.int i] (λv H'=>v=.non/\∃d,E d=Y/\d≠a/\H'=upd (upd (upd E a (.ext (eS a C))) a (.ext (i5 a C d))) d (.ext (FD d fld i))) (λ_ _ _=>False) (g.room.make _ _ _) (I3.env0.make _ _ _) al (.cons rfl (.cons ⟨_,rfl⟩ .nil)) ⟨a,i,rfl,aN,hz,λd ak ai=>⟨rfl,d,by rw[aB ai]at ak;exact ak,ai,rfl⟩⟩) λr s' hq=>?_)
     cases r with
     |error _=>exact False.elim hq
     |ok fl =>
      cases fl with
      |ret u =>
       obtain⟨v,H',I4,b1,ev,B,hd,ap,eH⟩:=I3.after hq;subst ev eH;obtain rfl:u=Value.none:=b1;refine⟨rfl,?_⟩;have eu:upd (upd (upd E a (.ext (eS a C))) a (.ext (i5 a C B))) B (.ext (FD B fld i))=upd (upd E B (.ext (FD B fld i))) a (.ext (i5 a C B)):=by
        funext y;by_cases hy:y=a
        .subst hy;rw[aN,aB (Ne.symm ap),aN]
        .by_cases S:y=B
         .subst S;rw[aN,aB hy,aN]
         .rw[aB S,aB hy,aB hy,aB hy,aB S]
       rw[eu]at I4;obtain⟨⟨t,Q⟩,_,_⟩:=(show ObjOk X.prog X.w _ s'.heap a (.ext (i5 a C B))from I4.hok a _ aN);refine⟨a,t,J B,rfl,I4.kIn _ _ lC,Q,?_⟩;have I5:=Inv.unpinned (J4:=[]) (Inv.hide I4 (by rw[aB (Ne.symm ap)];exact a1) a2 a3 a4 a5);obtain⟨a0,l2⟩:=a8.ext hd (FD B fld i);exact w a C O _ Z s' (PySem.W.hideAll s'.heap [a]) (J B) (.inr ⟨fld,i,B,rfl,rfl,aN⟩) EI.bd l2 a0 ((rs.le l1).le l2) I5 ⟨λb o z=>PySem.W.of_hideAll _ z,PySem.W.hideAll_none _ (by simp),t,J B,Q⟩ λd' z=>by
        cases z;exact⟨_,(Heap.get?_some_iff.mp Q).1,rfl⟩
      |next=>exact False.elim hq
      |brk=>exact False.elim hq
      |cont=>exact False.elim hq
    .rw[hI hz]at w;exact w.elim
  |_=>exact w.elim
end
section
variable{prog:Program}{w:World}{A:Around}{E:RC}{h:Heap}{g:Array GenState}{d:Drawn}{t:Nat}{os:OsState}{a C:Addr}{o od:Obj}{K:g_}{name:Str}{v:Value}{tk:Tok}
def C4{Q:Fin->Shared->Prop}(l:K.In h)(i:PySem.W.InstAt h a o C (J od))(hf:PySem.W.findObj K C (J od) name=J (.value v))(y:Q (.done (.ret v)) ⟨h,g,d,t,os⟩):
  wpAny (model prog w) A (Builtin.«object.__getattribute__» ⟨[.ref a,.str name tk],[]⟩) Q E ⟨h,g,d,t,os⟩:=by
 have j:=i.type (M:=model prog w);have u:=PySem.W.looks_find (M:=model prog w) l i hf;unfold Builtin.«object.__getattribute__»
 repeat (any_goals (first | assumption | (with_reducible refine j.at ?_) | (with_reducible refine u.at ?_) | wp_step))
def Hd{R:Result->Shared->Prop}(F:K.In h)(q:vE K C)(j:PySem.W.InstAt h a o C (J od))(hf:PySem.W.findObj K C (J od) name=J (.value v))(G:R (.ok (.ret v)) ⟨h,g,d,t,os⟩):
  codeAny (model prog w) A (.call (.builtin "BaseException.__getattribute__") ⟨[.ref a,.str name tk],[]⟩) R ⟨h,g,d,t,os⟩:=by
 have H:=j.at_;have P:=j.cls;have O:builtinKind "BaseException.__getattribute__"=J .slot:=by decide +kernel
 have i:splitId "BaseException.__getattribute__"=J ("BaseException","__getattribute__"):=by decide +kernel
 have Q:=PySem.F.args_bexc_ga (.ref a) (.str name tk);have L:∀{B:Around} {y:RC} {l:Bool->Shared->Prop},l I ⟨h,g,d,t,os⟩->wpAny (model prog w) B (isSubtype (.ref C) (.type "BaseException")) l y ⟨h,g,d,t,os⟩:=λz=>(PySem.W.looks_mroIn (M:=model prog w) F q.mb).at z;have u:∀{B:Around} {y:RC} {l:Unit->Shared->Prop},l () ⟨h,g,d,t,os⟩->wpAny (model prog w) B (checkBuiltinCall "BaseException.__getattribute__" ⟨[.ref a,.str name tk],[]⟩) l y ⟨h,g,d,t,os⟩:=λz=>by
  simp only[checkBuiltinCall,O,i];refine i_ ?_
  .unfold isInstance
   repeat (first | (with_reducible refine wpAny_loadPart_at H ?_;rw[P]) | with_reducible refine L ?_ | wp_step)
   exact z
 exact codeAny_call_builtin PySem.F.excAttr_ValueError.ga.plain PySem.F.entry_bexc_ga (u (C4 F j hf G))
def PJ{i:Bool}{Q:RC}(B:K.In h)(q:vE K C)(j:PySem.W.InstAt h a o C (J od))(hf:PySem.W.findObj K C (J od) name=J (.value v))(hv:PySem.W.handedIn v=I)(H:Q v ⟨h,g,d,t,os⟩):wpAny (model prog w) A (getAttrBy (.ref a) (.str name tk) I i) Q E ⟨h,g,d,t,os⟩:=by
 have O:=j.at_;have L:=j.cls;have U:=PySem.F.excAttr_ValueError.ga.bind (.ref a);have P:(i&&onTheHeap (Value.builtin "BaseException.__getattribute__"))=T:=by cases i<;>rfl
 have F:(Value.builtin "BaseException.__getattribute__" == Value.builtin "object.__getattribute__")=T:=by decide +kernel
 have S:(onTheHeap (Value.ref C)&&Value.builtin "BaseException.__getattribute__" == Value.builtin "object.__getattribute__")=T:=by rw[F];rfl
 have G:∀{y:Around} {u:RC} {l:RW->Shared->Prop},l (J (.builtin "BaseException.__getattribute__")) ⟨h,g,d,t,os⟩->wpAny (model prog w) y (typeLookup (.ref C) "__getattribute__") l u ⟨h,g,d,t,os⟩:=λz=>(PySem.W.looks_findIn (M:=model prog w) B q.ga).at z;have R:∀{y:Around} {u:RC} {l:RW->Shared->Prop},l Y ⟨h,g,d,t,os⟩->wpAny (model prog w) y (typeLookup (.ref C) "__getattr__") l u ⟨h,g,d,t,os⟩:=λz=>(PySem.W.looks_findIn (M:=model prog w) B q.gt).at z
 repeat (any_goals (first | assumption | (with_reducible refine wpAny_loadPart_at O ?_;rw[L]) | with_reducible refine G ?_ | with_reducible refine R ?_ | wp_step))
 refine Hd B q j hf ?_
 repeat (any_goals (first | assumption | wp_step))
 show wpAny _ _ (handedOut v) _ _ _;rw[PySem.W.handedOut_of hv];exact pz H
def He{i:Bool}{Q:RC}(l:K.In h)(q:vE K C)(j:PySem.W.InstAt h a o C (J od))(hf:PySem.W.findObj K C (J od) name=J (.value v))(hv:PySem.W.handedIn v=I)(u:Q v ⟨h,g,d,t+1,os⟩):wpAny (model prog w) A (getAttr (.ref a) name i) Q E ⟨h,g,d,t,os⟩:=by unfold getAttr;refine i_ (wpAny_mkText ?_);show wpAny (model prog w) A (getAttrBy (.ref a) (.str name t) I i) Q E ⟨h,g,d,t+1,os⟩;exact PJ l q j hf hv u
def C5{dd:Addr}{f:Str}{i:Int}{h:Heap}(x:FD dd f i h):∃od t,h.get? dd=J od/\PySem.W.lookIn f od=J (J (.int i t)):=by
 obtain⟨t,o,j,B,l,hd,G,F,u⟩:=x;refine⟨o,t,l,?_⟩;unfold PySem.W.lookIn;rw[hd];dsimp only;have q:nsFind j f=J (.int i t):=(u f).trans (c_ rfl);unfold nsFind findBy at q;rw[<-Array.find?_toList]at q
 cases z:j.toList.find? (λx=>x.key.isStr f) with
 |none=>rw[z]at q;cases q
 |some e =>
  rw[z]at q;have y:e.val=.int i t:=Option.some.inj q;dsimp only;rw[y]
end
def gG(a C d:Addr)(h:Heap):Prop:=∃o i,h.get? a=J o/\o.cls=.ref C/\o.data=.fields i/\o.dict=J d
def xM{P:Program}{w:World}{H:Hp}{h:Heap}{a C d:Addr}(x:gG a C d h):ObjOk P w H h a (.ext (gG a C d)):=by obtain⟨o,u,e1,e2,e3,e4⟩:=x;exact⟨⟨o,u,e1,e2,e3,e4⟩,⟨o,e1⟩,λE B ⟨o,y,z1,i,z,l⟩ j=>⟨o,y,j o z1,i,z,l⟩⟩
structure Hf(K:g_)(C:Addr)(fld:Str):Prop where
 q:vE K C
 hd:PySem.W.hasDictIn K C=I
 fi:PySem.W.findIn K (.ref C) fld=J Y
section
variable{X:Cx}{fld:Str}{C:Addr}{e:Expr}{ta:TE}{pos:Pos}
def C6(G:Hf X.K C fld)(P:PE X e ta)(O:attributeBase e fld X.env (eval e X.env)=eval e X.env):
  PE X (.Attribute e fld pos) (λZ H Q=>ta Z H λx j=>∃a d i,x=.ref a/\j a=J (.ext (gG a C d))/\j d=J (.ext (FD d fld i))/\Q (.int i) j):=by
 intro L s Z H Q z h;refine BS O (j_ (P L s Z H _ z h) λu B ⟨x,j,l,F,a,d,i,ex,S,R,q⟩=>?_);subst ex;obtain rfl:=F;obtain⟨⟨o,vs,e1,e2,e3,e4⟩,_,_⟩:=l.hok a _ S;obtain⟨fd,_,_⟩:=l.hok d _ R;obtain⟨E,t,e5,M⟩:=C5 fd;have y:PySem.W.InstAt B.heap a o C (J E):=⟨e1,e2,by unfold PySem.W.notCls;rw[e3],by rw[e4];exact e5⟩;obtain⟨U,g,W,tk,os⟩:=B;refine He l.kIn G.q y (PySem.W.findObj_own G.hd G.fi rfl M) rfl ?_;exact⟨.int i,j,l.tok _,⟨_,rfl⟩,q⟩
end
def iT(x:qx)(fld:Str):RX:=match x.fs with
 |[(f,.int i)]=>if f=fld then J i else Y
 |_=>Y
def vf{x:qx}{fld:Str}{i:Int}(h:iT x fld=J i):x.fs=[(fld,.int i)]:=by
 unfold iT at h
 split at h
 .rename_i f j e
  by_cases z:f=fld
  .rw[c_ z]at h;cases h;rw[e,z]
  .rw[hI z]at h;cases h
 .cases h
def lL(z fld:Str)(y:RM)(u B a:Nat)(mb:n0):n0:=λZ h=>match mb Z h with
 |.exc x l j=>if x.cls=z then (match iT x fld with
   |some i=>.nx ((((l.set a (J (.loc j.length))).set u (J (.loc j.length))).set B (J (.int i))).set a Y) (j++[.exc ⟨x.cls,[]⟩])
   |none=>.bad)
  else if x.fs=[]/\x.cls∈y then .nx (((l.set a (J (.loc j.length))).set u (J (.loc j.length))).set a Y) (j++[.exc x])else .bad
 |.rse _ _ _=>.bad
 |o=>o
def vy{α:Type}{M:Model}{A:Around}{t:Sem α}{e:Addr}{i:RG}{Q:α->Shared->Prop}{E:RC}{s:Shared}(k:KD t)(hd:DvA i e s.heap)(w:wpAny M A t (λu a=>DvA i e a.heap->Q u a) E s):wpAny M A t Q E s:=by
 cases i with
 |none=>exact wpAny_mono w (λu a h=>h DvA.none) λ_ _ h=>h
 |some d=>exact wpAny_mono (KD.any k (hd d rfl) w) (λu a h=>h.1 λj z=>by cases z;exact h.2) λ_ _ h=>h.1
def qN{M:Model}{A:Around}{E:RC}{h:Heap}{gn:Array GenState}{d:Drawn}{t:Nat}{os:OsState}{ea C D N1 N2:Addr}{oe:Obj}{U q1 O q2:Str}{G i Z a:RU}{P H:Bool}{F R:RM}{u l:RU}{X L:Bool}{z j:Option Bool}{S W:RG}{a0 a1 a2 a3 a5 b0 b1 b2 b3 b5:RW}{n1 n2:String}{Q:Bool->Shared->Prop}(hC:h.get? C=J (excClassObj U q1 C N1 G i P F u X z S a0 a1 a2 a3 a5 n1))(hD:h.get? D=J (excClassObj O q2 D N2 Z a H R l L j W b0 b1 b2 b3 b5 n2))(he:h.get? ea=J oe)(B:oe.cls=.ref C)(hB:a.contains (.type "BaseException")=I)(y:(Value.ref C::i).contains (.ref D)=T)(hq:Q T ⟨h,gn,d,t,os⟩):wpAny M A (excMatches (.ref ea) (.ref D)) Q E ⟨h,gn,d,t,os⟩:=by
 have ab:(Value.ref D::a).contains (.type "BaseException")=I:=by rw[L9,hB,NH]
 have f:=tc_notTuple
 repeat (first | (rw[B]) | with_reducible refine wpAny_loadPart_at hD ?_ | (with_reducible refine wpAny_isSubtype_exc hD ?_;rw[ab]) | (with_reducible refine wpAny_isSubtype_exc hC ?_;rw[y]) | wp_step)
 exact hq
section
variable{X:Cx}{N W G:RM}{k:Nat}
def C7(g:Good X N W G k)(dc:h_ X){c c1 fld:Str}{j j1:Nat}{D C1 F fI:Addr}(hj:G[j]?=J c)(db:G[j1]?=J c1)(ED:Cc X c D)(EI:AA X.K X.mg c1 C1 F fI fld)(EG:Hf X.K C1 fld){cs:RM}(g1:∀x∈cs,∃C,Cc X x C/\PySem.W.mroIn X.K C (.ref D)=J I/\PySem.W.mroIn X.K C (.ref C1)=J T)(iy iz Q:Nat){y y2 n:Str}(da:N[iy]?=J y)(f6:W[iy]?=J y)(fx:N[iz]?=J y2)(hu:W[iz]?=J y2)(gg:iy≠Q)(hP:iz≠Q)(ai:N[Q]?=J n)(e7:W[Q]?=J n)(c4:X.env.scope.names.lookup n=J .local){dt:RF}{mb:n0}{cp yp np sp hp he fo dq Bv dk eH dr AZ ap de:Pos}(hb:∀a4:Cx,a4.prog=X.prog->a4.w=X.w->a4.K=X.K->a4.mg=X.mg->a4.base=X.base->a4.env=X.env->Good a4 N W G k->h_ a4->AD a4 dt mb)(ha:swapsWith (.Name n np) (J (.Name y yp)) sp.line X.env=pure T:=by rfl)(e6:swapsWith (.Name n Bv) (J (.Name y dq)) dk.line X.env=pure T:=by rfl)(et:swapsWith (.Attribute (.Name n AZ) fld ap) (J (.Name y2 dr)) de.line X.env=pure T:=by rfl)(f7:attributeBase (.Name n AZ) fld X.env (eval (.Name n AZ) X.env)=eval (.Name n AZ) X.env:=by rfl):
  MS X (.Try dt [.ExceptHandler (J (.Name c1 fo)) (J n) [.Assign [.Name y dq] (.Name n Bv) dk,.Assign [.Name y2 dr] (.Attribute (.Name n AZ) fld ap) de] eH,.ExceptHandler (J (.Name c cp)) (J n) [.Assign [.Name y yp] (.Name n np) sp] hp] [] [] he) (lL c1 fld cs iy iz Q mb):=by
 intro J4 s Z H Dd g3 ⟨U,ew,h,rs,rh,q⟩;refine wpAny_Try_except ?_;have gY:∀E,PassesOwn (model X.prog X.w) X.A X.env E->Good (pq X J4 E) N W G k:=λE po=>⟨g.hN,g.nd,g.loc,g.fn,g.gl,g.dbg,g.calm,g.room,po⟩;have run:=hb (pq X J4 _) rfl rfl rfl rfl rfl rfl (gY _ (PassesOwn.looking (M:=model X.prog X.w) (A:=X.A) (env:=X.env) (K:=λe er=>wpAny (model X.prog X.w) X.A (setFlight e Y) (λ_ ez=>wpAny (model X.prog X.w) X.A (handleBy e X.env [.ExceptHandler (J (.Name c1 fo)) (J n) [.Assign [.Name y dq] (.Name n Bv) dk,.Assign [.Name y2 dr] (.Attribute (.Name n AZ) fld ap) de] eH,.ExceptHandler (J (.Name c cp)) (J n) [.Assign [.Name y yp] (.Name n np) sp] hp]) (SP X J4 Dd) X.xe ez) X.xe er) (E₁:=X.xe))) ⟨dc.stk,dc.fr,dc.ex⟩;refine wpAny_mono (run [] s Z H Dd (Inv.toPin g3) ⟨U,ew,h,rs,rh,?_⟩) (λf hH z=>?_) λ_ _ z=>z
 .unfold lL at q
  cases em:mb ew h with
  |nx Z1 h1=>rw[em]at q;exact q
  |rt v h1=>rw[em]at q;exact q
  |bk Z1 h1=>rw[em]at q;exact q
  |ct Z1 h1=>rw[em]at q;exact q
  |bad=>rw[em]at q;exact q.elim
  |rse x Z1 h1=>rw[em]at q;exact q.elim
  |exc x Z1 h1 =>
   rw[em]at q;dsimp only at q;by_cases d2:x.cls=c1
   .rw[c_ d2]at q
    cases eF:iT x fld with
    |none=>rw[eF]at q;exact q.elim
    |some i =>
     rw[eF]at q;dsimp only at q;intro a C U' H' Z' s' hD dv fg c2 l c5 d1 I' an ee eu;have f5:=vf eF;obtain⟨z,_⟩|⟨f0,i0,dd,z1,rfl,eh⟩:=fg
     .rw[f5]at z;cases z
     rw[f5]at z1;cases z1;have eC:C1=C:=by
      have:=EI.bd
      rw[<-d2,show X.mg x.cls=J (.ref C)from c2]at this;cases this;rfl
     subst eC;obtain⟨B,t,as,c3,ab,ck⟩:=ee;have bm:X.stack=X.env::X.outer:=dc.stk;have as:Heap.FlyingW B (X.env::X.outer) a (.ref C1) (.ref t) s'.heap:=by rw[<-bm];exact as
     have cB:X.A.frames=J (X.env::X.outer):=by rw[<-bm];exact I'.ok.frames
     refine vy (uT _ _) eu ?_;refine wpAny_looks_onW (base:=B) cB dc.fr as λf4 ak a9 e8=>?_;refine vy (ip _ _) e8 ?_;refine wpAny_landsW ak λev P b4 f1=>?_;have c0:=a9.trans b4;have I5:=Inv.flown I' as.1 P.1 c0 an ab c3;have R:=Inv.ofPin I5;refine wpAny_handleBy_cons (codeAny_handlers_test (Calls.Name_function_global R.ok.kind (g.gl c1 (aD db)) (Calls.loadGlobal_global (by rw[R.ok.glob];exact R.mod.glob.keeps R.bk) EI.bd ?_) (g.dbg c1 (tf _ (aD db))).1)) (by intro z;cases z);obtain⟨gs,hk,NI,ht,gv,fk,f8,ey,hB,hz,hi,hy,g0,hA,eg,_,_⟩:=EI.lk;obtain⟨ob,df,ch⟩:=P.there;obtain⟨hc,g5,d5,t5,fa⟩:=s';have di:=R.kIn _ _ eg;have TI:=PySem.W.tail_of_in R.kIn EI.tl;refine jp di di df ch (TI.hasType PySem.F.excBase_ValueError.hasBase) (by rw[L9];simp) ?_;refine codeAny_handlers_suite_as ?_;refine vy (ip _ _) f1 ?_;refine lands_againW P λal S b9 fp=>?_;have I6:=Inv.flown I5 P.1 S.1 b9 an ab c3;have cf:=Inv.ofPin I6;obtain⟨oe,vs,gn,oT,ts,ar,⟨ca,hn⟩,b6,_,_,_,_,_,_⟩:=S.2.2.2;have cm:B.get? a=Y:=S.2.1;have cd:a∉wv X.stack:=λhm=>by
      obtain⟨_,o,eo,dn⟩:=cf.stack.mem hm;rw[show al.get? a=J oe from ar]at eo;cases eo;exact dn vs b6
     have eL:a≠X.env.locals:=λz=>cd (by rw[bm,z];exact IR.mpr ⟨X.env,A6,dc.fr⟩);have e0:X.s₀.heap.get? a=Y:=by
      cases z:X.s₀.heap.get? a with
      |none=>rfl
      |some o =>
       obtain⟨o',e'⟩:=an.old a o z (by rw[dc.ex];simp);obtain⟨dx,eb⟩:=ab a o' e' cd;rw[cm]at eb;cases eb
     have ec:∀z cc,X.env.cells.lookup z=J cc->cc≠a:=λz cc e w=>by
      obtain⟨v,o,eo,ed⟩:=cf.cell z cc e;rw[w,show al.get? a=J oe from ar]at eo;cases eo;rw[b6]at ed;cases ed
     have ep:∀p∈X.pn++J4,p.1≠a:=λp dV w=>by
      obtain⟨o',e'⟩:=an.pin p dV;rw[w]at e';obtain⟨dx,eb⟩:=ab a o' e' cd;rw[cm]at eb;cases eb
     obtain⟨od,g4,hs⟩:=fp dd rfl;have ek:oe.dict=J dd:=by
      have:=(Heap.get?_some_iff.mp ar).1
      rw[show(⟨al,g5,d5,t5,fa⟩:Shared).heap.objs[a]?=J od from g4]at this;cases this;exact hs
     have g2:dd≠a:=λz=>by rw[z,ck]at eh;cases eh
     have I7:=Inv.track (φ:=gG a C1 dd) cf ck e0 eL ec ep (xM ⟨oe,vs,ar,ca,b6,ek⟩);have a8:X.N.Nodup:=by rw[g.hN];exact g.nd
     refine fN I7 a8 (g.x ai) (g.loc n (aD ai)) (v:=.ref a) rfl (λs8 L=>?_) (g.fn n (aD e7))
     let X':Cx:={ X with A:=X.A.mark (J (.ref a)),calm:=T,xe:=λ_ _=>False}
     have ej:X'.Ok:=⟨L.ok.mod,L.ok.kind,L.ok.glob,L.ok.blt,L.ok.above,L.ok.inj,L.ok.has,L.ok.cab,(λz=>nomatch z),L.ok.frames,L.ok.stk,L.ok.exf,L.ok.bs,L.ok.bsz,L.ok.noex,L.ok.exfs,L.ok.funs,L.ok.frf,L.ok.tree,L.ok.top⟩;have el:Inv X' J4 _ _ s8:=⟨ej,L.os,L.bare,L.base,L.loc,L.cell,L.free,L.freeC,L.pin,L.hok,L.len⟩;have a6:Q<Z'.length:=by rw[I'.len];exact(pj.mp (g.x ai)).1
     have dn:=g.dbg n (Bx _ (aD ai));have st:=mK (nk (X:=X') (i:=iy) (pos:=dk) (pos':=dq) a8 (g.x da) (g.loc y (aD da)) (gz (X:=X') (i:=Q) (pos:=Bv) (g.x ai) (.inl c4) dn.1 dn.2.1) e6 (g.fn y (aD f6))) (lH (nk (X:=X') (i:=iz) (pos:=de) (pos':=dr) a8 (g.x fx) (g.loc y2 (aD fx)) (C6 (X:=X') EG (gz (X:=X') (i:=Q) (pos:=AZ) (g.x ai) (.inl c4) dn.1 dn.2.1) f7) et (g.fn y2 (aD hu)))) J4 s8 _ _
      { nx:=λZ9 H9=>Z9=((Z'.set Q (J (.ref a))).set iy (J (.ref a))).set iz (J (.int i))/\H9=upd H' a (.ext (gG a C1 dd)),rt:=λ_ _=>False} el ⟨.ref a,by rw[u_ a6],.ref a,by rw[mA gg,u_ a6],a,dd,i,rfl,aN,by rw[aB g2];exact eh,rfl,rfl⟩
     refine wpAny_mono st (λfl s9 z9=>?_) λ_ _ z=>z.elim
     cases fl with
     |ret u=>obtain⟨_,_,_,_,_,z⟩:=z9;exact z.elim
     |brk=>obtain⟨_,_,_,z⟩:=z9;exact z.elim
     |cont=>obtain⟨_,_,_,z⟩:=z9;exact z.elim
     |next =>
      obtain⟨Z9,H9,O,e9,en⟩:=z9;subst e9;subst en;have ft:Inv X J4 (((Z'.set Q (J (.ref a))).set iy (J (.ref a))).set iz (J (.int i))) (upd H' a (.ext (gG a C1 dd))) s9:=⟨L.ok,O.os,O.bare,O.base,O.loc,O.cell,O.free,O.freeC,O.pin,O.hok,O.len⟩;obtain⟨⟨o9,gi,z1,z2,z3,z4⟩,_,_⟩:=(show ObjOk X.prog X.w _ s9.heap a (.ext (gG a C1 dd))from ft.hok a _ aN);have es:=ft.write (x:=a) (e:=a) (o:=.ext (dz a C1)) (h':=s9.heap) (t':=s9.toks) (by rw[aN];trivial) (.inl rfl) (λb u _ z=>z) ⟨_,z1⟩ ⟨⟨o9,gi,z1,z2,z3⟩,⟨o9,z1⟩,λh1 h2 ⟨o,ws,y1,y2,y3⟩ kk=>⟨o,ws,kk o y1,y2,y3⟩⟩;have eU:upd (upd H' a (.ext (gG a C1 dd))) a (.ext (dz a C1))=upd H' a (.ext (dz a C1)):=by
       funext w;by_cases hw:w=a
       .subst hw;rw[aN,aN]
       .rw[aB hw,aB hw,aB hw]
      rw[eU]at es;have I9:Inv X J4 (((Z'.set Q (J (.ref a))).set iy (J (.ref a))).set iz (J (.int i))) (upd H' a (.ext (dz a C1))) s9:=es;obtain⟨ef,l7⟩:=c5.new ck (o:=.exc ⟨x.cls,[]⟩) (ho:=.ext (dz a C1)) ⟨rfl,C1,c2,rfl⟩;have rv:RP X.K (U'++[a]) (upd H' a (.ext (dz a C1))) (.loc h1.length) (.ref a):=.loc (by rw[<-c5.len];simp);have ei:=RS.le l7 d1;obtain⟨m9,cv,_⟩:=I9.loc;refine wpAny_nameGoes_keeps c4 cv (by rw[I9.ok.kind];rfl) λhh gk cn cw=>?_;have dF:=Inv.unbound I9 a8 (g.x ai) cv (t':=s9.toks+1) cn cw;refine⟨_,_,dF,?_⟩;exact q (U'++[a]) _ _ (l.trans l7) ef (RS.unset (((ei.set Q rv).set iy rv).set iz (.int i)) Q)
   .rw[hI d2]at q;by_cases hx:x.fs=[]/\x.cls∈cs
    .rw[c_ hx]at q;intro a C U' H' Z' s' hD dv fg c2 l c5 d1 I' an ee eu;obtain⟨C',EC,d0,f3⟩:=g1 x.cls hx.2;have eC:C'=C:=by
      have:=EC.bd
      rw[show X.mg x.cls=J (.ref C)from c2]at this;cases this;rfl
     subst eC;obtain⟨B,t,as,c3,ab,ck⟩:=ee;have bm:X.stack=X.env::X.outer:=dc.stk;have as:Heap.FlyingW B (X.env::X.outer) a (.ref C') (.ref t) s'.heap:=by rw[<-bm];exact as
     have cB:X.A.frames=J (X.env::X.outer):=by rw[<-bm];exact I'.ok.frames
     refine wpAny_looks_onW (base:=B) cB dc.fr as λf4 ak a9=>?_;refine wpAny_landsW ak λev P b4=>?_;have c0:=a9.trans b4;have I5:=Inv.flown I' as.1 P.1 c0 an ab c3;have R:=Inv.ofPin I5;refine wpAny_handleBy_cons (codeAny_handlers_test (Calls.Name_function_global R.ok.kind (g.gl c1 (aD db)) (Calls.loadGlobal_global (by rw[R.ok.glob];exact R.mod.glob.keeps R.bk) EI.bd ?_) (g.dbg c1 (tf _ (aD db))).1)) (by intro z;cases z);obtain⟨io,N1,iv,q1,h8,h3,hQ,hO,it,hK,ih,a0,a1,a2,a3,a5,h5,f2,_,_,_,ds⟩:=oS R.kIn EC.ok;obtain⟨h7,N2,il,q2,h6,h0,is,hF,h9,hM,ix,b0,b1,b2,b3,b5,h4,hq,_,_,T2,_⟩:=oS R.kIn ED.ok;obtain⟨ob,df,ch⟩:=P.there;obtain⟨gs,hk,NI,ht,gv,fk,f8,ey,hB,hz,hi,hy,g0,hA,eg,_,_⟩:=EI.lk;obtain⟨hc,g5,d5,t5,fa⟩:=s';have di:=R.kIn _ _ eg;have TI:=PySem.W.tail_of_in R.kIn EI.tl;refine qN f2 di df ch (TI.hasType PySem.F.excBase_ValueError.hasBase) (ds _ _ f3) ?_;show wpAny _ _ (handleBy _ _ _) _ _ _;refine wpAny_handleBy_cons (codeAny_handlers_test (Calls.Name_function_global R.ok.kind (g.gl c (aD hj)) (Calls.loadGlobal_global (by rw[R.ok.glob];exact R.mod.glob.keeps R.bk) ED.bd ?_) (g.dbg c (tf _ (aD hj))).1)) (by intro z;cases z);refine jp f2 hq df ch (T2.hasType PySem.F.excBase_ValueError.hasBase) (ds _ _ d0) ?_;refine codeAny_handlers_suite_as ?_;refine lands_againW P λal S b9=>?_;have I6:=Inv.flown I5 P.1 S.1 b9 an ab c3;have cf:=Inv.ofPin I6;obtain⟨oe,vs,gn,oT,ts,ar,⟨ca,hn⟩,b6,_,_,_,_,_,_⟩:=S.2.2.2;have cm:B.get? a=Y:=S.2.1;have cd:a∉wv X.stack:=λhm=>by
      obtain⟨_,o,eo,dn⟩:=cf.stack.mem hm;rw[show al.get? a=J oe from ar]at eo;cases eo;exact dn vs b6
     have eL:a≠X.env.locals:=λz=>cd (by rw[bm,z];exact IR.mpr ⟨X.env,A6,dc.fr⟩);have e0:X.s₀.heap.get? a=Y:=by
      cases z:X.s₀.heap.get? a with
      |none=>rfl
      |some o =>
       obtain⟨o',e'⟩:=an.old a o z (by rw[dc.ex];simp);obtain⟨dx,eb⟩:=ab a o' e' cd;rw[cm]at eb;cases eb
     have ec:∀z cc,X.env.cells.lookup z=J cc->cc≠a:=λz cc e w=>by
      obtain⟨v,o,eo,ed⟩:=cf.cell z cc e;rw[w,show al.get? a=J oe from ar]at eo;cases eo;rw[b6]at ed;cases ed
     have ep:∀p∈X.pn++J4,p.1≠a:=λp dV w=>by
      obtain⟨o',e'⟩:=an.pin p dV;rw[w]at e';obtain⟨dx,eb⟩:=ab a o' e' cd;rw[cm]at eb;cases eb
     have I7:=Inv.track (φ:=dz a C') cf ck e0 eL ec ep ⟨⟨oe,vs,ar,ca,b6⟩,⟨oe,ar⟩,λh1 h2 ⟨o,ws,z1,z2,z3⟩ kk=>⟨o,ws,kk o z1,z2,z3⟩⟩;obtain⟨ef,l7⟩:=c5.new ck (o:=.exc x) (ho:=.ext (dz a C')) ⟨hx.1,C',c2,rfl⟩;have rv:RP X.K (U'++[a]) (upd H' a (.ext (dz a C'))) (.loc h1.length) (.ref a):=.loc (by rw[<-c5.len];simp);have ei:=RS.le l7 d1;have a8:X.N.Nodup:=by rw[g.hN];exact g.nd
     refine fN I7 a8 (g.x ai) (g.loc n (aD ai)) (v:=.ref a) rfl (λs8 L=>?_) (g.fn n (aD e7));have hC:=ei.set Q rv
     let X':Cx:={ X with A:=X.A.mark (J (.ref a)),calm:=T,xe:=λ_ _=>False}
     have ej:X'.Ok:=⟨L.ok.mod,L.ok.kind,L.ok.glob,L.ok.blt,L.ok.above,L.ok.inj,L.ok.has,L.ok.cab,(λz=>nomatch z),L.ok.frames,L.ok.stk,L.ok.exf,L.ok.bs,L.ok.bsz,L.ok.noex,L.ok.exfs,L.ok.funs,L.ok.frf,L.ok.tree,L.ok.top⟩;have el:Inv X' J4 _ _ s8:=⟨ej,L.os,L.bare,L.base,L.loc,L.cell,L.free,L.freeC,L.pin,L.hok,L.len⟩;have a6:Q<Z'.length:=by rw[I'.len];exact(pj.mp (g.x ai)).1
     have dn:=g.dbg n (Bx _ (aD ai));have st:=lH (nk (X:=X') (i:=iy) (pos:=sp) (pos':=yp) a8 (g.x da) (g.loc y (aD da)) (gz (X:=X') (i:=Q) (pos:=np) (g.x ai) (.inl c4) dn.1 dn.2.1) ha (g.fn y (aD f6))) J4 s8 _ _
      { nx:=λZ9 H9=>Z9=(Z'.set Q (J (.ref a))).set iy (J (.ref a))/\H9=upd H' a (.ext (dz a C')),rt:=λ_ _=>False} el ⟨.ref a,by rw[u_ a6],rfl,rfl⟩
     refine wpAny_mono st (λfl s9 z9=>?_) λ_ _ z=>z.elim
     cases fl with
     |ret u=>obtain⟨_,_,_,_,_,z⟩:=z9;exact z.elim
     |brk=>obtain⟨_,_,_,z⟩:=z9;exact z.elim
     |cont=>obtain⟨_,_,_,z⟩:=z9;exact z.elim
     |next =>
      obtain⟨Z9,H9,O,e9,en⟩:=z9;subst e9;subst en;have I9:Inv X J4 ((Z'.set Q (J (.ref a))).set iy (J (.ref a))) (upd H' a (.ext (dz a C'))) s9:=⟨L.ok,O.os,O.bare,O.base,O.loc,O.cell,O.free,O.freeC,O.pin,O.hok,O.len⟩;obtain⟨m9,cv,_⟩:=I9.loc;refine wpAny_nameGoes_keeps c4 cv (by rw[I9.ok.kind];rfl) λhh gk cn cw=>?_;have dF:=Inv.unbound I9 a8 (g.x ai) cv (t':=s9.toks+1) cn cw;refine⟨_,_,dF,?_⟩;exact q (U'++[a]) _ _ (l.trans l7) ef (RS.unset (hC.set iy rv) Q)
    .rw[hI hx]at q;exact q.elim
 .cases f with
  |next =>
   obtain⟨Z',H',I',z⟩:=z;exact wpAny_execs_nil ⟨Z',H',Inv.ofPin I',z⟩
  |brk=>obtain⟨Z',H',I',z⟩:=z;exact⟨Z',H',Inv.ofPin I',z⟩
  |cont=>obtain⟨Z',H',I',z⟩:=z;exact⟨Z',H',Inv.ofPin I',z⟩
  |ret u=>obtain⟨v,Z',H',I',r,z⟩:=z;exact⟨v,Z',H',Inv.ofPin I',r,z⟩
end
end MM
namespace PU
open MM
def SR.uns(u:SR q h L O l Z env)(B:inn∉l):SR q h L O l (Z.set inn Y) (env.set inn Y)/\∀j∈l,(Z.set inn Y)[j]?=Z[j]?/\(env.set inn Y)[j]?=env[j]?:=by
 have ne:∀j∈l,inn≠j:=λj a z=>B (z▸a);refine⟨⟨by simp[u.len],λj y i a=>?_,λj y i a=>?_⟩,λj a=>⟨mA (ne j a),mA (ne j a)⟩⟩
 .by_cases z:inn=j
  .subst z;have hl:inn<env.length:=by have:=(pj.mp i).1;simpa using this
   rw[u_ hl]at i;cases i
  .rw[mA z]at i;rw[mA z];exact u.fz j y i a
 .rw[mA (ne j a)]at i;rw[mA (ne j a)];exact u.ow j y i a
section
variable{ws:RQ}
def lM(x y l fld:Str)(a:Xs ws):Xd ws where
 m:=uo x y l fld a.m
 p:=λenv s=>(a.p env s).go env λj env s=>match j with
  |[.int i]=>if fP y l i then .rse ⟨x,[(fld,.int i)]⟩ env s else .bad
  |_=>.bad
 fr:=I
 ok {q h L B O Z env s} c d:=by
  refine SOk.ex (f:=λ(C:RL) Z h=>match C with
   |[.int i]=>if fP y l i then .rse ⟨x,[(fld,.int i)]⟩ Z h else .bad
   |_=>.bad) (g:=λ(j:RR) env s=>match j with
   |[.int i]=>if fP y l i then .rse ⟨x,[(fld,.int i)]⟩ env s else .bad
   |_=>.bad) c d (a.ok c) λj C M P kb G ⟨w,_⟩=>?_
  match j,w with
  |[.int i],w =>
   obtain⟨v,r,e,u,E⟩:=w;have H:r=[]:=E;subst H;have F:v=.int i:=by
    rcases u with u|u
    .exact u
    .obtain⟨n,k,xs,j,e,_⟩:=u;cases k<;>cases e
   subst e;rw[F];dsimp only;by_cases z:fP y l i
   .rw[c_ z,c_ z];exact⟨Z,M,rfl,O,Stp.refl _ _ _ _,G,d⟩
   .rw[hI z,hI z];trivial
  |[],w=>trivial
  |.int i::_::_,w=>trivial
  |.non::_,w=>trivial
  |.bl _::_,w=>trivial
  |.str _::_,w=>trivial
  |.tup _::_,w=>trivial
  |.lst _::_,w=>trivial
  |.dic _ _ _::_,w=>trivial
  |.exc _::_,w=>trivial
  |.pen::_,w=>trivial
def qX(U fld:Str)(S:RM)(F H a:Nat)(b:Xd ws)(G:ws.contains F=T:=by exact ys rfl)(h2:ws.contains H=T:=by exact ys rfl)(h3:ws.contains a=T:=by exact ys rfl):Xd ws where
 m:=lL U fld S F H a b.m
 p:=λenv s=>match b.p env s with
  |.exc x e s=>if x.cls=U then (match iT x fld with
    |some i=>.nx ((((e.set a (J (.exc x.cls))).set F (J (.exc x.cls))).set H (J (.int i))).set a Y) s
    |none=>.bad)
   else if x.fs=[]/\x.cls∈S then .nx (((e.set a (J (.exc x.cls))).set F (J (.exc x.cls))).set a Y) s else .bad
  |.rse _ _ _=>.bad
  |r=>r
 fr:=b.fr
 ok {q h L B O Z env s} c d:=by
  have k:=b.ok c d
  show SOk q L h B O ws _ (match b.m Z h with
   |.exc x Z1 G=>if x.cls=U then (match iT x fld with
     |some i=>.nx ((((Z1.set a (J (.loc G.length))).set F (J (.loc G.length))).set H (J (.int i))).set a Y) (G++[.exc ⟨x.cls,[]⟩])
     |none=>.bad)
    else if x.fs=[]/\x.cls∈S then .nx (((Z1.set a (J (.loc G.length))).set F (J (.loc G.length))).set a Y) (G++[.exc x])else .bad
   |.rse _ _ _=>.bad
   |o=>o) (match b.p env s with
   |.exc x e s=>if x.cls=U then (match iT x fld with
     |some i=>PS.nx ((((e.set a (J (.exc x.cls))).set F (J (.exc x.cls))).set H (J (.int i))).set a Y) s
     |none=>.bad)
    else if x.fs=[]/\x.cls∈S then .nx (((e.set a (J (.exc x.cls))).set F (J (.exc x.cls))).set a Y) s else .bad
   |.rse _ _ _=>.bad
   |r=>r)
  cases e:b.p env s with
  |nx u P=>rw[e]at k;obtain⟨M,E,e1,r⟩:=k;rw[e1];exact⟨M,E,rfl,r⟩
  |rt x P=>rw[e]at k;obtain⟨v,E,e1,r1,r2,r3,r4,r5⟩:=k;rw[e1];exact⟨v,E,rfl,r1,r2,r3,r4,r5⟩
  |bk u P=>rw[e]at k;obtain⟨M,E,e1,r⟩:=k;rw[e1];exact⟨M,E,rfl,r⟩
  |ct u P=>rw[e]at k;obtain⟨M,E,e1,r⟩:=k;rw[e1];exact⟨M,E,rfl,r⟩
  |rse x u P=>trivial
  |bad=>trivial
  |exc x u P =>
   rw[e]at k;obtain⟨M,E,e1,O',st,R,d'⟩:=k;rw[e1];dsimp only;have n1:a∉ws:=λz=>by simp[z]at h3
   have n2:F∉ws:=λz=>by simp[z]at G
   have n3:H∉ws:=λz=>by simp[z]at h2
   have kb:=KB.app q E [MO.exc ⟨x.cls,[]⟩];have C:=R.kb kb R.pen.app;have r:Rp q (E++[MO.exc ⟨x.cls,[]⟩]) O' (.exc x.cls) (.loc E.length):=⟨_,rfl,λz=>by have:=R.bd _ z;lia,by simp⟩;obtain⟨a1,W⟩:=C.sr.set n1 r;obtain⟨a2,X⟩:=a1.set n2 r;by_cases z:x.cls=U
   .rw[c_ z,c_ z]
    cases ef:iT x fld with
    |none=>trivial
    |some i =>
     obtain⟨a3,b3⟩:=a2.set (i:=H) (d:=.int i) (v:=.int i) n3 rfl;obtain⟨a4,Q⟩:=a3.uns n1;exact⟨_,_,rfl,O',st.trans (kb.stp R),⟨C.bd,C.sub,C.bb,C.pb,C.hL,C.pen,a4⟩,d'.keep λj l=>⟨(Q j l).1.trans ((b3 j l).1.trans ((X j l).1.trans (W j l).1)),(Q j l).2.trans ((b3 j l).2.trans ((X j l).2.trans (W j l).2))⟩⟩
   .rw[hI z,hI z];by_cases y:x.fs=[]/\x.cls∈S
    .rw[c_ y,c_ y];have ex:x=⟨x.cls,[]⟩:=by obtain⟨xc,xf⟩:=x;obtain rfl:xf=[]:=y.1;rfl
     obtain⟨a4,Q⟩:=a2.uns n1;exact⟨_,_,congrArg (λt=>SOut.nx _ (E++[MO.exc t])) ex,O',st.trans (kb.stp R),⟨C.bd,C.sub,C.bb,C.pb,C.hL,C.pen,a4⟩,d'.keep λj l=>⟨(Q j l).1.trans ((X j l).1.trans (W j l).1),(Q j l).2.trans ((X j l).2.trans (W j l).2)⟩⟩
    .rw[hI y,hI y];trivial
end
mutual
def bN:D->Bool
 |.pen=>T
 |.tup a=>bK a
 |.lst a=>bK a
 |.dic _ _ a=>bK a
 |_=>I
def bK:RR->Bool
 |[]=>I
 |d::a=>bN d&&bK a
end
section
variable{p p':Nat}{h:MH}{O O':RQ}
mutual
def Rp.np(s:∀o∈O',o∈O):∀{d:D}{v:PV},bN d=I->Rp p h O d v->Rp p' h O' d v
 |.non,_,_,r=>r
 |.bl _,_,_,r=>r
 |.int _,_,_,r=>r
 |.str _,_,_,r=>r
 |.tup i,_,f,⟨xs,e,r⟩=>⟨xs,e,Rps.np s (by simpa [bN]using f) r⟩
 |.lst i,_,f,⟨n,xs,e,a,g,r⟩=>⟨n,xs,e,λz=>a (s n z),g,Rps.np s (by simpa [bN]using f) r⟩
 |.dic _ _ i,_,f,⟨n,xs,e,a,g,r⟩=>⟨n,xs,e,λz=>a (s n z),g,Rps.np s (by simpa [bN]using f) r⟩
 |.exc _,_,_,⟨n,e,a,g⟩=>⟨n,e,λz=>a (s n z),g⟩
 |.pen,_,f,_=>by simp[bN]at f
def Rps.np(s:∀o∈O',o∈O):∀{i:RR}{j:RL},bK i=I->Rps p h O i j->Rps p' h O' i j
 |[],_,_,r=>r
 |_::_,_,f,⟨x,t,e,a,b⟩=>⟨x,t,e,Rp.np s (by simp[bK]at f;exact f.1) a,Rps.np s (by simp[bK]at f;exact f.2) b⟩
end
end
def j8(f:Fn)(s a:d_)(i:RR):PR D:=if bK i=I then (match f.p (.pen::i) s with
 |.ok d _=>if bN d=I then .ok d a else .bad
 |.exc c _=>.exc c a
 |.bad=>.bad)else .bad
section
variable{ws:RQ}
def M8(i:Nat):Mx PV:=bX (ae (ao aM (af i) (mC (.int 0))) (ae (ao aM (af i) (mC (.int 1))) (ae (ao aM (af i) (mC (.int 2))) b_)))
def Hg{i q:Nat}{Z:lR}{h:MH}{s:d_}(e:Z[i]?=J (J (.loc q)))(pn:bh h q s):M8 i Z h=.ok (.loc h.length) (h++[.lst [.int s.1,.int s.2.1,.int s.2.2]]):=by have a:h[q]?=J (.lst [.int s.1,.int s.2.1,.int s.2.2]):=pn;unfold M8;simp[dN a,e,af,cW]
def nJ(f:Fn)(i:Nat)(a:Xs ws)(hz:a.fz=I:=by exact ys rfl):Xe ws where
 m:=bo f.m (ae (M8 i) a.m)
 p:=λenv s=>match env[i]? with
  |some (J .pen)=>(a.p env s).bind λl y=>j8 f s y l
  |_=>.bad
 fz:=I
 fr:=f.fr
 ok {q h L B O Z env s} c:=by
  match ee:env[i]? with
  |some (J .pen) =>
   have ei:Z[i]?=J (J (.loc q)):=by
    by_cases hw:i∈ws
    .obtain⟨n,k,xs,l,e1,_⟩:=c.sr.ow i _ ee hw;cases k<;>cases e1
    .obtain⟨v,e1,r⟩:=c.sr.fz i _ ee hw;rw[show v=.loc q from r]at e1;exact e1
   have e0:=Hg ei c.pen;have hq:q<h.length:=aG c.pen;have G:=KB.app q h [MO.lst [.int s.1,.int s.2.1,.int s.2.2]];generalize eh:h++[MO.lst [.int s.1,.int s.2.1,.int s.2.2]]=H at e0 G;have X:H.length=h.length+1:=by rw[<-eh];simp
   have g1:H[h.length]?=J (MO.lst [.int s.1,.int s.2.1,.int s.2.2]):=by rw[<-eh];simp
   have m0:Mv O h (h.length::O) H:=⟨λn P no=>G.keep n P λz=>no (z▸c.pO),λo j=>by
    rcases n8.mp j with z|z
    .exact .inr (Nat.le_of_eq z.symm)
    .exact .inl z⟩
   have c1:Cx q H L B (h.length::O) ws Z env s:=⟨λo j=>by
     rcases n8.mp j with z|z
     .rw[z,X];exact Mc _
     .exact r_ (c.bd o z) G.len,λo j=>n4 _ (c.sub o j),c.bb,c.pb,pu c.hL G.len,by
     have:=c.pen
     rw[<-eh]
     exact(qp hq).trans this,c.sr.mv m0 (λo j=>n4 _ j) λn P hl _=>G.keep n P (by have:=c.pL;ext)⟩
   have A:=a.ok c1;show Ok q h (((M8 i Z h).bind λx H=>(a.m Z H).bind λxs u=>.ok (x::xs) u).bind f.m) ((a.p env s).bind λl y=>j8 f s y l) _;rw[e0];show Ok q h (((a.m Z H).bind λxs u=>.ok (.loc h.length::xs) u).bind f.m) ((a.p env s).bind λl y=>j8 f s y l) _
   cases ea:a.p env s with
   |bad=>trivial
   |exc x y =>
    rw[ea]at A;obtain⟨h',e1,k,n⟩:=A;rw[e1];exact⟨h',rfl,G.trans k,n⟩
   |ok l y =>
    rw[ea]at A;obtain⟨vs,u,e1,Q,n1,_,z⟩:=A;rw[e1,Pb];show Ok q h (f.m (.loc h.length::vs) u) (j8 f s y l) _;unfold j8;by_cases U:bK l=I
    .rw[c_ U];have nq:h.length≠q:=by ext
     have g2:bh u h.length s:=(Q.keep h.length (by ext) nq).trans g1;have S:h.length<u.length:=aG g2;have r2:Rps h.length u (h.length::O) (.pen::l) (.loc h.length::vs):=⟨_,_,rfl,rfl,Rps.np (λ_ h=>h) U (z hz)⟩;have F:=f.ok (λo j=>r_ (c1.bd o j) Q.len) A6 g2 r2;have R:∀{E:MH},KB h.length u E->KB q h E/\bh E q y:=λC=>⟨⟨pu G.len (pu Q.len C.len),λn P M=>(C.keep n (by ext) (by ext)).trans ((Q.keep n (by ext) M).trans (G.keep n P M))⟩,(C.keep q (by ext) (by ext)).trans n1⟩
     cases ef:f.p (.pen::l) s with
     |bad=>trivial
     |exc x s2 =>
      rw[ef]at F;obtain⟨E,e3,C,n3⟩:=F;exact⟨E,e3,(R C).1,(R C).2⟩
     |ok d s2 =>
      rw[ef]at F;obtain⟨v,E,e3,C,n3,r3,W⟩:=F;dsimp only;by_cases nd:bN d=I
      .rw[c_ nd];have r4:Rp q E O d v:=r3.np (λo j=>n4 _ j) nd;refine⟨v,E,e3,(R C).1,(R C).2,.inl r4,λ_=>r4,λhf k ab ed=>?_⟩;obtain⟨n,xs,y1,y2,y3,y4⟩:=W hf k ab ed;refine⟨n,xs,y1,pu (E0 S) y2,y3,y4.np (λo j=>?_) ?_⟩
       .rcases n8.mp j with z|z
        .exact z▸A6
        .exact n4 _ (n4 _ z)
       .subst ed;cases k<;>simpa [dl,bN]using nd
      .rw[hI nd];trivial
    .rw[hI U];trivial
  |none=>trivial
  |some Y=>trivial
  |some (J .non)=>trivial
  |some (J (.bl _))=>trivial
  |some (J (.int _))=>trivial
  |some (J (.str _))=>trivial
  |some (J (.tup _))=>trivial
  |some (J (.lst _))=>trivial
  |some (J (.dic _ _ _))=>trivial
  |some (J (.exc _))=>trivial
end
end PU
namespace MM
open PySem.Spec PyProof.Rows L2
open PU (Xe Xs Xt Xi Xg Xd Fn x_ ag ac xC aa a_ lb lM qX nJ)
structure PK(P:Program)(w:World)(K:g_)(mg:RD)(base:Heap)(x c1 c2 fld:Str):Prop where
 ex:∃(C F fI:Addr) (sf pl:Str) (fd:FuncData) (oI:Obj),AA K mg x C F fI fld/\FnOk P w K mg base Io 1 fI fd [sf,pl] (M7 C c1 c2 fld)/\jS K fd [sf,pl] []/\K.lookup fI=J oI/\oI.cls=.type "function"
structure PL(K:g_)(mg:RD)(c1 fld c:Str)(cs:RM):Prop where
 ex:∃(D C1 F fI:Addr),Cb K mg c D/\AA K mg c1 C1 F fI fld/\Hf K C1 fld/\∀x∈cs,∃C,Cb K mg x C/\PySem.W.mroIn K C (.ref D)=J I/\PySem.W.mroIn K C (.ref C1)=J T
inductive Hh(K:g_)(mg:RD)(x:Str)(cs sup:RM):Prop
 |e(h:∃D,mg x=J (.ref D)/\zY K mg (.ref D) cs sup)
 |b(T:String)(z:Zn K x)(hv:bootBuiltins x=J (.type T))(h:zY K mg (.type T) cs sup)
structure Au(K:g_)(mg:RD)(x:Str)(cs sup:RM):Prop where
 h:∃D,mg x=J (.ref D)/\zY K mg (.ref D) cs sup
structure PM(K:g_)(mg:RD)(x:Str):Prop where
 h:∃C,Cb K mg x C
structure M9(X:Cx)(cs:RM)(es:RZ)(sups:RM):Prop where
 h:Ki X cs es sups
section
variable{X:Cx}{P:Program}{w:World}{K:g_}{mg:RD}{base:Heap}{N W:RM}{k:Nat}{sc:Scope}{ws:RQ}{x y z n c1 c2 fld:Str}{p q cp yp np sp hp pos cpos pt cp1 yp1 Bv sp1 hp1 yp2 AZ ap sp2:Pos}{e a:Expr}{es:RZ}{sa:Xs ws}{xa:Xe ws}{i j l kt:Nat}{body:RF}{da:Xd ws}{cs sup sups:RM}
def C9(c:Wc X P w K mg base N W k sc)(R:PM K mg x)(C:Ae X [e] sa.m)(B:gm sc x)(hp:bB e=I):yG X (.Raise (J (.Call (.Name x p) [e] [] cpos)) Y pos) (lb x sa).m:=by obtain⟨j,u⟩:=c.gj B;have R:=R.h;rw[<-c.e.e3,<-c.e.e4]at R;exact⟨xS c.g u R C.h (aW hp) rfl⟩
def zx(c:Wc X P w K mg base N W (k+2) sc)(d:h_ X)(R:PK P w K mg base x c1 c2 fld)(M:Ae X [e] sa.m)(H:gm sc x)(hp:bB e=I):yG X (.Raise (J (.Call (.Name x p) [e] [] cpos)) Y pos) (lM x c1 c2 fld sa).m:=by obtain⟨C,F,S,O,U,fd,Q,E,L,B,l,f⟩:=R.ex;obtain⟨j,G⟩:=c.gj H;have e3:=c.e.e3;have e4:=c.e.e4;have u:=L.mono (show 1<=k+1 by ext);rw[<-c.e.e1,<-c.e.e2,<-e3,<-e4,<-c.e.e5]at u;rw[<-e3,<-e4]at E;rw[<-e3]at B l;exact⟨xP c.g G E u B l f d M.h (aW hp)⟩
def Hi{h1 h2 h3}(c:Wc X P w K mg base N W k sc)(d:h_ X)(ak:PL K mg c1 fld x cs)(hx:gm sc x)(U:gm sc c1)(R:N[i]?=J y)(Z:W[i]?=J y)(L:N[j]?=J z)(H:W[j]?=J z)(ai:N[l]?=J n)(O:W[l]?=J n)(Q:(i==l)=T)(C:(j==l)=T)(S:sc.names.lookup n=J .local)(hb:∀u:Cx,Wc u P w K mg base N W k sc->h_ u->nc u body da.m)(M:swapsWith (.Name n np) (J (.Name y yp)) sp.line X.env=pure T)(G:swapsWith (.Name n Bv) (J (.Name y yp1)) sp1.line X.env=pure T)(E:swapsWith (.Attribute (.Name n AZ) fld ap) (J (.Name z yp2)) sp2.line X.env=pure T):
  yG X (.Try body [.ExceptHandler (J (.Name c1 cp1)) (J n) [.Assign [.Name y yp1] (.Name n Bv) sp1,.Assign [.Name z yp2] (.Attribute (.Name n AZ) fld ap) sp2] hp1,.ExceptHandler (J (.Name x cp)) (J n) [.Assign [.Name y yp] (.Name n np) sp] hp] [] [] pos) (qX c1 fld cs i j l da h1 h2 h3).m:=by
 obtain⟨D,C1,F,fI,ED,EI,EG,B⟩:=ak.ex;obtain⟨j0,hj⟩:=c.gj hx;obtain⟨j1,ab⟩:=c.gj U;have s:=c.s;rw[<-c.e.e3,<-c.e.e4]at ED EI B;rw[<-c.e.e3]at EG;exact⟨C7 c.g d hj ab ED EI EG B i j l R Z L H (by simpa using Q) (by simpa using C) ai O (by rw[s];exact S) (λu y1 y2 y3 y4 y5 y6 g dc=>(hb u ⟨g,⟨y1.trans c.e.e1,y2.trans c.e.e2,y3.trans c.e.e3,y4.trans c.e.e4,y5.trans c.e.e5,c.e.b⟩,(congrArg Env.scope y6).trans c.s⟩ dc).h) M G E⟩
def LA(c:Wc X P w K mg base N W k sc)(u:Hh K mg x cs sup)(B:js X a xa.m)(z1:Zn K "isinstance")(E:gm sc "isinstance")(C:gm sc x)(hp:bB a=I):js X (.Call (.Name "isinstance" p) [a,.Name x q] [] pos) (x_ (PU.lz cs sup) xa).m:=by
 obtain⟨_,i⟩:=c.gj E;obtain⟨_,j⟩:=c.gj C
 cases u with
 |e h=>rw[<-c.e.e3,<-c.e.e4]at h;exact⟨Cg c.g i (c.n z1) j h B.h (aW hp)⟩
 |b F z hv h=>rw[<-c.e.e3,<-c.e.e4]at h;exact⟨Cf c.g i (c.n z1) j (c.n z) hv h B.h (aW hp)⟩
def Hj{F:Fn}{E:RM}{hz}{u e1 e2:Expr}(c:Wc X P w K mg base N W k sc)(hl:Ae X [u,e1,e2] (aa (ag PU.k_ (ac i) (xC (.int 0))) (aa (ag PU.k_ (ac i) (xC (.int 1))) (aa (ag PU.k_ (ac i) (xC (.int 2))) (a_ (ws:=ws))))).m)(G:Ae X es sa.m)(f:FnAt P w K mg base x E F.m j)(h:j<=k)(C:gm sc x)(hp:es.all bB=I):js X (.Call (.Name x p) (.List [u,e1,e2] q::es) [] pos) (nJ F i sa hz).m :=
 let⟨_,B⟩:=c.gj C
 ⟨oO c.g B (f.c c.e h) (aR (IA hl) G rfl).h (aW rfl) (fG hp)⟩
def LB:M9 X cs [] []:=⟨Cq⟩
def EA(c:Wc X P w K mg base N W k sc)(u:Au K mg x cs sup)(t:M9 X cs es sups)(B:gm sc x):M9 X cs (.Name x q::es) (sup++sups):=by obtain⟨_,j⟩:=c.gj B;have h:=u.h;rw[<-c.e.e3,<-c.e.e4]at h;exact⟨zv c.g j h t.h⟩
def Hk(c:Wc X P w K mg base N W k sc)(u:Au K mg x cs sup)(t:M9 X cs es sups)(hl:(.Name x q::es:RZ).length<=100)(E:js X a xa.m)(z1:Zn K "isinstance")(C:gm sc "isinstance")(B:gm sc x)(hp:bB a=I):js X (.Call (.Name "isinstance" p) [a,.Tuple (.Name x q::es) kt pt] [] pos) (x_ (PU.lz cs (sup++sups)) xa).m:=by obtain⟨_,i⟩:=c.gj C;have h:=u.h;rw[<-c.e.e3,<-c.e.e4]at h;exact⟨zc c.g i (c.n z1) (EA c u t B).h h hl E.h (aW hp)⟩
end
end MM
namespace PU
open MM
open L2 (vr nr)
structure YI(gi q:Nat)(h0 h:MH)(O:RQ)(a:Nat)(ms:RQ)(rd:List Rd)(Za:List (Nat×RL))(Z:lR)(env:aq)(s:d_):Prop where
 len:h0.length<=h.length
 mv:∀n:Nat,n<h0.length->n≠q->h[n]?=h0[n]?
 pen:bh h q s
 gr:Gr h h0.length a ms rd
 ge:Z[gi]?=J (J (.loc a))
 gd:env[gi]?=J (J (cz rd))
 sl:Z.length=env.length
 rp:∀i d,i≠gi->env[i]?=J (J d)->∃v,Z[i]?=J (J v)/\Rp q h0 O d v
 kz:∀z∈Za,h[z.1]?=J (.lst z.2)/\z.1∉a::ms/\z.1≠q
section
variable{gi q:Nat}{h0 h h':MH}{O:RQ}{a:Nat}{ms:RQ}{rd rd':List Rd}{Za:List (Nat × RL)}{Z:lR}{env env':aq}{s s':d_}
def YI.cx(j:YI gi q h0 h O a ms rd Za Z env s)(bd:Bd h0 O)(B:q∈O):Cx q h h.length O O [] Z env s:=by
 have l:=j.len;have m:Mv O h0 O h:=⟨λn C y=>j.mv n C λz=>y (z▸B),λo u=>.inl u⟩;refine⟨λo u=>r_ (bd o u) l,λo u=>u,λo u=>r_ (bd o u) l,B,mm _,j.pen,j.sl,λi d e _=>?_,λi d e E=>by cases E⟩;by_cases z:i=gi
 .subst z;rw[j.gd]at e;cases e;exact⟨_,j.ge,j.gr.rp λm hm y=>by have:=j.gr.ge m hm;have:=bd m y;ext⟩
 .obtain⟨v,e1,r⟩:=j.rp i d z e;exact⟨v,e1,r.mv m⟩
def YI.ci(j:YI gi q h0 h O a ms rd Za Z env s)(bd:Bd h0 O)(y:q∈O):Cx q h h0.length O (a::ms++O) [] Z (env.set gi Y) s:=by
 have l:=j.len
 have m:Mv O h0 (a::ms++O) h:=⟨λn B E=>j.mv n B λz=>E (z▸y),λo u=>by
  rcases AS.mp u with z|z
  .exact .inr (j.gr.ge o z)
  .exact .inl z⟩
 refine⟨λo u=>?_,λo u=>tf _ u,bd,y,l,j.pen,by simp[j.sl],λi d e _=>?_,λi d e C=>by cases C⟩
 .rcases AS.mp u with z|z
  .exact j.gr.lt o z
  .exact r_ (bd o z) l
 .by_cases z:gi=i
  .subst z;rw[List.getElem?_set]at e
   split at e
   .split at e<;>cases e
   .ext
  .rw[mA z]at e;obtain⟨v,e1,r⟩:=j.rp i d (Ne.symm z) e;exact⟨v,e1,r.mv m⟩
def YI.kb(i:YI gi q h0 h O a ms rd Za Z env s)(F:q<h0.length)(k:KB q h h')(pn:bh h' q s'):YI gi q h0 h' O a ms rd Za Z env s':=by have l:=i.len;have E:∀m∈a::ms,h'[m]?=h[m]?:=λm hm=>k.keep m (i.gr.lt m hm) (by have:=i.gr.ge m hm;ext);exact⟨pu l k.len,λn y j=>(k.keep n (by ext) j).trans (i.mv n y j),pn,i.gr.keep E,i.ge,i.gd,i.sl,i.rp,λz B=>let⟨z1,C,u⟩:=i.kz z B;⟨(k.keep _ (aG z1) u).trans z1,C,u⟩⟩
def YI.set(l:YI gi q h0 h O a ms rd Za Z env s){i:Nat}{d:D}{v:PV}(u:i≠gi)(f:flat d=I)(r:Rp 0 [] [] d v):YI gi q h0 h O a ms rd Za (Z.set i (J v)) (env.set i (J d)) s:=by
 refine⟨l.len,l.mv,l.pen,l.gr,by rw[mA u];exact l.ge,by rw[mA u];exact l.gd,by simp[l.sl],λj x y e=>?_,l.kz⟩;by_cases z:i=j
 .subst z;have hl:i<env.length:=by have:=(pj.mp e).1;simpa using this
  rw[u_ hl]at e;cases e;exact⟨v,u_ (by rw[l.sl];exact hl),Rp.fq f r⟩
 .rw[mA z]at e ⊢;exact l.rp j x y e
end
def YI.zs{y q:Nat}{u h:MH}{O:RQ}{a:Nat}{l:RQ}{rd:List Rd}{B j:List (Nat×RL)}{Z:lR}{env:aq}{s:d_}(i:YI y q u h O a l rd B Z env s)(k:∀z∈j,h[z.1]?=J (.lst z.2)/\z.1∉a::l/\z.1≠q):YI y q u h O a l rd j Z env s :=
 ⟨i.len,i.mv,i.pen,i.gr,i.ge,i.gd,i.sl,i.rp,k⟩
structure Yd(gi:Nat) where
 m:n0
 p:aq->List Rd->d_->Option (aq×List Rd×d_)
 ok:∀{q h0 h O a ms rd Za Z env s env' rd' s'},Bd h0 O->q∈O->YI gi q h0 h O a ms rd Za Z env s->p env rd s=J (env',rd',s')->∃Z' h',m Z h=.nx Z' h'/\YI gi q h0 h' O a ms rd' Za Z' env' s'
structure Yt(gi:Nat) where
 m:Mg
 p:D->aq->Option aq
 ok:∀{q h0 h O a ms rd Za Z env s d v env'},YI gi q h0 h O a ms rd Za Z env s->flat d=I->Rp 0 [] [] d v->p d env=J env'->∃Z',m v Z h=.nx Z' h/\YI gi q h0 h O a ms rd Za Z' env' s
structure M_(gi:Nat) where
 m:Bz
 p:RR->aq->Option aq
 ok:∀{q h0 h O a ms rd Za Z env s ds vs env'},YI gi q h0 h O a ms rd Za Z env s->e_ ds=I->Rps 0 [] [] ds vs->p ds env=J env'->∃Z',m vs Z h=.nx Z' h/\YI gi q h0 h O a ms rd Za Z' env' s
noncomputable section
variable{gi:Nat}
def LC:Yd gi where
 m:=kq
 p:=λenv rd s=>J (env,rd,s)
 ok {q h0 h O a ms rd Za Z env s env' rd' s'} _ _ b e:=by cases e;exact⟨Z,h,rfl,b⟩
def Na(t:Xt [])(x y:Yd gi):Yd gi where
 m:=zJ t.m x.m y.m
 p:=λenv rd s=>match t.p env s with
  |.ok b i=>if b=I then x.p env rd i else y.p env rd i
  |_=>Y
 ok {q h0 h O a ms rd Za Z env s env' rd' s'} bd hq c e:=by
  have k:=t.ok (c.cx bd hq)
  split at e
  .rename_i b i B
   rw[B]at k;obtain⟨_,C,e1,kb,pn,rfl⟩:=k;have z:=c.kb (bd q hq) kb pn
   cases b with
   |true =>
    obtain⟨u,l,e2,j⟩:=x.ok bd hq z e;exact⟨u,l,by rw[eB,e1];exact e2,j⟩
   |false =>
    obtain⟨u,l,e2,j⟩:=y.ok bd hq z e;exact⟨u,l,by rw[eB,e1];exact e2,j⟩
  .cases e
def PN(x y:Yd gi):Yd gi where
 m:=bi x.m y.m
 p:=λenv rd s=>match x.p env rd s with
  |some (i,j,l)=>y.p i j l
  |none=>Y
 ok {q h0 h O a ms rd Za Z env s env' rd' s'} bd hq b e:=by
  split at e
  .rename_i i j l ex
   obtain⟨E,F,e1,z⟩:=x.ok bd hq b ex;obtain⟨B,C,e2,u⟩:=y.ok bd hq z e;exact⟨B,C,by rw[aU,e1,MM.aw];exact e2,u⟩
  .cases e
def Av(i:Nat)(j:(i==gi)=T:=by exact ys rfl):Yt gi where
 m:=m_ i
 p:=λd env=>J (env.set i (J d))
 ok {q h0 h O a ms rd Za Z env s d v env'} b f r e:=by cases e;exact⟨_,rfl,b.set (by simpa using j) f r⟩
def IF:M_ gi where
 m:=An
 p:=λi env=>match i with
  |[]=>J env
  |_=>Y
 ok {q h0 h O a ms rd Za Z env s i vs env'} b f r e:=by
  cases i with
  |nil=>cases e;rw[show vs=[]from r];exact⟨Z,rfl,b⟩
  |cons _ _=>cases e
def AG(x:Yt gi)(t:M_ gi):M_ gi where
 m:=sk x.m t.m
 p:=λj env=>match j with
  |d::j=>(x.p d env).bind λi=>t.p j i
  |[]=>Y
 ok {q h0 h O a ms rd Za Z env s j vs env'} b f r e:=by
  cases j with
  |nil=>cases e
  |cons d j =>
   obtain⟨E,G,rfl,B,y⟩:=r;simp only[e_,AC]at f;dsimp only at e
   cases e1:x.p d env with
   |none=>rw[e1]at e;cases e
   |some i =>
    rw[e1]at e;obtain⟨H,l,z⟩:=x.ok b f.1 B e1;obtain⟨C,F,u⟩:=t.ok z f.2 y e;exact⟨C,by show(x.m E Z h).then (t.m G)=_;rw[l];exact F,u⟩
def IG(t:M_ gi)(n:Nat):Yt gi where
 m:=Ao t.m n
 p:=λd env=>match d with
  |.tup i=>if i.length=n then t.p i env else Y
  |_=>Y
 ok {q h0 h O a ms rd Za Z env s d v env'} c f r e:=by
  cases d with
  |tup i =>
   obtain⟨xs,rfl,w⟩:=r;dsimp only at e;by_cases z:i.length=n
   .rw[c_ z]at e;obtain⟨j,a,b⟩:=t.ok c (by simpa [flat]using f) w e;exact⟨j,by show(if xs.length=n then t.m xs Z h else .bad)=_;rw[c_ (by rw[w.length];exact z)];exact a,b⟩
   .rw[hI z]at e;cases e
  |_=>cases e
def qR(x:Xe [])(gi i j:Nat):aq->List Rd->d_->Option (aq×List Rd×d_):=λenv rd s=>match x.p env s,env[i]?,env[j]? with
 |.ok d l,J (J (.int i)),J (J (.int j))=>(match vr rd.length i with
  |some u=>(match rd[u]? with
   |some (Y,a)=>(match vr a.length j with
    |some w=>if flat d=I then J (env.set gi (J (cz (rd.set u (Y,a.set w d)))),rd.set u (Y,a.set w d),l)else Y
    |none=>Y)
   |_=>Y)
  |none=>Y)
 |_,_,_=>Y
def xI:∀{a:RR}{d:D}{i:Nat},e_ a=I->flat d=I->e_ (a.set i d)=I
 |[],_,_,f,_=>f
 |x::a,d,0,f,g=>by
  simp only[e_,AC,tr]at f ⊢;exact⟨g,f.2⟩
 |x::a,d,i+1,f,g=>by
  simp only[e_,AC,va]at f ⊢;exact⟨f.1,xI f.2 g⟩
def C_(x:Xe [])(i j:Nat)(hi:(i==gi)=T:=by exact ys rfl)(hj:(j==gi)=T:=by exact ys rfl)(P:x.fz=I:=by exact ys rfl):Yd gi where
 m:=ja x.m (BA (ao aM (af gi) (af i)) (af j))
 p:=qR x gi i j
 ok {q h0 h O a ms rd Za Z env s env' rd' s'} bd hq b ep:=by
  unfold qR at ep
  split at ep
  .rename_i d s1 G L ed W ej
   split at ep
   .rename_i u eu
    split at ep
    .rename_i R er
     split at ep
     .rename_i w ew
      split at ep
      .rename_i fd
       cases ep;have k:=x.ok (b.cx bd hq);rw[ed]at k;obtain⟨v,B,em,kb,pn,_,rz,_⟩:=k;have l:=b.kb (bd q hq) kb pn;obtain⟨U,m,xs,e1,e2,e3⟩:=l.gr.row u _ er;have e2:B[m]?=J (.lst xs):=e2;obtain⟨_,e4,r4⟩:=l.rp i _ (by simpa using hi) W;obtain⟨_,H,r6⟩:=l.rp j _ (by simpa using hj) ej;have e4:Z[i]?=J (J (.int G)):=by rw[e4,show _=PV.int G from r4]
       have H:Z[j]?=J (J (.int L)):=by rw[H,show _=PV.int L from r6]
       have ml:=aG e2;have S:=n4 a (Al e1);have X:=l.gr.ge m S;have xl:xs.length=R.length:=e3.length;have rv:Rp 0 [] [] d v:=Rp.fq fd (rz P);have ai:nr (ms.map PV.loc) G=J (.loc m):=by unfold nr;rw[yP,l.gr.len,eu,BH,tx,e1];rfl
       have C:=l.pen;refine⟨Z,B.set m (.lst (xs.set w v)),?_,⟨by rw[Md];exact l.len,λn E nq=>(mA (by ext)).trans (l.mv n E nq),?_,l.gr.put (r':=(Y,R.set w d)) e1 (xI U fd) (u_ ml) (e3.set w rv) λn _ ne=>mA (Ne.symm ne),l.ge,?_,by simp[l.sl],λn dn E Q=>?_,λz P=>?_⟩⟩
       .unfold ja w_;rw[em];have g:BA (ao aM (af gi) (af i)) (af j) v Z B=.nx Z (B.set m (.lst (xs.set w v))):=by
         rw[Gb];have b1:ao aM (af gi) (af i) Z B=.ok (.loc m) B:=by
          rw[jt];have z1:af gi Z B=.ok (.loc a) B:=by simp[af,l.ge]
          have F:af i Z B=.ok (.int G) B:=by simp[af,e4]
          rw[z1,Out.bind_ok,F,Out.bind_ok,dN l.gr.top,ai];rfl
         have M:af j Z B=.ok (.int L) B:=by simp[af,H]
         rw[b1,aA,Ga,M,aA,jT e2,xl,ew];rfl
        dsimp only;rw[g]
       .unfold bh at C ⊢
        have:=bd q hq
        rw[mA (by ext)];exact C
       .have hl:gi<env.length:=(pj.mp l.gd).1;rw[u_ hl]
       .rw[mA (Ne.symm E)]at Q;exact l.rp n dn E Q
       .obtain⟨z1,F,M⟩:=l.kz z P;exact⟨(mA λ(y:m=z.1)=>F (by rw[<-y];exact S)).trans z1,F,M⟩
      .cases ep
     .cases ep
    .cases ep
   .cases ep
  .cases ep
def AW(g:D->aq->Option aq)(b:aq->List Rd->d_->Option (aq×List Rd×d_)):RR->aq->List Rd->d_->Option (aq×List Rd×d_)
 |[],env,rd,s=>J (env,rd,s)
 |d::u,env,rd,s=>match g d env with
  |some i=>(match b i rd s with
   |some (a,j,l)=>AW g b u a j l
   |none=>Y)
  |none=>Y
def xG(g:Yt gi)(b:Yd gi){it:MIt}{q:Nat}{G:MH}{O:RQ}{a:Nat}{P:RQ}{C:List (Nat×RL)}(bd:Bd G O)(H:q∈O)(sub:∀y∈it.gd,y∈C):∀(B:RR)(xs:RL)(env:aq)(rd:List Rd)(s:d_)(Z:lR)(h:MH)(i:aq)(l:List Rd)(z:d_),e_ B=I->Rps 0 [] [] B xs->YI gi q G h O a P rd C Z env s->AW g.p b.p B env rd s=J (i,l,z) ->
  ∃Q L,vZ it g.m b.m xs Z h=.nx Q L/\YI gi q G L O a P l C Q i z
 |[],xs,env,rd,s,Z,h,i,l,z,f,r,j,e=>by
  cases e;rw[show xs=[]from r];exact⟨Z,h,lA λy F=>(j.kz y (sub y F)).1,j⟩
 |d::B,xs,env,rd,s,Z,h,i,l,z,f,r,j,e=>by
  obtain⟨x,xr,rfl,r1,U⟩:=r;simp only[e_,AC]at f;unfold AW at e
  split at e
  .rename_i M e1
   split at e
   .rename_i u E s2 e2
    obtain⟨Z1,R,X⟩:=g.ok j f.1 r1 e1;obtain⟨Z2,h2,f2,S⟩:=b.ok bd H X e2;obtain⟨Z3,h3,f3,W⟩:=xG g b bd H sub B xr u E s2 Z2 h2 i l z f.2 U S e;exact⟨Z3,h3,by rw[im (λy F=>(j.kz y (sub y F)).1) R,f2];exact f3,W⟩
   .cases e
  .cases e
def oW(i:Xi [])(g:Yt gi)(b:Yd gi)(Q:i.fz=I:=by exact ys rfl):Yd gi where
 m:=fD i.m g.m b.m
 p:=λenv rd s=>match i.p (env.set gi Y) s with
  |.ok u l=>if e_ u=I then AW g.p b.p u env rd l else Y
  |_=>Y
 ok {q h0 h O a ms rd Za Z env s env' rd' s'} bd hq c ep:=by
  have k:=i.ok (c.ci bd hq)
  split at ep
  .rename_i u l R
   split at ep
   .rename_i fd
    rw[R]at k;obtain⟨B,G,em,kb,pn,r,C,P⟩:=k;have F:=c.kb (bd q hq) kb pn;have H:YI gi q h0 G O a ms rd (B.gd++Za) Z env l:=F.zs λz j=>by
     rcases AS.mp j with y|y
     .exact⟨(C z y).1,λw=>P Q z y (Bx _ w),(C z y).2⟩
     .exact F.kz z y
    obtain⟨S,L,e3,E⟩:=xG g b bd hq (it:=B) (λy M=>Bx _ M) u B.xs env rd l Z G env' rd' s' fd (Rps.fq fd r) H ep;exact⟨S,L,by rw[hU,em];exact e3,E.zs λz j=>E.kz z (tf _ j)⟩
   .cases ep
  .cases ep
end
end PU
namespace Law
open PySem.Spec PyProof.Rows L2 MM
set_option maxHeartbeats 4000000
noncomputable section
def zB:n0:=(bi (bt 2 (ao l_ (ao ki (mC (.int 7919)) (af 1)) (mC (.int 11))))
 (bi (zJ (mB (ao A0 (af 1) (n_ zM (ae (n_ oh (ae (af 0) b_)) (ae (mC (.int 63)) b_))))) (bt 2 (ao aM (af 0) (af 1))) (zJ (mB (ao Bk (n_ oh (ae (af 0) b_)) (mC (.int 0)))) (bt 2 (ao l_ (ao nw (ao aM (af 0) (ao nw (af 1) (n_ zM (ae (n_ oh (ae (af 0) b_)) (ae (mC (.int 63)) b_))))) (ao rk (mC (.int 10)) (mC (.int 15)))) (ao ki (mC (.int 48271)) (af 1)))) kq))
 (bi (zJ (mB (ao A1 (n_ Ay (ae (af 2) b_)) (ao rk (mC (.int 10)) (mC (.int 18))))) (bC (bX (ae (mC (.int 1)) (ae (n_ Ay (ae (af 2) b_)) (ae (mC (.int 0)) b_))))) kq)
 (bC (bX (ae (mC (.int 0)) (ae (ao l_ (ao nw (af 2) (mC (.int 2147483587))) (ao ki (mC (.int 40009)) (af 1))) (ae (mC (.int 0)) b_))))))))
def hV:RL->MH->RB:=bP 3 2 zB
def vR:n0:=(bi (ja (ao l_ (ao aM (af 0) (mC (.int 2))) (mC (.int 1))) (BA (af 0) (mC (.int 2))))
 (bi (zJ (mB (ao zL (ao aM (af 0) (mC (.int 0))) (mC (.int 1)))) (bi (bt 3 (ao nw (ao aM (af 0) (mC (.int 1))) (af 1)))
 (bi (ja (ao AI (ao aM (af 0) (mC (.int 1))) (af 1)) (BA (af 0) (mC (.int 1))))
 (bC (af 3)))) kq)
 (bi (bt 2 (ao nw (ao ki (ao l_ (ao l_ (ao aM (af 0) (mC (.int 1))) (ao ki (mC (.int 40503)) (ao aM (af 0) (mC (.int 2))))) (mC (.int 1))) (mC (.int 48271))) (mC (.int 2147483647))))
 (bi (bt 2 (ao nw (ao ki (af 2) (ao l_ (ao l_ (ao nw (af 2) (mC (.int 65521))) (ao aM (af 0) (mC (.int 2)))) (mC (.int 3)))) (mC (.int 2147483629))))
 (bC (ao nw (ao AI (ao nw (ao ki (af 2) (ao l_ (ao nw (af 2) (mC (.int 8191))) (mC (.int 7)))) (mC (.int 2147483563))) (mC (.int 64))) (af 1)))))))
def cF:RL->MH->RB:=bP 4 2 vR
end
end Law
namespace Law
open MM PU SetT SortT
open L2 (vr nr fL)
set_option maxHeartbeats 4000000
local macro_rules | `(tactic| simp! [$a,*]) => `(tactic| simp only [$a,*, Pb, am, au, ax, az])
local macro_rules | `(tactic| dsimp! [$a,*]) => `(tactic| simp only [$a,*, Pb, Pf])
local macro_rules | `(tactic| simp_all! [$a,*]) => `(tactic| simp only [$a,*, Out.bind_ok, cg])
noncomputable section
def d4:Xd []:=(bw (kE (x_ (fX ["int"]) (ac 0)) (qT (x_ (fX ["bool"]) (ac 0)))))
def bG:Fn:=b8 1 1 d4
def mf{a:RR}{s:d_}(h:a.length=1):bG.p a s=(d4.p (lw 1 a) s).fin:=bu h
def cj:Xd []:=(aO (Ku 2000000 (xB (ag AF (ac 1) (xC (.int 0)))) (aO (bq 2 (ag mT (ac 0) (ac 1)))
 (aO (bq 0 (ac 1))
 (bq 1 (ac 2)))) nN)
 (bw (ac 0)))
def cq:Fn:=b8 3 2 cj
def kZ{a:RR}{s:d_}(h:a.length=2):cq.p a s=(cj.p (lw 3 a) s).fin:=bu h
def eD:Xd []:=(aO (Az (Ek (hZ (xB (ay bG (aa (ac 0) a_)))) (hZ (xB (ay bG (aa (ac 1) a_))))) CK nz)
 (aO (Az (xB (ag v4 (ac 1) (xC (.int 0)))) CK nz)
 (aO (bq 2 (ay cq (aa (qs oC (aa (ac 0) a_)) (aa (qs oC (aa (ac 1) a_)) a_))))
 (aO (Az (xB (ag Kw (ac 1) (xC (.int 0)))) (bq 2 (x_ ik (ac 2))) nz)
 (bw (aZ (aa (ag CC (ac 0) (ac 2)) (aa (ag CC (ac 1) (ac 2)) a_))))))))
def bF:Fn:=b8 3 2 eD
def tI{a:RR}{s:d_}(h:a.length=2):bF.p a s=(eD.p (lw 3 a) s).fin:=bu h
def kU:Xd []:=(bw (ay bF (aa (ag aX (ag bI (ag k_ (ac 0) (xC (.int 0))) (ag k_ (ac 1) (xC (.int 1)))) (ag bI (ag k_ (ac 1) (xC (.int 0))) (ag k_ (ac 0) (xC (.int 1))))) (aa (ag bI (ag k_ (ac 0) (xC (.int 1))) (ag k_ (ac 1) (xC (.int 1)))) a_))))
def d9:Fn:=b8 2 2 kU
def Db{a:RR}{s:d_}(h:a.length=2):d9.p a s=(kU.p (lw 2 a) s).fin:=bu h
def jf:Xd []:=(bw (ay bF (aa (ag mY (ag bI (ag k_ (ac 0) (xC (.int 0))) (ag k_ (ac 1) (xC (.int 1)))) (ag bI (ag k_ (ac 1) (xC (.int 0))) (ag k_ (ac 0) (xC (.int 1))))) (aa (ag bI (ag k_ (ac 0) (xC (.int 1))) (ag k_ (ac 1) (xC (.int 1)))) a_))))
def jB:Fn:=b8 2 2 jf
def yv{a:RR}{s:d_}(h:a.length=2):jB.p a s=(jf.p (lw 2 a) s).fin:=bu h
def jL:Xd []:=(bw (ay bF (aa (ag bI (ag k_ (ac 0) (xC (.int 0))) (ag k_ (ac 1) (xC (.int 0)))) (aa (ag bI (ag k_ (ac 0) (xC (.int 1))) (ag k_ (ac 1) (xC (.int 1)))) a_))))
def dG:Fn:=b8 2 2 jL
def yz{a:RR}{s:d_}(h:a.length=2):dG.p a s=(jL.p (lw 2 a) s).fin:=bu h
def k7:Xd []:=(bw (ay bF (aa (ag bI (ag k_ (ac 0) (xC (.int 0))) (ag k_ (ac 1) (xC (.int 1)))) (aa (ag bI (ag k_ (ac 0) (xC (.int 1))) (ag k_ (ac 1) (xC (.int 0)))) a_))))
def iu:Fn:=b8 2 2 k7
def Dc{a:RR}{s:d_}(h:a.length=2):iu.p a s=(k7.p (lw 2 a) s).fin:=bu h
def d3:Xd []:=(bw (kE (ay bG (aa (ac 1) a_)) (og OD Kw (xC (.int 0)) (ac 1) (ac 0))))
def bA:Fn:=b8 2 2 d3
def mD{a:RR}{s:d_}(h:a.length=2):bA.p a s=(d3.p (lw 2 a) s).fin:=bu h
def dX:Xd []:=(aO (Az (hZ (xB (x_ (fX ["list"]) (ac 1)))) (bw (xC (.bl T))) nz)
 (aO (Az (hZ (xB (qs rW (aa (bO 1 [0] (bx (ac 1)) (ws':=[]) (pf 0) qo (ay bA (aa (ag k_ (ac 1) (xC (.int 0))) (aa (ac 0) a_)))) a_)))) (bw (xC (.bl T))) nz)
 (bw (ag v4 (qs dH (aa (ac 1) a_)) (qs GC (aa (ag k_ (ac 0) (xC (.int 0))) a_))))))
def bQ:Fn:=b8 2 2 dX
def mx{a:RR}{s:d_}(h:a.length=2):bQ.p a s=(dX.p (lw 2 a) s).fin:=bu h
def cT:Xd []:=(Az (hZ (xB (ay bQ (aa (ac 0) (aa (ac 1) a_))))) (lb "NoOrder" (aa (xC (.str "an order is a list with each place once")) a_)) nz)
def bS:Fn:=b8 2 2 cT
def jd{a:RR}{s:d_}(h:a.length=2):bS.p a s=(cT.p (lw 2 a) s).fin:=bu h
def bL:Xd [0]:=(mI (bx (ac 2)) (AN (v_ (pf 3) (v_ (pf 4) AM)) 2) (kB 0 (ac 3) (ay d9 (aa (AO (ac 0) (aa (ac 3) (aa (z_ 0 1) a_))) (aa (ay dG (aa (ac 1) (aa (ac 4) a_))) a_)))))
def i4:RL->MH->RB:=bP 5 3 bL.m
def fA:Xd []:=(bw (qs cE (aa (bO 1 [0] (bx (ac 1)) (ws':=[]) (pf 0) (xB (ag AF (AO (ac 1) (aa (ac 0) (aa (z_ 0 1) a_))) (z_ 0 1))) (aZ (aa (ac 0) (aa (ag kI (ac 1) (ac 0)) a_)))) a_)))
def fy:Fn:=b8 2 2 fA
def tU{a:RR}{s:d_}(h:a.length=2):fy.p a s=(fA.p (lw 2 a) s).fin:=bu h
def fb:Xd []:=(aO (bq 3 (AO (ag k_ (ac 0) (ac 1)) (aa (ac 1) (aa (z_ 0 1) a_))))
 (aO (Az (xB (ag v4 (ac 3) (z_ 0 1))) (lM "NoPivot" "the pivot of the place " " is nought" "place" (aa (ac 1) a_)) nz)
 (aO (bq 4 (bO 1 [3,1,0] (bx (ac 2)) (ws':=[]) (pf 0) (xB (ag AF (AO (ag k_ (ac 3) (ac 0)) (aa (ac 2) (aa (z_ 0 1) a_))) (z_ 0 1))) (aZ (aa (ac 0) (aa (ay iu (aa (ag kI (ag k_ (ac 3) (ac 0)) (ac 2)) (aa (ac 1) a_))) a_)))))
 (bw (aZ (aa (ac 1) (aa (ac 3) (aa (ay fy (aa (ag k_ (ac 0) (ac 1)) (aa (ac 2) a_))) (aa (qs cE (aa (ac 4) a_)) a_)))))))))
def eV:Fn:=b8 5 3 fb
def ng{a:RR}{s:d_}(h:a.length=3):eV.p a s=(fb.p (lw 5 a) s).fin:=bu h
def hG:Xe []:=(Gy (xB (ag (CO T) (ac 6) (ac 2))) (ag kI (ac 2) (ac 6)) (ay eV (aa (ac 3) (aa (ac 6) (aa (qs dH (aa (vB (ac 1) (vz (ag aX (ac 5) (xC (.int 1)))) vv) a_)) a_)))) I)
def qS:Xt []:=(xB (ag (CO I) (ac 8) (ac 2)))
def lx:Xe []:=(ay jB (aa (z_ 0 1) (aa (ac 9) a_)))
def IH:n0:=zJ qS.m (fw (bo i4 (ae (ao aM (af 3) (af 8)) (ae lx.m (ae (ao aM (af 7) (mC (.int 2))) b_))))) kq
def De:n0:=bi (bt 7 hG.m) (bi (fD (cH (ao aM (af 7) (mC (.int 3)))) (Ao (sk (m_ 8) (sk (m_ 9) An)) 2) IH) (fw (Ef fJ (af 4) (ae (af 7) b_))))
def n5:n0:=bi (bt 3 (bv 1 [] (cH (ao aM (af 0) (mC (.int 1)))) (m_ 0) mh (n_ xg (ae (af 0) b_))))
 (bi (bt 4 (bX b_))
 (bi (fD (kW (ae (af 1) b_)) (Ao (sk (m_ 5) (sk (m_ 6) An)) 2) De)
 (bC (af 4))))
def cO:RL->MH->RB:=bP 10 3 n5
def fQ(rd:List Rd)(sh j a:D)(k v st i f:RE):aq:=[J sh,J j,J a,J (cz rd),Y,k,v,st,i,f]
def lD(rd:List Rd)(n:Nat)(g i:D)(s:d_):Option (List Rd×d_):=match rd[n]? with
 |some r=>(match bL.p (lw 5 [dl r.1 r.2,g,i]) s with
  |.nx a l=>(match a[0]? with
   |some (J (D.dic T u j))=>if e_ j=I/\flat g=I/\flat i=I then J (rd.set n (J u,j),l)else Y
   |_=>Y)
  |_=>Y)
 |none=>Y
def ii(sh a u:D)(k v:RE)(st z:D):RR->List Rd->RE->RE->d_->Option (List Rd×RE×RE×d_)
 |[],rd,i,f,s=>J (rd,i,f,s)
 |.tup [.int j,l]::r,rd,_,_,s=>(match qS.p (fQ rd sh a u k v (J st) (J (.int j)) (J l)) s with
  |.ok I y=>(match lx.p (fQ rd sh a u k v (J st) (J (.int j)) (J l)) y,vr rd.length j with
   |.ok g E,J n=>(match lD rd n g z E with
    |some (B,C)=>ii sh a u k v st z r B (J (.int j)) (J l) C
    |none=>Y)
   |_,_=>Y)
  |.ok T y=>ii sh a u k v st z r rd (J (.int j)) (J l) y
  |_=>Y)
 |_,_,_,_,_=>Y
def d7(sh z E:D):RR->List Rd->RR->RE->RE->RE->d_->PR (RR)
 |[],_,l,_,_,_,s=>.ok l s
 |.tup [B,C]::r,rd,l,st,i,f,s=>(match hG.p (fQ rd sh z E (J B) (J C) st i f) s with
  |.ok (.tup [x,y,a,.tup j]) u=>if flat (.tup [x,y,a,.tup j])=I/\l.length<1000/\flat B=I/\flat C=I then (match ii sh z E (J B) (J C) (.tup [x,y,a,.tup j]) a j rd i f u with
   |some (F,L,G,H)=>d7 sh z E r F (l++[.tup [x,y,a,.tup j]]) (J (.tup [x,y,a,.tup j])) L G H
   |none=>.bad)else .bad
  |.exc c u=>.exc c u
  |_=>.bad)
 |_,_,_,_,_,_,_=>.bad
def gA:RR->Option (List Rd)
 |[]=>J []
 |d::r=>(match KQ d,gA r with
  |some a,J t=>if e_ (a.map (·.2))=I then J ((J (a.map (·.1)),a.map (·.2))::t)else Y
  |_,_=>Y)
def Nb(y:RR)(s:d_):PR D:=match y with
 |[.tup [n,.tup a],.lst j,u]=>(match gA a with
  |some rd=>if a.length<900 then (match d7 (.tup [n,.tup a]) (.lst j) u (bz j) rd [] Y Y Y s with
   |.ok l i=>.ok (.lst l) i
   |.exc c i=>.exc c i
   |.bad=>.bad)else .bad
  |none=>.bad)
 |_=>.bad
structure SwI(q:Nat)(h0 h:MH)(s:d_)(a:Nat)(ms:RQ)(rd:List Rd)(w:Nat)(wk:RR):Prop where
 len:h0.length<=h.length
 mv:∀n:Nat,n<h0.length->n≠q->h[n]?=h0[n]?
 pen:bh h q s
 gr:Gr h h0.length a ms rd
 wx:∃xs,h[w]?=J (.lst xs)/\Rps 0 [] [] wk xs
 wf:e_ wk=I
 wge:h0.length<=w
 wno:w∉a::ms
def OR(d:RE)(v:RK):Prop:=∀x,d=J x->flat x=I/\∃y,v=J y/\Rp 0 [] [] x y
section
variable{q:Nat}{h0 h h':MH}{s s':d_}{a:Nat}{ms:RQ}{rd:List Rd}{w:Nat}{wk:RR}{O:RQ}{sh od kn:D}{v0 v1 v2:PV}{dk dv dst di df:RE}{ck cv cst ci cf:RK}
def SwI.kb(i:SwI q h0 h s a ms rd w wk)(y:q<h0.length)(k:KB q h h')(pn:bh h' q s'):SwI q h0 h' s' a ms rd w wk:=by obtain⟨xs,e,r⟩:=i.wx;have l:=i.len;refine⟨pu i.len k.len,λn u j=>(k.keep n (by ext) j).trans (i.mv n u j),pn,i.gr.keep λm hm=>k.keep m (i.gr.lt m hm) (by have:=i.gr.ge m hm;ext),⟨xs,(k.keep w (aG e) (by have:=i.wge;ext)).trans e,r⟩,i.wf,i.wge,i.wno⟩
def qQ(j:SwI q h0 h s a ms rd w wk)(bd:∀o∈O,o<h0.length)(E:q∈O)(r:Rps q h0 O [sh,od,kn] [v0,v1,v2])(L:OR dk ck)(F:OR dv cv)(H:OR dst cst)(Q:OR di ci)(G:OR df cf):
  PU.Cx q h h.length O O [] [J v0,J v1,J v2,J (.loc a),J (.loc w),ck,cv,cst,ci,cf] (fQ rd sh od kn dk dv dst di df) s:=by
 have l:=j.len;have mv:Mv O h0 O h:=⟨λn M B=>j.mv n M λz=>B (z▸E),λo u=>.inl u⟩;have C:=r.mv mv;have one:∀{x:RE}{y:RK}{d:D},OR x y->x=J d->∃v,J y=J (J v)/\Rp q h O d v:=λ{x y d} o e=>by
  obtain⟨f,v,e2,r⟩:=o d e;exact⟨v,by rw[e2],Rp.fq f r⟩
 refine⟨λo u=>by have:=bd o u;ext,λo u=>u,λo u=>by have:=bd o u;ext,E,mm _,j.pen,rfl,λi d e _=>?_,λi d e P=>by cases P⟩
 match i,e with
 |0,e=>cases e;obtain⟨v,e,q⟩:=C.get (i:=0) rfl;cases e;exact⟨_,rfl,q⟩
 |1,e=>cases e;obtain⟨v,e,q⟩:=C.get (i:=1) rfl;cases e;exact⟨_,rfl,q⟩
 |2,e=>cases e;obtain⟨v,e,q⟩:=C.get (i:=2) rfl;cases e;exact⟨_,rfl,q⟩
 |3,e=>cases e;exact⟨_,rfl,j.gr.rp λm hm B=>by have:=j.gr.ge m hm;have:=bd m B;ext⟩
 |4,e=>cases e
 |5,e=>exact one L (by injection e)
 |6,e=>exact one F (by injection e)
 |7,e=>exact one H (by injection e)
 |8,e=>exact one Q (by injection e)
 |9,e=>exact one G (by injection e)
 |n+10,e=>simp[fQ]at e
def Hl:∀Z h,Kp 0 (bL.m Z h) Z:=by
 have L:∀v Z h,Kp 0 (Ao (sk (m_ 3) (sk (m_ 4) An)) 2 v Z h) Z:=λv Z h=>by
  unfold Ao;split
  .rename_i xs
   split
   .match xs with
    |[]=>trivial
    |[_]=>trivial
    |x::y::r =>
     show Kp 0 (An r ((Z.set 3 (J x)).set 4 (J y)) h) Z;unfold An;split
     .show _=_;rw[mA (by decide),mA (by decide)]
     .trivial
   .trivial
  .trivial
 have M:∀{mo F mv:Mx PV} Z h,Kp 0 (kh mo F mv Z h) Z:=λ{mo F mv} Z h=>by
  simp only[kh,w_]
  repeat' split
  all_goals first | trivial | rfl
 intro Z h;unfold bL;show Kp 0 (fD _ _ _ Z h) Z;unfold fD w_;split
 .rename_i H j _
  have:∀(xs:RL) i j,i[0]?=Z[0]?->Kp 0 (vZ H (Ao (sk (m_ 3) (sk (m_ 4) An)) 2) (kB (ws:=[0]) 0 (ac 3) (ay d9 (aa (AO (ac 0) (aa (ac 3) (aa (z_ 0 1) a_))) (aa (ay dG (aa (ac 1) (aa (ac 4) a_))) a_)))).m xs i j) Z:=λxs=>by
   induction xs with
   |nil =>
    intro i j e;unfold vZ;split
    .exact e
    .trivial
   |cons x r G =>
    intro i j e;unfold vZ;split
    .have k:=L x i j
     cases Q:Ao (sk (m_ 3) (sk (m_ 4) An)) 2 x i j with
     |nx z E =>
      rw[Q]at k;have l:=@M (af 0) (af 3) ((ay d9 (aa (AO (ac 0) (aa (ac 3) (aa (z_ 0 1) a_))) (aa (ay dG (aa (ac 1) (aa (ac 4) a_))) a_)):Xe [0]).m) z E;dsimp only;generalize P:(kB (ws:=[0]) 0 (ac 3) (ay d9 (aa (AO (ac 0) (aa (ac 3) (aa (z_ 0 1) a_))) (aa (ay dG (aa (ac 1) (aa (ac 4) a_))) a_)))).m z E=o;have C:kh (af 0) (af 3) (ay d9 (aa (AO (ac 0) (aa (ac 3) (aa (z_ 0 1) a_))) (aa (ay dG (aa (ac 1) (aa (ac 4) a_))) a_)):Xe [0]).m z E=o:=P;rw[C]at l;have k:z[0]?=i[0]?:=k
      cases o with
      |nx B u=>exact G B u (l.trans (k.trans e))
      |ct B u=>exact G B u (l.trans (k.trans e))
      |bk B u=>exact l.trans (k.trans e)
      |_=>trivial
     |_=>trivial
    .trivial
  exact this H.xs Z j rfl
 all_goals trivial
def zQ{n m:Nat}{g E:D}{F pv:PV}{l:List Rd}(i:SwI q h0 h s a ms rd w wk)(bd:∀o∈O,o<h0.length)(L:q∈O)(em:ms[n]?=J m)(rg:Rp 0 [] [] g F)(rp:Rp 0 [] [] E pv)(e:lD rd n g E s=J (l,s')):
  ∃h',i4 [.loc m,F,pv] h=.ok .non h'/\SwI q h0 h' s' a ms l w wk:=by
 unfold lD at e
 split at e
 .rename_i r er
  split at e
  .rename_i P s1 eb
   split at e
   .rename_i ks ds e0
    split at e
    .rename_i R
     obtain⟨fd,fg,X⟩:=R;cases e;obtain⟨fr,m',xs,u,W,rx⟩:=i.gr.row n r er;rw[em]at u;cases u;have H:=n4 a (Al em);have U:=i.gr.ge m H;obtain⟨h',e1,l1,kp,pn,O',ab,C,G⟩:=zW (B:=bL) (n:=5) (np:=3) (m:=m) (k:=r.1) (k':=J ks) (ds:=r.2) (ds':=ds) (as:=[g,E]) (vs:=[F,pv]) (λo Z=>by have:=bd o Z;ext) L i.pen W fr rx (by simp[e_,fg,X]) ⟨_,_,rfl,rg,_,_,rfl,rp,rfl⟩ rfl (by decide) Hl eb e0;have S:=bd q L;refine⟨h',e1,pu i.len l1,λj y M=>(kp j (by have:=i.len;ext) (by ext) M).trans (i.mv j y M),pn,i.gr.put em fd C (Rps.fq fd G) λj y ne=>kp j (i.gr.lt j y) ne (by have:=i.gr.ge j y;ext),?_,i.wf,i.wge,i.wno⟩;obtain⟨ws,Q,rw'⟩:=i.wx;exact⟨ws,(kp w (aG Q) (λz=>i.wno (z▸H)) (by have:=i.wge;ext)).trans Q,rw'⟩
    .cases e
   .cases e
  .cases e
 .cases e
def ze{st u c:D}{l:RR}{z:List Rd×RE×RE×d_}(e:ii sh od kn dk dv st u (c::l) rd di df s=J z):∃j x,c=.tup [.int j,x]:=by
 unfold ii at e
 split at e
 .rename_i i;cases i
 .rename_i i;cases i;exact⟨_,_,rfl⟩
 .cases e
def lJ{st ps:D}{l:RL}{pv:PV}{X:List Rd}{W Z:RE}{it:MIt}(E:∀h,it.ok h)(bd:∀o∈O,o<h0.length)(M:q∈O)(r:Rps q h0 O [sh,od,kn] [v0,v1,v2])(k1:OR dk ck)(k2:OR dv cv)(H:flat st=I)(G:Rp 0 [] [] st (.tup l))(u2:nr l 2=J pv)(rp:Rp 0 [] [] ps pv):
  ∀(P:RR)(xs:RL)(rd:List Rd)(di df:RE)(ci cf:RK)(h:MH)(s:d_),e_ P=I->Rps 0 [] [] P xs->OR di ci->OR df cf->SwI q h0 h s a ms rd w wk->ii sh od kn dk dv st ps P rd di df s=J (X,W,Z,s') ->
  ∃h' y u,vZ it (Ao (sk (m_ 8) (sk (m_ 9) An)) 2) IH xs [J v0,J v1,J v2,J (.loc a),J (.loc w),ck,cv,J (.tup l),ci,cf] h=.nx [J v0,J v1,J v2,J (.loc a),J (.loc w),ck,cv,J (.tup l),y,u] h'/\SwI q h0 h' s' a ms X w wk/\OR W y/\OR Z u
 |[],xs,rd,di,df,ci,cf,h,s,fc,rx,k4,k5,i,e=>by
  unfold ii at e;cases e;rw[show xs=[]from rx];exact⟨h,ci,cf,lA (E h),i,k4,k5⟩
 |c::P,xs,rd,di,df,ci,cf,h,s,fc,rx,k4,k5,i,e=>by
  have F:=bd q M;simp only[e_,AC]at fc;obtain⟨j,x,rfl⟩:=ze e;unfold ii at e
  .obtain⟨vx,xr,rfl,ap,rr⟩:=rx;obtain⟨ys,rfl,ry⟩:=ap;obtain⟨y1,yr,rfl,a1,C,a0,rfl,ab,U⟩:=ry;rw[show a0=[]from U];rw[show y1=PV.int j from a1];have fx:flat x=I:=by simpa [flat,e_]using fc.1
   have o4:OR (J (.int j)) (J (.int j)):=λz S=>by cases S;exact⟨rfl,_,rfl,rfl⟩
   have o5:OR (J x) (J C):=λz S=>by cases S;exact⟨fx,_,rfl,ab⟩
   have o3:OR (J st) (J (.tup l)):=λz S=>by cases S;exact⟨H,_,rfl,G⟩
   have c1:=qQ i bd M r k1 k2 o3 o4 o5;have kc:=qS.ok c1;rw[im (E h) (show Ao (sk (m_ 8) (sk (m_ 9) An)) 2 (.tup [.int j,C]) [J v0,J v1,J v2,J (.loc a),J (.loc w),ck,cv,J (.tup l),ci,cf] h=.nx [J v0,J v1,J v2,J (.loc a),J (.loc w),ck,cv,J (.tup l),J (.int j),J C] h from rfl)]
   split at e
   .rename_i s1 ec
    rw[ec]at kc;obtain⟨b,Q,em,kb,pn,rfl⟩:=kc;have R:=i.kb F kb pn
    split at e
    .rename_i gg s2 n eg en
     split at e
     .rename_i al s3 B
      have c2:=qQ R bd M r k1 k2 o3 o4 o5;have kg:=lx.ok c2;rw[eg]at kg;obtain⟨gv,h2,ak,as,an,_,rz,_⟩:=kg;have I2:=R.kb F as an;have fg:flat gg=I:=by
       unfold lD at B
       split at B
       .split at B
        .split at B
         .split at B
          .rename_i z;exact z.2.1
          .cases B
         .cases B
        .cases B
       .cases B
      have nl:n<rd.length:=by exact(L2.pc en).2.1
      obtain⟨m,hm⟩:∃m,ms[n]?=J m:=⟨ms[n]'(by rw[i.gr.len];exact nl),Ah _⟩;obtain⟨h3,e3,I3⟩:=zQ I2 bd M hm (Rp.fq fg (rz rfl)) rp B;obtain⟨h4,y,u,e4,I4,q4,q5⟩:=lJ E bd M r k1 k2 H G u2 rp P xr al _ _ _ _ h3 s3 fc.2 rr o4 o5 I3 e;refine⟨h4,y,u,?_,I4,q4,q5⟩;have ai:nr (ms.map PV.loc) j=J (.loc m):=by unfold nr;rw[yP,i.gr.len,en,BH,tx,hm];rfl
      have L:IH [J v0,J v1,J v2,J (.loc a),J (.loc w),ck,cv,J (.tup l),J (.int j),J C] h=.nx [J v0,J v1,J v2,J (.loc a),J (.loc w),ck,cv,J (.tup l),J (.int j),J C] h3:=by
       have ar:ae (ao aM (af 3) (af 8)) (ae lx.m (ae (ao aM (af 7) (mC (.int 2))) b_)) [J v0,J v1,J v2,J (.loc a),J (.loc w),ck,cv,J (.tup l),J (.int j),J C] Q=.ok [.loc m,gv,pv] h2:=by
        have b1:ao aM (af 3) (af 8) [J v0,J v1,J v2,J (.loc a),J (.loc w),ck,cv,J (.tup l),J (.int j),J C] Q=.ok (.loc m) Q:=by simp[dN R.gr.top,ai]
        have b2:ao aM (af 7) (mC (.int 2)) [J v0,J v1,J v2,J (.loc a),J (.loc w),ck,cv,J (.tup l),J (.int j),J C] h2=.ok pv h2:=by simp[u2]
        rw[bn,b1,Out.bind_ok,bn,ak,Out.bind_ok,bn,b2];rfl
       unfold IH;rw[eB,em,aA,c_ rfl,iD,eQ,ar,Out.bind_ok,e3];rfl
      rw[L];exact e4
     .cases e
    .cases e
   .rename_i s1 ec
    rw[ec]at kc;obtain⟨b,Q,em,kb,pn,rfl⟩:=kc;have R:=i.kb F kb pn;obtain⟨h4,y,u,e4,I4,q4,q5⟩:=lJ E bd M r k1 k2 H G u2 rp P xr rd _ _ _ _ Q s1 fc.2 rr o4 o5 R e;refine⟨h4,y,u,?_,I4,q4,q5⟩;have L:IH [J v0,J v1,J v2,J (.loc a),J (.loc w),ck,cv,J (.tup l),J (.int j),J C] h=.nx [J v0,J v1,J v2,J (.loc a),J (.loc w),ck,cv,J (.tup l),J (.int j),J C] Q:=by unfold IH;rw[eB,em,aA];rfl
    rw[L];exact e4
   .cases e
def km:∀{wk:RR}{d:D},e_ wk=I->flat d=I->e_ (wk++[d])=I
 |[],d,_,f=>by simp[e_,f]
 |x::wk,d,g,f=>by
  simp only[e_,AC,NB]at g ⊢;exact⟨g.1,km g.2 f⟩
def rS{c:D}{j wk:RR}(e:d7 sh od kn (c::j) rd wk dst di df s≠.bad):∃x y,c=.tup [x,y]:=by
 unfold d7 at e
 split at e
 .rename_i i;cases i
 .rename_i i;cases i;exact⟨_,_,rfl⟩
 .exact absurd rfl e
def u6{it:MIt}{wk':RR}(H:∀h s rd wk,SwI q h0 h s a ms rd w wk->it.ok h)(bd:∀o∈O,o<h0.length)(hq:q∈O)(r:Rps q h0 O [sh,od,kn] [v0,v1,v2]):
  ∀(ds:RR)(xs:RL)(rd:List Rd)(wk:RR)(dst di df:RE)(ck cv cst ci cf:RK)(h:MH)(s:d_),e_ ds=I->Rps 0 [] [] ds xs->OR dst cst->OR di ci->OR df cf->SwI q h0 h s a ms rd w wk->d7 sh od kn ds rd wk dst di df s=.ok wk' s' ->
  ∃h' a6 a1 a0 W L F,vZ it (Ao (sk (m_ 5) (sk (m_ 6) An)) 2) De xs [J v0,J v1,J v2,J (.loc a),J (.loc w),ck,cv,cst,ci,cf] h=.nx [J v0,J v1,J v2,J (.loc a),J (.loc w),a1,a0,W,L,F] h'/\SwI q h0 h' s' a ms a6 w wk'
 |[],xs,rd,wk,dst,di,df,ck,cv,cst,ci,cf,h,s,fd,rx,k3,k4,k5,l,e=>by
  unfold d7 at e;cases e;rw[show xs=[]from rx];exact⟨h,rd,ck,cv,cst,ci,cf,lA (H h _ _ _ l),l⟩
 |c::cs,xs,rd,wk,dst,di,df,ck,cv,cst,ci,cf,h,s,fd,rx,k3,k4,k5,l,e=>by
  have an:=bd q hq;simp only[e_,AC]at fd;obtain⟨dk,dv,rfl⟩:=rS (by rw[e];exact λz=>nomatch z);unfold d7 at e;obtain⟨vx,xr,rfl,a2,rr⟩:=rx;obtain⟨ys,rfl,ry⟩:=a2;obtain⟨G,yr,rfl,a8,M,a5,rfl,ak,Z⟩:=ry;rw[show a5=[]from Z];have fk:flat dk=I/\flat dv=I:=by simpa [flat,e_]using fd.1
  have o1:OR (J dk) (J G):=λz X=>by cases X;exact⟨fk.1,_,rfl,a8⟩
  have o2:OR (J dv) (J M):=λz X=>by cases X;exact⟨fk.2,_,rfl,ak⟩
  have c1:=qQ l bd hq r o1 o2 k3 k4 k5;have ke:=hG.ok c1;rw[im (H h _ _ _ l) (show Ao (sk (m_ 5) (sk (m_ 6) An)) 2 (.tup [G,M]) [J v0,J v1,J v2,J (.loc a),J (.loc w),ck,cv,cst,ci,cf] h=.nx [J v0,J v1,J v2,J (.loc a),J (.loc w),J G,J M,cst,ci,cf] h from rfl)]
  split at e
  .rename_i x y ps u s1 ee
   rw[ee]at ke;obtain⟨v,h1,em,kb,pn,_,rz,_⟩:=ke;have I1:=l.kb an kb pn
   split at e
   .rename_i ab
    obtain⟨Q,wl,_,_⟩:=ab
    split at e
    .rename_i S i2 f2 s2 ei
     have rv:Rp 0 [] [] (.tup [x,y,ps,.tup u]) v:=Rp.fq Q (rz rfl);have bm:flat x=I/\flat y=I/\flat ps=I/\e_ u=I:=by simpa [flat,e_]using Q
     have E:=rv;obtain⟨us,rfl,ru⟩:=rv;obtain⟨U,t1,rfl,b3,u2,t2,rfl,b2,P,t3,rfl,ap,u4,t4,rfl,b0,as⟩:=ru;rw[show t4=[]from as]at E em;obtain⟨i,rfl,r4⟩:=b0;obtain⟨h2,L,F,e2,C,q4,q5⟩:=lJ (it:=⟨i,[]⟩) (λ_=>fe.mpr trivial) bd hq r o1 o2 Q E (pv:=P) rfl ap u i rd _ _ _ _ h1 s1 bm.2.2.2 r4 k4 k5 I1 ei;obtain⟨B,ew,rw'⟩:=C.wx;have b1:B.length=wk.length:=rw'.length;have al:=aG ew;have I3:SwI q h0 (h2.set w (.lst (B++[.tup [U,u2,P,.tup i]]))) s2 a ms S w (wk++[.tup [x,y,ps,.tup u]]):=by
      have wge:=C.wge;refine⟨by rw[Md];exact C.len,λj hj nq=>(mA (by ext)).trans (C.mv j hj nq),?_,C.gr.keep λj hj=>mA λz=>C.wno (by rw[z];exact hj),⟨_,u_ al,rw'.app ⟨_,_,rfl,E,rfl⟩⟩,?_,wge,C.wno⟩
      .have:=C.pen
       unfold bh at this ⊢;rw[mA (by ext)];exact this
      .exact km C.wf Q
     have o3:OR (J (.tup [x,y,ps,.tup u])) (J (.tup [U,u2,P,.tup i])):=λz X=>by cases X;exact⟨Q,_,rfl,E⟩
     obtain⟨h4,a9,a4,ai,R,ar,a3,e4,I4⟩:=u6 H bd hq r cs xr S _ _ _ _ (J G) (J M) _ _ _ _ s2 fd.2 rr o3 q4 q5 I3 e;refine⟨h4,a9,a4,ai,R,ar,a3,?_,I4⟩;have b:De [J v0,J v1,J v2,J (.loc a),J (.loc w),J G,J M,cst,ci,cf] h=.nx [J v0,J v1,J v2,J (.loc a),J (.loc w),J G,J M,J (.tup [U,u2,P,.tup i]),L,F] (h2.set w (.lst (B++[.tup [U,u2,P,.tup i]]))):=by unfold De;rw[aU,cU,em,aA,MM.aw,aU,hU];have i3:cH (ao aM (af 7) (mC (.int 3))) ([J v0,J v1,J v2,J (.loc a),J (.loc w),J G,J M,cst,ci,cf].set 7 (J (.tup [U,u2,P,.tup i]))) h1=.ok ⟨i,[]⟩ h1:=rfl;rw[i3,aA];refine(congrArg (λz:SOut=>z.then _) e2).trans ?_;rw[MM.aw,iD,wG];simp_all![dE,bn,bR,ew,nV ew (show B.length<1000 by ext)];rfl
     rw[b];exact e4
    .cases e
   .cases e
  .cases e
  .cases e
def uB{it:MIt}{cx:qx}(R:∀h s rd wk,SwI q h0 h s a ms rd w wk->it.ok h)(bd:∀o∈O,o<h0.length)(Z:q∈O)(r:Rps q h0 O [sh,od,kn] [v0,v1,v2]):
  ∀(ds:RR)(xs:RL)(rd:List Rd)(wk:RR)(dst di df:RE)(ck cv cst ci cf:RK)(h:MH)(s:d_),e_ ds=I->Rps 0 [] [] ds xs->OR dst cst->OR di ci->OR df cf->SwI q h0 h s a ms rd w wk->d7 sh od kn ds rd wk dst di df s=.exc cx s' ->
  ∃h' a2 a5 Z',vZ it (Ao (sk (m_ 5) (sk (m_ 6) An)) 2) De xs [J v0,J v1,J v2,J (.loc a),J (.loc w),ck,cv,cst,ci,cf] h=.exc cx Z' h'/\SwI q h0 h' s' a ms a2 w a5
 |[],xs,rd,wk,dst,di,df,ck,cv,cst,ci,cf,h,s,fd,rx,k3,k4,k5,l,e=>by
  unfold d7 at e;cases e
 |c::cs,xs,rd,wk,dst,di,df,ck,cv,cst,ci,cf,h,s,fd,rx,k3,k4,k5,l,e=>by
  have P:=bd q Z;simp only[e_,AC]at fd;obtain⟨dk,dv,rfl⟩:=rS (by rw[e];exact λz=>nomatch z);unfold d7 at e;obtain⟨vx,xr,rfl,ar,rr⟩:=rx;obtain⟨ys,rfl,ry⟩:=ar;obtain⟨C,yr,rfl,a3,F,a1,rfl,ai,W⟩:=ry;rw[show a1=[]from W];have fk:flat dk=I/\flat dv=I:=by simpa [flat,e_]using fd.1
  have o1:OR (J dk) (J C):=λz U=>by cases U;exact⟨fk.1,_,rfl,a3⟩
  have o2:OR (J dv) (J F):=λz U=>by cases U;exact⟨fk.2,_,rfl,ai⟩
  have c1:=qQ l bd Z r o1 o2 k3 k4 k5;have ke:=hG.ok c1;rw[im (R h _ _ _ l) (show Ao (sk (m_ 5) (sk (m_ 6) An)) 2 (.tup [C,F]) [J v0,J v1,J v2,J (.loc a),J (.loc w),ck,cv,cst,ci,cf] h=.nx [J v0,J v1,J v2,J (.loc a),J (.loc w),J C,J F,cst,ci,cf] h from rfl)]
  split at e
  .rename_i x y ps u s1 ee
   rw[ee]at ke;obtain⟨v,H,em,kb,pn,_,rz,_⟩:=ke;have I1:=l.kb P kb pn
   split at e
   .rename_i ab
    obtain⟨M,wl,_,_⟩:=ab
    split at e
    .rename_i Q i2 f2 s2 ei
     have rv:Rp 0 [] [] (.tup [x,y,ps,.tup u]) v:=Rp.fq M (rz rfl);have a6:flat x=I/\flat y=I/\flat ps=I/\e_ u=I:=by simpa [flat,e_]using M
     have G:=rv;obtain⟨us,rfl,ru⟩:=rv;obtain⟨S,t1,rfl,b0,X,t2,rfl,bm,L,t3,rfl,an,u4,t4,rfl,a8,ap⟩:=ru;rw[show t4=[]from ap]at G em;obtain⟨i,rfl,r4⟩:=a8;obtain⟨h2,as,ak,e2,E,q4,q5⟩:=lJ (it:=⟨i,[]⟩) (λ_=>fe.mpr trivial) bd Z r o1 o2 M G (pv:=L) rfl an u i rd _ _ _ _ H s1 a6.2.2.2 r4 k4 k5 I1 ei;obtain⟨B,ew,rw'⟩:=E.wx;have a9:B.length=wk.length:=rw'.length;have al:=aG ew;have I3:SwI q h0 (h2.set w (.lst (B++[.tup [S,X,L,.tup i]]))) s2 a ms Q w (wk++[.tup [x,y,ps,.tup u]]):=by
      have wge:=E.wge;refine⟨by rw[Md];exact E.len,λj hj nq=>(mA (by ext)).trans (E.mv j hj nq),?_,E.gr.keep λj hj=>mA λz=>E.wno (by rw[z];exact hj),⟨_,u_ al,rw'.app ⟨_,_,rfl,G,rfl⟩⟩,?_,wge,E.wno⟩
      .have:=E.pen
       unfold bh at this ⊢;rw[mA (by ext)];exact this
      .exact km E.wf M
     have o3:OR (J (.tup [x,y,ps,.tup u])) (J (.tup [S,X,L,.tup i])):=λz U=>by cases U;exact⟨M,_,rfl,G⟩
     obtain⟨h4,a4,a0,Z4,e4,I4⟩:=uB R bd Z r cs xr Q _ _ _ _ (J C) (J F) _ _ _ _ s2 fd.2 rr o3 q4 q5 I3 e;refine⟨h4,a4,a0,Z4,?_,I4⟩;have b:De [J v0,J v1,J v2,J (.loc a),J (.loc w),J C,J F,cst,ci,cf] h=.nx [J v0,J v1,J v2,J (.loc a),J (.loc w),J C,J F,J (.tup [S,X,L,.tup i]),as,ak] (h2.set w (.lst (B++[.tup [S,X,L,.tup i]]))):=by unfold De;rw[aU,cU,em,aA,MM.aw,aU,hU];have i3:cH (ao aM (af 7) (mC (.int 3))) ([J v0,J v1,J v2,J (.loc a),J (.loc w),J C,J F,cst,ci,cf].set 7 (J (.tup [S,X,L,.tup i]))) H=.ok ⟨i,[]⟩ H:=rfl;rw[i3,aA];refine(congrArg (λz:SOut=>z.then _) e2).trans ?_;rw[MM.aw,iD,wG];simp_all![dE,bn,bR,ew,nV ew (show B.length<1000 by ext)];rfl
     rw[b];exact e4
    .cases e
   .cases e
  .rename_i c s1 ee
   cases e;rw[ee]at ke;obtain⟨H,em,kb,pn⟩:=ke;have b:De [J v0,J v1,J v2,J (.loc a),J (.loc w),J C,J F,cst,ci,cf] h=.exc cx [J v0,J v1,J v2,J (.loc a),J (.loc w),J C,J F,cst,ci,cf] H:=by unfold De;rw[aU,cU,em];rfl
   rw[b];exact⟨H,rd,wk,_,rfl,l.kb P kb pn⟩
  .cases e
def uQ{L:Nat}{r:Rd}{xs:RL}(g:Gr h L a ms rd)(hL:L<=h.length)(j:e_ r.2=I)(C:Rps 0 [] [] r.2 xs):Gr ((h++[mo r.1 xs]).set a (.lst (ms.map .loc++[.loc h.length]))) L a (ms++[h.length]) (rd++[r]):=by
 have E:=aG g.top;have nd:=g.nd;have lt:=g.lt;rw[Aj]at nd;refine⟨by rw[u_ (by simp;ext),Mh];rfl,by simp[g.len],?_,λm hm=>?_,λi x ex=>?_⟩
 .rw[<-NB,L_];refine⟨g.nd,by simp,λx B y u=>?_⟩
  have:=lt x B
  have:y=h.length:=by simpa using u
  ext
 .rw[<-NB]at hm;rcases AS.mp hm with z|z
  .exact g.ge m z
  .have:m=h.length:=by simpa using z
   ext
 .have gl:=g.len;by_cases z:i<rd.length
  .rw[qp z]at ex;obtain⟨f,m,ys,e1,e2,e3⟩:=g.row i x ex;have ne:a≠m:=λy=>nd.1 (y▸Al e1);exact⟨f,m,ys,by rw[qp (by ext)];exact e1,by rw[mA ne,qp (aG e2)];exact e2,e3⟩
  .rw[AE (by ext)]at ex;have l:i-rd.length=0:=by
    have:=(pj.mp ex).1
    simp at this;ext
   rw[l]at ex;cases ex;refine⟨j,h.length,xs,?_,?_,C⟩
   .rw[AE (by ext),show i-ms.length=0 by ext];rfl
   .rw[mA (by ext)];simp
def oX{it:MIt}(y:∀h,it.ok h):∀(i:RR)(j:RL)(rd l:List Rd)(ms:RQ)(z:RK)(h:MH),gA i=J rd->Rps q h0 O i j->Gr h h0.length a ms l->h0.length<=h.length->(∀n:Nat,n<h0.length->h[n]?=h0[n]?)->ms.length+i.length<1000 ->
  ∃h' B,v7 it a (m_ 0) mh (n_ xg (ae (af 0) b_)) j [z] h=.ok () h'/\Gr h' h0.length a B (l++rd)/\h0.length<=h'.length/\∀n:Nat,n<h0.length->h'[n]?=h0[n]?
 |[],j,rd,l,ms,z,h,e,r,g,hl,kp,C=>by
  unfold gA at e;cases e;rw[show j=[]from r,By];exact⟨h,ms,jz (y h),g,hl,kp⟩
 |d::i,j,rd,l,ms,z,h,e,r,g,hl,kp,C=>by
  unfold gA at e
  split at e
  .rename_i u t ed U
   split at e
   .rename_i F
    cases e;obtain⟨v,rr,rfl,Q,R⟩:=r;obtain⟨E,Z,H⟩:=GN Q ed;obtain⟨L,s2⟩:=pU H;have g2:=uQ g (r:=(J (u.map (·.1)),u.map (·.2))) (xs:=E.map (·.2)) hl F (Rps.fq F s2);have ab:=g.ge a (by simp);obtain⟨h',B,W,G,M,S⟩:=oX y i rr t _ _ (J v) _ U R g2 (by simp;ext) (λn P=>by rw[mA (by ext),qp (by ext)];exact kp n P) (by simp at C ⊢;ext);refine⟨h',B,?_,by rw[A7]at G;exact G,M,S⟩;have X:xg [v] h=.ok (.loc h.length) (h++[mo (J (u.map (·.1))) (E.map (·.2))]):=by simp only[xg,Z,L];rfl
    rw[jx (Z1:=[J v]) (h1:=h) (h2:=h) (v:=.loc h.length) (h3:=h++[mo (J (u.map (·.1))) (E.map (·.2))]) (ys:=ms.map .loc) (y h) rfl rfl (by simp[X]) (by rw[qp (aG g.top)];exact g.top) (by simp at C ⊢;ext)];exact W
   .cases e
  .cases e
end
def rC{q:Nat}{h:MH}{O:RQ}{j:RR}{xs:RL}(r:Rps q h O j xs):Rps q h O (bz j) (cY xs):=by
 refine rH (by simp[bz,cY,r.length]) λi d v e1 e2=>?_;unfold bz at e1;unfold cY at e2;rw[tx,IN]at e1 e2
 cases a:j[i]? with
 |none=>rw[a]at e1;cases e1
 |some x =>
  obtain⟨y,u,l⟩:=r.get a;rw[a]at e1;rw[u]at e2;simp at e1 e2;subst e1 e2;exact⟨_,rfl,_,_,rfl,rfl,_,_,rfl,l,rfl⟩
def gZ{i:RR}(f:e_ i=I):e_ (bz i)=I:=by
 have:∀(a:RR),(∀d∈a,flat d=I)->e_ a=I:=λa=>by
  induction a with
  |nil=>intro;rfl
  |cons z a j=>intro h;simp only[e_,AC];exact⟨h z (by simp),j λd hd=>h d (n4 _ hd)⟩
 refine this _ λd hd=>?_;unfold bz at hd;obtain⟨p,l,rfl⟩:=vp.mp hd
 have:=k8 f (List.fst_mem_of_mem_zipIdx l)
 simp[flat,e_,this]
def gQ:Fn where
 m:=cO
 p:=λds s=>match ds with
  |[sh,.lst od,kn]=>if e_ od=I then Nb [sh,.lst od,kn] s else .bad
  |_=>.bad
 fr:=I
 ok {q h O vs ds s} bd hq pn r:=by
  split
  .rename_i sh od kn
   split
   .rename_i fo
    unfold Nb;split
    .rename_i n L a2 a9 ak
     cases ak;split
     .rename_i rd er
      split
      .rename_i lr
       split
       .rename_i wk s' eg
        have r0:=r;obtain⟨v0,t0,rfl,U,v1,t1,rfl,Z,E,t2,rfl,an,X⟩:=r;rw[show t2=[]from X]at r0 ⊢;obtain⟨ys,rfl,ry⟩:=U;obtain⟨C,u1,rfl,ar,y2,u2,rfl,P,W⟩:=ry;rw[show u2=[]from W]at r0 ⊢;obtain⟨l,rfl,rr⟩:=P;obtain⟨y,B,rfl,nO,H,ro⟩:=Z;have Q:q<h.length:=bd q hq;obtain⟨u,G,e1,R,l1,k1⟩:=oX (q:=q) (h0:=h) (O:=O) (a:=h.length) (it:=⟨l,[]⟩) (λ_=>fe.mpr trivial) L l rd [] [] Y (h++[.lst []]) er rr ⟨by simp,rfl,by simp,λm hm=>by simp at hm;ext,λi r e=>by simp at e⟩ (by simp) (λn X=>qp X) (by simp;ext);have c3:bt 3 (bv 1 [] (cH (ao aM (af 0) (mC (.int 1)))) (m_ 0) mh (n_ xg (ae (af 0) b_))) [J (.tup [C,.tup l]),J (.loc y),J E,Y,Y,Y,Y,Y,Y,Y] h=.nx [J (.tup [C,.tup l]),J (.loc y),J E,J (.loc h.length),Y,Y,Y,Y,Y,Y] u:=by rw[cU,fR];have i1:cH (ao aM (af 0) (mC (.int 1))) [J (.tup [C,.tup l]),J (.loc y),J E,Y,Y,Y,Y,Y,Y,Y] h=.ok ⟨l,[]⟩ h:=rfl;rw[i1,Out.bind_ok];refine(congrArg (λz:Out Unit=>(z.bind _).go _ _) e1).trans ?_;rfl
        have I0:SwI q h (u++[.lst []]) s h.length G rd u.length []:=by
         have l0:h.length<=u.length:=l1;refine⟨by simp;ext,λj S nq=>by rw[qp (by ext)];exact k1 j S,?_,(by simpa using R:Gr u h.length h.length G rd).keep λm hm=>qp ((by simpa using R:Gr u h.length h.length G rd).lt m hm),⟨[],by simp,rfl⟩,rfl,l0,λz=>?_⟩
         .unfold bh;rw[qp (by ext),k1 q Q];exact pn
         .have:=(by simpa using R:Gr u h.length h.length G rd).lt _ z
          ext
        obtain⟨h2,al,a3,a5,a0,a1,a8,e2,F⟩:=u6 (it:=⟨cY B,[(y,B)]⟩) (wk':=wk) (s':=s') (λh' s' ap as M=>by
         intro p hp
         have:p=(y,B):=by simpa using hp
         subst this
         exact(M.mv y (aG H) λz=>nO (z▸hq)).trans H) bd hq r0 (bz od) (cY B) rd [] Y Y Y Y Y Y Y Y (u++[.lst []]) s (gZ fo) (Rps.fq (gZ fo) (rC ro)) (λ_ z=>by cases z) (λ_ z=>by cases z) (λ_ z=>by cases z) I0 eg
        obtain⟨ab,ew,rw'⟩:=F.wx;have wge:=F.wge;have run:cO [.tup [C,.tup l],.loc y,E] h=.ok (.loc u.length) h2:=by
         unfold cO;rw[bJ (by rfl)]
         unfold n5;rw[show aY 10 [.tup [C,.tup l],.loc y,E]=[J (.tup [C,.tup l]),J (.loc y),J E,Y,Y,Y,Y,Y,Y,Y]from rfl];rw[aU,c3,MM.aw,aU];have c4:bt 4 (bX b_) [J (.tup [C,.tup l]),J (.loc y),J E,J (.loc h.length),Y,Y,Y,Y,Y,Y] u=.nx [J (.tup [C,.tup l]),J (.loc y),J E,J (.loc h.length),J (.loc u.length),Y,Y,Y,Y,Y] (u++[.lst []]):=by rw[cU,oE,bR,Out.bind_ok,cW (by simp)];rfl
         rw[c4,MM.aw,aU,hU];have c5:kW (ae (af 1) b_) [J (.tup [C,.tup l]),J (.loc y),J E,J (.loc h.length),J (.loc u.length),Y,Y,Y,Y,Y] (u++[.lst []])=.ok ⟨cY B,[(y,B)]⟩ (u++[.lst []]):=by have e9:(u++[MO.lst []])[y]?=J (.lst B):=(I0.mv y (aG H) λz=>nO (z▸hq)).trans H;unfold kW;simp_all![bn,dE,bR,eI,e9]
         rw[c5,aA];refine(congrArg (λz:SOut=>(z.then _).fin) e2).trans ?_;rfl
        have ai:Rps q h2 O wk ab:=Rps.fq F.wf rw';refine⟨.loc u.length,h2,run,⟨F.len,λj S nq=>F.mv j S nq⟩,F.pen,⟨u.length,ab,rfl,λz=>by have:=bd _ z;ext,ew,ai⟩,λ_ k a6 e=>?_⟩
        cases k with
        |none=>cases e;exact⟨_,_,rfl,wge,ew,Rps.fq F.wf rw'⟩
        |some _=>cases e
       .rename_i cx s' eg
        have r0:=r;obtain⟨v0,t0,rfl,U,v1,t1,rfl,Z,E,t2,rfl,an,X⟩:=r;rw[show t2=[]from X]at r0 ⊢;obtain⟨ys,rfl,ry⟩:=U;obtain⟨C,u1,rfl,ar,y2,u2,rfl,P,W⟩:=ry;rw[show u2=[]from W]at r0 ⊢;obtain⟨l,rfl,rr⟩:=P;obtain⟨y,B,rfl,nO,H,ro⟩:=Z;have Q:q<h.length:=bd q hq;obtain⟨u,G,e1,R,l1,k1⟩:=oX (q:=q) (h0:=h) (O:=O) (a:=h.length) (it:=⟨l,[]⟩) (λ_=>fe.mpr trivial) L l rd [] [] Y (h++[.lst []]) er rr ⟨by simp,rfl,by simp,λm hm=>by simp at hm;ext,λi r e=>by simp at e⟩ (by simp) (λn X=>qp X) (by simp;ext);have c3:bt 3 (bv 1 [] (cH (ao aM (af 0) (mC (.int 1)))) (m_ 0) mh (n_ xg (ae (af 0) b_))) [J (.tup [C,.tup l]),J (.loc y),J E,Y,Y,Y,Y,Y,Y,Y] h=.nx [J (.tup [C,.tup l]),J (.loc y),J E,J (.loc h.length),Y,Y,Y,Y,Y,Y] u:=by rw[cU,fR];have i1:cH (ao aM (af 0) (mC (.int 1))) [J (.tup [C,.tup l]),J (.loc y),J E,Y,Y,Y,Y,Y,Y,Y] h=.ok ⟨l,[]⟩ h:=rfl;rw[i1,Out.bind_ok];refine(congrArg (λz:Out Unit=>(z.bind _).go _ _) e1).trans ?_;rfl
        have I0:SwI q h (u++[.lst []]) s h.length G rd u.length []:=by
         have l0:h.length<=u.length:=l1;refine⟨by simp;ext,λj S nq=>by rw[qp (by ext)];exact k1 j S,?_,(by simpa using R:Gr u h.length h.length G rd).keep λm hm=>qp ((by simpa using R:Gr u h.length h.length G rd).lt m hm),⟨[],by simp,rfl⟩,rfl,l0,λz=>?_⟩
         .unfold bh;rw[qp (by ext),k1 q Q];exact pn
         .have:=(by simpa using R:Gr u h.length h.length G rd).lt _ z
          ext
        obtain⟨h2,al,a4,Z2,e2,F⟩:=uB (it:=⟨cY B,[(y,B)]⟩) (cx:=cx) (s':=s') (λh' s' ap as M=>by
         intro p hp
         have:p=(y,B):=by simpa using hp
         subst this
         exact(M.mv y (aG H) λz=>nO (z▸hq)).trans H) bd hq r0 (bz od) (cY B) rd [] Y Y Y Y Y Y Y Y (u++[.lst []]) s (gZ fo) (Rps.fq (gZ fo) (rC ro)) (λ_ z=>by cases z) (λ_ z=>by cases z) (λ_ z=>by cases z) I0 eg
        have run:cO [.tup [C,.tup l],.loc y,E] h=.exc cx h2:=by
         unfold cO;rw[bJ (by rfl)]
         unfold n5;rw[show aY 10 [.tup [C,.tup l],.loc y,E]=[J (.tup [C,.tup l]),J (.loc y),J E,Y,Y,Y,Y,Y,Y,Y]from rfl];rw[aU,c3,MM.aw,aU];have c4:bt 4 (bX b_) [J (.tup [C,.tup l]),J (.loc y),J E,J (.loc h.length),Y,Y,Y,Y,Y,Y] u=.nx [J (.tup [C,.tup l]),J (.loc y),J E,J (.loc h.length),J (.loc u.length),Y,Y,Y,Y,Y] (u++[.lst []]):=by rw[cU,oE,bR,Out.bind_ok,cW (by simp)];rfl
         rw[c4,MM.aw,aU,hU];have c5:kW (ae (af 1) b_) [J (.tup [C,.tup l]),J (.loc y),J E,J (.loc h.length),J (.loc u.length),Y,Y,Y,Y,Y] (u++[.lst []])=.ok ⟨cY B,[(y,B)]⟩ (u++[.lst []]):=by have e9:(u++[MO.lst []])[y]?=J (.lst B):=(I0.mv y (aG H) λz=>nO (z▸hq)).trans H;unfold kW;simp_all![bn,dE,bR,eI,e9]
         rw[c5,aA];refine(congrArg (λz:SOut=>(z.then _).fin) e2).trans ?_;rfl
        exact⟨h2,run,⟨F.len,λj S nq=>F.mv j S nq⟩,F.pen⟩
       .trivial
      .trivial
     .trivial
    .trivial
   .trivial
  .trivial
def fT:Xd []:=(aO (gf (ay bS (aa (aZ (aa (ag k_ (ac 0) (xC (.int 0))) (aa (aZ a_) a_))) (aa (ac 1) a_))))
 (bw (ay gQ (aa (ac 0) (aa (ac 1) (aa AL a_))))))
def bc:Fn:=b8 2 2 fT
def qv{a:RR}{s:d_}(h:a.length=2):bc.p a s=(fT.p (lw 2 a) s).fin:=bu h
def oP{h:MH}{p:Nat}{o:MO}(a:p<h.length):(h.set p o)[p]?=J o:=u_ a
def QM:vr 3 2=J 2:=jK (n:=3) (m:=2) (by decide)
def Ra:vr 3 1=J 1:=jK (n:=3) (m:=1) (by decide)
def ju(s:d_)(a:Int)(L:0<a)(hl:a.natAbs.log2<9000):∃x:Int×Int,(0<=x.1/\x.1<a)/\∀(h:MH)(p:Nat),bh h p s->cF [.loc p,.int a] h=.ok (.int x.1) (h.set p (.lst [.int s.1,.int x.2,.int (s.2.2+1)])):=by
 obtain⟨m,c,t⟩:=s;have j:a≠0:=by ext
 have st:∀n:Int,0<=n.fmod a/\n.fmod a<a:=λn=>by
  rw[L0 n (by ext)];exact⟨IW n j,IS n L⟩
 by_cases hm:m=1
 .subst hm;refine⟨(c.fmod a,c.fdiv a),st c,λh p e=>?_⟩;have e:h[p]?=J (.lst [.int 1,.int c,.int t]):=e;have u:p<h.length:=(pj.mp e).1;have e2:(h.set p (.lst [.int 1,.int c,.int (t+1)]))[p]?=J (.lst [.int 1,.int c,.int (t+1)]):=oP u;unfold cF;refine(bJ (by rfl)).trans ?_;unfold vR;simp[aY,List.replicate,dN e,jT e,QM,dN e2,fU j,ut j,jT e2,Ra]
 .have l:∀n k:Int,0<k->0<=n.fmod k/\n.fmod k<k:=λn k O=>by
   rw[L0 n (by ext)];exact⟨IW n (by ext),IS n O⟩
  generalize y:((c+40503*(t+1)+1)*48271).fmod 2147483647=A;have G:=l ((c+40503*(t+1)+1)*48271) 2147483647 (by decide);rw[y]at G;generalize z:(A*(A.fmod 65521+(t+1)+3)).fmod 2147483629=C;have H:=l (A*(A.fmod 65521+(t+1)+3)) 2147483629 (by decide);rw[z]at H;refine⟨((((C*(C.fmod 8191+7)).fmod 2147483563).fdiv 64).fmod a,c),st _,λh p e=>?_⟩;have e:h[p]?=J (.lst [.int m,.int c,.int t]):=e;have u:p<h.length:=(pj.mp e).1;have e2:(h.set p (.lst [.int m,.int c,.int (t+1)]))[p]?=J (.lst [.int m,.int c,.int (t+1)]):=oP u;have M:-(2^64)<A/\A<2^64:=by ext
  have E:-(2^64)<C/\C<2^64:=by ext
  have F:∀{i:Int}{h:MH},ki (.int 40503) (.int i) h=.ok (.int (40503*i)) h:=hR (by decide);have B:∀{i:Int}{h:MH},ki (.int i) (.int 48271) h=.ok (.int (i*48271)) h:=B_ (by decide);unfold cF;refine(bJ (by rfl)).trans ?_;unfold vR;simp[aY,List.replicate,dN e,jT e,QM,dN e2,hm,F,B,fU,y,hR M,z,hR E,ut (show(64:Int)≠0 by decide),fU j]
open Classical in
def lS(s:d_)(a:Int):Int×Int:=if z:0<a/\a.natAbs.log2<9000 then(ju s a z.1 z.2).choose else(0,0)
def nu(a:RR):RX:=match a with
 |[.pen,.int i]=>J i
 |_=>Y
def vM{a:RR}{i:Int}(e:nu a=J i):a=[.pen,.int i]:=by
 unfold nu at e
 split at e
 .cases e;rfl
 .cases e
open Classical in
def ba:Fn where
 m:=cF
 p:=λi s=>match nu i with
  |some a=>if 0<a/\a.natAbs.log2<9000 then .ok (.int (lS s a).1) (s.1,(lS s a).2,s.2.2+1)else .bad
  |none=>.bad
 fr:=I
 ok {q h O vs i s} bd hq pn r:=by
  cases e:nu i with
  |none=>trivial
  |some a =>
   have:=vM e
   subst this;dsimp only;by_cases z:0<a/\a.natAbs.log2<9000
   .rw[c_ z];obtain⟨x,t,rfl,B,y,j,rfl,u,C⟩:=r;rw[show x=PV.loc q from B,show y=PV.int a from u,show j=[]from C];have k:=(ju s a z.1 z.2).choose_spec.2 h q pn;have E:lS s a=(ju s a z.1 z.2).choose:=by unfold lS;rw[dif_pos z]
    rw[<-E]at k;refine⟨_,_,k,⟨by simp,λn F l=>mA (Ne.symm l)⟩,oP (aG pn),rfl,λ_ k i e=>by cases k<;>cases e⟩
   .rw[hI z];trivial
open Classical in
theorem dC{s:d_}{size:Int}(i:0<size)(hl:size<=2000000000):∃d j,0<=d/\d<size/\ba.p [.pen,.int size] s=.ok (.int d) j:=by
 have a:size.natAbs.log2<9000:=by
  have y:size.natAbs<=2000000000:=by ext
  have u:size.natAbs.log2<31:=(Nat.log2_lt (by ext)).mpr (by ext);ext
 have z:0<size/\size.natAbs.log2<9000:=⟨i,a⟩;have l:lS s size=(ju s size z.1 z.2).choose:=by unfold lS;rw[dif_pos z]
 have k:=(ju s size z.1 z.2).choose_spec.1;rw[<-l]at k;exact⟨_,_,k.1,k.2,by show(if 0<size/\size.natAbs.log2<9000 then _ else _)=_;rw[c_ z]⟩
def fB:Xd []:=(aO (oQ 2 3 (aa (qs oC (aa (ac 0) a_)) (aa (qs oC (aa (ac 1) a_)) a_)))
 (aO (Ku 2000000 (xB (ag Ep (ac 3) (xC (.int 0)))) (oQ 2 3 (aa (ac 3) (aa (ag mT (ac 2) (ac 3)) a_))) nN)
 (aO (Az (xB (ag Kw (ac 1) (xC (.int 0)))) (bq 2 (x_ ik (ac 2))) nz)
 (bw (aZ (aa (ag CC (ac 0) (ac 2)) (aa (ag CC (ac 1) (ac 2)) a_)))))))
def cA:Fn:=b8 4 2 fB
def t8{a:RR}{s:d_}(h:a.length=2):cA.p a s=(fB.p (lw 4 a) s).fin:=bu h
def gD:Xd [2]:=(aO (dW 2 (bT a_))
 (aO (mI (iY OF (aa (ac 1) a_)) (pf 3) (BD za 2 (aa (ay ba (aa (ac 0) (aa (ag aX (ac 3) (xC (.int 1))) a_))) (aa (ac 3) a_))))
 (j5 2)))
def gJ:Fn:=b8 4 2 gD
def vN{a:RR}{s:d_}(h:a.length=2):gJ.p a s=(gD.p (lw 4 a) s).fin:=bu h
def ia:Xd []:=(bw (ay cA (aa (ag aX (ag bI (ag k_ (ac 0) (xC (.int 0))) (ag k_ (ac 1) (xC (.int 1)))) (ag bI (ag k_ (ac 1) (xC (.int 0))) (ag k_ (ac 0) (xC (.int 1))))) (aa (ag bI (ag k_ (ac 0) (xC (.int 1))) (ag k_ (ac 1) (xC (.int 1)))) a_))))
def c7:Fn:=b8 2 2 ia
def wX{a:RR}{s:d_}(h:a.length=2):c7.p a s=(ia.p (lw 2 a) s).fin:=bu h
def gE:Xd []:=(bw (ay cA (aa (ag bI (ag k_ (ac 0) (xC (.int 0))) (ag k_ (ac 1) (xC (.int 0)))) (aa (ag bI (ag k_ (ac 0) (xC (.int 1))) (ag k_ (ac 1) (xC (.int 1)))) a_))))
def eZ:Fn:=b8 2 2 gE
def vD{a:RR}{s:d_}(h:a.length=2):eZ.p a s=(gE.p (lw 2 a) s).fin:=bu h
def gB:Xd []:=(aO (Az (KP (ac 1)) (bw (aZ (aa (ag bI (ag aX (xC (.int 1)) (ay ba (aa (ac 0) (aa (xC (.int 255)) a_)))) (ag mY (xC (.int 1)) (ag bI (xC (.int 2)) (ay ba (aa (ac 0) (aa (xC (.int 2)) a_)))))) (aa (xC (.int 1)) a_)))) nz)
 (aO (bq 2 (ag mY (ay ba (aa (ac 0) (aa (xC (.int 12)) a_))) (xC (.int 6))))
 (bw (ay cA (aa (ag aX (ac 2) (qs m8 (aa (ag OE (ac 2) (xC (.int 0))) a_))) (aa (ag aX (xC (.int 1)) (ay ba (aa (ac 0) (aa (xC (.int 4)) a_)))) a_))))))
def bD:Fn:=b8 3 2 gB
def vI{a:RR}{s:d_}(h:a.length=2):bD.p a s=(gB.p (lw 3 a) s).fin:=bu h
def gL:Xd [5]:=(aO (bq 4 (ag v4 (ay ba (aa (ac 0) (aa (xC (.int 8)) a_))) (xC (.int 7))))
 (aO (dW 5 (bT a_))
 (aO (mI (iY iE (aa (ac 2) a_)) (AN (v_ (pf 6) (v_ (pf 7) AM)) 2) (aO (bq 8 (qs dH (aa (vB (ac 2) (vz (ag aX (ac 6) (xC (.int 1)))) vv) a_)))
 (aO (bq 9 (qs cE (aa (bO 1 [0,4,3] (bx (ac 8)) (ws':=[]) (pf 0) (xB (ag v4 (ay ba (aa (ac 1) (aa (ac 3) a_))) (xC (.int 0)))) (aZ (aa (ac 0) (aa (ay bD (aa (ac 1) (aa (ac 2) a_))) a_)))) a_)))
 (aO (bq 10 (qs cE (aa (bO 1 [0,4,3] (bx (ac 8)) (ws':=[]) (pf 0) (xB (ag v4 (ay ba (aa (ac 1) (aa (ac 3) a_))) (xC (.int 0)))) (aZ (aa (ac 0) (aa (ay bD (aa (ac 1) (aa (ac 2) a_))) a_)))) a_)))
 (BD uq 5 (aa (aZ (aa (ac 7) (aa (ay bD (aa (ac 0) (aa (ac 4) a_))) (aa (ac 9) (aa (ac 10) a_))))) a_))))))
 (j5 5))))
def gK:Fn:=b8 11 4 gL
def vL{a:RR}{s:d_}(h:a.length=4):gK.p a s=(gL.p (lw 11 a) s).fin:=bu h
section
open L2 (vr nr)
def Hm:Mx PV:=bU (ae (mC (.int 0)) (ae (mC (.int 1)) b_))
noncomputable section
def rD:Xe []:=ag k_ (ag k_ (ac 6) (ac 7)) (ac 12)
def Hn:Yd 6:=C_ (ay c7 (aa rD (aa (ay eZ (aa (ac 13) (aa (ac 14) a_))) a_))) 7 12
def Ho:Yd 6:=oW (bx (ag aX (aZ (aa (aZ (aa (ac 8) (aa (ac 9) a_))) a_)) (ac 10))) (IG (AG (Av 12) (AG (Av 14) IF)) 2) Hn
def Hr:Yd 6:=oW (bx (ag aX (aZ (aa (aZ (aa (ac 8) (aa (aZ (aa (xC (.int 1)) (aa (xC (.int 1)) a_))) a_))) a_)) (ac 11))) (IG (AG (Av 7) (AG (Av 13) IF)) 2) Ho
def o8:Yd 6:=oW (bx (vB (ac 2) vv (vz (ac 3)))) (IG (AG (Av 8) (AG (Av 9) (AG (Av 10) (AG (Av 11) IF)))) 4) Hr
def Df:Yd 6:=Na (oU (xB (ag v4 (ac 7) (ag k_ (ac 1) (ac 3)))) (xB (ag v4 (ac 12) (ac 7)))) (C_ (ay c7 (aa rD (aa (ac 4) a_))) 7 12) (Na (xB (ag v4 (ay ba (aa (ac 0) (aa (xC (.int 2)) a_))) (xC (.int 0)))) (C_ (ay c7 (aa rD (aa (ay bD (aa (ac 0) (aa (xC (.bl I)) a_))) a_))) 7 12) LC)
def Hs:Yd 6:=oW (bx (vB (ac 1) (vz (ac 3)) vv)) (Av 12) Df
def sK:Yd 6:=oW (bx (vB (ac 1) (vz (ac 3)) vv)) (Av 7) Hs
def Ht:Yd 6:=PN o8 sK
def sG:Xe []:=(aZ (aa (ac 5) (aa (qs cE (aa (bO 1 [] (bx (ac 6)) (ws':=[]) (pf 0) qo (qs cE (aa (bO 2 [] (iY iE (aa (ac 0) a_)) (ws':=[]) (AN (v_ (pf 0) (v_ (pf 1) AM)) 2) (xB (ag AF (ac 1) (aZ (aa (xC (.int 0)) (aa (xC (.int 1)) a_))))) (aZ (aa (ac 0) (aa (ac 1) a_)))) a_))) a_)) a_)))
end
def wh:n0:=(bi (bt 5 (n_ oh (ae (af 1) b_)))
 (bi (bt 6 (bv 1 [5] (dA (ae (af 5) b_)) (m_ 0) mh (bv 1 [] (dA (ae (af 1) b_)) (m_ 0) mh (bU (ae (mC (.int 0)) (ae (mC (.int 1)) b_))))))
 (bi (fD (cH (Kc (af 2) Ka (Kb (af 3)))) (Ao (sk (m_ 8) (sk (m_ 9) (sk (m_ 10) (sk (m_ 11) An)))) 4) (fD (cH (ao l_ (bU (ae (bU (ae (af 8) (ae (bU (ae (mC (.int 1)) (ae (mC (.int 1)) b_))) b_))) b_)) (af 11))) (Ao (sk (m_ 7) (sk (m_ 13) An)) 2) (fD (cH (ao l_ (bU (ae (bU (ae (af 8) (ae (af 9) b_))) b_)) (af 10))) (Ao (sk (m_ 12) (sk (m_ 14) An)) 2) (ja (bo c7.m (ae (ao aM (ao aM (af 6) (af 7)) (af 12)) (ae (bo eZ.m (ae (af 13) (ae (af 14) b_))) b_))) (BA (ao aM (af 6) (af 7)) (af 12))))))
 (bi (fD (cH (Kc (af 1) (Kb (af 3)) Ka)) (m_ 7) (fD (cH (Kc (af 1) (Kb (af 3)) Ka)) (m_ 12) (zJ (B3 (mB (ao zL (af 7) (ao aM (af 1) (af 3)))) (mB (ao zL (af 12) (af 7)))) (ja (bo c7.m (ae (ao aM (ao aM (af 6) (af 7)) (af 12)) (ae (af 4) b_))) (BA (ao aM (af 6) (af 7)) (af 12))) (zJ (mB (ao zL (bo cF (ae (af 0) (ae (mC (.int 2)) b_))) (mC (.int 0)))) (ja (bo c7.m (ae (ao aM (ao aM (af 6) (af 7)) (af 12)) (ae (bo bD.m (ae (af 0) (ae (mC (.bl I)) b_))) b_))) (BA (ao aM (af 6) (af 7)) (af 12))) kq))))
 (bC (bU (ae (af 5) (ae (n_ v9 (ae (bv 1 [] (cH (af 6)) (m_ 0) mh (n_ v9 (ae (bv 2 [] (kW (ae (af 0) b_)) (Ao (sk (m_ 0) (sk (m_ 1) An)) 2) (mB (ao yJ (af 1) (bU (ae (mC (.int 0)) (ae (mC (.int 1)) b_))))) (bU (ae (af 0) (ae (af 1) b_)))) b_))) b_)) b_))))))))
def vY:wh=bi (bt 5 (n_ oh (ae (af 1) b_)))
 (bi (bt 6 (bv 1 [5] (dA (ae (af 5) b_)) (m_ 0) mh (bv 1 [] (dA (ae (af 1) b_)) (m_ 0) mh Hm)))
 (bi o8.m (bi sK.m (bC sG.m)))):=rfl
def iK:RL->MH->RB:=bP 15 5 wh
def se(n:Nat):List Rd:=List.replicate n (Y,List.replicate n (.tup [.int 0,.int 1]))
def LD(i j:RR)(a:Int)(own:D):aq:=[J .pen,J (.lst i),J (.lst j),J (.int a),J own,J (.int i.length),J (cz (se i.length)),Y,Y,Y,Y,Y,Y,Y,Y]
def Nc(u:RR)(s:d_):PR D:=match u with
 |[.pen,.lst i,.lst y,.int a,own]=>if flat own=I/\i.length<900 then (match Ht.p (LD i y a own) (se i.length) s with
  |some (env,rd,j)=>(match sG.p env j with
   |.ok d l=>if flat d=I then .ok d l else .bad
   |_=>.bad)
  |none=>.bad)else .bad
 |_=>.bad
section
variable{q:Nat}{h0 h h':MH}{s s':d_}{a:Nat}{ms:RQ}{rd rd':List Rd}{O:RQ}
def yb{it:MIt}(i:∀h,it.ok h):∀(xs ys:RL)(z:RK)(h:MH)(m:Nat),m=h.length->ys.length+xs.length<1000->v7 it m (m_ 0) mh Hm xs [z] (h++[.lst ys])=.ok () (h++[.lst (ys++List.replicate xs.length (.tup [.int 0,.int 1]))])
 |[],ys,z,h,m,hm,hl=>by rw[jz (i _)];simp
 |x::xs,ys,z,h,m,hm,hl=>by
  subst hm;have l:Hm [J x] (h++[.lst ys])=.ok (.tup [.int 0,.int 1]) (h++[.lst ys]):=by unfold Hm bU;simp[m2,sizeLine]
  rw[jx (Z1:=[J x]) (h1:=h++[.lst ys]) (h2:=h++[.lst ys]) (h3:=h++[.lst ys]) (i _) rfl rfl l j7 (by simp at hl;ext)];have j:(h++[MO.lst ys]).set h.length (.lst (ys++[.tup [.int 0,.int 1]]))=h++[.lst (ys++[.tup [.int 0,.int 1]])]:=by simp
  rw[j,yb i xs _ (J x) h _ rfl (by simp at hl ⊢;ext),Ax,Ih,A7];rfl
def uS{it:MIt}{n:Nat}(F:n<900)(l:∀h,it.ok h):∀(xs:RL)(i:List Rd)(ms:RQ)(z:RK)(h:MH),Gr h h0.length a ms i->h0.length<=h.length->(∀j:Nat,j<h0.length->h[j]?=h0[j]?)->ms.length+xs.length<1000 ->
  ∃h' u,v7 it a (m_ 0) mh (bv 1 [] (dA (ae (af 1) b_)) (m_ 0) mh Hm) xs [z,J (.int (n:Int))] h=.ok () h'/\Gr h' h0.length a u (i++List.replicate xs.length (Y,List.replicate n (.tup [.int 0,.int 1])))/\h0.length<=h'.length/\∀j:Nat,j<h0.length->h'[j]?=h0[j]?
 |[],i,ms,z,h,g,hl,kp,y=>⟨h,ms,jz (l h),by simpa using g,hl,kp⟩
 |x::xs,i,ms,z,h,g,hl,kp,y=>by
  have rep:∀k:Nat,e_ (List.replicate k (D.tup [.int 0,.int 1]))=I/\Rps 0 [] [] (List.replicate k (D.tup [.int 0,.int 1])) (List.replicate k (.tup [.int 0,.int 1])):=λk=>by
   induction k with
   |zero=>exact⟨rfl,rfl⟩
   |succ k B=>exact⟨by simp[Ih,e_,flat,B.1],_,_,rfl,⟨_,rfl,_,_,rfl,rfl,_,_,rfl,rfl,rfl⟩,B.2⟩
  have P:=uQ g (r:=(Y,List.replicate n (.tup [.int 0,.int 1]))) (xs:=List.replicate n (.tup [.int 0,.int 1])) hl (rep n).1 (rep n).2;have Q:=g.ge a (by simp);obtain⟨h',u,H,M,C,G⟩:=uS F l xs _ _ (J x) _ P (by simp;ext) (λj L=>by rw[mA (by ext),qp (by ext)];exact kp j L) (by simp at y ⊢;ext);refine⟨h',u,?_,by rw[Ax,Ih,List.append_cons];exact M,C,G⟩;have E:bv 1 [] (dA (ae (af 1) b_)) (m_ 0) mh Hm [J x,J (.int (n:Int))] h=.ok (.loc h.length) (h++[.lst (List.replicate n (.tup [.int 0,.int 1]))]):=by rw[fR,Gn (n:=n) (h1:=h) rfl (by ext),Out.bind_ok];refine(congrArg (λz:Out Unit=>z.bind _) (yb (it:=⟨bE 0 n,[]⟩) (λ_=>fe.mpr trivial) (bE 0 n) [] Y h h.length rfl (by rw[MM.dY];simp;ext))).trans ?_;rw[MM.dY,NF];rfl
  rw[jx (Z1:=[J x,J (.int (n:Int))]) (h1:=h) (h2:=h) (v:=.loc h.length) (h3:=h++[mo Y (List.replicate n (.tup [.int 0,.int 1]))]) (ys:=ms.map .loc) (l h) rfl rfl E (by rw[qp (aG g.top)];exact g.top) (by simp at y ⊢;ext)];exact H
end
def li:Fn where
 m:=iK
 p:=Nc
 fr:=I
 ok {q h O vs ds s} bd hq pn r:=by
  unfold Nc;split
  .rename_i u wk l own
   split
   .rename_i cn
    obtain⟨fo,hn⟩:=cn;split
    .rename_i env rd s1 ew
     split
     .rename_i d s2 ed
      split
      .rename_i fd
       obtain⟨v0,t0,rfl,X,v1,t1,rfl,L,C,t2,rfl,R,v3,t3,rfl,W,B,t4,rfl,U,G⟩:=r;rw[show t4=[]from G];rw[show v0=PV.loc q from X,show v3=PV.int l from W];have F:=L;obtain⟨y,S,rfl,nO,eo,ro⟩:=L;have ol:S.length=u.length:=ro.length;have E:q<h.length:=bd q hq;obtain⟨M,ms,e1,g1,l1,k1⟩:=uS (h0:=h) (a:=h.length) (n:=u.length) (it:=⟨bE 0 u.length,[]⟩) (by ext) (λ_=>fe.mpr trivial) (bE 0 u.length) [] [] Y (h++[.lst []]) ⟨by simp,rfl,by simp,λm hm=>by simp at hm;ext,λi r e=>by simp at e⟩ (by simp) (λn hn=>qp hn) (by rw[MM.dY];simp;ext);rw[MM.dY,NF]at g1;have I0:YI 6 q h M O h.length ms (se u.length) [] [J (.loc q),J (.loc y),J C,J (.int l),J B,J (.int u.length),J (.loc h.length),Y,Y,Y,Y,Y,Y,Y,Y] (LD u wk l own) s:=by
        refine⟨l1,λj Q _=>k1 j Q,by unfold bh;rw[k1 q E];exact pn,g1,rfl,rfl,rfl,λi d P e=>?_,λz hz=>nomatch hz⟩
        match i,P,e with
        |0,_,e=>cases e;exact⟨_,rfl,rfl⟩
        |1,_,e=>cases e;exact⟨_,rfl,F⟩
        |2,_,e=>cases e;exact⟨_,rfl,R⟩
        |3,_,e=>cases e;exact⟨_,rfl,rfl⟩
        |4,_,e=>cases e;exact⟨_,rfl,U⟩
        |5,_,e=>cases e;exact⟨_,rfl,rfl⟩
        |6,P,e=>exact absurd rfl P
        |7,_,e | 8,_,e | 9,_,e | 10,_,e | 11,_,e | 12,_,e | 13,_,e | 14,_,e=>cases e
        |n+15,_,e=>simp[LD]at e
       obtain⟨Z2,h2,em,I2⟩:=Ht.ok bd hq I0 ew;have kr:=sG.ok (I2.cx bd hq);rw[ed]at kr;obtain⟨v,Z,e3,kb,H,_,rz,_⟩:=kr;have I3:=I2.kb E kb H;have run:iK [.loc q,.loc y,C,.int l,B] h=.ok v Z:=by
        unfold iK;rw[bJ (by rfl)];rw[vY];rw[show aY 15 [.loc q,.loc y,C,.int l,B]=[J (.loc q),J (.loc y),J C,J (.int l),J B,Y,Y,Y,Y,Y,Y,Y,Y,Y,Y]from rfl];have c1:bt 5 (n_ oh (ae (af 1) b_)) [J (.loc q),J (.loc y),J C,J (.int l),J B,Y,Y,Y,Y,Y,Y,Y,Y,Y,Y] h=.nx [J (.loc q),J (.loc y),J C,J (.int l),J B,J (.int u.length),Y,Y,Y,Y,Y,Y,Y,Y,Y] h:=by
         have:n_ oh (ae (af 1) b_) [J (.loc q),J (.loc y),J C,J (.int l),J B,Y,Y,Y,Y,Y,Y,Y,Y,Y,Y] h=.ok (.int u.length) h:=by show(oh [.loc y] h).ne=_;rw[zf eo,ol];rfl
         rw[cU,this];rfl
        have c2:bt 6 (bv 1 [5] (dA (ae (af 5) b_)) (m_ 0) mh (bv 1 [] (dA (ae (af 1) b_)) (m_ 0) mh Hm)) [J (.loc q),J (.loc y),J C,J (.int l),J B,J (.int u.length),Y,Y,Y,Y,Y,Y,Y,Y,Y] h=.nx [J (.loc q),J (.loc y),J C,J (.int l),J B,J (.int u.length),J (.loc h.length),Y,Y,Y,Y,Y,Y,Y,Y] M:=by rw[cU,fR,Gn (n:=u.length) (h1:=h) rfl (by ext),Out.bind_ok];refine(congrArg (λz:Out Unit=>(z.bind _).go _ _) e1).trans ?_;rfl
        rw[aU,c1,MM.aw,aU,c2,MM.aw];have em:(bi o8.m sK.m) _ M=.nx Z2 h2:=em;rw[aU]at em;rw[aU]
        cases z1:o8.m [J (.loc q),J (.loc y),J C,J (.int l),J B,J (.int u.length),J (.loc h.length),Y,Y,Y,Y,Y,Y,Y,Y] M with
        |nx Z3 h4 =>
         rw[z1,MM.aw]at em;rw[MM.aw,aU,em,MM.aw,jE,e3];rfl
        |_=>rw[z1]at em;cases em
       refine⟨v,Z,run,⟨I3.len,λj Q nq=>I3.mv j Q nq⟩,H,Rp.fq fd (rz rfl),λ_ kk ab e=>?_⟩;rw[e]at fd;cases kk<;>simp[dl,flat]at fd
      .trivial
     .trivial
    .trivial
   .trivial
  .trivial
end
def eO:Xd []:=(aO (Az (Ek (xB (ag (QF T) (ac 0) (xC .non))) (hZ (xB (x_ (lz ["NoOrder","NoPivot"] ["NoOrder","NoPivot"]) (ac 0))))) (bw (xC (.str ""))) nz)
 (aO (bq 1 (x_ (lz ["NoOrder","NoPivot"] ([]++([]++([]++([]++([]++([]++([]++([]++([]++[])))))))))) (ac 0)))
 (bw (M2 Ey (xC (.str "")) (aa (bT (aa (ag k_ (bT (aa (xC (.str "")) (aa (xC (.str "pivot")) a_))) (qs m8 (aa (x_ (lz ["NoOrder","NoPivot"] ["NoPivot"]) (ac 0)) a_))) (aa (ag k_ (bT (aa (xC (.str "")) (aa (xC (.str "order")) a_))) (qs m8 (aa (x_ (lz ["NoOrder","NoPivot"] ["NoOrder"]) (ac 0)) a_))) (aa (ag k_ (bT (aa (xC (.str "")) (aa (xC (.str "other")) a_))) (qs m8 (aa (ac 1) a_))) a_)))) a_)))))
def c9:Fn:=b8 2 1 eO
def lj{a:RR}{s:d_}(h:a.length=1):c9.p a s=(eO.p (lw 2 a) s).fin:=bu h
def gH:Xd []:=(aO (bq 2 (xC .non))
 (aO (bq 3 (xC .non))
 (aO (qX "NoPivot" "place" ["NoOrder"] 2 3 4 (gf (ay bc (aa (ac 0) (aa (ac 1) a_)))))
 (bw (aZ (aa (ay c9 (aa (ac 2) a_)) (aa (ac 3) a_)))))))
def be:Fn:=b8 5 2 gH
def vX{a:RR}{s:d_}(h:a.length=2):be.p a s=(gH.p (lw 5 a) s).fin:=bu h
def dB:Xd [4]:=(aO (bq 2 (qs pF (aa (ac 1) a_)))
 (aO (bq 3 (ay ba (aa (ac 0) (aa (ac 2) a_))))
 (aO (dW 4 (bO 1 [1,3] (bx (aZ (aa (ac 2) (aa (x_ ik (xC (.int 1))) (aa (xC (.bl I)) (aa (xC .non) (aa (xC (.str "0")) (aa (bT (aa (xC (.int 0)) a_)) (aa (ag pg (xC (.int 10)) (xC (.int 60))) a_))))))))) (ws':=[]) (pf 0) qo (ag aX (ag aX (vB (ac 1) vv (vz (ac 2))) (bT (aa (ac 0) a_))) (vB (ac 1) (vz (ag aX (ac 2) (xC (.int 1)))) vv))))
 (aO (dW 4 (ag aX (ac 4) (bT (aa (vB (ac 1) vv (vz (x_ ik (xC (.int 1))))) (aa (ag aX (ac 1) (bT (aa (ag k_ (ac 1) (ac 3)) a_))) (aa (ag aX (ac 1) (bT (aa (ac 2) a_))) (aa (qs cE (aa (ac 1) a_)) (aa (xC .non) (aa (ac 2) (aa (xC (.str "order")) (aa AL a_)))))))))))
 (aO (Az (xB (ag Ep (ac 2) (xC (.int 1)))) (BD uq 4 (aa (ag aX (ag aX (vB (ac 1) vv (vz (ac 3))) (bT (aa (ag k_ (ac 1) (ag mY (ac 3) (xC (.int 1)))) a_))) (vB (ac 1) (vz (ag aX (ac 3) (xC (.int 1)))) vv)) a_)) nz)
 (j5 4))))))
def cS:Fn:=b8 5 2 dB
def pJ{a:RR}{s:d_}(h:a.length=2):cS.p a s=(dB.p (lw 5 a) s).fin:=bu h
def gy:Xd []:=(aO (bq 1 (ag aX (xC (.int 1)) (ay ba (aa (ac 0) (aa (xC (.int 6)) a_)))))
 (aO (bq 2 (ay gJ (aa (ac 0) (aa (ac 1) a_))))
 (aO (bq 3 (ay gK (aa (ac 0) (aa (ac 1) (aa (ac 2) (aa (ag aX (xC (.int 1)) (ay ba (aa (ac 0) (aa (xC (.int 3)) a_)))) a_))))))
 (aO (bq 4 (ay ba (aa (ac 0) (aa (ac 1) a_))))
 (aO (bq 5 (nJ li 0 (aa (ac 2) (aa (ac 3) (aa (ac 4) (aa (aZ (aa (xC (.int 0)) (aa (xC (.int 1)) a_))) a_))))))
 (aO (tF (ay be (aa (ac 5) (aa (qs oo (aa (ac 2) a_)) a_))) (AN (v_ (pf 7) (v_ (pf 8) AM)) 2))
 (aO (Az (Ek (xB (ag AF (ac 7) (xC (.str "pivot")))) (Ek (hZ (xB (x_ (fX ["int"]) (ac 8)))) (Ek (xB (x_ (fX ["bool"]) (ac 8))) (xB (ag AF (ac 8) (ag k_ (ac 2) (ac 4))))))) (bw (xC (.bl T))) nz)
 (aO (mI (bx (nJ cS 0 (aa (ac 2) a_))) (pf 6) (Az (xB (ag AF (ay be (aa (ac 5) (aa (ac 6) a_))) (aZ (aa (xC (.str "order")) (aa (xC .non) a_))))) (bw (xC (.bl T))) nz))
 (aO (tF (ay be (aa (ay li (aa (ac 0) (aa (ac 2) (aa (ac 3) (aa (ac 4) (aa (aZ (aa (xC (.int 1)) (aa (xC (.int 2)) a_))) a_)))))) (aa (qs oo (aa (ac 2) a_)) a_))) (AN (v_ (pf 7) (v_ (pf 8) AM)) 2))
 (bw (sF (ag v4 (ac 7) (xC (.str ""))) (kE (ag v4 (ac 7) (xC (.str "pivot"))) (ag (Kz T) (ac 8) (vB (ac 2) (vz (ag aX (ac 4) (xC (.int 1)))) vv))))))))))))))
def cV:Fn:=b8 9 1 gy
def wj{a:RR}{s:d_}(h:a.length=1):cV.p a s=(gy.p (lw 9 a) s).fin:=bu h
def Bt:n0:=(bi (fD (cH (bU (ae (mC .non) (ae (bU b_) (ae (bX (ae (mC (.int 0)) b_)) (ae (bX (ae (mC (.bl I)) b_)) (ae (mC (.int 0)) (ae (mC (.str "")) (ae Bn b_))))))))) (m_ 1) (zJ (mB (ao yJ (bo be.m (ae (bU (ae (mC (.int 0)) (ae (bU b_) b_))) (ae (af 1) b_))) (bU (ae (mC (.str "order")) (ae (mC .non) b_))))) (bC (mC (.bl T))) kq))
 (bC (n_ Ap (ae (bv 1 [0] (dA (ae (n_ AJ (ae (mC (.int 1)) (ae (n_ zM (ae (n_ oh (ae (af 0) b_)) (ae (mC (.int 10)) b_))) b_))) b_)) (m_ 0) mh (bo cV.m (ae (bo hV (ae (af 1) (ae (af 0) b_))) b_))) b_))))
def AX:RL->MH->RB:=bP 2 1 Bt
abbrev lm:=cV.m
def tT:cV.m=lm:=rfl
end
def yX{lo:Int}{c:Nat}:(gS lo c).length=c:=by simp[gS]
def zV{c i:Nat}{x:D}(h:(gS 0 c)[i]?=J x):x=.int (i:Int)/\i<c:=by unfold gS at h;rw[tx,Ai]at h;obtain⟨k,j,rfl⟩:=h;obtain⟨a,b⟩:=pj.mp j;simp at a b;subst b;exact⟨by simp,a⟩
def pH{j:RQ}{env:aq}{s s1:d_}{o:En}{i:Nat}{a:Xs j}{u:j.contains i=I}{l:a.fz=I}{as ds ds':RR}{r:D}(e1:a.p env s=.ok as s1)(e2:env[i]?=J (J (.lst ds)))(e3:o.p ds as=J (r,ds')):(BD o i a u l).p env s=.nx (env.set i (J (.lst ds'))) s1:=by rw[KI,wK e1 e2 e3]
abbrev nD(t b:Int):D:=.tup [.int t,.int b]
def kC{a b:Int}(i:0<=a)(j:0<=b):Int.gcd b (a % b)=Int.gcd a b:=by obtain⟨m,rfl⟩:=Qd i;obtain⟨n,rfl⟩:=Qd j;show Nat.gcd n (m % n)=Nat.gcd m n;rw[Nat.gcd_comm m n,Nat.gcd_rec n m,Nat.gcd_comm]
def tL{a b:Int}(i:0<b):mT.p (.int a) (.int b)=J (.int (a % b)):=by rw[CG (by ext),L0 _ (by ext)]
def su{a b:Int}(i:b≠0):CC.p (.int a) (.int b)=J (.int (a.fdiv b)):=c_ i
def ly{a b:Int}(i:0<b):CC.p (.int a) (.int b)=J (.int (a/b)):=by rw[su (by ext),Int.fdiv_eq_ediv_of_nonneg _ (by ext)]
def Hu{a:Int}:(if a<0 then -a else a)=(a.natAbs:Int):=by split<;>ext
def yk{a:Int}:oC.p [.int a]=J (.int (a.natAbs:Int)):=by show J (D.int (if a<0 then -a else a))=_;rw[Hu]
def EB{a:RQ}{N:Nat}{t:Xt a}{b:Xd a}(hm:∀{Z h n},cy t.m b.m n Z h≠.bad->F1 t.m b.m Z h=cy t.m b.m n Z h){env:aq}{s:d_}:(Ku N t b hm).p env s=dQ t.p b.p N env s:=rfl
def tq{b r:Int}(a:0<r)(y:r<b):0<=b % r/\b % r<r/\2*(b % r)<b:=by
 have j:=IW b (show r≠0 by ext);have l:=IS b a;have u:=Int.mul_ediv_add_emod b r;have i:1<=b/r:=by rw[Int.le_ediv_iff_mul_le a];ext
 have z:r*1<=r*(b/r):=Int.mul_le_mul_of_nonneg_left i (by ext);ext
def eW{a:Int}(h:0<=a):((Int.gcd a 0:Nat):Int)=a:=by rw[Int.gcd_zero_right];ext
abbrev Dg:Xt []:=xB (ag Ep (ac 3) (xC (.int 0)))
abbrev Dh:Xd []:=oQ 2 3 (aa (ac 3) (aa (ag mT (ac 2) (ac 3)) a_))
def LF{x y:RE}{a b:Int}{n:Nat}{s:d_}(i:0<b):dQ Dg.p Dh.p (n+1) [x,y,J (.int a),J (.int b)] s=dQ Dg.p Dh.p n [x,y,J (.int b),J (.int (a % b))] s:=by rw[dQ];simp[tL i,i,PR.bl]
def Hv{x y:RE}{a:Int}{n:Nat}{s:d_}:dQ Dg.p Dh.p (n+1) [x,y,J (.int a),J (.int 0)] s=.nx [x,y,J (.int a),J (.int 0)] s:=by rw[dQ];simp[PR.bl]
def Di{x y:RE}{s:d_}:∀(k n:Nat)(a b:Int),0<=a->0<=b->b<2^k->2*k+1<=n->dQ Dg.p Dh.p n [x,y,J (.int a),J (.int b)] s=.nx [x,y,J (.int (Int.gcd a b)),J (.int 0)] s:=by
 intro k
 induction k with
 |zero =>
  intro n a b l j u B;obtain⟨m,rfl⟩:∃m,n=m+1:=⟨n-1,by ext⟩
  have:b=0:=by simp at u;ext
  subst this;rw[Hv,eW l]
 |succ k C =>
  intro n a b l j u B;obtain⟨m,rfl⟩:∃m,n=m+1+1:=⟨n-2,by ext⟩;by_cases e:b=0
  .subst e;rw[Hv,eW l]
  .have i:0<b:=by ext
   rw[LF i,<-kC l j];have r0:=IW a e;have z:=IS a i;generalize a % b=r at r0 z ⊢;by_cases E:r=0
   .subst E;rw[Hv,eW j]
   .obtain⟨F,H,G⟩:=tq (b:=b) (r:=r) (by ext) z;rw[LF (by ext),<-kC j r0];refine C m r (b % r) r0 F ?_ (by ext);rw[Int.pow_succ]at u;ext
abbrev qD(q:Rat):D:=nD q.num (q.den:Int)
def sz(q:Rat):Nat:=max (q.num.natAbs.log2+1) (q.den.log2+1)
def ww(n:Nat):n<2^(n.log2+1):=Nat.lt_log2_self
def cK(q:Rat):q.num.natAbs<2^sz q:=r_ (ww _) (Nq (by decide) (Nat.le_max_left _ _))
def bM(q:Rat):q.den<2^sz q:=r_ (ww _) (Nq (by decide) (Nat.le_max_right _ _))
def rY{n k:Nat}(a:0<k)(h:n<2^k):n.log2+1<=k:=by
 rcases Nat.eq_zero_or_pos n with e|e
 .subst e;simp only[Nat.log2_zero];ext
 .exact (Nat.log2_lt (by ext)).mpr h
def LG{q:Rat}{k:Nat}(a:0<k)(j:q.num.natAbs<2^k)(i:q.den<2^k):sz q<=k:=Nat.max_le.mpr ⟨rY a j,rY a i⟩
def sA(q:Rat):0<sz q:=r_ (Nat.succ_pos _) (Nat.le_max_left _ _)
def ou(t:Int)(b:Nat)(a:b≠0):(Rat.divInt t b).num=t/(Nat.gcd t.natAbs b:Int)/\(Rat.divInt t b).den=b/Nat.gcd t.natAbs b:=by rw[Rat.divInt_ofNat];unfold mkRat;rw[dif_neg a,Rat.normalize_eq];exact⟨rfl,rfl⟩
def Dj{t:Int}{g:Nat}:(t/(g:Int)).natAbs<=t.natAbs:=Int.natAbs_ediv_le_natAbs t g
def jy{t:Int}{b k:Nat}(l:b≠0)(j:0<k)(i:t.natAbs<2^k)(a:b<2^k):sz (Rat.divInt t b)<=k:=by
 obtain⟨e1,e2⟩:=ou t b l;refine LG j ?_ ?_
 .rw[e1];exact Nat.lt_of_le_of_lt Dj i
 .rw[e2];exact Nat.lt_of_le_of_lt (Nat.div_le_self _ _) a
def oR(p q:Rat):p+q=Rat.divInt (p.num*q.den+q.num*p.den) ((p.den*q.den:Nat):Int):=by
 have:=Rat.divInt_add_divInt p.num q.num (d₁:=p.den) (d₂:=q.den) (by have:=p.den_nz;ext) (by have:=q.den_nz;ext)
 rw[Rat.num_divInt_den,Rat.num_divInt_den]at this;rw[this];push_cast;rfl
def jH(p q:Rat):p*q=Rat.divInt (p.num*q.num) ((p.den*q.den:Nat):Int):=by
 have:=Rat.divInt_mul_divInt p.num q.num (d₁:=p.den) (d₂:=q.den)
 rw[Rat.num_divInt_den,Rat.num_divInt_den]at this;rw[this];push_cast;rfl
def ff{a b j k:Nat}(l:a<2^j)(i:b<2^k):a*b<2^(j+k):=by rw[Nat.pow_add];exact NC l i
def x6(p q:Rat):sz (p*q)<=sz p+sz q:=by rw[jH];refine jy (Mi p.den_nz q.den_nz) (by have:=sA p;ext) ?_ (ff (bM p) (bM q));rw[DS];exact ff (cK p) (cK q)
def Hw(p:Rat):sz (-p)=sz p:=by unfold sz;rw[Rat.neg_num,Rat.neg_den,Int.natAbs_neg]
def m5{t:Int}{b k:Nat}{s:d_}(E:b≠0)(C:b<2^k)(F:k<=950000):cA.p [.int t,.int (b:Int)] s=.ok (qD (Rat.divInt t b)) s:=by
 obtain⟨e1,e2⟩:=ou t b E;have i:((b:Nat):Int)<2^k:=by
  have:=Int.ofNat_lt.mpr C
  simpa using this
 have j:0<(Nat.gcd t.natAbs b:Int):=by
  have:0<Nat.gcd t.natAbs b:=Qc _ (by ext)
  ext
 rw[t8 (by rfl)];unfold fB;have B:lw 4 [D.int t,.int (b:Int)]=[J (.int t),J (.int (b:Int)),Y,Y]:=rfl;have q:=Di (x:=J (.int t)) (y:=J (.int (b:Int))) (s:=s) k 2000000 (t.natAbs:Int) ((b:Int).natAbs:Int) (by ext) (by ext) (by simpa using i) (by ext);rw[B];simp![aK,GL,ce,yk,Pf,Pg,va,tr,PU.aw];rw[EB nN];refine(congrArg (λz:PS=>(z.then _).fin) q).trans ?_;rw[Int.gcd_natCast_natCast,Int.natAbs_natCast];have u:=ly (a:=t) j;have l:=ly (a:=(b:Int)) j;rw[qD,e1,e2];simp[PR.bl,show ¬(b:Int)<0 by ext,u,l]
def uK{a:Int}{k:Nat}(h:a.natAbs<2^k)(i:k<=1000000):Builtin.Int.intBits a<=2^20:=by
 unfold Builtin.Int.intBits;rcases Nat.eq_zero_or_pos k with e|e
 .subst e
  have:a.natAbs=0:=by simpa using h
  rw[this];split<;>simp
 .have:=rY e h
  split<;>ext
def b7{a b:Int}{j k:Nat}(y:a.natAbs<2^j)(i:b.natAbs<2^k)(l:j<=1000000:=by ext)(u:k<=1000000:=by ext):bI.p (.int a) (.int b)=J (.int (a*b)):=c_ (IntMulOk.of_bits (uK y l) (uK i u))
def z0{x y:D}:nr [x,y] 0=J x:=rfl
def z1{x y:D}:nr [x,y] 1=J y:=rfl
def sB{p q:Rat}{s:d_}(h:sz p+sz q<=900000):c7.p [qD p,qD q] s=.ok (qD (p+q)) s:=by
 have y:=cK p;have u:=bM p;have z:=cK q;have i:=bM q;rw[wX (by rfl)];unfold ia;rw[show lw 2 [qD p,qD q]=[J (qD p),J (qD q)]from rfl];have l:=m5 (t:=p.num*q.den+q.num*p.den) (b:=p.den*q.den) (s:=s) (Mi p.den_nz q.den_nz) (ff (bM p) (bM q)) (by ext);rw[<-oR,IY]at l
 simp![bZ,aJ,aI,bg,aT,lE,z0,z1,Pf,b7 (b:=(q.den:Int)) (k:=sz q) y (by simpa using i),b7 (b:=(p.den:Int)) (k:=sz p) z (by simpa using u),cQ,l,Pg,PU.cr,b7 (a:=(p.den:Int)) (b:=(q.den:Int)) (j:=sz p) (k:=sz q) (by simpa using u) (by simpa using i)]
def Dk{p q:Rat}{s:d_}(h:sz p+sz q<=900000):eZ.p [qD p,qD q] s=.ok (qD (p*q)) s:=by have u:=cK p;have y:=bM p;have z:=cK q;have i:=bM q;rw[vD (by rfl)];unfold gE;rw[show lw 2 [qD p,qD q]=[J (qD p),J (qD q)]from rfl];have l:=m5 (t:=p.num*q.num) (b:=p.den*q.den) (s:=s) (Mi p.den_nz q.den_nz) (ff (bM p) (bM q)) (by ext);rw[<-jH,IY]at l;simp![bZ,aJ,aI,bg,aT,lE,z0,z1,Pf,b7 u z,b7 (a:=(p.den:Int)) (b:=(q.den:Int)) (j:=sz p) (k:=sz q) (by simpa using y) (by simpa using i),l,Pg,PU.cr]
abbrev Nd:Xt []:=xB (ag AF (ac 1) (xC (.int 0)))
abbrev Nf:Xd []:=(aO (bq 2 (ag mT (ac 0) (ac 1))) (aO (bq 0 (ac 1)) (bq 1 (ac 2))))
def QN{x:RE}{a b:Int}{n:Nat}{s:d_}(i:0<b):dQ Nd.p Nf.p (n+1) [J (.int a),J (.int b),x] s=dQ Nd.p Nf.p n [J (.int b),J (.int (a % b)),J (.int (a % b))] s:=by rw[dQ];simp[tL i,PR.bl,show ¬b=0 by ext]
def PP{x:RE}{a:Int}{n:Nat}{s:d_}:dQ Nd.p Nf.p (n+1) [J (.int a),J (.int 0),x] s=.nx [J (.int a),J (.int 0),x] s:=by rw[dQ];simp[PR.bl]
def Hx{s:d_}:∀(k n:Nat)(a b:Int)(x:RE),0<=a->0<=b->b<2^k->2*k+1<=n->∃F,dQ Nd.p Nf.p n [J (.int a),J (.int b),x] s=.nx [J (.int (Int.gcd a b)),J (.int 0),F] s:=by
 intro k
 induction k with
 |zero =>
  intro n a b x l j u z;obtain⟨m,rfl⟩:∃m,n=m+1:=⟨n-1,by ext⟩
  have:b=0:=by simp at u;ext
  subst this;exact⟨x,by rw[PP,eW l]⟩
 |succ k B =>
  intro n a b x l j u z;obtain⟨m,rfl⟩:∃m,n=m+1+1:=⟨n-2,by ext⟩;by_cases e:b=0
  .subst e;exact⟨x,by rw[PP,eW l]⟩
  .have i:0<b:=by ext
   rw[QN i,<-kC l j];have r0:=IW a e;have y:=IS a i;generalize a % b=r at r0 y ⊢;by_cases C:r=0
   .subst C;exact⟨_,by rw[PP,eW j]⟩
   .obtain⟨E,H,G⟩:=tq (b:=b) (r:=r) (by ext) y;rw[QN (by ext),<-kC j r0];refine B m r (b % r) _ r0 E ?_ (by ext);rw[Int.pow_succ]at u;ext
def LH{a k:Nat}(h:a<2^k):((a:Nat):Int)<2^k:=by
 have:=Int.ofNat_lt.mpr h
 simpa using this
def zZ{a b k:Nat}{s:d_}(i:b<2^k)(l:k<=950000):cq.p [.int (a:Int),.int (b:Int)] s=.ok (.int (Nat.gcd a b:Int)) s:=by rw[kZ (by rfl)];unfold cj;obtain⟨j,q⟩:=Hx (s:=s) k 2000000 (a:Int) (b:Int) Y (by ext) (by ext) (LH i) (by ext);rw[show lw 3 [D.int (a:Int),.int (b:Int)]=[J (.int (a:Int)),J (.int (b:Int)),Y]from rfl,aK,EB nN];refine(congrArg (λz:PS=>(z.then _).fin) q).trans ?_;simp
def uM{i:Int}{s:d_}:bG.p [.int i] s=.ok (.bl I) s:=by rw[mf (by rfl)];unfold d4;have e1:(fX ["int"]).p (.int i)=J (.bl I):=rfl;have e2:(fX ["bool"]).p (.int i)=J (.bl T):=rfl;rw[show lw 1 [D.int i]=[J (.int i)]from rfl];dsimp![bZ,uk,lW,au,e1,e2,PR.bl,if_true,CD,I_,Pg,PU.cr]
def Hy{t b:Int}(a:b≠0):Rat.divInt t b=Rat.divInt (if b<0 then -t else t) (b.natAbs:Nat):=by
 split
 .have:((b.natAbs:Nat):Int) = -b:=by ext
  rw[this];exact(Rat.neg_divInt_neg t b).symm
 .have:((b.natAbs:Nat):Int)=b:=by ext
  rw[this]
def wF{t:Int}{g:Nat}(hg:0<g)(hd:(g:Int) ∣ t):t.fdiv (-(g:Int))=(-t)/(g:Int):=by
 obtain⟨c,rfl⟩:=hd;have a:(g:Int)≠0:=by ext
 have e1:((g:Int)*c).fdiv (-(g:Int)) = -c:=by rw[show(g:Int)*c=(-(g:Int))*(-c) by rw[Int.neg_mul_neg],Int.mul_fdiv_cancel_left _ (by ext)]
 rw[e1,<-Int.mul_neg,Int.mul_ediv_cancel_left _ a]
def gp{t b:Int}{k:Nat}{s:d_}(B:b≠0)(H:b.natAbs<2^k)(F:k<=950000):bF.p [.int t,.int b] s=.ok (qD (Rat.divInt t b)) s:=by
 have j:b.natAbs≠0:=by ext
 have y:0<Nat.gcd t.natAbs b.natAbs:=Qc _ (by ext);have sh:=zZ (a:=t.natAbs) (s:=s) H F;rw[Hy B];obtain⟨e1,e2⟩:=ou (if b<0 then -t else t) b.natAbs j;have E:(if b<0 then -t else t).natAbs=t.natAbs:=by split<;>simp
 rw[E]at e1 e2;rw[tI (by rfl)];unfold eD;rw[show lw 3 [D.int t,.int b]=[J (.int t),J (.int b),Y]from rfl];simp![aK,dL,Es,gM,cN,aJ,uM,PR.bl,BI,Am,if_false,Pg,dh,PU.aw,aI,bg,aT,fC,jo,Pf,decide_eq_false B,bV,ce,yk,sh,va,tr,GD];have G:(Nat.gcd t.natAbs b.natAbs:Int) ∣ t:=Int.ofNat_dvd_left.mpr (Nat.gcd_dvd_left _ _);have C:(Nat.gcd t.natAbs b.natAbs:Int) ∣ b:=Int.ofNat_dvd_left.mpr (Nat.gcd_dvd_right _ _);by_cases z:b<0
 .rw[decide_eq_true z];have i:CC.p (.int t) (.int (-(Nat.gcd t.natAbs b.natAbs:Int)))=J (.int ((-t)/(Nat.gcd t.natAbs b.natAbs:Int))):=by rw[su (by ext),wF y G]
  have u:CC.p (.int b) (.int (-(Nat.gcd t.natAbs b.natAbs:Int)))=J (.int ((-b)/(Nat.gcd t.natAbs b.natAbs:Int))):=by rw[su (by ext),wF y C]
  have e3:(-b:Int)=(b.natAbs:Nat):=by ext
  rw[qD,e1,e2,c_ z];have l:ik.p (.int (Nat.gcd t.natAbs b.natAbs:Int))=J (.int (-(Nat.gcd t.natAbs b.natAbs:Int))):=rfl;simp[i,u,e3,l]
 .rw[decide_eq_false z];have i:=ly (a:=t) (b:=(Nat.gcd t.natAbs b.natAbs:Int)) (by ext);have u:=ly (a:=b) (b:=(Nat.gcd t.natAbs b.natAbs:Int)) (by ext);have e3:((b.natAbs:Nat):Int)=b:=by ext
  rw[qD,e1,e2,hI z];simp[i,u,e3]
def LI{p q:Rat}{s:d_}(h:sz p+sz q<=900000):d9.p [qD p,qD q] s=.ok (qD (p+q)) s:=by
 have l:=cK p;have u:=cK q;have dp:=bM p;have a:=bM q;have e1:bI.p (.int p.num) (.int (q.den:Int))=J (.int (p.num*q.den)):=b7 (j:=sz p) (k:=sz q) l (by simpa using a);have e2:bI.p (.int q.num) (.int (p.den:Int))=J (.int (q.num*p.den)):=b7 (j:=sz q) (k:=sz p) u (by simpa using dp);have e3:bI.p (.int (p.den:Int)) (.int (q.den:Int))=J (.int ((p.den:Int)*q.den)):=b7 (j:=sz p) (k:=sz q) (by simpa using dp) (by simpa using a);have i:((p.den:Int)*q.den)≠0:=IZ (by have:=p.den_nz;ext) (by have:=q.den_nz;ext);have dl:((p.den:Int)*q.den).natAbs<2^(sz p+sz q):=by rw[DS];exact ff (by simpa using dp) (by simpa using a)
 have nn:=gp (t:=p.num*q.den+q.num*p.den) (s:=s) i dl (by ext);rw[Db (by rfl)];unfold kU;rw[show lw 2 [qD p,qD q]=[J (qD p),J (qD q)]from rfl];simp![bZ,aJ,aI,bg,aT,lE,z0,z1,Pf,e1,e2,e3,cQ,nn,Pg,PU.cr];rw[oR p q,IY]
def Hz{p q:Rat}{s:d_}(h:sz p+sz q<=900000):dG.p [qD p,qD q] s=.ok (qD (p*q)) s:=by
 have l:=cK p;have u:=cK q;have dp:=bM p;have a:=bM q;have e1:bI.p (.int p.num) (.int q.num)=J (.int (p.num*q.num)):=b7 (j:=sz p) (k:=sz q) l u;have e3:bI.p (.int (p.den:Int)) (.int (q.den:Int))=J (.int ((p.den:Int)*q.den)):=b7 (j:=sz p) (k:=sz q) (by simpa using dp) (by simpa using a);have i:((p.den:Int)*q.den)≠0:=IZ (by have:=p.den_nz;ext) (by have:=q.den_nz;ext);have dl:((p.den:Int)*q.den).natAbs<2^(sz p+sz q):=by rw[DS];exact ff (by simpa using dp) (by simpa using a)
 have nn:=gp (t:=p.num*q.num) (s:=s) i dl (by ext);rw[yz (by rfl)];unfold jL;rw[show lw 2 [qD p,qD q]=[J (qD p),J (qD q)]from rfl];simp![bZ,aJ,aI,bg,aT,lE,z0,z1,Pf,e1,e3,nn,Pg,PU.cr];rw[jH p q,IY]
def Dl(p q:Rat):p-q=Rat.divInt (p.num*q.den-q.num*p.den) ((p.den*q.den:Nat):Int):=by rw[Rat.sub_eq_add_neg,oR,Rat.neg_num,Rat.neg_den];congr 1;rw[Int.neg_mul,Int.sub_eq_add_neg]
def HA{p q:Rat}{s:d_}(h:sz p+sz q<=900000):jB.p [qD p,qD q] s=.ok (qD (p-q)) s:=by
 have l:=cK p;have u:=cK q;have dp:=bM p;have a:=bM q;have e1:bI.p (.int p.num) (.int (q.den:Int))=J (.int (p.num*q.den)):=b7 (j:=sz p) (k:=sz q) l (by simpa using a);have e2:bI.p (.int q.num) (.int (p.den:Int))=J (.int (q.num*p.den)):=b7 (j:=sz q) (k:=sz p) u (by simpa using dp);have e3:bI.p (.int (p.den:Int)) (.int (q.den:Int))=J (.int ((p.den:Int)*q.den)):=b7 (j:=sz p) (k:=sz q) (by simpa using dp) (by simpa using a);have i:((p.den:Int)*q.den)≠0:=IZ (by have:=p.den_nz;ext) (by have:=q.den_nz;ext);have dl:((p.den:Int)*q.den).natAbs<2^(sz p+sz q):=by rw[DS];exact ff (by simpa using dp) (by simpa using a)
 have nn:=gp (t:=p.num*q.den-q.num*p.den) (s:=s) i dl (by ext);rw[yv (by rfl)];unfold jf;rw[show lw 2 [qD p,qD q]=[J (qD p),J (qD q)]from rfl];simp![bZ,aJ,aI,bg,aT,lE,z0,z1,Pf,e1,e2,e3,lI,nn,Pg,PU.cr];rw[Dl p q,IY]
def Dm{p q:Rat}:p/q=Rat.divInt (p.num*q.den) ((p.den:Int)*q.num):=by rw[Rat.div_def,Rat.inv_def,jH];have a:=Rat.num_divInt_den p;have e:Rat.divInt p.num p.den*Rat.divInt (q.den:Int) q.num=Rat.divInt (p.num*q.den) ((p.den:Int)*q.num):=Rat.divInt_mul_divInt ..;rw[<-jH,<-e,a]
def LJ{p q:Rat}{s:d_}(a:q≠0)(h:sz p+sz q<=900000):iu.p [qD p,qD q] s=.ok (qD (p/q)) s:=by
 have y:=cK p;have i:=cK q;have dp:=bM p;have B:=bM q;have e1:bI.p (.int p.num) (.int (q.den:Int))=J (.int (p.num*q.den)):=b7 (j:=sz p) (k:=sz q) y (by simpa using B);have e3:bI.p (.int (p.den:Int)) (.int q.num)=J (.int ((p.den:Int)*q.num)):=b7 (j:=sz p) (k:=sz q) (by simpa using dp) i;have l:q.num≠0:=λz=>a (Rat.num_eq_zero.mp z);have u:((p.den:Int)*q.num)≠0:=IZ (by have:=p.den_nz;ext) l;have dl:((p.den:Int)*q.num).natAbs<2^(sz p+sz q):=by rw[DS];exact ff (by simpa using dp) i
 have nn:=gp (t:=p.num*q.den) (s:=s) u dl (by ext);rw[Dc (by rfl)];unfold k7;rw[show lw 2 [qD p,qD q]=[J (qD p),J (qD q)]from rfl];simp![bZ,aJ,aI,bg,aT,lE,z0,z1,Pf,e1,e3,nn,Pg,PU.cr];rw[Dm]
def Sm(q:Rat):Prop:=q≠0/\∃z:Int,q=Rat.divInt z 12/\z.natAbs<=3060
def Sm.sz{q:Rat}(h:Sm q):sz q<=12:=by obtain⟨_,z,rfl,a⟩:=h;exact jy (b:=12) (by decide) (by decide) (by ext) (by decide)
def oH{w:Bool}{s:d_}:∃q P,bD.p [.pen,.bl w] s=.ok (qD q) P/\Sm q:=by
 rw[vI (by rfl)];unfold gB;rw[show lw 3 [D.pen,.bl w]=[J .pen,J (.bl w),Y]from rfl,aK,dL];have tw:∀{s:d_},(KP (ac 1):Xt []).p [J .pen,J (.bl w),Y] s=.ok w s:=λ{s}=>by cases w<;>rfl
 rw[tw,Pg]
 cases w with
 |true =>
  obtain⟨a,C,H,G,B⟩:=dC (s:=s) (size:=255) (by decide) (by decide);obtain⟨b,u,R,L,E⟩:=dC (s:=C) (size:=2) (by decide) (by decide);have Q:bI.p (.int 2) (.int b)=J (.int (2*b)):=b7 (j:=4) (k:=4) (by decide) (by ext);have F:bI.p (.int (1+a)) (.int (1-2*b))=J (.int ((1+a)*(1-2*b))):=b7 (j:=10) (k:=4) (by ext) (by ext);have t2:∀{x y:D}{s:d_},(if [x,y].length<=100000 then PR.ok (D.tup [x,y]) s else .bad)=.ok (.tup [x,y]) s:=λ{x y s}=>c_ (by simp);have tl:((1+a)*(1-2*b))≠0/\((1+a)*(1-2*b)).natAbs<=255:=by
   have:b=0\/b=1:=by ext
   rcases this with rfl|rfl<;>ext
  generalize X:(1+a)*(1-2*b)=l at F tl;have eq:qD (l:Rat)=.tup [.int l,.int 1]:=by simp[qD,nD]
  refine⟨(l:Rat),u,?_,?_,12*l,?_,by ext⟩
  .rw[eq,c_ rfl];dsimp![bZ,bW,am,aI,bg,aT,aJ,au,az,B,E,cQ,lI,Q,F,t2,Pg,PU.u5,PU.cr]
  .exact λz=>tl.1 (by exact_mod_cast z)
  .rw[Rat.divInt_eq_div];push_cast
   grind
 |false =>
  rw[hI (by simp),dh,PU.aw,aK,bV];obtain⟨a,C,H,G,B⟩:=dC (s:=s) (size:=12) (by decide) (by decide);obtain⟨b,u,R,L,E⟩:=dC (s:=C) (size:=4) (by decide) (by decide);dsimp![aI,aJ,am,au,bg,aT,az,B,lI,Pg,va,tr,PU.aw];obtain⟨t,U,M,tl⟩:∃t:Int,(a-6+if decide (0<=a-6)=I then 1 else 0)=t/\t≠0/\t.natAbs<=6:=by refine⟨_,rfl,?_,?_⟩<;>(simp only[decide_eq_true_eq];split<;>ext)
  obtain⟨c,O⟩:=nt (i:=1+b) (by ext);have S:=m5 (t:=t) (b:=c) (k:=4) (s:=u) (by ext) (by ext) (by decide);refine⟨Rat.divInt t c,u,?_,?_,t*((12/c:Nat):Int),?_,?_⟩
  .simp![bZ,aJ,aI,ce,bg,aT,GF,Pf,GH,cQ,U,E,O,S,Pg,PU.cr]
  .intro z;rw[Rat.divInt_eq_div]at z;have W:((c:Int):Rat)≠0:=by
    have:(c:Int)≠0:=by ext
    exact_mod_cast this
   have:(t:Rat)=0:=by grind
   exact M (by exact_mod_cast this)
  .have:c=1\/c=2\/c=3\/c=4:=by ext
   rw[Rat.divInt_eq_div,Rat.divInt_eq_div];rcases this with rfl|rfl|rfl|rfl<;>(push_cast;grind)
  .have:c=1\/c=2\/c=3\/c=4:=by ext
   rcases this with rfl|rfl|rfl|rfl<;>simp<;>ext
structure On(n:Nat)(ns:RQ):Prop where
 n12:n<=12
 pm:ns.Perm (List.range n)
def On.len{n:Nat}{ns:RQ}(o:On n ns):ns.length=n:=by have:=o.pm.length_eq;simpa using this
def On.nd{n:Nat}{ns:RQ}(o:On n ns):ns.Nodup:=o.pm.symm.nodup IV
def On.lt{n:Nat}{ns:RQ}(o:On n ns):∀x∈ns,x<n:=λx a=>by simpa using o.pm.mem_iff.mp a
abbrev aj(x:Nat):D:=.int (x:Int)
abbrev jv(ns:RQ):D:=.lst (ns.map aj)
def Dn{n:Nat}{s:d_}(E:n<=12):∃ns l,gJ.p [.pen,.int (n:Int)] s=.ok (jv ns) l/\On n ns:=by
 rw[vN (by rfl)];unfold gD;have C:lw 4 [D.pen,.int (n:Int)]=[J .pen,J (.int (n:Int)),Y,Y]:=rfl;obtain⟨y,l,e,z,i,rfl,pm⟩:=pI (g:=(pf 3:Xg [2]).p) (b:=(BD za 2 (aa (ay ba (aa (ac 0) (aa (ag aX (ac 3) (xC (.int 1))) a_))) (aa (ac 3) a_)):Xd [2]).p)
  (λj env l=>∃z i,env=[J .pen,J (.int (n:Int)),J (jv i),z]/\i.Perm (List.range j)) (gS 0 n) 0 [J .pen,J (.int (n:Int)),J (.lst []),Y] s ⟨Y,[],rfl,by simp⟩ (λj env l d ⟨z,i,hE,pm⟩ hd=>by
   rw[NK]at pm ⊢;subst hE;obtain⟨rfl,L⟩:=zV hd;have B:i.length=j:=by have:=pm.length_eq;simpa using this
   obtain⟨d,u,G,H,F⟩:=dC (s:=l) (size:=(j:Int)+1) (by ext) (by ext);obtain⟨k,rfl⟩:=nt G;refine⟨[J .pen,J (.int (n:Int)),J (jv i),J (.int (j:Int))],[J .pen,J (.int (n:Int)),J (jv (i.take k++j::i.drop k)),J (.int (j:Int))],u,rfl,?_,_,i.take k++j::i.drop k,rfl,?_⟩
   .rw[pH (s1:=u) (as:=[.int (k:Int),.int (j:Int)]) (ds:=i.map aj) (ds':=(i.take k++j::i.drop k).map aj) (r:=.non) (by simp[F]) rfl (by
     rw[xY (by simp;ext) (by simp;ext)];simp)]
    rfl
   .have:(i.take k++j::i.drop k).Perm (j::i):=by
     have:=List.perm_middle (a:=j) (l₁:=i.take k) (l₂:=i.drop k)
     rwa [List.take_append_drop]at this
    refine this.trans ((pm.cons _).trans ?_);rw[List.range_succ]
    exact(List.perm_append_singleton _ _).symm)
 rw[yX,NK]at pm;refine⟨i,l,?_,E,pm⟩;have st:(dW 2 (bT a_):Xd [2]).p [J .pen,J (.int (n:Int)),Y,Y] s=.nx [J .pen,J (.int (n:Int)),J (.lst []),Y] s:=by simp[nG]
 rw[C,aK,st,PU.aw,aK,nQ,sW,am];simp only[ax,au,Pb,az];rw[KL (by ext),EZ,Pf,Pg,e,PU.aw,lF (d:=jv i) rfl,PU.cr]
def qb(n:Nat)(ns:RQ)(k:Nat):RQ:=(List.range n).filter λx=>decide (x∈ns.drop (k+1))
def dw{n:Nat}{ns:RQ}{k x:Nat}(o:On n ns):x∈qb n ns k↔x∈ns.drop (k+1):=by unfold qb;rw[A8,decide_eq_true_eq,DR];exact⟨λh=>h.2,λh=>⟨o.lt x (DO h),h⟩⟩
def iw{n:Nat}{ns:RQ}{k:Nat}(o:On n ns):(qb n ns k).Perm (ns.drop (k+1)) :=
 (List.perm_ext_iff_of_nodup (IV.filter _) (o.nd.sublist (Ny _ _))).mpr λx=>dw o
def oY{n:Nat}{ns:RQ}{k:Nat}:(qb n ns k).Pairwise (·<·):=Nl.filter _
def kP{ns:RN}(hl:ns.length<64):dH.p [.lst (ns.map .int)]=J (.lst ((fv ns).map .int)):=by
 have e:∀ns:RN,jV (ns.map .int)=J ns:=λns=>by
  induction ns with
  |nil=>rfl
  |cons i k a=>rw[pk,jV,a];rfl
 show(qZ (ns.map .int)).map _=_;simp only[qZ,e];rw[c_ hl];rfl
def pr{n:Nat}{ns:RQ}{k:Nat}(o:On n ns)(j:k<n):dH.p [.lst (fj (ns.map aj) (J ((k:Int)+1)) Y)]=J (jv (qb n ns k)):=by
 have i:=o.len;have n12:=o.n12;have e1:fj (ns.map aj) (J ((k:Int)+1)) Y=((ns.drop (k+1)).map λ(x:Nat)=>(x:Int)).map .int:=by unfold fj;rw[HT.kx,yP,show(k:Int)+1=((k+1:Nat):Int) by ext,HT.oA,Mf (by ext),wr,<-List.map_drop];exact Nk (by simp)
 rw[e1,kP (by simp;ext)];have e2:fv ((ns.drop (k+1)).map λ(x:Nat)=>(x:Int))=(qb n ns k).map λ(x:Nat)=>(x:Int) :=
  f9 (jQ _) (oY.map (S:=(·<=·)) _ (λa b h=>by ext)) ((eY _).trans ((iw o).symm.map _))
 rw[e2,wr];rfl
abbrev Pt:=Nat×Rat
abbrev n7(p:Pt):D:=.tup [.int (p.1:Int),qD p.2]
structure Wk where
 (v:Nat) (p:Rat) (r c:List Pt)
abbrev qi(w:Wk):D:=.tup [.int (w.v:Int),qD w.p,.tup (w.r.map n7),.tup (w.c.map n7)]
structure HB(ls:RQ)(ps:List Pt):Prop where
 sub:(ps.map (·.1)).Sublist ls
 sm:∀p∈ps,Sm p.2
structure WkOk(n:Nat)(ns:RQ)(k:Nat)(w:Wk):Prop where
 v:ns[k]?=J w.v
 p:Sm w.p
 r:HB (qb n ns k) w.r
 c:HB (qb n ns k) w.c
def mO{g:D->aq->Option aq}{t:aq->d_->PR Bool}{e:aq->d_->PR D}(S:aq->Prop):∀(l:RQ)(env:aq)(s:d_),S env ->
  (∀x∈l,∀env s,S env->∃a,g (aj x) env=J a/\S a/\∃b B,t a s=.ok b B/\(b=I->∃q E,e a B=.ok (n7 (x,q)) E/\Sm q)) ->
  ∃j H,eJ g t e (l.map aj) env s=.ok (j.map n7) H/\HB l j
 |[],env,s,hS,i=>⟨[],s,rfl,⟨List.Sublist.slnil,λ_ h=>nomatch h⟩⟩
 |x::l,env,s,hS,i=>by
  obtain⟨a,e1,z,b,B,e2,e3⟩:=i x (by simp) env s hS;have rest:=λy G=>i y (n4 x G);rw[pk,eJ,e1];dsimp only;rw[e2,Pb]
  cases b with
  |true =>
   obtain⟨q,E,e4,F⟩:=e3 rfl;obtain⟨j,C,e5,u⟩:=mO S l a E z rest;refine⟨(x,q)::j,C,by simp only[if_true,e4,Pb,e5,pk],⟨u.sub.cons₂ _,λp h=>?_⟩⟩;rcases n8.mp h with rfl|h
   .exact F
   .exact u.sm p h
  |false =>
   obtain⟨j,C,e5,u⟩:=mO S l a B z rest;exact⟨j,C,by simp only[Am,if_false,e5],⟨u.sub.cons _,u.sm⟩⟩
abbrev PQ:Xe [5]:=(bO 1 [0,4,3] (bx (ac 8)) (ws':=[]) (pf 0) (xB (ag v4 (ay ba (aa (ac 1) (aa (ac 3) a_))) (xC (.int 0)))) (aZ (aa (ac 0) (aa (ay bD (aa (ac 1) (aa (ac 2) a_))) a_))))
def LK{env:aq}{a:RQ}{w:Bool}{sm:Int}{s:d_}(F:env[0]?=J (J .pen))(e4:env[4]?=J (J (.bl w)))(e3:env[3]?=J (J (.int sm)))(P:env[8]?=J (J (jv a)))(M:0<sm)(U:sm<=100)(hl:a.length<=100):∃j l,PQ.p env s=.ok (.lst (j.map n7)) l/\HB a j:=by
 have t2:∀{x y:D}{s:d_},(if [x,y].length<=100000 then PR.ok (D.tup [x,y]) s else .bad)=.ok (.tup [x,y]) s:=λ{x y s}=>c_ (by simp);have fm:(([0,4,3]:RQ).map λi=>(env[i]?).getD Y)=[J .pen,J (.bl w),J (.int sm)]:=by simp[F,e4,e3]
 obtain⟨j,l,e,E⟩:=mO (g:=(pf 0:Xg []).p) (t:=(xB (ag v4 (ay ba (aa (ac 1) (aa (ac 3) a_))) (xC (.int 0))):Xt []).p) (e:=(aZ (aa (ac 0) (aa (ay bD (aa (ac 1) (aa (ac 2) a_))) a_)):Xe []).p) (λv=>∃z,v=z::[J .pen,J (.bl w),J (.int sm)]) a (vG 1 [0,4,3] env) s ⟨Y,by unfold vG;rw[fm];rfl⟩ (λx R B s ⟨z,O⟩=>by
  subst O;obtain⟨d,u,S,Q,H⟩:=dC (s:=s) (size:=sm) M (by ext);refine⟨_,rfl,⟨J (aj x),rfl⟩,_,u,by simp![cN,aI,aJ,tr,bg,aT,H,fC,jo,Pf,Pl];rfl,λ_=>?_⟩;obtain⟨q,L,G,C⟩:=oH (w:=w) (s:=u)
  exact⟨q,L,by simp![bW,tr,aJ,G,t2],C⟩)
 refine⟨j,l,?_,E⟩;show(bO 1 [0,4,3] (bx (ac 8)) (ws':=[]) (pf 0) _ _:Xe [5]).p env s=_;rw[pB,dj,uv P,Pb];show(PR.of (J (a.map aj)) s).bind _=_;rw[Pf,Pb,c_ (by simp;ext),e]
 try rfl
abbrev QO:Xd [5]:=(aO (bq 8 (qs dH (aa (vB (ac 2) (vz (ag aX (ac 6) (xC (.int 1)))) vv) a_)))
 (aO (bq 9 (qs cE (aa PQ a_)))
 (aO (bq 10 (qs cE (aa PQ a_)))
 (BD uq 5 (aa (aZ (aa (ac 7) (aa (ay bD (aa (ac 0) (aa (ac 4) a_))) (aa (ac 9) (aa (ac 10) a_))))) a_)))))
abbrev EF(n:Nat)(ns:RQ)(sm:Int)(w:Bool)(ks:List Wk)(z6 z7 z8 z9 z10:RE):aq:=[J .pen,J (.int (n:Int)),J (jv ns),J (.int sm),J (.bl w),J (.lst (ks.map qi)),z6,z7,z8,z9,z10]
def PX{n:Nat}{ns:RQ}{sm:Int}{w:Bool}{ks:List Wk}{k x:Nat}{z8 z9 z10:RE}{s:d_}(o:On n ns)(M:ns[k]?=J x)(H:0<sm)(L:sm<=100)(kl:ks.length<=100):
  ∃G U P C Q,QO.p (EF n ns sm w ks (J (.int (k:Int))) (J (aj x)) z8 z9 z10) s=.nx (EF n ns sm w (ks++[G]) (J (.int (k:Int))) (J (aj x)) U P C) Q/\WkOk n ns k G:=by
 have X:=o.len;have n12:=o.n12;have W:k<n:=by have:=(pj.mp M).1;ext
 have lt:=pr o W;have E:(qb n ns k).length<=100:=by have:=(iw (k:=k) o).length_eq;simp at this;ext
 obtain⟨a,O,e1,B⟩:=LK (env:=EF n ns sm w ks (J (.int (k:Int))) (J (aj x)) (J (jv (qb n ns k))) z9 z10) (s:=s) rfl rfl rfl rfl H L E;obtain⟨i,S,e2,j⟩:=LK (env:=EF n ns sm w ks (J (.int (k:Int))) (J (aj x)) (J (jv (qb n ns k))) (J (.tup (a.map n7))) z10) (s:=O) rfl rfl rfl rfl H L E;obtain⟨q,F,e3,l⟩:=oH (w:=w) (s:=S);have R:∀{x y z u:D}{s:d_},(if [x,y,z,u].length<=100000 then PR.ok (D.tup [x,y,z,u]) s else .bad)=.ok (.tup [x,y,z,u]) s:=λ{x y z u s}=>c_ (by simp);refine⟨⟨x,q,a,i⟩,J (jv (qb n ns k)),J (.tup (a.map n7)),J (.tup (i.map n7)),F,?_,⟨M,l,B,j⟩⟩;rw[aK,bV];simp![ce,gu,fY,aI,bg,aT,cQ,Pf,fZ,gc,lt,Pg,va,tr,PU.aw];rw[aK,bV,ce,am];rw[e1];dsimp![az,eT,Pg,PU.aw,va,tr];rw[aK,bV,ce,am,e2];dsimp![az,eT,Pg,PU.aw,va,tr]
 rw[pH (s1:=F) (as:=[qi ⟨x,q,a,i⟩]) (ds:=ks.map qi) (ds':=ks.map qi++[qi ⟨x,q,a,i⟩]) (r:=.non) (by
  simp![bW,aJ,e3,R]) rfl (qz (by simp;ext))]
 simp only[va,tr];unfold EF;rw[Mh];rfl
def Do{n:Nat}{ns:RQ}{sm:Int}{s:d_}(o:On n ns)(Z:0<sm)(h1:sm<=100):∃L B,gK.p [.pen,.int (n:Int),jv ns,.int sm] s=.ok (.lst (L.map qi)) B/\(L:List Wk).length=n/\∀(k:Nat)(w:Wk),L[k]?=J w->WkOk n ns k w:=by
 have R:=o.len;have n12:=o.n12;obtain⟨a,E,a0,a9,Q⟩:=dC (s:=s) (size:=8) (by decide) (by decide);obtain⟨O,X,e,i,C,F,y,u,l,rfl,kl,M⟩:=pI (g:=(AN (v_ (pf 6) (v_ (pf 7) AM)) 2:Xg [5]).p) (b:=QO.p)
  (λj env B=>∃i C F y u l,env=EF n ns sm (decide (a=7)) i C F y u l/\(i:List Wk).length=j/\∀(k:Nat)(w:Wk),i[k]?=J w->WkOk n ns k w) (bz (ns.map aj)) 0 (EF n ns sm (decide (a=7)) [] Y Y Y Y Y) E ⟨[],_,_,_,_,_,rfl,rfl,λ(k:Nat) w h=>by simp at h⟩ (λj env B d ⟨i,C,F,y,u,l,hE,kl,M⟩ hd=>by
   rw[NK]at kl ⊢;subst hE;have H:j<ns.length:=by have:=(pj.mp hd).1;simpa [bz]using this
   obtain⟨x,P⟩:∃x,ns[j]?=J x:=⟨ns[j],Ah H⟩;have G:d=.tup [.int (j:Int),aj x]:=by unfold bz at hd;rw[tx,IN,tx,P]at hd;simp at hd;exact hd.symm
   subst G;obtain⟨U,y8,y9,ab,S,e,hw⟩:=PX (w:=decide (a=7)) (ks:=i) (z8:=y) (z9:=u) (z10:=l) (s:=B) o P Z h1 (by ext);refine⟨_,_,S,rfl,e,i++[U],_,_,_,_,_,rfl,by simp[kl],λk w h=>?_⟩;by_cases z:k<i.length
   .rw[qp z]at h;exact M k w h
   .have W:k=j:=by
     have:=(pj.mp h).1
     simp at this;ext
    subst W;rw[AE (by ext),show k-i.length=0 by ext]at h;cases h
    exact hw)
 refine⟨i,X,?_,by rw[kl];simp[bz,R],M⟩;rw[vL (by rfl)];unfold gL;rw[show lw 11 [D.pen,.int (n:Int),jv ns,.int sm]=[J .pen,J (.int (n:Int)),J (jv ns),J (.int sm),Y,Y,Y,Y,Y,Y,Y]from rfl];rw[aK,bV];dsimp![aI,aJ,am,au,bg,aT,az,Q,fC,jo,Am,if_false,Pg,va,tr,PU.aw];rw[aK];have st:(dW 5 (bT a_):Xd [5]).p [J .pen,J (.int (n:Int)),J (jv ns),J (.int sm),J (.bl (decide (a=7))),Y,Y,Y,Y,Y,Y] E=.nx (EF n ns sm (decide (a=7)) [] Y Y Y Y Y) E:=by simp[nG]
 rw[st,PU.aw,aK,nQ,sW,am];dsimp![ax,au,az,KN,Pg];refine(congrArg (λz:PS=>(z.then _).fin) e).trans ?_;rw[PU.aw,lF (d:=.lst (i.map qi)) rfl,PU.cr]
def k9{α:Type}{g:D->aq->Option aq}{t:aq->d_->PR Bool}{e:aq->d_->PR D}{s:d_}(S:aq->Prop)(item j:α->D)(p:α->Bool):∀(l:List α)(env:aq),S env ->
  (∀x∈l,∀env,S env->∃a,g (item x) env=J a/\S a/\t a s=.ok (p x) s/\(p x=I->e a s=.ok (j x) s))->eJ g t e (l.map item) env s=.ok ((l.filter p).map j) s
 |[],env,hS,i=>rfl
 |x::l,env,hS,i=>by
  obtain⟨a,e1,z,e2,e3⟩:=i x (by simp) env hS;have B:=k9 S item j p l a z λy C=>i y (n4 _ C);rw[pk,eJ,e1];dsimp only;rw[e2]
  cases u:p x with
  |true=>simp only[Pb,if_true,e3 u,B,Nh u,pk]
  |false=>simp only[Pb,Am,if_false,B,Ni (show ¬p x=I by simp[u])]
def jI{α:Type}{ws ws':RQ}{env:aq}{s s0:d_}{fm:RQ}{i:Xi ws}{t:Xt ws'}{e:Xe ws'}{l:List α}(item a:α->D)(p:α->Bool)(C:i.p env s0=.ok (l.map item) s)(hl:l.length<=100000)(j:∀x∈l,t.p (J (item x)::fm.map λi=>(env[i]?).getD Y) s=.ok (p x) s/\(p x=I->e.p (J (item x)::fm.map λi=>(env[i]?).getD Y) s=.ok (a x) s))(B:ws'.contains 0=T:=by exact ys rfl)(hw:Bq 1 fm ws=ws':=by exact ys rfl)(u:e.fz=I:=by exact ys rfl):
  (bO 1 fm i (pf 0 B) t e hw u).p env s0=.ok (.lst ((l.filter p).map a)) s:=by
 rw[pB,C,Pb,c_ (by simpa using hl)]
 have:=k9 (g:=(pf 0 B:Xg ws').p) (t:=t.p) (e:=e.p) (s:=s) (λv=>∃z,v=z::fm.map λi=>(env[i]?).getD Y) item a p l (vG 1 fm env) ⟨Y,rfl⟩ λx E y ⟨z,u⟩=>by
  subst u;exact⟨_,rfl,⟨J (item x),rfl⟩,j x E⟩
 rw[this]
def HC{α:Type}{ws ws':RQ}{env:aq}{s s0:d_}{fm:RQ}{i:Xi ws}{t:Xt ws'}{e:Xe ws'}{l:List α}(A B:α->D)(a:α->D)(p:α->Bool)(G:i.p env s0=.ok (l.map λx=>.tup [A x,B x]) s)(hl:l.length<=100000)(j:∀x∈l,t.p (J (A x)::J (B x)::fm.map λi=>(env[i]?).getD Y) s=.ok (p x) s/\(p x=I->e.p (J (A x)::J (B x)::fm.map λi=>(env[i]?).getD Y) s=.ok (a x) s))(E:ws'.contains 0=T:=by exact ys rfl)(F:ws'.contains 1=T:=by exact ys rfl)(hw:Bq 2 fm ws=ws':=by exact ys rfl)(u:e.fz=I:=by exact ys rfl):
  (bO 2 fm i (AN (v_ (pf 0 E) (v_ (pf 1 F) AM)) 2) t e hw u).p env s0=.ok (.lst ((l.filter p).map a)) s:=by
 rw[pB,G,Pb,c_ (by simpa using hl)]
 have:=k9 (g:=(AN (v_ (pf 0 E) (v_ (pf 1 F) AM)) 2:Xg ws').p) (t:=t.p) (e:=e.p) (s:=s) (λv=>∃y z,v=y::z::fm.map λi=>(env[i]?).getD Y) (λx=>.tup [A x,B x]) a p l (vG 2 fm env) ⟨Y,Y,rfl⟩ λx H C ⟨y,z,u⟩=>by
  subst u;exact⟨_,rfl,⟨J (A x),J (B x),rfl⟩,j x H⟩
 rw[this]
def Cm(m:Nat)(q:Rat):Prop:=∃z:Int,q=Rat.divInt z 144/\z.natAbs<=m
def Cm.sz{m k:Nat}{q:Rat}(h:Cm m q)(hm:m<2^k)(a:8<=k):sz q<=k:=by obtain⟨z,rfl,i⟩:=h;exact jy (b:=144) (by decide) (by ext) (by ext) (r_ (by decide) (Nq (by decide) a))
def Cm.mono{m a:Nat}{q:Rat}(h:Cm m q)(hm:m<=a):Cm a q:=let⟨z,e,i⟩:=h;⟨z,e,by ext⟩
def Cm.zero(m:Nat):Cm m 0:=⟨0,by decide +kernel,by simp⟩
def Cm.add{m a:Nat}{p q:Rat}(h:Cm m p)(i:Cm a q):Cm (m+a) (p+q):=by
 obtain⟨z,rfl,l⟩:=h;obtain⟨y,rfl,j⟩:=i;refine⟨z+y,?_,by ext⟩;rw[Rat.divInt_eq_div,Rat.divInt_eq_div,Rat.divInt_eq_div];push_cast
 grind
def Tw(q:Rat):Prop:=∃z:Int,q=Rat.divInt z 12/\z.natAbs<=3060
def Sm.tw{q:Rat}(h:Sm q):Tw q:=h.2
def Tw.one:Tw 1:=⟨12,by decide +kernel,by decide⟩
def Tw.zero:Tw 0:=⟨0,by decide +kernel,by decide⟩
def Tw.sz{q:Rat}(h:Tw q):sz q<=12:=by obtain⟨z,rfl,a⟩:=h;exact jy (b:=12) (by decide) (by decide) (by ext) (by decide)
def Tw.mul{p q:Rat}(h:Tw p)(a:Tw q):Cm 9363600 (p*q):=by
 obtain⟨z,rfl,j⟩:=h;obtain⟨y,rfl,i⟩:=a;refine⟨z*y,?_,?_⟩
 .rw[Rat.divInt_eq_div,Rat.divInt_eq_div,Rat.divInt_eq_div];push_cast
  grind
 .rw[DS];exact pu (Nat.mul_le_mul j i) (by decide)
def c8(g:Nat->Nat->Rat)(i j:Nat)(q:Rat):Nat->Nat->Rat:=λa b=>if a=i/\b=j then q else g a b
def aF(n:Nat)(g:Nat->Nat->Rat):List Rd:=(List.range n).map λi=>(Y,(List.range n).map λj=>qD (g i j))
def rR{n i:Nat}{g:Nat->Nat->Rat}(a:i<n):(aF n g)[i]?=J (Y,(List.range n).map λj=>qD (g i j)):=by unfold aF;simp[a]
def yD{n i j:Nat}{g:Nat->Nat->Rat}{q:Rat}(z:i<n)(y:j<n):(aF n g).set i (Y,((List.range n).map λj=>qD (g i j)).set j (qD q))=aF n (c8 g i j q):=by
 unfold aF;apply IT;intro a;by_cases l:a<n
 .by_cases e:i=a
  .subst e;rw[u_ (by simpa using z)];simp only[tx,List.getElem?_range l,DQ,Option.some.injEq,Prod.mk.injEq,true_and];apply IT;intro b;by_cases u:b<n
   .by_cases e:j=b
    .subst e;rw[u_ (by simpa using y)];simp[u,c8]
    .rw[mA e];simp[u,c8,Ne.symm e]
   .rw[Bf (by simp;ext),Bf (by simp;ext)]
  .rw[mA e];simp only[tx,List.getElem?_range l,DQ,Option.some.injEq,Prod.mk.injEq,true_and];refine BF λb _=>?_;simp[c8,Ne.symm e]
 .rw[Bf (by simp;ext),Bf (by simp;ext)]
def Dp{n i:Nat}{g:Nat->Nat->Rat}(a:i<n):k_.p (cz (aF n g)) (.int (i:Int))=J (.lst ((List.range n).map λj=>qD (g i j))):=by show nr ((aF n g).map λr=>dl r.1 r.2) (i:Int)=_;exact L2.cP (by rw[tx,rR a];rfl)
def dS:∀{a:RR},(∀d∈a,flat d=I)->e_ a=I
 |[],_=>rfl
 |d::a,h=>by
  simp only[e_,AC];exact⟨h d (by simp),dS λx i=>h x (n4 _ i)⟩
def ic(a:List Pt):e_ (a.map n7)=I:=dS λd hd=>by
 obtain⟨p,_,rfl⟩:=vp.mp hd;rfl
def uX{a:D}{x y:RR}(h:x.length+1+y.length<=100000):aX.p (.tup (a::x)) (.tup y)=J (.tup (a::x++y)):=c_ h
def kS{l:Nat}{i:Xi []}{g:Yt l}{b:Yd l}{u:i.fz=I}{env:aq}{rd:List Rd}{s j:d_}{a:RR}(e:i.p (env.set l Y) s=.ok a j)(f:e_ a=I):(oW i g b u).p env rd s=AW g.p b.p a env rd j:=by
 show (match i.p (env.set l Y) s with
  |.ok a j=>if e_ a=I then AW g.p b.p a env rd j else Y
  |_=>Y)=_
 rw[e];exact c_ f
def iC{g:D->aq->Option aq}{b:aq->List Rd->d_->Option (aq×List Rd×d_)}{d:D}{l:RR}{env env1 a:aq}{rd i:List Rd}{s j:d_}(e1:g d env=J env1)(e2:b env1 rd s=J (a,i,j)):AW g b (d::l) env rd s=AW g b l a i j:=by rw[AW,e1];dsimp only;rw[e2]
structure C8 where
 (a7 a8 a9 a10 a11 a12 a13 a14:RE)
abbrev hE(od wk mn own n:D)(rd:List Rd)(c:C8):aq:=[J .pen,J od,J wk,J mn,J own,J n,J (cz rd),c.a7,c.a8,c.a9,c.a10,c.a11,c.a12,c.a13,c.a14]
def sQ{n i j:Nat}{g:Nat->Nat->Rat}{q:Rat}{x:Xe []}{G:x.fz=I}{a l mn own nn:D}{c:C8}{s z:d_}(y:i<n)(B:j<n)(F:c.a7=J (aj i))(u:c.a12=J (aj j))(e:x.p (hE a l mn own nn (aF n g) c) s=.ok (qD q) z):
  (C_ x 7 12 (by rfl) (by rfl) G:Yd 6).p (hE a l mn own nn (aF n g) c) (aF n g) s=J (hE a l mn own nn (aF n (c8 g i j q)) c,aF n (c8 g i j q),z):=by
 have C:vr (aF n g).length (i:Int)=J i:=by unfold aF;simp only[yP,Ma];exact MM.jK y
 have E:vr ((List.range n).map λj=>qD (g i j)).length (j:Int)=J j:=by simp only[yP,Ma];exact MM.jK B
 show qR x 6 7 12 _ _ _=_;unfold qR;rw[e];rw[show(hE a l mn own nn (aF n g) c)[7]?=J c.a7 from rfl,show(hE a l mn own nn (aF n g) c)[12]?=J c.a12 from rfl,F,u];dsimp only;rw[C];dsimp only;rw[rR y];dsimp only;rw[E];dsimp only;rw[c_ (by rfl:flat (qD q)=I),yD y B];rfl
def LL{n i j:Nat}{g:Nat->Nat->Rat}{od wk mn own nn:D}{c:C8}{s:d_}(z:i<n)(y:j<n)(u:c.a7=J (aj i))(a:c.a12=J (aj j)):rD.p (hE od wk mn own nn (aF n g) c) s=.ok (qD (g i j)) s:=by have l:nr ((List.range n).map λj=>qD (g i j)) (j:Int)=J (qD (g i j)):=L2.cP (by simp[y]);unfold rD hE;rw[u,a];dsimp![aI,ax,au,Dp z,lY,l]
def LM{n i j t:Nat}{g:Nat->Nat->Rat}{f x:Rat}{od wk mn own nn:D}{c:C8}{s:d_}(B:i<n)(E:j<n)(C:c.a7=J (aj i))(u:c.a13=J (qD f))(a:c.a12=J (aj j))(l:c.a14=J (qD x))(z:Tw f)(y:Tw x)(hg:Cm (9363600*t) (g i j))(O:t<=10000):
  Hn.p (hE od wk mn own nn (aF n g) c) (aF n g) s=J (hE od wk mn own nn (aF n (c8 g i j (g i j+f*x))) c,aF n (c8 g i j (g i j+f*x)),s):=by
 have L:sz (g i j)<=40:=hg.sz (by ext) (by decide);have M:sz (f*x)<=40:=(z.mul y).sz (by decide) (by decide);have H:=Dk (p:=f) (q:=x) (s:=s) (by have:=z.sz;have:=y.sz;ext);have F:=sB (p:=g i j) (q:=f*x) (s:=s) (by ext);refine sQ B E C a ?_;have G:=LL (g:=g) (od:=od) (wk:=wk) (mn:=mn) (own:=own) (nn:=nn) (s:=s) B E C a;rw[aJ,am,G,Pb,am];unfold hE;rw[u,l];simp![aJ,H,F]
def eE(g:Nat->Nat->Rat)(i:Nat)(f:Rat)(a:List Pt):Nat->Nat->Rat:=a.foldl (λg p=>c8 g i p.1 (g i p.1+f*p.2)) g
def jl(g:Nat->Nat->Rat)(a i:List Pt):Nat->Nat->Rat:=a.foldl (λg p=>eE g p.1 p.2 i) g
def HD{g:Nat->Nat->Rat}{i j t:Nat}{f x:Rat}(u:Tw f)(l:Tw x)(hg:∀a b,Cm (9363600*t) (g a b)):∀a b,Cm (9363600*(t+1)) (c8 g i j (g i j+f*x) a b):=λa b=>by
 unfold c8;split
 .rw[Nat.mul_add];exact(hg i j).add ((u.mul l).mono (by decide))
 .exact (hg a b).mono (by ext)
abbrev Rb:Yt 6:=IG (AG (Av 12) (AG (Av 14) IF)) 2
abbrev Rc:Yt 6:=IG (AG (Av 7) (AG (Av 13) IF)) 2
abbrev Re:Yt 6:=IG (AG (Av 8) (AG (Av 9) (AG (Av 10) (AG (Av 11) IF)))) 4
section
variable{od wk mn own nn:D}
def EH{n i:Nat}{f:Rat}{s:d_}(E:i<n)(u:Tw f):∀(j:List Pt)(g:Nat->Nat->Rat)(c:C8)(t:Nat),(∀p∈j,p.1<n/\Tw p.2)->c.a7=J (aj i)->c.a13=J (qD f)->(∀a b,Cm (9363600*t) (g a b))->t+j.length<=10000 ->
  (∃x y,AW Rb.p Hn.p (j.map n7) (hE od wk mn own nn (aF n g) c) (aF n g) s=J (hE od wk mn own nn (aF n (eE g i f j)) { c with a12:=x,a14:=y},aF n (eE g i f j),s))/\∀a b,Cm (9363600*(t+j.length)) (eE g i f j a b)
 |[],g,c,t,z,B,l,hg,F=>⟨⟨c.a12,c.a14,rfl⟩,hg⟩
 |p::j,g,c,t,z,B,l,hg,F=>by
  obtain⟨M,C⟩:=z p (by simp);have H:t+(j.length+1)<=10000:=F;have e:=LM (od:=od) (wk:=wk) (mn:=mn) (own:=own) (nn:=nn) (c:={ c with a12:=J (aj p.1),a14:=J (qD p.2)}) (s:=s) E M B l rfl rfl u C (hg i p.1) (by ext);obtain⟨⟨x,y,e2⟩,L⟩:=EH E u j (c8 g i p.1 (g i p.1+f*p.2)) { c with a12:=J (aj p.1),a14:=J (qD p.2)} (t+1) (λq G=>z q (n4 _ G)) B l (HD u C hg) (by ext);refine⟨⟨x,y,?_⟩,λa b=>by rw[Ax,show t+(j.length+1)=t+1+j.length by ext];exact L a b⟩;rw[pk,iC (env1:=hE od wk mn own nn (aF n g) { c with a12:=J (aj p.1),a14:=J (qD p.2)}) (by rfl) e];exact e2
def EJ{n v:Nat}{p:Rat}{rs:List Pt}{s:d_}(hr:∀q∈(v,p)::rs,q.1<n/\Tw q.2)(lr:rs.length<=20):∀(i:List Pt)(g:Nat->Nat->Rat)(c:C8)(t:Nat),c.a8=J (aj v)->c.a9=J (qD p)->c.a10=J (.tup (rs.map n7))->(∀q∈i,q.1<n/\Tw q.2)->(∀a b,Cm (9363600*t) (g a b))->t+30*i.length<=9000 ->
  (∃L,AW Rc.p Ho.p (i.map n7) (hE od wk mn own nn (aF n g) c) (aF n g) s=J (hE od wk mn own nn (aF n (jl g i ((v,p)::rs))) L,aF n (jl g i ((v,p)::rs)),s))/\∀a b,Cm (9363600*(t+30*i.length)) (jl g i ((v,p)::rs) a b)
 |[],g,c,t,u,z,j,l,hg,B=>⟨⟨c,rfl⟩,hg⟩
 |q::i,g,c,t,u,z,j,l,hg,B=>by
  obtain⟨E,F⟩:=l q (by simp);have H:t+30*(i.length+1)<=9000:=B;obtain⟨⟨x,y,e1⟩,Q⟩:=EH (od:=od) (wk:=wk) (mn:=mn) (own:=own) (nn:=nn) (s:=s) E F ((v,p)::rs) g { c with a7:=J (aj q.1),a13:=J (qD q.2)} t hr rfl rfl hg (by simp;ext);obtain⟨⟨C,e2⟩,P⟩:=EJ hr lr i (eE g q.1 q.2 ((v,p)::rs)) { c with a7:=J (aj q.1),a13:=J (qD q.2),a12:=x,a14:=y} (t+30) u z j (λx M=>l x (n4 _ M)) (λa b=>(Q a b).mono (by simp;ext)) (by ext);refine⟨⟨C,?_⟩,λa b=>by rw[Ax,show t+30*(i.length+1)=t+30+30*i.length by ext];exact P a b⟩;have t2:∀{x y:D}{s:d_},(if [x,y].length<=100000 then PR.ok (D.tup [x,y]) s else .bad)=.ok (.tup [x,y]) s:=λ{x y s}=>c_ (by simp);have G:∀{x:D}{s:d_},(if [x].length<=100000 then PR.ok (D.tup [x]) s else .bad)=.ok (.tup [x]) s:=λ{x s}=>c_ (by simp);have O:(bx (ag aX (aZ (aa (aZ (aa (ac 8) (aa (ac 9) a_))) a_)) (ac 10)):Xi []).p ((hE od wk mn own nn (aF n g) { c with a7:=J (aj q.1),a13:=J (qD q.2)}).set 6 Y) s=.ok (((v,p)::rs).map n7) s:=by unfold hE;dsimp only;rw[u,z,j];simp![va,tr,dj,aI,bW,t2,G];rw[uX (by simp;ext)];rfl
  have b:Ho.p (hE od wk mn own nn (aF n g) { c with a7:=J (aj q.1),a13:=J (qD q.2)}) (aF n g) s=J (hE od wk mn own nn (aF n (eE g q.1 q.2 ((v,p)::rs))) { c with a7:=J (aj q.1),a13:=J (qD q.2),a12:=x,a14:=y},aF n (eE g q.1 q.2 ((v,p)::rs)),s):=(kS O (ic _)).trans e1;rw[pk,iC (env1:=hE od wk mn own nn (aF n g) { c with a7:=J (aj q.1),a13:=J (qD q.2)}) (by rfl) b];exact e2
structure PY(n:Nat)(w:Wk):Prop where
 v:w.v<n
 p:Tw w.p
 r:∀q∈w.r,q.1<n/\Tw q.2
 c:∀q∈w.c,q.1<n/\Tw q.2
 lr:w.r.length<=12
 lc:w.c.length<=12
def d6(g:Nat->Nat->Rat)(w:Wk):Nat->Nat->Rat:=jl g ((w.v,1)::w.c) ((w.v,w.p)::w.r)
def ux(w:Wk):flat (qi w)=I:=by simp[flat,e_,ic]
def EK{n:Nat}{s:d_}:∀(i:List Wk)(g:Nat->Nat->Rat)(c:C8)(t:Nat),(∀w∈i,PY n w)->(∀a b,Cm (9363600*t) (g a b))->t+400*i.length<=8000 ->
  (∃E,AW Re.p Hr.p (i.map qi) (hE od wk mn own nn (aF n g) c) (aF n g) s=J (hE od wk mn own nn (aF n (i.foldl d6 g)) E,aF n (i.foldl d6 g),s))/\∀a b,Cm (9363600*(t+400*i.length)) (i.foldl d6 g a b)
 |[],g,c,t,hw,hg,u=>⟨⟨c,rfl⟩,hg⟩
 |w::i,g,c,t,hw,hg,u=>by
  have h:=hw w (by simp);have C:t+400*(i.length+1)<=8000:=u
  obtain⟨⟨l,e1⟩,L⟩:=EJ (od:=od) (wk:=wk) (mn:=mn) (own:=own) (nn:=nn) (s:=s) (v:=w.v) (p:=w.p) (rs:=w.r) (λq j=>by
   rcases n8.mp j with rfl|j
   .exact⟨h.v,h.p⟩
   .exact h.r q j) (by have:=h.lr;ext) ((w.v,1)::w.c) g { c with a8:=J (aj w.v),a9:=J (qD w.p),a10:=J (.tup (w.r.map n7)),a11:=J (.tup (w.c.map n7))} t rfl rfl rfl (λq j=>by
   rcases n8.mp j with rfl|j
   .exact⟨h.v,Tw.one⟩
   .exact h.c q j) hg (by have:=h.lc;simp;ext)
  obtain⟨⟨z,e2⟩,H⟩:=EK i (d6 g w) l (t+400) (λx F=>hw x (n4 _ F)) (λa b=>(L a b).mono (by have:=h.lc;simp;ext)) (by ext);refine⟨⟨z,?_⟩,λa b=>by rw[Ax,show t+400*(i.length+1)=t+400+400*i.length by ext];exact H a b⟩;have t2:∀{x y:D}{s:d_},(if [x,y].length<=100000 then PR.ok (D.tup [x,y]) s else .bad)=.ok (.tup [x,y]) s:=λ{x y s}=>c_ (by simp);have B:∀{x:D}{s:d_},(if [x].length<=100000 then PR.ok (D.tup [x]) s else .bad)=.ok (.tup [x]) s:=λ{x s}=>c_ (by simp);have G:(bx (ag aX (aZ (aa (aZ (aa (ac 8) (aa (aZ (aa (xC (.int 1)) (aa (xC (.int 1)) a_))) a_))) a_)) (ac 11)):Xi []).p ((hE od wk mn own nn (aF n g) { c with a8:=J (aj w.v),a9:=J (qD w.p),a10:=J (.tup (w.r.map n7)),a11:=J (.tup (w.c.map n7))}).set 6 Y) s=.ok (((w.v,(1:Rat))::w.c).map n7) s:=by unfold hE;dsimp only;simp![va,tr,dj,aI,bW,bg,aT,t2,B];rw[uX (by have:=h.lc;simp;ext)];rfl
  have b:Hr.p (hE od wk mn own nn (aF n g) { c with a8:=J (aj w.v),a9:=J (qD w.p),a10:=J (.tup (w.r.map n7)),a11:=J (.tup (w.c.map n7))}) (aF n g) s=J (hE od wk mn own nn (aF n (d6 g w)) l,aF n (d6 g w),s):=(kS G (ic _)).trans e1;rw[pk,iC (env1:=hE od wk mn own nn (aF n g) { c with a8:=J (aj w.v),a9:=J (qD w.p),a10:=J (.tup (w.r.map n7)),a11:=J (.tup (w.c.map n7))}) (by rfl) b];exact e2
end
def dI(n:Nat)(f:Nat->Rat):List Pt:=((List.range n).filter λj=>!decide (f j=0)).map λj=>(j,f j)
def Ag(n:Nat)(g:Nat->Nat->Rat):D:=.tup [.int (n:Int),.tup ((List.range n).map λi=>.tup ((dI n (g i)).map n7))]
def tN{a:Bool}{p q:Rat}:yB a (qD p) (qD q)=J (.bl (if a then !decide (p=q)else decide (p=q))):=by
 have e:(p.num=q.num/\(p.den:Int)=q.den)↔p=q:=⟨λh=>Rat.ext h.1 (by ext),λh=>by subst h;exact⟨rfl,rfl⟩⟩
 have:PyData.eqvAll [PyData.int p.num,.int p.den] [.int q.num,.int q.den]=decide (p=q):=by rw[show PyData.eqvAll [PyData.int p.num,.int p.den] [.int q.num,.int q.den]=decide ([p.num,(p.den:Int)]=[q.num,(q.den:Int)])from iZ [p.num,(p.den:Int)] [q.num,(q.den:Int)]];exact decide_eq_decide.mpr (by simpa using e)
 simp only[yB,qD,nD,py,AV,DQ];rw[c_ ⟨⟨by simp[y_,we],by simp[y_,we]⟩,by simp[SeqAt.shaped,PyData.canLay0,PyData.canLayAll0,PyData.depth,PyData.depthAll],by simp[SeqAt.shaped,PyData.canLay0,PyData.canLayAll0,PyData.depth,PyData.depthAll]⟩];simp only[PyData.eqv,this]
def Dq{n:Nat}{g:Nat->Nat->Rat}:flat (Ag n g)=I:=by
 have:e_ ((List.range n).map λi=>D.tup ((dI n (g i)).map n7))=I:=dS λd hd=>by
  obtain⟨i,_,rfl⟩:=vp.mp hd;simp[flat,ic]
 simp[Ag,flat,e_,this]
def HE{n:Nat}{f:Nat->Rat}:bz ((List.range n).map λj=>qD (f j))=(List.range n).map λj=>.tup [aj j,qD (f j)]:=by
 apply IT;intro i;unfold bz;rw[tx,IN,tx,tx];by_cases h:i<n
 .simp[h]
 .simp[h]
def PZ{n:Nat}{u z mn own:D}{g:Nat->Nat->Rat}{c:C8}{s:d_}(C:n<=12):sG.p (hE u z mn own (.int (n:Int)) (aF n g) c) s=.ok (Ag n g) s:=by
 have t2:∀{x y:D}{s:d_},(if [x,y].length<=100000 then PR.ok (D.tup [x,y]) s else .bad)=.ok (.tup [x,y]) s:=λ{x y s}=>c_ (by simp);have a:∀(f:Nat->Rat)(s:d_),(qs cE (aa (bO 2 [] (iY iE (aa (ac 0) a_)) (ws':=[]) (AN (v_ (pf 0) (v_ (pf 1) AM)) 2) (xB (ag AF (ac 1) (aZ (aa (xC (.int 0)) (aa (xC (.int 1)) a_))))) (aZ (aa (ac 0) (aa (ac 1) a_)))) a_):Xe []).p [J (.lst ((List.range n).map λj=>qD (f j)))] s=.ok (.tup ((dI n f).map n7)) s:=λf s=>by
  have q:=HC (ws:=[]) (ws':=[]) (env:=[J (.lst ((List.range n).map λj=>qD (f j)))]) (s:=s) (s0:=s) (fm:=[]) (i:=iY iE (aa (ac 0) a_)) (t:=xB (ag AF (ac 1) (aZ (aa (xC (.int 0)) (aa (xC (.int 1)) a_))))) (e:=aZ (aa (ac 0) (aa (ac 1) a_))) (l:=List.range n) (λj=>aj j) (λj=>qD (f j)) (λj=>n7 (j,f j)) (λj=>!decide (f j=0)) (by
   dsimp![sW,am,au,az,KN,HE]) (by simp;ext) (λj F=>⟨by
    simp![cN,aI,bW,bg,aT,t2,nE];rw[show(D.tup [.int 0,.int 1])=qD 0 from rfl,tN];rfl,λ_=>by
    simp![bW,t2]⟩)
  rw[ce,am,q];dsimp![az,eT,dI,wr];rfl
 have out:=jI (ws:=[]) (ws':=[]) (env:=hE u z mn own (.int (n:Int)) (aF n g) c) (s:=s) (s0:=s) (fm:=[]) (i:=bx (ac 6)) (t:=qo) (e:=(qs cE (aa (bO 2 [] (iY iE (aa (ac 0) a_)) (ws':=[]) (AN (v_ (pf 0) (v_ (pf 1) AM)) 2) (xB (ag AF (ac 1) (aZ (aa (xC (.int 0)) (aa (xC (.int 1)) a_))))) (aZ (aa (ac 0) (aa (ac 1) a_)))) a_))) (l:=List.range n) (λi=>.lst ((List.range n).map λj=>qD (g i j))) (λi=>.tup ((dI n (g i)).map n7)) (λ_=>I) (by
  rw[dj];show(PR.ok (cz (aF n g)) s).bind _=_;rw[Pb];show PR.of (J ((aF n g).map λr=>dl r.1 r.2)) s=_;rw[Pf];unfold aF
  rw[wr];rfl) (by simp;ext) (λi E=>⟨rfl,λ_=>a (g i) s⟩)
 unfold sG;rw[bW,am];show(((PR.ok (D.int (n:Int)) s).bind _).bind _)=_;rw[Pb,am,ce,am,out];dsimp![az,eT,t2];have B:(List.range n).filter (λ_=>I)=List.range n:=Nt.mpr (by simp);rw[B];rfl
def ky(a:RQ):RN:=a.map λ(k:Nat)=>(k:Int)
def vl(a:RQ)(f:Nat->Rat):RR:=a.map λk=>qD (f k)
structure Kf(ks:RQ)(f:Nat->Rat):Prop where
 nd:ks.Nodup
 off:∀j,j∉ks->f j=0
def wg{f:Nat->Rat}{j:Nat}:∀{ks:RQ},s_ (ky ks) (vl ks f) (j:Int)=if j∈ks then J (qD (f j))else Y
 |[]=>rfl
 |k::ks=>by
  have a:=wg (f:=f) (j:=j) (ks:=ks);show(if(k:Int)=(j:Int)then J (qD (f k))else s_ (ky ks) (vl ks f) (j:Int))=_;by_cases e:k=j
  .subst e;simp
  .rw[hI (by ext),a];simp[Ne.symm e]
def dJ(f:Nat->Rat)(j:Nat)(q:Rat):Nat->Rat:=λa=>if a=j then q else f a
def ins(a:RQ)(j:Nat):RQ:=if j∈a then a else a++[j]
def HG{f:Nat->Rat}{j:Nat}{q:Rat}{a:RQ}(h:j∉a):vl a (dJ f j q)=vl a f:=by unfold vl;refine BF λk i=>?_;simp[dJ,show k≠j from λz=>h (z▸i)]
def x5{f:Nat->Rat}{j:Nat}{q:Rat}:∀{a:RQ},a.Nodup->jn (ky a) (vl a f) (j:Int) (qD q)=(ky (ins a j),vl (ins a j) (dJ f j q))
 |[],_=>by simp[ky,vl,jn,ins,dJ]
 |k::a,nd=>by
  rw[Aj]at nd;have i:=x5 (f:=f) (j:=j) (q:=q) nd.2;show(if(k:Int)=(j:Int)then((k:Int)::ky a,qD q::vl a f)else((k:Int)::(jn (ky a) (vl a f) (j:Int) (qD q)).1,qD (f k)::(jn (ky a) (vl a f) (j:Int) (qD q)).2))=_;by_cases e:k=j
  .subst e;rw[c_ rfl]
   have:ins (k::a) k=k::a:=by simp[ins]
   rw[this];show _=((k:Int)::ky a,qD (dJ f k q k)::vl a (dJ f k q));rw[HG nd.1];simp[dJ]
  .rw[hI (by ext),i];have l:ins (k::a) j=k::ins a j:=by
    unfold ins;by_cases m:j∈a
    .simp[m]
    .simp[m,Ne.symm e]
   rw[l];show _=((k:Int)::ky (ins a j),qD (dJ f j q k)::vl (ins a j) (dJ f j q));simp[dJ,e]
def Kf.put{l:RQ}{f:Nat->Rat}{j:Nat}{q:Rat}(h:Kf l f):Kf (ins l j) (dJ f j q):=by
 unfold ins;constructor
 .split
  .exact h.nd
  .rename_i z
   rw[L_];refine⟨h.nd,by simp,λa i b u e=>z ?_⟩;rw[L8]at u;rw[<-u,<-e];exact i
 .intro a i;unfold dJ
  split at i
  .rename_i z
   rw[hI (λe=>i (by rw[e];exact z))];exact h.off a i
  .have:a∉l/\a≠j:=by simpa using i
   rw[hI this.2];exact h.off a this.1
abbrev AY(ks:RQ)(f:Nat->Rat):D:=.dic T (ky ks) (vl ks f)
def nW{a:RQ}{f:Nat->Rat}{j:Nat}(h:Kf a f):(s_ (ky a) (vl a f) (j:Int)).getD (qD 0)=qD (f j):=by
 rw[wg];split
 .rfl
 .rename_i z;rw[h.off j z];rfl
def pd(f:Nat->Rat)(a:Rat)(i:List Pt):Nat->Rat:=i.foldl (λf p=>dJ f p.1 (f p.1+a*p.2)) f
def sy(a:RQ)(i:List Pt):RQ:=i.foldl (λa p=>ins a p.1) a
def Dr{ks:RQ}{j:Nat}:(ins ks j).length<=ks.length+1:=by unfold ins;split<;>simp
abbrev QP:Xd [0]:=(kB 0 (ac 3) (ay d9 (aa (AO (ac 0) (aa (ac 3) (aa (z_ 0 1) a_))) (aa (ay dG (aa (ac 1) (aa (ac 4) a_))) a_))))
def EL{a:Rat}{P:RE}{s:d_}:∀(l:List Pt)(i:RQ)(f:Nat->Rat)(y u:RE),(∀p∈l,sz a+sz p.2<=900000/\sz (f p.1)+sz (a*p.2)<=900000)->(l.map (·.1)).Nodup->Kf i f->i.length+l.length<=90000 ->
  (∃C F,AU (AN (v_ (pf 3) (v_ (pf 4) AM)) 2:Xg [0]).p QP.p (l.map n7) [J (AY i f),J (qD a),P,y,u] s=.nx [J (AY (sy i l) (pd f a l)),J (qD a),P,C,F] s)/\Kf (sy i l) (pd f a l)/\(sy i l).length<=i.length+l.length
 |[],i,f,y,u,E,nd,B,hl=>⟨⟨y,u,rfl⟩,B,mm _⟩
 |p::l,i,f,y,u,E,nd,B,hl=>by
  obtain⟨G,W⟩:=E p (by simp);rw[pk,Aj]at nd;have R:i.length+(l.length+1)<=90000:=hl;have U:=Hz (p:=a) (q:=p.2) (s:=s) G;have O:=LI (p:=f p.1) (q:=a*p.2) (s:=s) W;have L:=nW (j:=p.1) B;have X:=Dr (ks:=i) (j:=p.1)
  obtain⟨⟨C,F,e⟩,G,M⟩:=EL (P:=P) (s:=s) l (ins i p.1) (dJ f p.1 (f p.1+a*p.2)) (J (aj p.1)) (J (qD p.2)) (λx H=>by
   obtain⟨Q,S⟩:=E x (n4 _ H);refine⟨Q,?_⟩;have ne:¬x.1=p.1:=λz=>nd.1 (z▸vp.mpr ⟨x,H,rfl⟩)
   rw[show dJ f p.1 (f p.1+a*p.2) x.1=f x.1 from hI ne];exact S) nd.2 B.put (by ext)
  refine⟨⟨C,F,?_⟩,G,pu M (by simp;ext)⟩;have b:QP.p [J (AY i f),J (qD a),P,J (aj p.1),J (qD p.2)] s=.nx [J (AY (ins i p.1) (dJ f p.1 (f p.1+a*p.2))),J (qD a),P,J (aj p.1),J (qD p.2)] s:=by
   rw[CP,yI (v:=qD (f p.1+a*p.2)) (s1:=s) (s2:=s) (j:=(p.1:Int)) (ks:=ky i) (ds:=vl i f) (by
    simp![aJ,nB,show ∀(e:aq)(s:d_),(z_ 0 1:Xe [0]).p e s=.ok (D.tup [.int 0,.int 1]) s from λ_ _=>rfl];rw[show D.tup [.int 0,.int 1]=qD 0 from rfl,L]
    simp only[Pb,U,O]) (by rfl) rfl (by simp[ky];ext),x5 B.nd]
   rfl
  rw[pk,sX (show(AN (v_ (pf 3) (v_ (pf 4) AM)) 2:Xg [0]).p (n7 p) [J (AY i f),J (qD a),P,y,u]=J [J (AY i f),J (qD a),P,J (aj p.1),J (qD p.2)]from rfl),b];exact e
structure St where
 (K:Nat->RQ) (F:Nat->Nat->Rat)
def vu(n:Nat)(x:St):List Rd:=(List.range n).map λi=>(J (ky (x.K i)),vl (x.K i) (x.F i))
structure AQ(n t z:Nat)(R:RQ)(x:St):Prop where
 kf:∀i,i<n->Kf (x.K i) (x.F i)
 kl:∀i,(x.K i).length<=t
 sz:∀i∈R,∀j∈R,sz (x.F i j)<=z
def St.put(x:St)(i:Nat)(j:RQ)(f:Nat->Rat):St:=⟨λa=>if a=i then j else x.K a,λa=>if a=i then f else x.F a⟩
def xU{n i:Nat}{x:St}(a:i<n):(vu n x)[i]?=J (J (ky (x.K i)),vl (x.K i) (x.F i)):=by unfold vu;simp[a]
def HH{n i:Nat}{x:St}{j:RQ}{f:Nat->Rat}(u:i<n):(vu n x).set i (J (ky j),vl j f)=vu n (x.put i j f):=by
 unfold vu;apply IT;intro a;by_cases l:a<n
 .by_cases e:i=a
  .subst e;rw[u_ (by simpa using u)];simp[l,St.put]
  .rw[mA e];simp[l,St.put,Ne.symm e]
 .rw[Bf (by simp;ext),Bf (by simp;ext)]
def jm{n i:Nat}{x:St}(a:i<n):k_.p (cz (vu n x)) (.int (i:Int))=J (AY (x.K i) (x.F i)):=by show nr ((vu n x).map λr=>dl r.1 r.2) (i:Int)=_;exact L2.cP (by rw[tx,xU a];rfl)
def St.add(x:St)(i:Nat)(a:Rat)(j:List Pt):St:=x.put i (sy (x.K i) j) (pd (x.F i) a j)
def uL{a:RQ}{f:Nat->Rat}:e_ (vl a f)=I:=dS λd hd=>by
 unfold vl at hd;obtain⟨k,_,rfl⟩:=vp.mp hd;rfl
def Dt{n i t:Nat}{x:St}{a:Rat}{j:List Pt}{s:d_}(kf:∀i,i<n->Kf (x.K i) (x.F i))(kl:∀i,(x.K i).length<=t)(l:i<n)(B:∀p∈j,sz a+sz p.2<=900000/\sz (x.F i p.1)+sz (a*p.2)<=900000)(nd:(j.map (·.1)).Nodup)(M:j.length<=12)(O:t<=9000):
  lD (vu n x) i (qD a) (.tup (j.map n7)) s=J (vu n (x.add i a j),s)/\(∀b,b<n->Kf ((x.add i a j).K b) ((x.add i a j).F b))/\∀b,((x.add i a j).K b).length<=t+12:=by
 have C:=kl i;obtain⟨⟨y,G,e⟩,u,L⟩:=EL (P:=J (.tup (j.map n7))) (s:=s) j (x.K i) (x.F i) Y Y B nd (kf i l) (by ext);refine⟨?_,λb H=>?_,λb=>?_⟩
 .unfold lD;rw[xU l];dsimp only;have E:bL.p (lw 5 [dl (J (ky (x.K i))) (vl (x.K i) (x.F i)),qD a,.tup (j.map n7)]) s=.nx [J (AY (sy (x.K i) j) (pd (x.F i) a j)),J (qD a),J (.tup (j.map n7)),y,G] s:=by
   unfold bL;rw[show lw 5 [dl (J (ky (x.K i))) (vl (x.K i) (x.F i)),qD a,.tup (j.map n7)]=[J (AY (x.K i) (x.F i)),J (qD a),J (.tup (j.map n7)),Y,Y]from rfl,nQ,dj];dsimp![ax,au,show(D.tup (j.map n7)).items=J (j.map n7)from rfl,Pg];exact e
  rw[E];simp only[Ig];rw[c_ ⟨uL,rfl,by simp[flat,ic]⟩,HH l];rfl
 .unfold St.add St.put;dsimp only;by_cases z:b=i
  .rw[c_ z,c_ z];exact u
  .rw[hI z,hI z];exact kf b H
 .unfold St.add St.put;dsimp only;by_cases z:b=i
  .rw[c_ z];ext
  .rw[hI z];have:=kl b;ext
def Be(a:RQ)(f:Nat->Rat):List Pt:=(a.filter λj=>!decide (f j=0)).map λj=>(j,f j)
def HI{a:RQ}(e:aq)(s:d_):(z_ 0 1:Xe a).p e s=.ok (qD 0) s:=rfl
def EM{a:RQ}{f:Nat->Rat}{j:Nat}(h:Kf a f)(i:f j≠0):kI.p (AY a f) (.int (j:Int))=J (qD (f j)):=by show s_ (ky a) (vl a f) (j:Int)=_;rw[wg,c_ (Classical.byContradiction λz=>i (h.off j z))]
def Du{a ls:RQ}{f:Nat->Rat}{s:d_}(h:Kf a f)(hl:ls.length<=100):fy.p [AY a f,jv ls] s=.ok (.tup ((Be ls f).map n7)) s:=by
 have t2:∀{x y:D}{s:d_},(if [x,y].length<=100000 then PR.ok (D.tup [x,y]) s else .bad)=.ok (.tup [x,y]) s:=λ{x y s}=>c_ (by simp)
 have q:=jI (ws:=[]) (ws':=[]) (env:=[J (AY a f),J (jv ls)]) (s:=s) (s0:=s) (fm:=[0]) (i:=bx (ac 1)) (t:=xB (ag AF (AO (ac 1) (aa (ac 0) (aa (z_ 0 1) a_))) (z_ 0 1))) (e:=aZ (aa (ac 0) (aa (ag kI (ac 1) (ac 0)) a_))) (l:=ls) (λj=>aj j) (λj=>n7 (j,f j)) (λj=>!decide (f j=0)) (by
  simp only[dj,ax,au,Pb];rfl) (by ext) (λj B=>⟨by
   simp![cN,aI,nB,HI,pk,DU,Ig,Ij,nE];rw[nW h,tN];rfl,λz=>by
   have u:f j≠0:=by simpa using z
   simp![bW,aI,pk,DU,Ig,Ij,EM h u,Pf,t2]⟩)
 rw[tU (by rfl)];unfold fA;rw[show lw 2 [AY a f,jv ls]=[J (AY a f),J (jv ls)]from rfl,bZ,ce,am,q];dsimp![az,eT,Pg,PU.cr,Be,wr];rfl
def HJ{n t z v:Nat}{R:RQ}{x:St}{a:RQ}{s:d_}(h:AQ n t z R x)(hv:v<n)(hl:a.length<=100)(C:∀i∈a,i<n)(F:v∈R)(S:∀i∈a,i∈R)(P:z<=400000)(pv:x.F v v≠0):
  eV.p [cz (vu n x),aj v,jv a] s=.ok (qi ⟨v,x.F v v,Be a (x.F v),(a.filter λi=>!decide (x.F i v=0)).map λi=>(i,x.F i v/x.F v v)⟩) s:=by
 have t2:∀{x y:D}{s:d_},(if [x,y].length<=100000 then PR.ok (D.tup [x,y]) s else .bad)=.ok (.tup [x,y]) s:=λ{x y s}=>c_ (by simp);have Q:∀{x y z u:D}{s:d_},(if [x,y,z,u].length<=100000 then PR.ok (D.tup [x,y,z,u]) s else .bad)=.ok (.tup [x,y,z,u]) s:=λ{x y z u s}=>c_ (by simp)
 have q:=jI (ws:=[]) (ws':=[]) (env:=[J (cz (vu n x)),J (aj v),J (jv a),J (qD (x.F v v)),Y]) (s:=s) (s0:=s) (fm:=[3,1,0]) (i:=bx (ac 2)) (t:=xB (ag AF (AO (ag k_ (ac 3) (ac 0)) (aa (ac 2) (aa (z_ 0 1) a_))) (z_ 0 1))) (e:=aZ (aa (ac 0) (aa (ay iu (aa (ag kI (ag k_ (ac 3) (ac 0)) (ac 2)) (aa (ac 1) a_))) a_))) (l:=a) (λi=>aj i) (λi=>n7 (i,x.F i v/x.F v v)) (λi=>!decide (x.F i v=0)) (by
  simp only[dj,ax,au,Pb];rfl) (by ext) (λi E=>⟨by
   have B:=C i E;simp![cN,aI,nB,HI,pk,DU,Ig,Qe,Ij,jm B,Pf,nE];rw[nW (h.kf i B),tN];rfl,λU=>by
   have B:=C i E;have G:x.F i v≠0:=by simpa using U
   have M:=LJ (p:=x.F i v) (q:=x.F v v) (s:=s) pv (by have:=h.sz i (S i E) v F;have:=h.sz v F v F;ext)
   simp![bW,aJ,aI,pk,DU,Ig,Qe,Ij,jm B,Pf,EM (h.kf i B) G,M,t2]⟩)
 have H:=Du (s:=s) (ls:=a) (h.kf v hv) hl;have L:=nW (j:=v) (h.kf v hv);have O:yB T (qD (x.F v v)) (qD 0)=J (.bl T):=by rw[tN];simp[pv]
 rw[ng (by rfl)];unfold fb;rw[show lw 5 [cz (vu n x),aj v,jv a]=[J (cz (vu n x)),J (aj v),J (jv a),Y,Y]from rfl];rw[aK,bV];simp![nB,aI,jm hv,Pf,HI,L,Pg,va,tr,PU.aw];rw[aK,dL];dsimp![cN,aI,ax,au,HI,fC,O,Pl,Pg,Am,if_false,dh,PU.aw];rw[aK,bV];rw[show(bO 1 [3,1,0] (bx (ac 2)) (ws':=[]) (pf 0) (xB (ag AF (AO (ag k_ (ac 3) (ac 0)) (aa (ac 2) (aa (z_ 0 1) a_))) (z_ 0 1))) (aZ (aa (ac 0) (aa (ay iu (aa (ag kI (ag k_ (ac 3) (ac 0)) (ac 2)) (aa (ac 1) a_))) a_))):Xe []).p [J (cz (vu n x)),J (aj v),J (jv a),J (qD (x.F v v)),Y] s=_ from q];simp only[Pg,va,tr,PU.aw];simp![bZ,bW,aJ,aI,jm hv,Pf,H,ce,eT,Q,Pg,PU.cr,wr];have W:(((a.filter λi=>!decide (x.F i v=0)).map λi=>(i,x.F i v/x.F v v)):List Pt).map n7=(a.filter λi=>!decide (x.F i v=0)).map λi=>n7 (i,x.F i v/x.F v v):=by rw[wr];rfl
 unfold qi;rw[W]
def qd(a:List Pt)(j:Nat):Rat:=((a.find? λp=>p.1==j).map (·.2)).getD 0
def ie{j:Nat}:qd [] j=0:=rfl
def bp{p:Pt}{a:List Pt}{j:Nat}:qd (p::a) j=if p.1=j then p.2 else qd a j:=by
 unfold qd;rw[Me];by_cases h:p.1=j
 .simp[h]
 .have e:(p.1==j)=T:=by simpa using h
  rw[e,hI h]
def fV{a:List Pt}{j:Nat}(h:j∉a.map (·.1)):qd a j=0:=by
 induction a with
 |nil=>rfl
 |cons p a i =>
  rw[pk,n8,not_or]at h;rw[bp,hI (λe=>h.1 e.symm),i h.2]
def uF{a:Rat}{j:Nat}:∀{i:List Pt}{f:Nat->Rat},(i.map (·.1)).Nodup->pd f a i j=f j+a*qd i j
 |[],f,_=>by show f j=_;rw[ie];grind
 |p::i,f,nd=>by
  rw[pk,Aj]at nd;show pd (dJ f p.1 (f p.1+a*p.2)) a i j=_;rw[uF nd.2,bp];unfold dJ;by_cases e:p.1=j
  .subst e;rw[c_ rfl,c_ rfl,fV nd.1];grind
  .rw[hI (Ne.symm e),hI e]
def qm{f:Rat}{i a b:Nat}:∀{j:List Pt}{g:Nat->Nat->Rat},(j.map (·.1)).Nodup->eE g i f j a b=g a b+if a=i then f*qd j b else 0
 |[],g,_=>by show g a b=_;rw[ie];split<;>grind
 |p::j,g,nd=>by
  rw[pk,Aj]at nd;show eE (c8 g i p.1 (g i p.1+f*p.2)) i f j a b=_;rw[qm nd.2,bp];unfold c8;by_cases l:a=i
  .subst l;by_cases u:b=p.1
   .subst u;rw[c_ ⟨rfl,rfl⟩,c_ rfl,c_ rfl,c_ rfl,fV nd.1];grind
   .rw[hI (λz=>u z.2),c_ rfl,c_ rfl,hI (Ne.symm u)]
  .rw[hI (λz=>l z.1),hI l,hI l]
def pT{rs:List Pt}(j:(rs.map (·.1)).Nodup){a b:Nat}:∀{cs:List Pt}{g:Nat->Nat->Rat},(cs.map (·.1)).Nodup->jl g cs rs a b=g a b+qd cs a*qd rs b
 |[],g,_=>by show g a b=_;rw[ie];grind
 |p::cs,g,nd=>by
  rw[pk,Aj]at nd;show jl (eE g p.1 p.2 rs) cs rs a b=_;rw[pT j nd.2,qm j,bp];by_cases i:a=p.1
  .subst i;rw[c_ rfl,c_ rfl,fV nd.1];grind
  .rw[hI i,hI (Ne.symm i)];grind
def cl(w:Wk)(i:Nat):Rat:=qd ((w.v,1)::w.c) i
def rw'(w:Wk)(j:Nat):Rat:=qd ((w.v,w.p)::w.r) j
structure Ng(w:Wk):Prop where
 r:(w.v::w.r.map (·.1)).Nodup
 c:(w.v::w.c.map (·.1)).Nodup
def iX(a:List Wk)(i j:Nat):Rat:=(a.map λw=>cl w i*rw' w j).sum
def cX{w:Wk}{a:List Wk}{i j:Nat}:iX (w::a) i j=cl w i*rw' w j+iX a i j:=by simp[iX]
def ul{i j:Nat}:∀{a:List Wk}{g:Nat->Nat->Rat},(∀w∈a,Ng w)->a.foldl d6 g i j=g i j+iX a i j
 |[],g,_=>by show g i j=g i j+0;grind
 |w::a,g,h=>by
  have hw:=h w (by simp);show a.foldl d6 (d6 g w) i j=_;rw[ul λx l=>h x (n4 _ l),cX];unfold d6;rw[pT (rs:=(w.v,w.p)::w.r) hw.r (cs:=(w.v,1)::w.c) hw.c];show g i j+cl w i*rw' w j+_=_
  grind
def my{n:Nat}{f:Nat->Rat}:(dI n f).map (·.1)=(List.range n).filter λj=>!decide (f j=0):=by unfold dI;rw[wr];exact(BF (g:=id) λ_ _=>rfl).trans (Jb _)
def AR(n:Nat)(g:Nat->Nat->Rat):St:=⟨λi=>(List.range n).filter λj=>!decide (g i j=0),λi j=>if j<n then g i j else 0⟩
def yQ{n:Nat}{g:Nat->Nat->Rat}(G:n<=12):gA ((List.range n).map λi=>.tup ((dI n (g i)).map n7))=J (vu n (AR n g)):=by
 have one:∀i,KQ (.tup ((dI n (g i)).map n7))=J ((dI n (g i)).map λp=>((p.1:Int),qD p.2)):=λi=>by
  have z:∀u:List Pt,jb (u.map n7)=J (u.map λp=>((p.1:Int),qD p.2)):=λu=>by
   induction u with
   |nil=>rfl
   |cons p u y=>rw[pk,jb,y];rfl
  unfold KQ;dsimp only;rw[z];dsimp only;rw[c_];rw[wr]
  have:((dI n (g i)).map ((·.1)∘λp:Pt=>((p.1:Int),qD p.2)))=((dI n (g i)).map (·.1)).map λ(k:Nat)=>(k:Int):=by rw[wr];rfl
  rw[this,my];exact(IV.filter _).map (λ(k:Nat)=>(k:Int)) (λa b h=>by ext)
 have gen:∀l:RQ,(∀i∈l,i<n)->gA (l.map λi=>.tup ((dI n (g i)).map n7))=J (l.map λi=>(J (ky ((AR n g).K i)),vl ((AR n g).K i) ((AR n g).F i))):=λl=>by
  induction l with
  |nil=>intro;rfl
  |cons i l y =>
   intro h;rw[pk,gA,one i,y λx E=>h x (n4 _ E)];dsimp only;have e1:((dI n (g i)).map λp=>((p.1:Int),qD p.2)).map (·.1)=ky ((AR n g).K i):=by rw[wr];show _=((List.range n).filter λj=>!decide (g i j=0)).map _;rw[<-my,wr];rfl
   have e2:((dI n (g i)).map λp=>((p.1:Int),qD p.2)).map (·.2)=vl ((AR n g).K i) ((AR n g).F i):=by
    rw[wr];unfold dI vl AR;rw[wr];refine BF λj C=>?_
    have:j<n:=by simpa using(A8.mp C).1
    simp[this]
   rw[e1,e2,c_ uL,pk]
 exact gen _ λi B=>by simpa using B
def HK{n z:Nat}{R:RQ}{g:Nat->Nat->Rat}(u:1<=z)(hg:∀i j,sz (g i j)<=z):AQ n n z R (AR n g):=by
 refine⟨λi y=>⟨IV.filter _,λj a=>?_⟩,λi=>?_,λi _ j _=>?_⟩
 .unfold AR at a ⊢;dsimp only at a ⊢;split
  .rename_i l
   refine Classical.byContradiction λz=>a ?_;exact A8.mpr ⟨DR.mpr l,by simpa using z⟩
  .rfl
 .unfold AR;dsimp only
  have:=Nm (λj=>!decide (g i j=0)) (List.range n)
  simpa using this
 .unfold AR;dsimp only;split
  .exact hg i j
  .rw[show Law.sz 0=1 by decide +kernel];exact u
def jj(ns:RQ)(k:Nat):Nat:=ns.getD k 0
def av(ns:RQ)(g:Nat->Nat->Rat):Nat->Nat->Nat->Rat
 |0=>g
 |k+1=>λi j=>av ns g k i j-av ns g k i (jj ns k)/av ns g k (jj ns k) (jj ns k)*av ns g k (jj ns k) j
def vm(n:Nat)(ns:RQ)(g:Nat->Nat->Rat)(k:Nat):Wk :=
 ⟨jj ns k,av ns g k (jj ns k) (jj ns k),Be (qb n ns k) (av ns g k (jj ns k)),((qb n ns k).filter λi=>!decide (av ns g k i (jj ns k)=0)).map λi=>(i,av ns g k i (jj ns k)/av ns g k (jj ns k) (jj ns k))⟩
structure Em(n z m:Nat)(ns:RQ)(g:Nat->Nat->Rat):Prop where
 o:On n ns
 mn:m<=n
 off:∀i j,¬(i<n/\j<n)->g i j=0
 pv:∀k,k<m->av ns g k (jj ns k) (jj ns k)≠0
 si:∀k i j,k<=m->sz (av ns g k i j)<=z
 z0:z<=200000
def iF{n k:Nat}{ns:RQ}(o:On n ns)(a:k<n):ns[k]?=J (jj ns k):=by
 have:=o.len
 unfold jj;rw[Qb,Ah (by ext)];rfl
def gI{k v:Nat}{ns:RQ}(a:ns[k]?=J v):ns.drop k=v::ns.drop (k+1):=by obtain⟨h,rfl⟩:=pj.mp a;exact IK h
def HL(q:Rat):sz q⁻¹<=sz q:=by
 by_cases h:q=0
 .subst h;rw[show(0:Rat)⁻¹=0 by simp];exact mm _
 .have a:q.num≠0:=λz=>h (Rat.num_eq_zero.mp z);rw[Rat.inv_def,Hy a];refine jy (by ext) (sA q) ?_ (cK q)
  have:=bM q
  split<;>ext
def HM(p q:Rat):sz (p/q)<=sz p+sz q:=by rw[Rat.div_def];exact pu (x6 p q⁻¹) (Nat.add_le_add_left (HL q) _)
def oG{f:Nat->Rat}{p:Nat->Bool}{j:Nat}:∀{ls:RQ},qd ((ls.filter p).map λi=>(i,f i)) j=if j∈ls/\p j=I then f j else 0
 |[]=>by simp[ie]
 |l::ls=>by
  have u:=oG (f:=f) (p:=p) (j:=j) (ls:=ls);by_cases a:p l=I
  .rw[Nh a,pk,bp,u];by_cases e:l=j
   .subst e;simp[a]
   .simp[e,Ne.symm e]
  .rw[Ni a,u];by_cases e:l=j
   .subst e;simp[a]
   .simp[Ne.symm e]
section
variable{n z m:Nat}{ns:RQ}{g:Nat->Nat->Rat}
def Em.zero(h:Em n z m ns g):∀(k:Nat),k<=m->∀i j,(i∉ns.drop k\/j∉ns.drop k)->av ns g k i j=0
 |0,_,i,j,a=>by
  refine h.off i j λ⟨C,y⟩=>?_;rw[Mj]at a;rcases a with q|q
  .exact q (h.o.pm.mem_iff.mpr (DR.mpr C))
  .exact q (h.o.pm.mem_iff.mpr (DR.mpr y))
 |k+1,F,i,j,a=>by
  have l:=Em.zero h k (by ext);have E:=h.pv k (by ext);have u:=gI (iF h.o (show k<n by have:=h.mn;ext));show av ns g k i j-av ns g k i (jj ns k)/av ns g k (jj ns k) (jj ns k)*av ns g k (jj ns k) j=0;have out:∀x,x∉ns.drop (k+1)->x=jj ns k\/x∉ns.drop k:=λx B=>by
   by_cases e:x=jj ns k
   .exact .inl e
   .exact .inr (by rw[u,n8];exact λq=>q.elim e B)
  rcases a with q|q<;>rcases out _ q with e|e
  .rw[e];grind
  .rw[l i j (.inl e),l i _ (.inl e)];grind
  .rw[e];grind
  .rw[l i j (.inr e),l _ j (.inr e)];grind
def jD{k x:Nat}(o:On n ns)(a:k<n):x∈ns.drop k↔x=jj ns k\/x∈qb n ns k:=by rw[gI (iF o a),n8,dw o]
def EN{k:Nat}(o:On n ns)(a:k<n):jj ns k∉qb n ns k:=λm=>by
 have nd:=o.nd.sublist (Ny k ns);rw[gI (iF o a),Aj]at nd;exact nd.1 ((dw o).mp m)
def Em.rw(h:Em n z m ns g){k j:Nat}(a:k<m):rw' (vm n ns g k) j=av ns g k (jj ns k) j:=by
 unfold rw' vm Be;dsimp only;rw[bp,oG];by_cases e:jj ns k=j
 .rw[c_ e,e]
 .rw[hI e];by_cases m:j∈qb n ns k
  .by_cases q:av ns g k (jj ns k) j=0
   .simp[q]
   .simp[m,q]
  .rw[hI λz=>m z.1];exact(h.zero k (by ext) _ j (.inr λq=>((jD h.o (r_ a h.mn)).mp q).elim (λz=>e z.symm) m)).symm
def Em.cl(h:Em n z m ns g){k i:Nat}(a:k<m):cl (vm n ns g k) i=av ns g k i (jj ns k)/av ns g k (jj ns k) (jj ns k):=by
 have j:=h.pv k a;unfold Law.cl vm;dsimp only;rw[bp,oG (f:=λi=>av ns g k i (jj ns k)/av ns g k (jj ns k) (jj ns k))];by_cases e:jj ns k=i
 .rw[c_ e,<-e];grind
 .rw[hI e];by_cases m:i∈qb n ns k
  .by_cases q:av ns g k i (jj ns k)=0
   .simp[q];grind
   .simp[m,q]
  .rw[hI λz=>m z.1,h.zero k (by ext) i _ (.inl λq=>((jD h.o (r_ a h.mn)).mp q).elim (λz=>e z.symm) m)]
   grind
def HN{f:Nat->Rat}{a:RQ}:(a.map λi=>((i,f i):Pt)).map (·.1)=a:=by rw[wr];exact(BF (g:=id) λ_ _=>rfl).trans (Jb _)
def Rf{k:Nat}(o:On n ns)(j:k<n):Ng (vm n ns g k):=by
 have a:∀(p:Nat->Bool)(f:Nat->Rat),(jj ns k::(((qb n ns k).filter p).map λi=>((i,f i):Pt)).map (·.1)).Nodup:=λp f=>by
  rw[HN,Aj];exact⟨λm=>EN o j (A8.mp m).1,(oY.imp λh=>wm h).sublist List.filter_sublist⟩
 exact⟨a _ _,a _ _⟩
def Dv{k:Nat}(o:On n ns):(qb n ns k).length<=12:=by
 have:=(iw (k:=k) o).length_eq
 have:=o.len
 have:=o.n12
 simp at *;ext
def xD{k x:Nat}(o:On n ns)(h:x∈qb n ns k):x<n:=o.lt x (DO ((dw o).mp h))
def Em.w_c(h:Em n z m ns g){k:Nat}(j:k<m):∀q∈(jj ns k,(1:Rat))::(vm n ns g k).c,q.1<n/\sz q.2<=2*z:=λq a=>by
 have z1:=h.si k (jj ns k) (jj ns k) (by ext);have u:=sA (av ns g k (jj ns k) (jj ns k));rcases n8.mp a with rfl|a
 .refine⟨h.o.lt _ (Al (iF h.o (r_ j h.mn))),?_⟩;show sz 1<=_;rw[show sz 1=1 by decide +kernel];ext
 .obtain⟨i,l,rfl⟩:=vp.mp a;refine⟨xD h.o (A8.mp l).1,pu (HM _ _) ?_⟩
  have:=h.si k i (jj ns k) (by ext)
  ext
def Em.w_r(h:Em n z m ns g){k:Nat}(l:k<m):∀q∈(jj ns k,(vm n ns g k).p)::(vm n ns g k).r,q.1<n/\sz q.2<=z:=λq a=>by
 rcases n8.mp a with rfl|a
 .exact⟨h.o.lt _ (Al (iF h.o (r_ l h.mn))),h.si k _ _ (by ext)⟩
 .have a:q∈((qb n ns k).filter λj=>!decide (av ns g k (jj ns k) j=0)).map λj=>(j,av ns g k (jj ns k) j):=a;obtain⟨i,u,rfl⟩:=vp.mp a;exact⟨xD h.o (A8.mp u).1,h.si k _ _ (by ext)⟩
end
def zi{a:RQ}{f g:Nat->Rat}(h:∀j∈a,f j=g j):Be a f=Be a g:=by
 unfold Be;have e:(a.filter λj=>!decide (f j=0))=a.filter λj=>!decide (g j=0):=List.filter_congr λj i=>by rw[h j i]
 rw[e];exact BF λj i=>by rw[h j (A8.mp i).1]
def St.add_F{x:St}{i a b:Nat}{q:Rat}{j:List Pt}(nd:(j.map (·.1)).Nodup):(x.add i q j).F a b=x.F a b+if a=i then q*qd j b else 0:=by
 unfold St.add St.put;dsimp only;by_cases e:a=i
 .subst e;rw[c_ rfl,c_ rfl,uF nd]
 .rw[hI e,hI e];grind
def St.adds(x:St)(a i:List Pt):St:=a.foldl (λx p=>x.add p.1 (-p.2) i) x
def wH{j:List Pt}(l:(j.map (·.1)).Nodup){a b:Nat}:∀{i:List Pt}{x:St},(i.map (·.1)).Nodup->(x.adds i j).F a b=x.F a b-qd i a*qd j b
 |[],x,_=>by show x.F a b=_;rw[ie];grind
 |p::i,x,nd=>by
  rw[pk,Aj]at nd;show((x.add p.1 (-p.2) j).adds i j).F a b=_;rw[wH l nd.2,St.add_F l,bp];by_cases e:a=p.1
  .subst e;rw[c_ rfl,c_ rfl,fV nd.1];grind
  .rw[hI e,hI (Ne.symm e)];grind
def P0{rd:List Rd}{sh a:D}{b:Bool}{k v st f:RE}{j:Int}{s:d_}:qS.p (fQ rd sh a (.dic b [] []) k v st (J (.int j)) f) s=.ok I s:=rfl
def P1{rd:List Rd}{sh j a:D}{k v st i:RE}{q:Rat}{s:d_}(h:sz q<=800000):lx.p (fQ rd sh j a k v st i (J (qD q))) s=.ok (qD (-q)) s:=by
 have m:=HA (p:=0) (q:=q) (s:=s) (by rw[show sz 0=1 by decide +kernel];ext);unfold lx fQ;simp![aJ,HI,m];congr 2
 grind
def HP{x:St}{i b:Nat}{a:Rat}{j:List Pt}(h:b≠i):(x.add i a j).F b=x.F b:=hI h
def x9{n z:Nat}{sh od:D}{b:Bool}{k v:RE}{st:D}{l:List Pt}{s:d_}(hr:∀r∈l,sz r.2<=z)(O:(l.map (·.1)).Nodup)(lr:l.length<=12)(hz:z<=200000):∀(j:List Pt)(x:St)(t:Nat)(i f:RE),(j.map (·.1)).Nodup->(∀p∈j,p.1<n/\sz p.2<=2*z/\∀r∈l,sz (x.F p.1 r.1)<=z)->(∀i,i<n->Kf (x.K i) (x.F i))->(∀i,(x.K i).length<=t)->t+12*j.length<=9000 ->
  (∃C y,ii sh od (.dic b [] []) k v st (.tup (l.map n7)) (j.map n7) (vu n x) i f s=J (vu n (x.adds j l),C,y,s))/\(∀i,i<n->Kf ((x.adds j l).K i) ((x.adds j l).F i))/\∀i,((x.adds j l).K i).length<=t+12*j.length
 |[],x,t,i,f,u,B,kf,kl,L=>⟨⟨i,f,rfl⟩,kf,kl⟩
 |p::j,x,t,i,f,u,B,kf,kl,L=>by
  obtain⟨G,px,X⟩:=B p (by simp);rw[pk,Aj]at u;have R:t+12*(j.length+1)<=9000:=L
  obtain⟨U,W,P⟩:=Dt (s:=s) (a:=-p.2) kf kl G (λr h=>by
   have h1:=hr r h;have M:=X r h;have H:=x6 (-p.2) r.2;have h4:=Hw p.2
   ext) O lr (by ext)
  obtain⟨⟨C,y,e⟩,M,H⟩:=x9 (sh:=sh) (od:=od) (b:=b) (k:=k) (v:=v) (st:=st) (s:=s) hr O lr hz j (x.add p.1 (-p.2) l) (t+12) (J (aj p.1)) (J (qD p.2)) u.2 (λq E=>by
   obtain⟨S,b2,Z⟩:=B q (n4 _ E);have ne:q.1≠p.1:=λz=>u.1 (z▸vp.mpr ⟨q,E,rfl⟩);rw[HP ne]
   exact⟨S,b2,Z⟩) W P (by ext)
  refine⟨⟨C,y,?_⟩,M,λi=>by rw[Ax,show t+12*(j.length+1)=t+12+12*j.length by ext];exact H i⟩;have Q:vr (vu n x).length (p.1:Int)=J p.1:=by unfold vu;simp only[yP,Ma];exact MM.jK G
  rw[pk,ii,P0];dsimp only;rw[P1 (by ext),Q];dsimp only;rw[U];exact e
def P2{n k v t z:Nat}{ns:RQ}{x:St}{sh:D}{b:Bool}{st i f:RE}{s:d_}(o:On n ns)(a:ns[k]?=J v)(h:AQ n t z (ns.drop k) x)(C:z<=400000)(pv:x.F v v≠0):
  hG.p (fQ (vu n x) sh (jv ns) (.dic b [] []) (J (aj k)) (J (aj v)) st i f) s=.ok (qi ⟨v,x.F v v,Be (qb n ns k) (x.F v),((qb n ns k).filter λi=>!decide (x.F i v=0)).map λi=>(i,x.F i v/x.F v v)⟩) s:=by
 have E:=o.len;have n12:=o.n12;have B:k<n:=by have:=(pj.mp a).1;ext
 have l:(qb n ns k).length<=100:=by have:=(iw (k:=k) o).length_eq;simp at this;ext
 have lt:=pr o B;have y:=HJ (s:=s) h (o.lt v (Al a)) l (λi j=>o.lt i (DO ((dw o).mp j))) (by rw[gI a];simp) (λi j=>by rw[gI a];exact n4 _ ((dw o).mp j)) C pv;have u:(CO T).p (aj v) (.dic b [] [])=J (.bl T):=rfl;unfold hG fQ;rw[yn];simp![cN,aI,u,Pf,Pl,Am,if_false,aJ,ce,gu,fY,fZ,bg,aT,cQ,gc,lt,y]
abbrev Dw(v:Nat):qx:=⟨"NoPivot",[("place",.int (v:Int))]⟩
def LN{v:Nat}(h:v<12):fP "the pivot of the place " " is nought" (v:Int):=by
 unfold fP;revert v
 decide +kernel
def HQ{n t z v:Nat}{R:RQ}{x:St}{ls:RQ}{s:d_}(h:AQ n t z R x)(hv:v<n)(a:v<12)(pv:x.F v v=0):eV.p [cz (vu n x),aj v,jv ls] s=.exc (Dw v) s:=by
 have i:=nW (j:=v) (h.kf v hv);have l:yB T (qD (x.F v v)) (qD 0)=J (.bl I):=by rw[tN];simp[pv]
 rw[ng (by rfl)];unfold fb;rw[show lw 5 [cz (vu n x),aj v,jv ls]=[J (cz (vu n x)),J (aj v),J (jv ls),Y,Y]from rfl];rw[aK,bV];simp![nB,aI,jm hv,Pf,HI,i,Pg,va,tr,PU.aw];rw[aK,dL];dsimp![cN,aI,ax,au,HI,fC,l,Pl,Pg,if_true];have u:(lM "NoPivot" "the pivot of the place " " is nought" "place" (aa (ac 1) a_):Xd []).p [J (cz (vu n x)),J (aj v),J (jv ls),J (qD (x.F v v)),Y] s=.rse (Dw v) [J (cz (vu n x)),J (aj v),J (jv ls),J (qD (x.F v v)),Y] s:=c_ (LN a);rw[u];rfl
def P4{n k v t z:Nat}{ns:RQ}{x:St}{sh:D}{b:Bool}{st i f:RE}{s:d_}(o:On n ns)(a:ns[k]?=J v)(h:AQ n t z (ns.drop k) x)(pv:x.F v v=0):
  hG.p (fQ (vu n x) sh (jv ns) (.dic b [] []) (J (aj k)) (J (aj v)) st i f) s=.exc (Dw v) s:=by
 have u:k<n:=by have:=(pj.mp a).1;have:=o.len;ext
 have lt:=pr o u;have l:=HQ (s:=s) (ls:=qb n ns k) h (o.lt v (Al a)) (by have:=o.lt v (Al a);have:=o.n12;ext) pv;have j:(CO T).p (aj v) (.dic b [] [])=J (.bl T):=rfl;unfold hG fQ;rw[yn];simp![cN,aI,j,Pf,Pl,Am,if_false,aJ,ce,gu,fY,fZ,bg,aT,cQ,gc,lt,l]
def pR{k v:Nat}{ns:RQ}(i:ns[k]?=J v):(bz (ns.map aj)).drop k=.tup [aj k,aj v]::(bz (ns.map aj)).drop (k+1):=by
 have a:=pj.mp i;have l:k<(bz (ns.map aj)).length:=by simp[bz,a.1]
 have e:(bz (ns.map aj))[k]?=J (.tup [aj k,aj v]):=by unfold bz;rw[tx,IN,tx,i];simp
 rw[IK l];congr 1;rw[Ah l]at e;exact Option.some.inj e
def Em.run{n z e:Nat}{ns:RQ}{g:Nat->Nat->Rat}(h:Em n z e ns g){sh:D}{b:Bool}{s:d_}:∀(m k:Nat)(x:St)(t:Nat)(G:RR)(st i f:RE),k+m=e->(∀i,i<n->Kf (x.K i) (x.F i))->(∀i,(x.K i).length<=t)->t+150*m<=9000->G.length=k->(∀i j,i∈ns.drop k->j∈ns.drop k->x.F i j=av ns g k i j) ->
  ∃L H P Q,d7 sh (jv ns) (.dic b [] []) ((bz (ns.map aj)).drop k) (vu n x) G st i f s=d7 sh (jv ns) (.dic b [] []) ((bz (ns.map aj)).drop e) (vu n L) (G++((List.range' k m).map (vm n ns g)).map qi) H P Q s/\(∀i,i<n->Kf (L.K i) (L.F i))/\(∀i,(L.K i).length<=t+150*m)/\∀i j,i∈ns.drop e->j∈ns.drop e->L.F i j=av ns g e i j
 |0,k,x,t,G,st,i,f,hk,kf,kl,ht,hl,l=>by
  have hk:k=e:=by ext
  subst hk;exact⟨x,st,i,f,by simp,kf,kl,l⟩
 |m+1,k,x,t,G,st,i,f,hk,kf,kl,ht,hl,l=>by
  have o:=h.o;have n12:=o.n12;have z0:=h.z0;have mn:=h.mn;have C:k<e:=by ext
  have E:k<n:=by ext
  have hv:=iF o E;have p0:=h.pv k C;have u:jj ns k∈ns.drop k:=(jD o E).mpr (.inl rfl);have B:∀j∈qb n ns k,j∈ns.drop k:=λj F=>(jD o E).mpr (.inr F);have so:AQ n t z (ns.drop k) x:=⟨kf,kl,λi O j F=>by rw[l i j O F];exact h.si k i j (by ext)⟩;have e1:=P2 (sh:=sh) (b:=b) (st:=st) (i:=i) (f:=f) (s:=s) o hv so (by ext) (by rw[l _ _ u u];exact p0);have er:Be (qb n ns k) (x.F (jj ns k))=Be (qb n ns k) (av ns g k (jj ns k)):=zi λj F=>l _ j u (B j F);have ec:(((qb n ns k).filter λi=>!decide (x.F i (jj ns k)=0)).map λi=>(i,x.F i (jj ns k)/x.F (jj ns k) (jj ns k)))=(vm n ns g k).c:=by
   unfold vm;dsimp only;have e:((qb n ns k).filter λi=>!decide (x.F i (jj ns k)=0))=(qb n ns k).filter λi=>!decide (av ns g k i (jj ns k)=0):=List.filter_congr λj F=>by rw[l j _ (B j F) u]
   rw[e];exact BF λj F=>by rw[l j _ (B j (A8.mp F).1) u,l _ _ u u]
  rw[er,ec,l _ _ u u]at e1;have e1:hG.p (fQ (vu n x) sh (jv ns) (.dic b [] []) (J (aj k)) (J (aj (jj ns k))) st i f) s=.ok (qi (vm n ns g k)) s:=e1;have d:=Rf (g:=g) o E;have dr:=Aj.mp d.r;have dc:=Aj.mp d.c;have ll:=Dv (k:=k) o;have lr:(vm n ns g k).r.length<=12:=by unfold vm Be;rw[yP];exact pu (Nm _ _) ll
  have lc:(vm n ns g k).c.length<=12:=by unfold vm;rw[yP];exact pu (Nm _ _) ll
  have U:∀r∈(vm n ns g k).r,r.1∈qb n ns k:=λr hr=>by
   have hr:r∈((qb n ns k).filter λj=>!decide (av ns g k (jj ns k) j=0)).map λj=>(j,av ns g k (jj ns k) j):=hr;obtain⟨i,O,rfl⟩:=vp.mp hr;exact(A8.mp O).1
  have W:∀r∈(vm n ns g k).c,r.1∈qb n ns k:=λr hr=>by
   obtain⟨i,O,rfl⟩:=vp.mp hr;exact(A8.mp O).1
  obtain⟨⟨P,Q,e2⟩,k2,l2⟩:=x9 (sh:=sh) (od:=jv ns) (b:=b) (k:=J (aj k)) (v:=J (aj (jj ns k))) (st:=qi (vm n ns g k)) (s:=s) (λr hr=>(h.w_r C r (n4 _ hr)).2) dr.2 lr z0 (vm n ns g k).c x t i f dc.2 (λp hp=>by
   obtain⟨a1,a2⟩:=h.w_c C p (n4 _ hp)
   exact⟨a1,a2,λr hr=>so.sz _ (B _ (W p hp)) _ (B _ (U r hr))⟩) kf kl (by ext)
  obtain⟨L,H,i2,f2,ih,ab,X,R⟩:=Em.run h (sh:=sh) (b:=b) (s:=s) m (k+1) (x.adds (vm n ns g k).c (vm n ns g k).r) (t+150) (G++[qi (vm n ns g k)]) (J (qi (vm n ns g k))) P Q (by ext) k2 (λi=>pu (l2 i) (by ext)) (by ext) (by simp[hl]) (λa c ha hc=>by
   have la:a∈qb n ns k:=(dw o).mpr ha;have lc:c∈qb n ns k:=(dw o).mpr hc;have ne:∀y,y∈qb n ns k->¬jj ns k=y:=λy hy e=>EN o E (e▸hy);have S:=h.cl (i:=a) C;have M:=h.rw (j:=c) C;unfold Law.cl at S;unfold rw' at M;rw[bp]at S M;have S:=(hI (ne a la)).symm.trans S;have M:=(hI (ne c lc)).symm.trans M;rw[wH dr.2 dc.2,l a c (B a la) (B c lc),S,M]
   rfl)
  refine⟨L,H,i2,f2,?_,ab,λi=>pu (X i) (by ext),R⟩;have ed:=pR (k:=k) (v:=jj ns k) (ns:=ns) hv;rw[ed,d7,e1]
  show (if flat (qi (vm n ns g k))=I/\G.length<1000/\flat (aj k)=I/\flat (aj (jj ns k))=I then (match ii sh (jv ns) (.dic b [] []) (J (aj k)) (J (aj (jj ns k))) (qi (vm n ns g k)) (.tup ((vm n ns g k).r.map n7)) ((vm n ns g k).c.map n7) (vu n x) i f s with
   |some (Z,P,Q,s2)=>d7 sh (jv ns) (.dic b [] []) ((bz (ns.map aj)).drop (k+1)) Z (G++[qi (vm n ns g k)]) (J (qi (vm n ns g k))) P Q s2
   |none=>.bad)else .bad)=_
  rw[c_ ⟨ux _,by ext,rfl,rfl⟩,e2];dsimp only;rw[ih];simp[List.range'_succ]
def Dx{n x:Nat}{s:d_}(h:x<n):bA.p [.int (n:Int),aj x] s=.ok (.bl I) s:=by rw[mD (by rfl)];unfold d3;rw[show lw 2 [.int (n:Int),aj x]=[J (.int (n:Int)),J (aj x)]from rfl];simp[uM,h]
def Dy{n:Nat}{ns:RQ}{s:d_}(o:On n ns):bS.p [.tup [.int (n:Int),.tup []],jv ns] s=.ok .non s:=by
 have F:=o.len;have n12:=o.n12
 have q:=jI (ws:=[]) (ws':=[]) (env:=[J (.tup [.int (n:Int),.tup []]),J (jv ns)]) (s:=s) (s0:=s) (fm:=[0]) (i:=bx (ac 1)) (t:=qo) (e:=ay bA (aa (ag k_ (ac 1) (xC (.int 0))) (aa (ac 0) a_))) (l:=ns) (λj=>aj j) (λ_=>.bl I) (λ_=>I) (by
  simp only[dj,ax,au,Pb];rfl) (by ext) (λj C=>⟨rfl,λ_=>by
   have u:k_.p (.tup [.int (n:Int),.tup []]) (.int 0)=J (.int (n:Int)):=rfl
   simp![aJ,aI,bg,aT,pk,DU,Ig,Ij,u,Pf,Dx (o.lt j C)]⟩)
 have E:rW.p [.lst ((ns.filter λ_=>I).map λ_=>D.bl I)]=J (.bl I):=by
  have:∀l:RQ,i9 (l.map λ_=>D.bl I)=J (l.map λ_=>I):=λl=>by
   induction l with
   |nil=>rfl
   |cons a l B=>rw[pk,i9,B];rfl
  show((J ((ns.filter λ_=>I).map λ_=>D.bl I)).bind i9).map _=_;rw[BH,this,DQ];congr 2;simp
 have sl:dH.p [jv ns]=J (.lst ((List.range n).map aj)):=by
  have e1:jv ns=.lst ((ns.map λ(x:Nat)=>(x:Int)).map .int):=by rw[wr];rfl
  rw[e1,kP (by simp;ext)];have e2:fv (ns.map λ(x:Nat)=>(x:Int))=(List.range n).map λ(x:Nat)=>(x:Int) :=
   f9 (jQ _) (Nl.map (S:=(·<=·)) _ (λa b h=>by ext)) ((eY _).trans (o.pm.map _))
  rw[e2,wr];rfl
 have lr:GC.p [.int (n:Int)]=J (.lst ((List.range n).map aj)):=by rw[Ex (by ext),EZ];simp[gS]
 have eq:yB T (.lst ((List.range n).map aj)) (.lst ((List.range n).map aj))=J (.bl I):=by
  have e1:(List.range n).map aj=((List.range n).map λ(x:Nat)=>(x:Int)).map .int:=by rw[wr];rfl
  rw[e1,rn];simp
 have y:bQ.p [.tup [.int (n:Int),.tup []],jv ns] s=.ok (.bl I) s:=by
  rw[mx (by rfl)];unfold dX;rw[show lw 2 [.tup [.int (n:Int),.tup []],jv ns]=[J (.tup [.int (n:Int),.tup []]),J (jv ns)]from rfl];have z:(fX ["list"]).p (jv ns)=J (.bl I):=by simp[dm]
  have u:k_.p (.tup [.int (n:Int),.tup []]) (.int 0)=J (.int (n:Int)):=rfl;rw[aK,dL];dsimp![gM,cN,lW,ax,au,z,Pl,BI,Pg,Am,if_false,dh,PU.aw];rw[aK,dL,gM,cN,ce,am,q];dsimp![az,E,Pl,BI,Pg,Am,if_false,dh,PU.aw];simp![bZ,aI,ce,sl,Pf,bg,aT,u,lr,fC,eq,Pg,PU.cr]
 rw[jd (by rfl)];unfold cT;rw[show lw 2 [.tup [.int (n:Int),.tup []],jv ns]=[J (.tup [.int (n:Int),.tup []]),J (jv ns)]from rfl,dL];simp![gM,cN,aJ,y,Pl,BI,Pg,Am,if_false,dh,PU.ye]
def Em.go{n z m:Nat}{ns:RQ}{g:Nat->Nat->Rat}(h:Em n z m ns g)(G:m=n\/(m<n/\av ns g m (jj ns m) (jj ns m)=0)){s:d_}:d7 (Ag n g) (jv ns) (.dic T [] []) (bz (ns.map aj)) (vu n (AR n g)) [] Y Y Y s=if m=n then .ok (((List.range n).map (vm n ns g)).map qi) s else .exc (Dw (jj ns m)) s:=by
 have o:=h.o;have n12:=o.n12;have E:=o.len;have mn:=h.mn;have B:=HK (n:=n) (z:=z+1) (R:=ns) (g:=g) (by ext) (λi j=>by have:=h.si 0 i j (by ext);have:sz (g i j)<=z:=this;ext)
 obtain⟨x,st,i,f,e,kf,kl,a⟩:=h.run (sh:=Ag n g) (b:=T) (s:=s) m 0 (AR n g) n [] Y Y Y (by ext) B.kf B.kl (by ext) rfl (λi j C u=>by
  have:j<n:=o.lt j (DO u)
  unfold AR;dsimp only
  rw[c_ this];rfl)
 rw[Mj,NF,<-List.range_eq_range']at e;rw[e];rcases G with rfl|⟨hm,F⟩
 .rw[c_ rfl,Qg (by simp[bz,E])];rfl
 .rw[hI (by ext)];have hv:=iF o hm;have l:jj ns m∈ns.drop m:=(jD o hm).mpr (.inl rfl);have y:AQ n (n+150*m) z (ns.drop m) x:=⟨kf,kl,λi C j u=>by rw[a i j C u];exact h.si m i j (mm _)⟩;have e1:=P4 (sh:=Ag n g) (b:=T) (st:=st) (i:=i) (f:=f) (s:=s) o hv y (by rw[a _ _ l l];exact F);rw[pR hv,d7,e1]
def Em.struck{n z m:Nat}{ns:RQ}{g:Nat->Nat->Rat}(h:Em n z m ns g)(u:m=n\/(m<n/\av ns g m (jj ns m) (jj ns m)=0)){s:d_}:bc.p [Ag n g,jv ns] s=if m=n then .ok (.lst (((List.range n).map (vm n ns g)).map qi)) s else .exc (Dw (jj ns m)) s:=by
 have o:=h.o;have n12:=o.n12;have B:=o.len;have go:=h.go u (s:=s);have l:e_ (ns.map aj)=I:=dS λd hd=>by
  obtain⟨x,_,rfl⟩:=vp.mp hd;rfl
 have a:gQ.p [Ag n g,jv ns,.dic T [] []] s=if m=n then .ok (.lst (((List.range n).map (vm n ns g)).map qi)) s else .exc (Dw (jj ns m)) s:=by
  show(if e_ (ns.map aj)=I then Nb [Ag n g,jv ns,.dic T [] []] s else .bad)=_;rw[c_ l];unfold Nb Ag;dsimp only;rw[yQ n12];dsimp only;rw[c_ (by simp;ext)];unfold Ag at go;rw[go];by_cases z:m=n
  .rw[c_ z,c_ z]
  .rw[hI z,hI z]
 have i:k_.p (Ag n g) (.int 0)=J (.int (n:Int)):=rfl;have t2:∀{x y:D}{s:d_},(if [x,y].length<=100000 then PR.ok (D.tup [x,y]) s else .bad)=.ok (.tup [x,y]) s:=λ{x y s}=>c_ (by simp);have j:∀{s:d_},(if([]:RR).length<=100000 then PR.ok (D.tup []) s else .bad)=.ok (.tup []) s:=λ{s}=>c_ (by decide);rw[qv (by rfl)];unfold fT;rw[show lw 2 [Ag n g,jv ns]=[J (Ag n g),J (jv ns)]from rfl,aK,o6];simp![aJ,bW,aI,bg,aT,i,Pf,j,t2,Dy o,Pg,PU.aw];simp![bZ,aJ,wB,a];by_cases z:m=n
 .simp only[c_ z];rfl
 .simp only[hI z];rfl
def WkOk.dd{n:Nat}{ns:RQ}{k:Nat}{w:Wk}(o:On n ns)(h:WkOk n ns k w):Ng w:=by
 have l:∀a:List Pt,HB (qb n ns k) a->(w.v::a.map (·.1)).Nodup:=λa u=>by
  rw[Aj];refine⟨λm=>?_,(oY.imp λh=>wm h).sublist u.sub⟩;have z:=(dw o).mp (u.sub.subset m);obtain⟨i,B,e⟩:=L7 z;rw[Nz]at e;have y:=h.v
  have:k=k+1+i:=(Ii (i:=k) (j:=k+1+i) (pj.mp y).1 o.nd).mp (by rw[y,Ah (by simp at B;ext),e])
  ext
 exact⟨l _ h.r,l _ h.c⟩
def WkOk.nn{n:Nat}{ns:RQ}{k:Nat}{w:Wk}(o:On n ns)(h:WkOk n ns k w):PY n w:=by
 have n12:=o.n12;have l:=o.len;have u:(qb n ns k).length<=12:=by have:=(iw (k:=k) o).length_eq;simp at this;ext
 have pt:∀a:List Pt,HB (qb n ns k) a->(∀q∈a,q.1<n/\Tw q.2)/\a.length<=12:=λa i=>⟨λq j=>⟨o.lt _ (DO ((dw o).mp (i.sub.subset (vp.mpr ⟨q,j,rfl⟩)))),(i.sm q j).tw⟩,by have:=i.sub.length_le;simp at this;ext⟩;exact⟨o.lt _ (Al h.v),h.p.tw,(pt _ h.r).1,(pt _ h.c).1,(pt _ h.r).2,(pt _ h.c).2⟩
def WkOk.at0{n:Nat}{ns:RQ}{k m:Nat}{w:Wk}{v:Nat}(o:On n ns)(h:WkOk n ns m w)(hv:ns[k]?=J v)(lt:k<m):cl w v=0/\rw' w v=0:=by
 have l:=(pj.mp hv).1;have ne:w.v≠v:=λe=>by
  have:=(Ii (i:=k) (j:=m) l o.nd).mp (by rw[hv,h.v,e])
  ext
 have B:v∉qb n ns m:=λz=>by
  obtain⟨i,y,e⟩:=L7 ((dw o).mp z);rw[Nz]at e
  have:=(Ii (i:=k) (j:=m+1+i) l o.nd).mp (by rw[hv,Ah (by simp at y;ext),e])
  ext
 have off:∀a:List Pt,HB (qb n ns m) a->qd a v=0:=λa u=>fV λz=>B (u.sub.subset z);unfold cl rw';rw[bp,bp,hI ne,hI ne,off _ h.c,off _ h.r];exact⟨rfl,rfl⟩
def HR{n:Nat}{ns:RQ}{k v j:Nat}(o:On n ns)(hv:ns[k]?=J v):∀(a:List Wk)(m:Nat),k<m->(∀i w,a[i]?=J w->WkOk n ns (m+i) w)->iX a v j=0/\iX a j v=0
 |[],m,_,_=>⟨rfl,rfl⟩
 |w::a,m,lt,h=>by
  have z:=(h 0 w rfl).at0 o hv lt;have l:=HR (j:=j) o hv a (m+1) (by ext) λi x e=>by
   have:=h (i+1) x (by simpa using e)
   rwa [show m+(i+1)=m+1+i by ext]at this
  rw[cX,cX,z.1,z.2,l.1,l.2]
  constructor<;>grind
def xy{n:Nat}{ns:RQ}(o:On n ns){i j:Nat}:∀(C:List Wk)(k:Nat),(∀(m:Nat) w,C[m]?=J w->WkOk n ns (k+m) w)->Cm (9363600*C.length) (iX C i j)
 |[],k,h=>Cm.zero _
 |w::C,k,h=>by
  have nn:=(h 0 w rfl).nn o;have co:∀(y:List Pt)(a:Nat)(q:Rat),Tw q->(∀p∈y,Tw p.2)->Tw (qd ((a,q)::y) i)/\Tw (qd ((a,q)::y) j):=λy a q E B=>by
   have:∀z,Tw (qd ((a,q)::y) z):=λz=>by
    have:∀l:List Pt,(∀p∈l,Tw p.2)->Tw (qd l z):=λl=>by
     induction l with
     |nil=>intro;exact Tw.zero
     |cons p l F =>
      intro hl;rw[bp];split
      .exact hl p (by simp)
      .exact F λx G=>hl x (n4 _ G)
    exact this _ λp h=>(n8.mp h).elim (λe=>e▸E) (B p)
   exact⟨this i,this j⟩
  rw[cX,Ax,Nat.mul_add,Nat.add_comm]
  exact ((co _ _ _ Tw.one λp B=>(nn.c p B).2).1.mul (co _ _ _ nn.p λp B=>(nn.r p B).2).2 |>.mono (by decide)).add (xy o C (k+1) λm u e=>by
   have:=h (m+1) u (by simpa using e)
   rwa [show k+(m+1)=k+1+m by ext]at this)
def Ov(e:Nat)(A:Nat->Nat->Rat):Prop:=∃E:Nat,E≠0/\E<2^e/\∀i j,∃a:Int,A i j=Rat.divInt a E/\a.natAbs<2^e
def Ov.sz{e:Nat}{A:Nat->Nat->Rat}(u:0<e)(h:Ov e A)(i j:Nat):sz (A i j)<=e:=by obtain⟨E,y,e1,h⟩:=h;obtain⟨a,l,z⟩:=h i j;rw[l];exact jy y u z e1
def Ov.step{e v:Nat}{A:Nat->Nat->Rat}(h:Ov e A)(hv:A v v≠0):Ov (2*e+1) λi j=>A i j-A i v/A v v*A v j:=by
 obtain⟨E,L,e1,h⟩:=h;obtain⟨b,B,C⟩:=h v v;have Z:((E:Int):Rat)≠0:=by
  have:(E:Int)≠0:=by ext
  exact_mod_cast this
 have F:b≠0:=λz=>hv (by rw[B,z];simp);have U:(b:Rat)≠0:=by exact_mod_cast F
 have S:2^(2*e+1)=2^e*2^e+2^e*2^e:=by rw[Nat.pow_succ,Nat.two_mul,Nat.pow_add];ext
 have l:∀x y:Int,x.natAbs<2^e->y.natAbs<2^e->(x*y).natAbs<2^e*2^e:=λx y Q O=>by
  rw[DS];exact NC Q O
 refine⟨E*b.natAbs,Mi L (by ext),?_,λi j=>?_⟩
 .have:=NC e1 C
  ext
 .obtain⟨a,G,P⟩:=h i j;obtain⟨c,H,M⟩:=h i v;obtain⟨d,R,hd⟩:=h v j;have u:A i j-A i v/A v v*A v j=Rat.divInt (a*b-c*d) ((E:Int)*b):=by
   rw[G,B,H,R];simp only[Rat.divInt_eq_div];push_cast
   grind
  have X:=l a b P C;have W:=l c d M hd;refine⟨if(E:Int)*b<0 then -(a*b-c*d)else a*b-c*d,?_,?_⟩
  .show A i j-A i v/A v v*A v j=_;rw[u,Hy (IZ (by ext) F),DS,Int.natAbs_natCast]
  .split<;>ext
def ex:Nat->Nat
 |0=>27
 |k+1=>2*ex k+1
def LO:∀k,k<=12->0<ex k/\ex k<=120000:=by decide
def EO{m:Nat}{ns:RQ}{g:Nat->Nat->Rat}(a:Ov 27 g)(pv:∀k,k<m->av ns g k (jj ns k) (jj ns k)≠0):∀k,k<=m->Ov (ex k) (av ns g k)
 |0,_=>a
 |k+1,i=>(EO a pv k (by ext)).step (pv k (by ext))
structure Sh(n:Nat)(g:Nat->Nat->Rat):Prop where
 off:∀i j,¬(i<n/\j<n)->g i j=0
 ov:Ov 27 g
def Sh.em{n m:Nat}{ns:RQ}{g:Nat->Nat->Rat}(h:Sh n g)(o:On n ns)(mn:m<=n)(pv:∀k,k<m->av ns g k (jj ns k) (jj ns k)≠0):Em n 120000 m ns g :=
 ⟨o,mn,h.off,pv,λk i j a=>by
  have:=LO k (by have:=o.n12;ext)
  exact pu ((EO h.ov pv k a).sz this.1 i j) this.2,by ext⟩
def xp(P:Nat->Prop):∀n,∃m,m<=n/\(∀k,k<m->P k)/\(m=n\/(m<n/\¬P m))
 |0=>⟨0,mm _,λ_ h=>absurd h (Nat.not_lt_zero _),.inl rfl⟩
 |n+1=>by
  obtain⟨m,l,i,a⟩:=xp P n;rcases a with rfl|a
  .by_cases z:P m
   .exact⟨m+1,mm _,λk j=>by
     by_cases e:k=m
     .rw[e];exact z
     .exact i k (by ext),.inl rfl⟩
   .exact⟨m,by ext,i,.inr ⟨by ext,z⟩⟩
  .exact⟨m,by ext,i,.inr ⟨by ext,a.2⟩⟩
section
variable{n:Nat}{ns:RQ}{ws:List Wk}
def WkOk.at'{k:Nat}{w:Wk}(o:On n ns)(h:WkOk n ns k w):w.v=jj ns k:=by
 have:=h.v
 unfold jj;rw[Qb,this];rfl
structure Gs(n:Nat)(ns:RQ)(ws:List Wk)(m:Nat)(w:Rat)(G r:Nat->Nat->Rat):Prop where
 o:On n ns
 hl:ws.length=n
 hw:∀(k:Nat) w,ws[k]?=J w->WkOk n ns k w
 hm:m<n
 eq:∀i j,G i j=iX (ws.take m) i j+r i j
 r0:∀i j,¬(i∈ns.drop m/\j∈ns.drop m)->r i j=0
 rc:∀i j,Cm 36720 (r i j)
 rw:r (jj ns m) (jj ns m)=w
variable{m:Nat}{w:Rat}{G r:Nat->Nat->Rat}
def Gs.rest(t:Gs n ns ws m w G r)(k:Nat):∀(i:Nat) u,((ws.take m).drop k)[i]?=J u->WkOk n ns (k+i) u:=λi u e=>by
 rw[Nw,Nv]at e
 split at e
 .exact t.hw _ u e
 .cases e
def Gs.out(t:Gs n ns ws m w G r){k:Nat}(l:k<m):jj ns k∉ns.drop m:=λz=>by
 have hm:=t.hm;have e:=iF t.o (show k<n by ext);obtain⟨i,a,q⟩:=L7 z;rw[Nz]at q
 have:=(Ii (i:=k) (j:=m+i) (pj.mp e).1 t.o.nd).mp (by rw[e,Ah (by simp at a;ext),q])
 ext
def Gs.cons(t:Gs n ns ws m w G r){k:Nat}(a:k<m):∃u,(ws.take m).drop k=u::(ws.take m).drop (k+1)/\WkOk n ns k u:=by
 have hl:=t.hl;have hm:=t.hm;have h:k<(ws.take m).length:=by simp;ext
 refine⟨(ws.take m)[k],IK h,t.hw k _ ?_⟩;rw[List.getElem_take];exact Ah (by ext)
def Gs.av(t:Gs n ns ws m w G r):∀k,k<=m->∀i j,Law.av ns G k i j=iX ((ws.take m).drop k) i j+r i j
 |0,_,i,j=>t.eq i j
 |k+1,M,i,j=>by
  have a:=Gs.av t k (by ext);obtain⟨u,F,ok⟩:=t.cons (show k<m by ext);have E:=ok.at' t.o;have C:=λj=>HR (j:=j) t.o ok.v ((ws.take m).drop (k+1)) (k+1) (by ext) (t.rest (k+1));have y:cl u u.v=1:=by unfold cl;rw[bp,c_ rfl]
  have B:rw' u u.v=u.p:=by unfold rw';rw[bp,c_ rfl]
  have L:u.p≠0:=ok.p.1;have l:=t.out (show k<m by ext);rw[<-E]at l;have z1:=λj=>t.r0 u.v j λz=>l z.1;have H:=λi=>t.r0 i u.v λz=>l z.2;show Law.av ns G k i j-Law.av ns G k i (jj ns k)/Law.av ns G k (jj ns k) (jj ns k)*Law.av ns G k (jj ns k) j=_;rw[a,a,a,a,<-E,F,cX,cX,cX,cX,y,B,(C j).1,(C i).2,(C u.v).1,z1,H,z1]
  grind
def Gs.pv(t:Gs n ns ws m w G r){k:Nat}(y:k<m):Law.av ns G k (jj ns k) (jj ns k)≠0:=by
 obtain⟨u,C,ok⟩:=t.cons y;have B:=ok.at' t.o;have E:=HR (j:=u.v) t.o ok.v ((ws.take m).drop (k+1)) (k+1) (by ext) (t.rest (k+1));have a:cl u u.v=1:=by unfold cl;rw[bp,c_ rfl]
 have i:rw' u u.v=u.p:=by unfold rw';rw[bp,c_ rfl]
 have F:u.p≠0:=ok.p.1;have l:=t.out y;rw[<-B]at l;rw[t.av k (by ext),<-B,C,cX,a,i,E.1,t.r0 u.v u.v λz=>l z.1];intro z;apply F
 grind
def Gs.at(t:Gs n ns ws m w G r):Law.av ns G m (jj ns m) (jj ns m)=w:=by
 rw[t.av m (mm _),t.rw,Qg (by simp;ext)];show(0:Rat)+w=w
 grind
def Gs.sh(t:Gs n ns ws m w G r):Sh n G:=by
 have hl:=t.hl;have hm:=t.hm;have n12:=t.o.n12;have y:∀(k:Nat) u,(ws.take m)[k]?=J u->WkOk n ns (0+k) u:=λk u e=>t.rest 0 k u (by simpa using e);have hr:∀i j,¬(i<n/\j<n)->r i j=0:=λi j h=>t.r0 i j λz=>h ⟨t.o.lt i (DO z.1),t.o.lt j (DO z.2)⟩;constructor
 .intro i j h;rw[t.eq,hr i j h];unfold iX
  have:∀u∈ws.take m,cl u i*rw' u j=0:=λu F=>by
   obtain⟨k,H⟩:=No F;have nn:=(y k u H).nn t.o;have co:∀(B:List Pt)(q:Rat)(x:Nat),¬x<n->(∀p∈B,p.1<n/\Tw p.2)->qd ((u.v,q)::B) x=0:=λB q x L C=>fV λm=>by
    obtain⟨p,a,e⟩:=vp.mp m;rcases n8.mp a with rfl|a
    .have:=nn.v;dsimp only at e;ext
    .have:=(C p a).1;ext
   by_cases z:i<n
   .rw[show rw' u j=0 from co _ _ _ (λq=>h ⟨z,q⟩) nn.r];grind
   .rw[show cl u i=0 from co _ _ _ z nn.c];grind
  rw[BF this]
  have:∀l:List Wk,(l.map λ_=>(0:Rat)).sum=0:=λl=>by
   induction l with
   |nil=>rfl
   |cons _ _ E=>rw[pk,List.sum_cons,E];grind
  rw[this];grind
 .refine⟨144,by decide,by decide,λi j=>?_⟩;obtain⟨z,e,M⟩:=(xy t.o (i:=i) (j:=j) (ws.take m) 0 y).add (t.rc i j)
  have:(ws.take m).length<=12:=by simp;ext
  exact⟨z,by rw[t.eq,e];rfl,by ext⟩
def Gs.first(t:Gs n ns ws m 0 G r){s:d_}:bc.p [Ag n G,jv ns] s=.exc (Dw (jj ns m)) s:=by have hm:=t.hm;rw[(t.sh.em t.o (by ext) λk a=>t.pv a).struck (.inr ⟨hm,t.at⟩),hI (by ext)]
def Gs.second(t:Gs n ns ws m w G r)(hw:w≠0){s:d_}:(∃d,bc.p [Ag n G,jv ns] s=.ok d s)\/∃k,m<k/\k<n/\bc.p [Ag n G,jv ns] s=.exc (Dw (jj ns k)) s:=by
 have hm:=t.hm;obtain⟨k,l,j,a⟩:=xp (λk=>Law.av ns G k (jj ns k) (jj ns k)≠0) n;have em:=t.sh.em t.o l j;rcases a with rfl|⟨a,i⟩
 .exact .inl ⟨_,by rw[em.struck (.inl rfl),c_ rfl]⟩
 .refine .inr ⟨k,?_,a,by rw[em.struck (.inr ⟨a,Classical.byContradiction i⟩),hI (by ext)]⟩;rcases Nat.lt_trichotomy k m with z|z | z
  .exact absurd (t.pv z) i
  .subst z;exact absurd (by show Law.av ns G k (jj ns k) (jj ns k)≠0;rw[t.at];exact hw) i
  .exact z
end
def ym{g:Nat->Nat->Rat}{i j:Nat}:c8 g i j (g i j+0)=g:=by
 funext a b;unfold c8;split
 .rename_i h
  rw[h.1,h.2];grind
 .rfl
def jM{α:Type}(l:List α)(f:α->D){k:Nat}(a:k<=l.length):fj (l.map f) (J (k:Int)) Y=(l.drop k).map f:=by unfold fj;rw[HT.kx,yP,HT.oA,Mf a,List.map_drop];exact Nk (by simp)
def xo{α:Type}(l:List α)(f:α->D){k:Nat}(a:k<=l.length):fj (l.map f) Y (J (k:Int))=(l.take k).map f:=by unfold fj;rw[HT.kx,yP,HT.oA,Mf a,Mj,Nat.sub_zero,List.map_take]
def Sm.rc{q:Rat}(h:Sm q):Cm 36720 q:=by
 obtain⟨_,z,rfl,a⟩:=h;refine⟨12*z,?_,by ext⟩;rw[Rat.divInt_eq_div,Rat.divInt_eq_div];push_cast
 grind
section
variable{n m v:Nat}{ns:RQ}{wk:D}{w:Rat}
abbrev hS(ns:RQ)(wk:D)(m:Nat)(w:Rat)(n:Nat)(g:Nat->Nat->Rat)(c:C8):aq:=hE (jv ns) wk (.int (m:Int)) (qD w) (.int (n:Int)) (aF n g) c
def P5{i j:Nat}{g:Nat->Nat->Rat}{c:C8}{s:d_}(hv:ns[m]?=J v)(H:i<n)(L:j<n)(F:c.a7=J (aj i))(B:c.a12=J (aj j))(sw:sz w<=40)(W:Cm 36720 w)(sg:sz (g i j)<=40):
  ∃d Z,Df.p (hS ns wk m w n g c) (aF n g) s=J (hS ns wk m w n (c8 g i j (g i j+d)) c,aF n (c8 g i j (g i j+d)),Z)/\Cm 36720 d/\(i=v->j=v->d=w):=by
 have E:nr (ns.map aj) (m:Int)=J (aj v):=L2.cP (by rw[tx,hv];rfl);have S:=λs=>LL (g:=g) (od:=jv ns) (wk:=wk) (mn:=.int (m:Int)) (own:=qD w) (nn:=.int (n:Int)) (c:=c) (s:=s) H L F B;have X:(oU (xB (ag v4 (ac 7) (ag k_ (ac 1) (ac 3)))) (xB (ag v4 (ac 12) (ac 7))):Xt []).p (hS ns wk m w n g c) s=.ok (decide (i=v)&&decide (j=i)) s:=by
  unfold hS hE;rw[F,B];have C:∀a b:Nat,yB T (aj a) (aj b)=J (.bl (decide (a=b))):=λa b=>by
   rw[jo];congr 2;exact decide_eq_decide.mpr ⟨λh=>by ext,λh=>by ext⟩
  by_cases z:i=v
  .dsimp![xx,cN,aI,ax,au,lY,E,fC,C,Pl,z,decide_true,if_true,Bool.true_and]
  .dsimp![xx,cN,aI,ax,au,lY,E,fC,C,Pl,z,decide_false,Am,if_false,Bool.false_and]
 have l:∀(x y:Yd 6)(env:aq)(rd:List Rd),(Na (oU (xB (ag v4 (ac 7) (ag k_ (ac 1) (ac 3)))) (xB (ag v4 (ac 12) (ac 7)))) x y).p env rd s=match(oU (xB (ag v4 (ac 7) (ag k_ (ac 1) (ac 3)))) (xB (ag v4 (ac 12) (ac 7))):Xt []).p env s with
  |.ok b u=>if b=I then x.p env rd u else y.p env rd u
  |_=>Y:=λ_ _ _ _=>rfl
 unfold Df;rw[l,X];dsimp only;by_cases z:i=v/\j=i
 .rw[c_ (by simp[z])];refine⟨w,s,sQ H L F B ?_,W,λ_ _=>rfl⟩;rw[aJ,am,S,Pb];have G:=sB (p:=g i j) (q:=w) (s:=s) (by ext);simp![G]
 .rw[hI (by simpa using z)];obtain⟨a,u,a0,a1,U⟩:=dC (s:=s) (size:=2) (by decide) (by decide);have t2:(xB (ag v4 (ay ba (aa (ac 0) (aa (xC (.int 2)) a_))) (xC (.int 0))):Xt []).p (hS ns wk m w n g c) s=.ok (decide (a=0)) u:=by
   unfold hS hE;dsimp![cN,aI,aJ,am,au,bg,aT,az,U,fC,jo,Pl];rfl
  have l:∀(x y:Yd 6)(env:aq)(rd:List Rd),(Na (xB (ag v4 (ay ba (aa (ac 0) (aa (xC (.int 2)) a_))) (xC (.int 0)))) x y).p env rd s=match(xB (ag v4 (ay ba (aa (ac 0) (aa (xC (.int 2)) a_))) (xC (.int 0))):Xt []).p env s with
   |.ok b u=>if b=I then x.p env rd u else y.p env rd u
   |_=>Y:=λ_ _ _ _=>rfl
  rw[l,t2];dsimp only;have R:∀{d:Rat},i=v->j=v->d=w:=λa b=>absurd ⟨a,b.trans a.symm⟩ z;by_cases P:a=0
  .rw[c_ (by simp[P])];obtain⟨q,M,eq,Q⟩:=oH (w:=I) (s:=u);refine⟨q,M,sQ H L F B ?_,Q.rc,R⟩;have sq:=Q.sz;rw[aJ,am,S,Pb];have G:=sB (p:=g i j) (q:=q) (s:=M) (by ext);have O:bD.p [.pen,.bl I] u=.ok (qD q) M:=eq;simp![aJ,bg,Er,O,G]
  .rw[hI (by simp[P])];exact⟨0,u,by rw[ym];rfl,Cm.zero _,R⟩
def ER{i:Nat}(hv:ns[m]?=J v)(O:i<n)(L:sz w<=40)(M:Cm 36720 w):∀(u:RQ)(g:Nat->Nat->Rat)(c:C8)(s:d_),u.Nodup->(∀j∈u,j<n/\sz (g i j)<=40)->c.a7=J (aj i) ->
  ∃y C G,AW (Av 12:Yt 6).p Df.p (u.map aj) (hS ns wk m w n g c) (aF n g) s=J (hS ns wk m w n y C,aF n y,G)/\C.a7=c.a7/\(∀a b,¬(a=i/\b∈u)->y a b=g a b)/\(∀b∈u,Cm 36720 (y i b-g i b))/\(i=v->v∈u->y v v=g v v+w)
 |[],g,c,s,nd,H,E=>⟨g,c,s,rfl,rfl,λ_ _ _=>rfl,λb l=>(nomatch l),λ_ h=>nomatch h⟩
 |j::u,g,c,s,nd,H,E=>by
  rw[Aj]at nd;obtain⟨X,Q⟩:=H j (by simp);obtain⟨d,R,e1,S,hd⟩:=P5 (wk:=wk) (c:={ c with a12:=J (aj j)}) (s:=s) hv O X E rfl L M Q;have off:∀b,b∈u->c8 g i j (g i j+d) i b=g i b:=λb l=>hI λ(z:i=i/\b=j)=>nd.1 (z.2▸l);have at0:c8 g i j (g i j+d) i j=g i j+d:=c_ ⟨rfl,rfl⟩;obtain⟨y,C,G,e2,W,P,Z,U⟩:=ER hv O L M u (c8 g i j (g i j+d)) { c with a12:=J (aj j)} R nd.2 (λb l=>by rw[off b l];exact H b (n4 _ l)) E;have gj:y i j=g i j+d:=by rw[P i j λz=>nd.1 z.2,at0]
  refine⟨y,C,G,?_,W,λa b B=>?_,λb l=>?_,λF hm=>?_⟩
  .rw[pk,iC (env1:=hS ns wk m w n g { c with a12:=J (aj j)}) (by rfl) e1];exact e2
  .rw[P a b λz=>B ⟨z.1,n4 _ z.2⟩];exact hI λz=>B ⟨z.1,by rw[z.2];simp⟩
  .rcases n8.mp l with rfl|l
   .rw[gj,show g i b+d-g i b=d by grind];exact S
   .have:=Z b l
    rwa [off b l]at this
  .rcases n8.mp hm with z|z
   .subst F;subst z;rw[gj,hd rfl rfl]
   .have:=U F z
    subst F
    rwa [off i z]at this
def ES(hv:ns[m]?=J v)(hm:m<=ns.length)(P:sz w<=40)(R:Cm 36720 w)(nd:(ns.drop m).Nodup)(lt:∀j∈ns.drop m,j<n):∀(u:RQ)(g:Nat->Nat->Rat)(c:C8)(s:d_),u.Nodup->(∀i∈u,i<n/\∀j∈ns.drop m,sz (g i j)<=40) ->
  ∃y M L,AW (Av 7:Yt 6).p Hs.p (u.map aj) (hS ns wk m w n g c) (aF n g) s=J (hS ns wk m w n y M,aF n y,L)/\(∀a b,¬(a∈u/\b∈ns.drop m)->y a b=g a b)/\(∀a b,a∈u->b∈ns.drop m->Cm 36720 (y a b-g a b))/\(v∈u->v∈ns.drop m->y v v=g v v+w)
 |[],g,c,s,_,_=>⟨g,c,s,rfl,λ_ _ _=>rfl,λa b l=>(nomatch l),λh=>nomatch h⟩
 |i::u,g,c,s,F,H=>by
  rw[Aj]at F;obtain⟨i1,i2⟩:=H i (by simp);obtain⟨C,W,Q,e1,_,Z,h2,h3⟩:=ER (wk:=wk) hv i1 P R (ns.drop m) g { c with a7:=J (aj i)} s nd (λj G=>⟨lt j G,i2 j G⟩) rfl;have off:∀a b,a∈u->C a b=g a b:=λa b l=>Z a b λz=>F.1 (z.1▸l);obtain⟨y,M,L,e2,S,k2,k3⟩:=ES hv hm P R nd lt u C W Q F.2 (λa l=>⟨(H a (n4 _ l)).1,λj G=>by rw[off a j l];exact(H a (n4 _ l)).2 j G⟩);have X:∀b,y i b=C i b:=λb=>S i b λz=>F.1 z.1;have it:(bx (vB (ac 1) (vz (ac 3)) vv):Xi []).p ((hS ns wk m w n g { c with a7:=J (aj i)}).set 6 Y) s=.ok ((ns.drop m).map aj) s:=by unfold hS hE;dsimp![va,tr,dj,gu,ax,au,fY,fZ,gc,jM ns aj hm,iU]
  have fl:e_ ((ns.drop m).map aj)=I:=dS λd hd=>by
   obtain⟨x,_,rfl⟩:=vp.mp hd;rfl
  have eb:Hs.p (hS ns wk m w n g { c with a7:=J (aj i)}) (aF n g) s=J (hS ns wk m w n C W,aF n C,Q):=(kS it fl).trans e1;refine⟨y,M,L,?_,λa b E=>?_,λa b l U=>?_,λO B=>?_⟩
  .rw[pk,iC (env1:=hS ns wk m w n g { c with a7:=J (aj i)}) (by rfl) eb];exact e2
  .rw[S a b λz=>E ⟨n4 _ z.1,z.2⟩];exact Z a b λz=>E ⟨by rw[z.1];simp,z.2⟩
  .rcases n8.mp l with rfl|l
   .rw[X];exact h2 b U
   .have:=k2 a b l U
    rwa [off a b l]at this
  .rcases n8.mp O with z|z
   .subst z;rw[X];exact h3 rfl B
   .have:=k3 z B
    rwa [off v v z]at this
def uE{ws:List Wk}{s:d_}(o:On n ns)(hl:ws.length=n)(hw:∀(k:Nat) u,ws[k]?=J u->WkOk n ns k u)(hm:m<n)(U:sz w<=40)(cw:Cm 36720 w):
  ∃G r s',li.p [.pen,jv ns,.lst (ws.map qi),.int (m:Int),qD w] s=.ok (Ag n G) s'/\Gs n ns ws m w G r:=by
 have L:=o.len;have n12:=o.n12;have hv:=iF o hm;have nn:∀u∈ws.take m,PY n u/\Ng u:=λu l=>by
  obtain⟨k,Q⟩:=No (List.mem_of_mem_take l);exact⟨(hw k u Q).nn o,(hw k u Q).dd o⟩
 obtain⟨⟨H,e1⟩,b1⟩:=EK (od:=jv ns) (wk:=.lst (ws.map qi)) (mn:=.int (m:Int)) (own:=qD w) (nn:=.int (n:Int)) (s:=s) (ws.take m) (λ_ _=>0) ⟨Y,Y,Y,Y,Y,Y,Y,Y⟩ 0 (λu l=>(nn u l).1) (λ_ _=>Cm.zero _) (by simp;ext);have sg:∀i j,sz ((ws.take m).foldl d6 (λ_ _=>0) i j)<=40:=λi j=>(b1 i j).sz (by simp;ext) (by decide);have nd:=o.nd.sublist (Ny m ns);have lt:∀j∈ns.drop m,j<n:=λj hj=>o.lt j (DO hj);obtain⟨G,S,P,e2,M,R,X⟩:=ES (wk:=.lst (ws.map qi)) hv (by ext) U cw nd lt (ns.drop m) ((ws.take m).foldl d6 λ_ _=>0) H s nd (λi hi=>⟨lt i hi,λj _=>sg i j⟩);have O:aF n (λ_ _=>0)=se ns.length:=by unfold aF se;rw[List.map_const',List.map_const',Ma,L];rfl
 have f1:e_ ((ws.take m).map qi)=I:=dS λd hd=>by
  obtain⟨u,_,rfl⟩:=vp.mp hd;exact ux u
 have f2:e_ ((ns.drop m).map aj)=I:=dS λd hd=>by
  obtain⟨x,_,rfl⟩:=vp.mp hd;rfl
 have B:(bx (vB (ac 2) vv (vz (ac 3))):Xi []).p ((hS ns (.lst (ws.map qi)) m w n (λ_ _=>0) ⟨Y,Y,Y,Y,Y,Y,Y,Y⟩).set 6 Y) s=.ok ((ws.take m).map qi) s:=by unfold hS hE;dsimp![va,tr,dj,gu,ax,au,fY,fZ,gc,xo ws qi (show m<=ws.length by ext),iU]
 have F:(bx (vB (ac 1) (vz (ac 3)) vv):Xi []).p ((hS ns (.lst (ws.map qi)) m w n ((ws.take m).foldl d6 λ_ _=>0) H).set 6 Y) s=.ok ((ns.drop m).map aj) s:=by unfold hS hE;dsimp![va,tr,dj,gu,ax,au,fY,fZ,gc,jM ns aj (show m<=ns.length by ext),iU]
 have L1:o8.p (hS ns (.lst (ws.map qi)) m w n (λ_ _=>0) ⟨Y,Y,Y,Y,Y,Y,Y,Y⟩) (aF n λ_ _=>0) s=_:=(kS B f1).trans e1;have C:sK.p (hS ns (.lst (ws.map qi)) m w n ((ws.take m).foldl d6 λ_ _=>0) H) (aF n ((ws.take m).foldl d6 λ_ _=>0)) s=_:=(kS F f2).trans e2;have W:Ht.p (hS ns (.lst (ws.map qi)) m w n (λ_ _=>0) ⟨Y,Y,Y,Y,Y,Y,Y,Y⟩) (aF n λ_ _=>0) s=J (hS ns (.lst (ws.map qi)) m w n G S,aF n G,P):=by
  show (match o8.p _ _ s with
   |some (y,E,Z)=>sK.p y E Z
   |none=>Y)=_
  rw[L1];exact C
 refine⟨G,λi j=>G i j-(ws.take m).foldl d6 (λ_ _=>0) i j,P,?_,o,hl,hw,hm,λi j=>?_,λi j h=>?_,λi j=>?_,?_⟩
 .have es:LD (ns.map aj) (ws.map qi) (m:Int) (qD w)=hS ns (.lst (ws.map qi)) m w n (λ_ _=>0) ⟨Y,Y,Y,Y,Y,Y,Y,Y⟩:=by
   unfold LD hS hE;rw[O,yP,L]
  show Nc [.pen,.lst (ns.map aj),.lst (ws.map qi),.int (m:Int),qD w] s=_;unfold Nc;dsimp only;rw[c_ ⟨by rfl,by simp;ext⟩,es,yP,<-O,W];dsimp only;rw[PZ n12];dsimp only;rw[c_ Dq]
 .show G i j=_+(G i j-_);rw[ul λu l=>(nn u l).2]
  grind
 .show G i j-_=0;rw[M i j h];grind
 .show Cm 36720 (G i j-_);by_cases z:i∈ns.drop m/\j∈ns.drop m
  .exact R i j z.1 z.2
  .rw[M i j z,show ∀x:Rat,x-x=0 from λx=>by grind];exact Cm.zero _
 .have a:jj ns m∈ns.drop m:=(jD o hm).mpr (.inl rfl);show G (jj ns m) (jj ns m)-_=w;rw[X a a];grind
end
def Kd(d:D):Prop:=∃t,A3 d=J t
def II:D->Bool
 |.int _=>I
 |_=>T
def Aw(n:Int):D->Bool
 |.int i=>decide (0<=i)&&decide (i<n)
 |_=>T
def t9{d:D}{s:d_}(h:Kd d):bG.p [d] s=.ok (.bl (II d)) s:=by rw[mf (by rfl)];unfold d4;obtain⟨t,a⟩:=h;cases d<;>first | (cases a;done) | (simp[lw,dm,II,A3];done) | (simp[lw,dm,II,A3]at a ⊢)
def Dz{n:Int}{d:D}{s:d_}(h:Kd d):bA.p [.int n,d] s=.ok (.bl (Aw n d)) s:=by
 rw[mD (by rfl)];unfold d3
 cases d with
 |int i=>by_cases z:0<=i<;>simp[lw,t9 h,II,Aw,z]
 |_=>simp[lw,t9 h,II,Aw]
def uZ:∀(bs:List Bool),i9 (bs.map .bl)=J bs
 |[]=>rfl
 |b::bs=>by rw[pk,i9,uZ bs];rfl
def sS:∀{ds:RR},(∀d∈ds,II d=I)->∃a:RN,ds=a.map .int
 |[],_=>⟨[],rfl⟩
 |d::ds,h=>by
  obtain⟨a,rfl⟩:=sS (ds:=ds) λd hd=>h d (n4 _ hd)
  have:=h d (by simp)
  cases d with
  |int i=>exact⟨i::a,rfl⟩
  |_=>cases this
def gq(n:Nat):RN:=(List.range n).map λ(x:Nat)=>(x:Int)
def yt(n:Nat):(gq n).Pairwise (·<=·):=Nl.map (S:=(·<=·)) _ (λa b h=>by ext)
def DA(n:Nat):(gq n).Nodup:=List.Pairwise.map (S:=(·≠·)) _ (λa b h=>by ext) IV
def sJ{n:Nat}{i:Int}:i∈gq n↔0<=i/\i<n:=by
 unfold gq;rw[vp];constructor
 .rintro⟨x,a,rfl⟩;rw[DR]at a;ext
 .intro h;exact⟨i.toNat,by rw[DR];ext,by ext⟩
def QQ(n:Nat)(i:RR):Prop:=∃a:RN,i=a.map .int/\a.Perm (gq n)
open Classical in
def ig(n:Nat):D->Bool
 |.lst a=>decide (QQ n a)
 |_=>T
def oz:∀{a b:RN},a.map D.int=b.map D.int->a=b
 |[],[],_=>rfl
 |[],_::_,e=>by cases e
 |_::_,[],e=>by cases e
 |x::a,y::b,e=>by
  injection e with e1 e2
  injection e1 with e1
  rw[e1,oz e2]
def zk{n:Nat}{a:RN}:QQ n (a.map .int)↔fv a=gq n:=by
 constructor
 .rintro⟨i,e,pm⟩;rw[oz e];exact f9 (jQ _) (yt n) ((eY _).trans pm)
 .intro h;exact⟨a,rfl,by rw[<-h];exact(eY a).symm⟩
def Th(d:D):Prop:=Kd d/\∀a,d=.lst a->a.length<=60/\∀x∈a,Kd x
def LP{d:D}{env:aq}{s:d_}{i:Nat}(h:Kd d)(e:env[i]?=J (J d)):(xB (x_ (fX ["list"]) (ac i)):Xt []).p env s=.ok (match d with|.lst _=>I|_=>T) s:=by obtain⟨t,a⟩:=h;dsimp![cN,lW,uv e,GG,a,DQ,Pl];cases d<;>first | (cases a;done) | (injection a with a;subst a;simp[dm];done) | skip
abbrev ET(n:Nat):D:=.tup [.int (n:Int),.tup []]
def vn{n:Nat}{d:D}{s:d_}(H:n<=12)(h:Th d):bQ.p [ET n,d] s=.ok (.bl (ig n d)) s:=by
 rw[mx (by rfl)];unfold dX;rw[show lw 2 [ET n,d]=[J (ET n),J d]from rfl];have C:k_.p (.tup [.int (n:Int),.tup []]) (.int 0)=J (.int (n:Int)):=rfl;have tl:=LP (env:=[J (ET n),J d]) (s:=s) (i:=1) h.1 rfl;rw[aK,dL,gM,tl]
 cases d with
 |lst a =>
  obtain⟨hl,G⟩:=h.2 a rfl;simp only[Pb,BI,Pg,Am,if_false,dh,PU.aw];have q:=jI (ws:=[]) (ws':=[]) (env:=[J (ET n),J (.lst a)]) (s:=s) (s0:=s) (fm:=[0]) (i:=bx (ac 1)) (t:=qo) (e:=(ay bA (aa (ag k_ (ac 1) (xC (.int 0))) (aa (ac 0) a_)))) (l:=a) id (λx=>.bl (Aw n x)) (λ_=>I) (by rw[Jb];simp) (by ext) (λx j=>⟨rfl,λ_=>by simp[Dz (G x j)]⟩);rw[Nt.mpr (by simp)]at q;have e3:rW.p [.lst (a.map λx=>.bl (Aw n x))]=J (.bl ((a.map (Aw n)).all id)):=by
   show((J (a.map λx=>D.bl (Aw n x))).bind i9).map _=_
   have:(a.map λx=>D.bl (Aw n x))=(a.map (Aw n)).map .bl:=by rw[wr];rfl
   rw[this,BH,uZ];rfl
  rw[aK,dL,gM,cN,ce,am,q];dsimp![az,e3,Pl];by_cases z:∀x∈a,Aw n x=I
  .have u:(a.map (Aw n)).all id=I:=by rw[NJ];exact NA.mpr λx j=>z x j
   obtain⟨B,rfl⟩:=sS (ds:=a) λx j=>by
    have:=z x j
    cases x with
    |int i=>rfl
    |_=>cases this
   simp![u,BI,Pg,Am,if_false,dh,PU.aw,bZ,aI,ce];rw[kP (by rw[yP]at hl;ext)];dsimp![bg,aT,C,az];have lr:GC.p [.int (n:Int)]=J (.lst ((gq n).map .int)):=by rw[Ex (by ext),EZ];simp[gS,gq]
   rw[lr]
   have:decide (fv B=gq n)=ig n (.lst (B.map .int)):=by unfold ig;exact decide_eq_decide.mpr zk.symm
   simp[rn,this]
  .have u:(a.map (Aw n)).all id=T:=by
    rw[NJ];refine Bool.eq_false_iff.mpr λy=>z λx j=>NA.mp y x j
   have F:ig n (.lst a)=T:=by
    unfold ig;refine @decide_eq_false _ (_) λ⟨B,e,pm⟩=>z λx j=>?_;rw[e]at j;obtain⟨i,E,rfl⟩:=vp.mp j
    have:=sJ.mp (pm.mem_iff.mp E)
    simp[Aw,this.1,this.2]
   simp[u,F]
 |_=>simp[ig]
open Classical in
theorem HS{n:Nat}{a:RR}(h:a.length≠n):ig n (.lst a)=T:=by refine decide_eq_false λ⟨i,e,pm⟩=>h ?_;rw[e,yP,pm.length_eq];simp[gq]
open Classical in
theorem LQ{n:Nat}{j:RR}{x:D}(a:x∈j)(h:Aw n x=T):ig n (.lst j)=T:=by
 refine decide_eq_false λ⟨u,e,pm⟩=>?_;rw[e]at a;obtain⟨i,l,rfl⟩:=vp.mp a
 have:=sJ.mp (pm.mem_iff.mp l)
 simp[Aw]at h;ext
open Classical in
theorem DB{n:Nat}{ns:RQ}(h:¬ns.Nodup):ig n (jv ns)=T:=by
 refine decide_eq_false λ⟨i,e,pm⟩=>h ?_;have e2:ns.map aj=(ns.map λ(x:Nat)=>(x:Int)).map .int:=by rw[wr];rfl
 rw[e2]at e;have e:=oz e
 have:=pm.symm.nodup (DA n)
 rw[<-e]at this;exact List.Pairwise.of_map _ (λa b h z=>h (by rw[z])) this
def xk{a:Bool}{x:Str}(i:PyData.strOk x=I):yB a (.str x) (.str x)=J (.bl (!a)):=by cases a<;>simp[yB,py,y_,SeqAt.shaped,PyData.canLay0,PyData.depth,PyData.eqv,i]
abbrev NO:qx:=⟨"NoOrder",[]⟩
def wE{n:Nat}{x d:D}{s:d_}(i:n<=12)(h:Th d)(l:ig n d=T):bc.p [.tup [.int (n:Int),x],d] s=.exc NO s:=by
 have c:bS.p [ET n,d] s=.exc NO s:=by rw[jd (by rfl)];unfold cT;rw[show lw 2 [ET n,d]=[J (ET n),J d]from rfl,dL];simp![gM,cN,aJ,vn i h,l,Pl,I_,Pg,if_true];rfl
 have j:k_.p (.tup [.int (n:Int),x]) (.int 0)=J (.int (n:Int)):=rfl;have t2:∀{x y:D}{s:d_},(if [x,y].length<=100000 then PR.ok (D.tup [x,y]) s else .bad)=.ok (.tup [x,y]) s:=λ{x y s}=>c_ (by simp);have a:∀{s:d_},(if([]:RR).length<=100000 then PR.ok (D.tup []) s else .bad)=.ok (.tup []) s:=λ{s}=>c_ (by decide);rw[qv (by rfl)];unfold fT;rw[show lw 2 [D.tup [.int (n:Int),x],d]=[J (.tup [.int (n:Int),x]),J d]from rfl,aK,o6];simp![aJ,bW,aI,bg,aT,j,Pf,a,t2,c,Pe,PR.go_exc];rfl
def HU{s:d_}:c9.p [.non] s=.ok (.str "") s:=by rw[lj (by rfl)];unfold eO;rfl
def HV{s:d_}:c9.p [.exc "NoPivot"] s=.ok (.str "pivot") s:=by rw[lj (by rfl)];unfold eO;rfl
def HW{s:d_}:c9.p [.exc "NoOrder"] s=.ok (.str "order") s:=by rw[lj (by rfl)];unfold eO;rfl
abbrev Rg:Xd []:=qX "NoPivot" "place" ["NoOrder"] 2 3 4 (gf (ay bc (aa (ac 0) (aa (ac 1) a_))))
def HX{x y:D}{s s1:d_}{c:D}{v:D}{w:Str}(e:Rg.p [J x,J y,J .non,J .non,Y] s=.nx [J x,J y,J c,J v,Y] s)(hw:c9.p [c] s=.ok (.str w) s):be.p [x,y] s=.ok (.tup [.str w,v]) s:=by have t2:∀{x y:D}{s:d_},(if [x,y].length<=100000 then PR.ok (D.tup [x,y]) s else .bad)=.ok (.tup [x,y]) s:=λ{x y s}=>c_ (by simp);rw[vX (by rfl)];unfold gH;rw[show lw 5 [x,y]=[J x,J y,Y,Y,Y]from rfl,aK,bV];simp only[bg,lh,Pg,va,tr,PU.aw];rw[aK,bV];simp only[bg,lh,Pg,va,tr,PU.aw];rw[aK,e,PU.aw,bZ];simp![bW,aJ,hw,t2,Pg,PU.cr]
def ss{x y:D}{s:d_}{r:PR D}(e:bc.p [x,y] s=r):(gf (ay bc (aa (ac 0) (aa (ac 1) a_))):Xd []).p [J x,J y,J .non,J .non,Y] s=r.go [J x,J y,J .non,J .non,Y] λ_=>.nx:=by rw[o6,aJ];simp![e]
def zr{x y d:D}{s:d_}(e:bc.p [x,y] s=.ok d s):be.p [x,y] s=.ok (.tup [.str "",.non]) s:=by refine HX (s1:=s) ?_ HU;show(match(gf (ay bc (aa (ac 0) (aa (ac 1) a_))):Xd []).p _ s with|.exc c e s=>_|.rse _ _ _=>_|r=>r)=_;rw[ss e];rfl
def sY{x y:D}{v:Nat}{s:d_}(e:bc.p [x,y] s=.exc (Dw v) s):be.p [x,y] s=.ok (.tup [.str "pivot",aj v]) s:=by refine HX (s1:=s) ?_ HV;show(match(gf (ay bc (aa (ac 0) (aa (ac 1) a_))):Xd []).p _ s with|.exc c e s=>_|.rse _ _ _=>_|r=>r)=_;rw[ss e];rfl
def yU{x y:D}{s:d_}(e:bc.p [x,y] s=.exc NO s):be.p [x,y] s=.ok (.tup [.str "order",.non]) s:=by refine HX (s1:=s) ?_ HW;show(match(gf (ay bc (aa (ac 0) (aa (ac 1) a_))):Xd []).p _ s with|.exc c e s=>_|.rse _ _ _=>_|r=>r)=_;rw[ss e];rfl
structure Bo(n:Nat)(d:D):Prop where
 th:Th d
 o:ig n d=T
 np:bN d=I
def LR{α:Type}(l:List α)(f:α->D):fj (l.map f) Y (J (-1))=(l.take (l.length-1)).map f:=by
 unfold fj;have e:HT.mu (l.map f).length (l.map f).length (J (-1))=l.length-1:=by rw[yP];unfold HT.mu;simp;ext
 rw[HT.kx,e,Mj,Nat.sub_zero,List.map_take]
def v6{a:RR}(hl:a.length<=60)(h:∀x∈a,Kd x):Th (.lst a):=⟨⟨_,rfl⟩,λ_ e=>by cases e;exact⟨hl,h⟩⟩
def qY{ns:RQ}:∀x∈ns.map aj,Kd x:=λx a=>by
 obtain⟨i,_,rfl⟩:=vp.mp a;exact⟨_,rfl⟩
def g6:∀{a:RR},(∀x∈a,bN x=I)->bK a=I
 |[],_=>rfl
 |d::a,h=>by
  rw[bK,h d (by simp),g6 λx i=>h x (n4 _ i)];rfl
def ku{ns:RQ}:∀x∈ns.map aj,bN x=I:=λx a=>by
 obtain⟨i,_,rfl⟩:=vp.mp a;rfl
def nP{a:RR}(h:∀x∈a,bN x=I):bN (.lst a)=I:=g6 h
def HY{l r:RQ}{y:Nat}(h:y∈l\/y∈r):¬(l++[y]++r).Nodup:=λnd=>by
 rw[A7,L_]at nd;obtain⟨_,a,i⟩:=nd;rcases h with h|h
 .exact i y h y (by simp) rfl
 .rw[List.singleton_append,Aj]at a;exact a.1 h
abbrev P6(n:Nat):RR:=[aj n,.int (-1),.bl I,.non,.str "0",.lst [.int 0],.int (10^60)]
abbrev P7(ns:RQ)(k:Nat)(x:D):D:=.lst ((ns.take k).map aj++[x]++(ns.drop (k+1)).map aj)
def LS{n:Nat}(i:n<=12):∀x∈P6 n,Kd x/\Aw n x=T/\bN x=I:=by
 intro x a;simp only[n8,DP,or_false]at a;rcases a with rfl|rfl|rfl|rfl|rfl|rfl|rfl
 .exact⟨⟨_,rfl⟩,by simp[Aw],rfl⟩
 .exact⟨⟨_,rfl⟩,by simp[Aw],rfl⟩
 .exact⟨⟨_,rfl⟩,rfl,rfl⟩
 .exact⟨⟨_,rfl⟩,rfl,rfl⟩
 .exact⟨⟨_,rfl⟩,rfl,rfl⟩
 .exact⟨⟨_,rfl⟩,rfl,rfl⟩
 .exact⟨⟨_,rfl⟩,by simp[Aw];ext,rfl⟩
section
variable{n:Nat}{ns:RQ}
def P8(o:On n ns){k:Nat}{x:D}(l:Kd x)(j:Aw n x=T)(i:bN x=I):Bo n (P7 ns k x):=by
 have u:=o.len;have n12:=o.n12;refine⟨v6 (by simp;ext) λy a=>?_,LQ (x:=x) (by simp) j,nP λy a=>?_⟩
 .simp only[AS,L8]at a;rcases a with(a|rfl)|a
  .exact qY y a
  .exact l
  .exact qY y a
 .simp only[AS,L8]at a;rcases a with(a|rfl)|a
  .exact ku y a
  .exact i
  .exact ku y a
def rV{a:RQ}(hl:a.length<=60)(h:a.length≠n):Bo n (jv a):=⟨v6 (by simpa using hl) qY,HS (by simpa using h),nP ku⟩
def rA{d:D}(h:Kd d)(hl:∀a,d≠.lst a)(i:bN d=I):Bo n d:=⟨⟨h,λa e=>absurd e (hl a)⟩,by cases d<;>first | rfl | exact absurd rfl (hl _),i⟩
abbrev P9(ns:RQ)(n k:Nat)(bs:RR):aq:=[J .pen,J (jv ns),J (.int (n:Int)),J (.int (k:Int)),J (.lst bs)]
def tV{s:d_}(o:On n ns)(h1:1<=n):∃O s',cS.p [.pen,jv ns] s=.ok (.lst O) s'/\O.length<=60/\∀d∈O,Bo n d:=by
 have S:=o.len;have n12:=o.n12;obtain⟨a,C,a0,a1,qa⟩:=dC (s:=s) (size:=(n:Int)) (by ext) (by ext);obtain⟨k,rfl⟩:∃k:Nat,a=(k:Int):=⟨a.toNat,by ext⟩;have hk:k<n:=by ext
 have X:=LS n12;have c1:=xo ns aj (k:=k) (by ext);have P:=jM ns aj (k:=k+1) (by ext);have c3:=LR ns aj;have R:((k:Int)+1)=((k+1:Nat):Int):=by ext
 have F:∀{x:D}{s:d_},(if [x].length<=100000 then PR.ok (D.lst [x]) s else .bad)=.ok (.lst [x]) s:=λ{x s}=>c_ (by simp);have p6:pg.p (.int 10) (.int 60)=J (.int (10^60)):=c_ ⟨by decide,by decide,by decide⟩;have Q:ik.p (.int 1)=J (.int (-1)):=rfl;have u:∀x y:RR,x.length+y.length<=1000->aX.p (.lst x) (.lst y)=J (.lst (x++y)):=λx y h=>CF (by ext);obtain⟨W,M⟩:∃x,ns[k]?=J x:=⟨_,Ah (show k<ns.length by ext)⟩;have at0:nr (ns.map aj) (k:Int)=J (aj W):=L2.cP (by rw[tx,M];rfl)
 have q:=jI (ws:=[4]) (ws':=[]) (env:=[J .pen,J (jv ns),J (.int (n:Int)),J (.int (k:Int)),Y]) (s:=C) (s0:=C) (fm:=[1,3]) (i:=(bx (aZ (aa (ac 2) (aa (x_ ik (xC (.int 1))) (aa (xC (.bl I)) (aa (xC .non) (aa (xC (.str "0")) (aa (bT (aa (xC (.int 0)) a_)) (aa (ag pg (xC (.int 10)) (xC (.int 60))) a_)))))))))) (t:=qo) (e:=(ag aX (ag aX (vB (ac 1) vv (vz (ac 2))) (bT (aa (ac 0) a_))) (vB (ac 1) (vz (ag aX (ac 2) (xC (.int 1)))) vv))) (l:=P6 n) id (P7 ns k) (λ_=>I) (by
   rw[Jb];simp![dj,bW,lW,bg,aT,Er,lh,jC,Q,Pf,ny,F,aI,p6];rw[c_ (by simp)]
   rfl) (by simp) (λx Z=>⟨rfl,λ_=>by
   show(ag aX (ag aX (vB (ac 1) vv (vz (ac 2))) (bT (aa (ac 0) a_))) (vB (ac 1) (vz (ag aX (ac 2) (xC (.int 1)))) vv):Xe []).p [J x,J (jv ns),J (.int (k:Int))] C=_;simp![aI,gu,fZ,fY,gc,Pf,c1,ny,F,bg,aT,cQ,R,P];rw[u _ _ (by simp;ext)];dsimp![Pb];rw[u _ _ (by simp;ext)]
   rfl⟩)
 rw[Nt.mpr (by simp)]at q;obtain⟨B,hB⟩:∃B:RR,B=(P6 n).map (P7 ns k)++[jv (ns.take (n-1)),jv (ns++[W]),jv (ns++[n]),.tup (ns.map aj),.non,aj n,.str "order",.dic T [] []]:=⟨_,rfl⟩;have BB:B.length=15/\∀d∈B,Bo n d:=by
  rw[hB];refine⟨by simp,λd hd=>?_⟩;rcases AS.mp hd with hd|hd
  .obtain⟨x,Z,rfl⟩:=vp.mp hd;obtain⟨x1,x2,x3⟩:=X x Z;exact P8 o x1 x2 x3
  .simp only[n8,DP,or_false]at hd;rcases hd with rfl|rfl|rfl|rfl|rfl|rfl|rfl|rfl
   .exact rV (by simp;ext) (by simp;ext)
   .exact rV (by simp;ext) (by simp;ext)
   .exact rV (by simp;ext) (by simp;ext)
   .exact rA ⟨_,rfl⟩ (λ_ h=>by cases h) (g6 ku)
   .exact rA ⟨_,rfl⟩ (λ_ h=>by cases h) rfl
   .exact rA ⟨_,rfl⟩ (λ_ h=>by cases h) rfl
   .exact rA ⟨_,rfl⟩ (λ_ h=>by cases h) rfl
   .exact rA ⟨_,rfl⟩ (λ_ h=>by cases h) rfl
 have hd:(aO (bq 2 (qs pF (aa (ac 1) a_))) (aO (bq 3 (ay ba (aa (ac 0) (aa (ac 2) a_)))) (aO (dW 4 (bO 1 [1,3] (bx (aZ (aa (ac 2) (aa (x_ ik (xC (.int 1))) (aa (xC (.bl I)) (aa (xC .non) (aa (xC (.str "0")) (aa (bT (aa (xC (.int 0)) a_)) (aa (ag pg (xC (.int 10)) (xC (.int 60))) a_))))))))) (ws':=[]) (pf 0) qo (ag aX (ag aX (vB (ac 1) vv (vz (ac 2))) (bT (aa (ac 0) a_))) (vB (ac 1) (vz (ag aX (ac 2) (xC (.int 1)))) vv)))) (dW 4 (ag aX (ac 4) (bT (aa (vB (ac 1) vv (vz (x_ ik (xC (.int 1))))) (aa (ag aX (ac 1) (bT (aa (ag k_ (ac 1) (ac 3)) a_))) (aa (ag aX (ac 1) (bT (aa (ac 2) a_))) (aa (qs cE (aa (ac 1) a_)) (aa (xC .non) (aa (ac 2) (aa (xC (.str "order")) (aa AL a_))))))))))))):Xd [4]).p [J .pen,J (jv ns),Y,Y,Y] s=.nx (P9 ns n k B) C:=by rw[aK,bV];simp![ce,GJ,yP,S,Pf,Pg,va,tr,PU.aw];rw[aK,bV];simp![aJ,qa,Pg,va,tr,PU.aw];rw[aK,uc,q];simp only[Pg,nG,if_true,va,tr,PU.aw];rw[uc];simp![aI,ny,gu,fZ,fY,lW,bg,aT,lh,jC,Q,gc,Pf,c3,S,lY,at0,F,ce,eT,wB];rw[u _ _ (by simp;ext),u _ _ (by simp;ext)];dsimp![Pb];rw[c_ (by simp)];simp only[Pb];rw[u _ _ (by simp)];simp only[Pf,Pg,nG,if_true,va,tr];rw[hB];unfold P9 jv;simp only[Mh,pk,DU]
 have run:∀(r:PS),(aO (Az (xB (ag Ep (ac 2) (xC (.int 1)))) (BD uq 4 (aa (ag aX (ag aX (vB (ac 1) vv (vz (ac 3))) (bT (aa (ag k_ (ac 1) (ag mY (ac 3) (xC (.int 1)))) a_))) (vB (ac 1) (vz (ag aX (ac 3) (xC (.int 1)))) vv)) a_)) nz) (j5 4):Xd [4]).p (P9 ns n k B) C=r->cS.p [.pen,jv ns] s=r.fin:=λr e=>by
  rw[pJ (by rfl)];unfold dB;rw[show lw 5 [D.pen,jv ns]=[J .pen,J (jv ns),Y,Y,Y]from rfl];rw[aK]at hd;rw[aK]
  cases z1:(bq 2 (qs pF (aa (ac 1) a_)):Xd [4]).p [J .pen,J (jv ns),Y,Y,Y] s with
  |nx e1 t1 =>
   rw[z1,PU.aw,aK]at hd;rw[PU.aw,aK]
   cases U:(bq 3 (ay ba (aa (ac 0) (aa (ac 2) a_))):Xd [4]).p e1 t1 with
   |nx e2 t2 =>
    rw[U,PU.aw,aK]at hd;rw[PU.aw,aK];generalize (dW 4 (bO 1 [1,3] (bx (aZ (aa (ac 2) (aa (x_ ik (xC (.int 1))) (aa (xC (.bl I)) (aa (xC .non) (aa (xC (.str "0")) (aa (bT (aa (xC (.int 0)) a_)) (aa (ag pg (xC (.int 10)) (xC (.int 60))) a_))))))))) (ws':=[]) (pf 0) qo (ag aX (ag aX (vB (ac 1) vv (vz (ac 2))) (bT (aa (ac 0) a_))) (vB (ac 1) (vz (ag aX (ac 2) (xC (.int 1)))) vv))):Xd [4]).p e2 t2=G at hd ⊢
    cases G with
    |nx e3 t3 =>
     rw[PU.aw]at hd ⊢;rw[aK,hd,PU.aw,e]
    |_=>cases hd
   |_=>rw[U]at hd;cases hd
  |_=>rw[z1]at hd;cases hd
 by_cases z:1<n
 .obtain⟨j,y,hj,E,jk⟩:∃j y,nr (ns.map aj) ((k:Int)-1)=J (aj y)/\ns[j]?=J y/\j≠k:=by
   by_cases k0:k=0
   .subst k0;obtain⟨y,E⟩:∃y,ns[n-1]?=J y:=⟨_,Ah (show n-1<ns.length by ext)⟩;refine⟨n-1,y,?_,E,by ext⟩;unfold nr vr;rw[hI (by ext),c_ (by simp;ext),BH,tx,show((((0:Nat):Int)-1+((ns.map aj).length:Nat)).toNat)=n-1 by simp;ext,E];rfl
   .obtain⟨y,E⟩:∃y,ns[k-1]?=J y:=⟨_,Ah (show k-1<ns.length by ext)⟩;refine⟨k-1,y,?_,E,by ext⟩;rw[show(k:Int)-1=((k-1:Nat):Int) by ext];exact L2.cP (by rw[tx,E];rfl)
  have H:y∈ns.take k\/y∈ns.drop (k+1):=by
   rcases Nat.lt_or_ge j k with l|l
   .exact .inl (Al (i:=j) (by rw[Nv,c_ l];exact E))
   .exact .inr (Al (i:=j-(k+1)) (by rw[Nw,show k+1+(j-(k+1))=j by ext];exact E))
  have ed:D.lst ((ns.take k).map aj++[aj y]++(ns.drop (k+1)).map aj)=jv (ns.take k++[y]++ns.drop (k+1)):=by unfold jv;simp only[Mh,pk,DU]
  refine⟨B++[jv (ns.take k++[y]++ns.drop (k+1))],C,(run _ rfl).trans ?_,by rw[EY,BB.1];simp,λd hd=>?_⟩
  .rw[aK,dL];have L:Ep.p (.int (n:Int)) (.int 1)=J (.bl I):=by rw[wW];congr 2;exact decide_eq_true (by ext)
   dsimp![cN,aI,ax,au,bg,aT,L,Pl,Pg,if_true]
   rw[pH (s1:=C) (as:=[jv (ns.take k++[y]++ns.drop (k+1))]) (ds:=B) (ds':=B++[jv (ns.take k++[y]++ns.drop (k+1))]) (r:=.non) (by
    simp![aI,gu,fZ,fY,gc,Pf,c1,ny,lI,bg,aT,lY,hj,F,cQ,R,P];rw[u _ _ (by simp;ext)];dsimp![Pb];rw[u _ _ (by simp;ext)]
    dsimp![ed]) rfl (qz (by rw[BB.1];decide))]
   rw[PU.aw,lF (d:=.lst (B++[jv (ns.take k++[y]++ns.drop (k+1))])) rfl];rfl
  .rcases AS.mp hd with hd|hd
   .exact BB.2 d hd
   .have:d=jv (ns.take k++[y]++ns.drop (k+1)):=by simpa using hd
    subst this;exact⟨v6 (by simp;ext) qY,DB (HY H),nP ku⟩
 .refine⟨B,C,(run _ rfl).trans ?_,by rw[BB.1];decide,BB.2⟩;rw[aK,dL];have L:Ep.p (.int (n:Int)) (.int 1)=J (.bl T):=by rw[wW];congr 2;exact decide_eq_false (by ext)
  dsimp![cN,aI,ax,au,bg,aT,L,Pl,Pg,Am,if_false,dh,PU.aw];rw[lF (d:=.lst B) rfl];rfl
end
section
variable{n m:Nat}{ns:RQ}{ws:List Wk}{G r:Nat->Nat->Rat}
def LU{n:Nat}{g:Nat->Nat->Rat}:bN (Ag n g)=I:=by
 have pt:∀j:List Pt,bK (j.map n7)=I:=λj=>g6 λx a=>by
  obtain⟨p,_,rfl⟩:=vp.mp a;rfl
 have:bK ((List.range n).map λi=>D.tup ((dI n (g i)).map n7))=I:=g6 λx a=>by
  obtain⟨i,_,rfl⟩:=vp.mp a;exact pt _
 simp[Ag,bN,bK,this]
def LV{ws:List Wk}:bK (ws.map qi)=I:=g6 λx a=>by
 obtain⟨w,_,rfl⟩:=vp.mp a;have pt:∀i:List Pt,bK (i.map n7)=I:=λi=>g6 λx a=>by
  obtain⟨p,_,rfl⟩:=vp.mp a;rfl
 simp[bN,bK,pt]
def tH{ws:RQ}{f:Fn}{i:Nat}{a:Xs ws}{y:a.fz=I}{env:aq}{s s1 u:d_}{ds:RR}{d:D}(e:env[i]?=J (J .pen))(j:a.p env s=.ok ds s1)(B:bK ds=I)(l:f.p (.pen::ds) s=.ok d u)(z:bN d=I):(nJ f i a y).p env s=.ok d s1:=by
 show (match env[i]? with
  |some (J .pen)=>(a.p env s).bind λds s1=>j8 f s s1 ds
  |_=>.bad)=_
 rw[e];dsimp only;rw[j,Pb];unfold j8;rw[c_ B,l];dsimp only;rw[c_ z]
abbrev tE(n:Nat)(ns:RQ)(ws:List Wk)(m:Nat)(G:Nat->Nat->Rat)(z6 z7 z8:RE):aq:=[J .pen,J (.int (n:Int)),J (jv ns),J (.lst (ws.map qi)),J (.int (m:Int)),J (Ag n G),z6,z7,z8]
abbrev tB:Xd []:=(Az (xB (ag AF (ay be (aa (ac 5) (aa (ac 6) a_))) (aZ (aa (xC (.str "order")) (aa (xC .non) a_))))) (bw (xC (.bl T))) nz)
def LW{s:Str}(a:PyData.strOk s=I):yB I (.tup [.str s,.non]) (.tup [.str s,.non])=J (.bl T):=by simp[yB,py,AV,y_,we,SeqAt.shaped,PyData.canLay0,PyData.canLayAll0,PyData.depth,PyData.depthAll,PyData.eqv,PyData.eqvAll,a]
def P_{l j:RE}{d:D}{s:d_}(o:On n ns)(h:Bo n d):tB.p (tE n ns ws m G (J d) l j) s=.nx (tE n ns ws m G (J d) l j) s:=by have a:=yU (wE (x:=.tup ((List.range n).map λi=>.tup ((dI n (G i)).map n7))) (s:=s) o.n12 h.th h.o);have a:be.p [Ag n G,d] s=.ok (.tup [.str "order",.non]) s:=a;have t2:∀{x y:D} {s:d_},(if [x,y].length<=100000 then PR.ok (D.tup [x,y]) s else .bad)=.ok (.tup [x,y]) s:=λ{x y s}=>c_ (by simp);have u:yB I (.tup [.str "order",.non]) (.tup [.str "order",.non])=J (.bl T):=LW (by decide +kernel);rw[dL];simp![cN,aI,aJ,a,bW,bg,jC,lh,t2,nE,u,Pf,Pl,Pg,Am,if_false,dh]
def EU{z7 z8:RE}{s:d_}(o:On n ns):∀(a:RR)(z:RE),(∀d∈a,Bo n d)->∃y,AU (pf 6:Xg []).p tB.p a (tE n ns ws m G z z7 z8) s=.nx (tE n ns ws m G y z7 z8) s
 |[],z,_=>⟨z,rfl⟩
 |d::a,z,h=>by
  obtain⟨y,e⟩:=EU (z7:=z7) (z8:=z8) (s:=s) o a (J d) λd hd=>h d (n4 _ hd);have g:(pf 6:Xg []).p d (tE n ns ws m G z z7 z8)=J (tE n ns ws m G (J d) z7 z8):=rfl;exact⟨y,by rw[AU,g];dsimp only;rw[P_ o (h d (by simp)),PU.uG,e]⟩
def DC{s:d_}:∃s',cV.p [.pen] s=.ok (.bl I) s':=by
 obtain⟨a,s1,a0,a1,qa⟩:=dC (s:=s) (size:=6) (by decide) (by decide);obtain⟨n,en⟩:∃n:Nat,1+a=(n:Int):=⟨(1+a).toNat,by ext⟩;have W:1<=n:=by ext
 have n6:n<=6:=by ext
 obtain⟨ns,s2,Z,o⟩:=Dn (n:=n) (s:=s1) (by ext);obtain⟨b,s3,b0,b1,X⟩:=dC (s:=s2) (size:=3) (by decide) (by decide);obtain⟨ws,s4,qw,hl,hw⟩:=Do (n:=n) (ns:=ns) (sm:=1+b) (s:=s3) o (by ext) (by ext);obtain⟨c,j,c0,c1,qc⟩:=dC (s:=s4) (size:=(n:Int)) (by ext) (by ext);obtain⟨m,rfl⟩:∃m:Nat,c=(m:Int):=⟨c.toNat,by ext⟩;have hm:m<n:=by ext
 have ol:=o.len;have s0:sz 0<=40:=by rw[show sz 0=1 by decide +kernel];ext
 have P:sz (1/2)<=40:=by rw[show sz (1/2)=2 by decide +kernel];ext
 have H:qD 0=.tup [.int 0,.int 1]:=rfl;have F:qD (1/2)=.tup [.int 1,.int 2]:=by
  have e1:(1/2:Rat).num=1:=by decide +kernel
  have e2:(1/2:Rat).den=2:=by decide +kernel
  unfold qD nD;rw[e1,e2];rfl
 obtain⟨G,r,s6,R,gs⟩:=uE (n:=n) (m:=m) (ns:=ns) (w:=0) (ws:=ws) (s:=j) o hl hw hm s0 (Cm.zero _);obtain⟨bs,s7,qn,bl,S⟩:=tV (n:=n) (ns:=ns) (s:=j) o W;obtain⟨G2,r2,u,B,L⟩:=uE (n:=n) (m:=m) (ns:=ns) (w:=1/2) (ws:=ws) (s:=j) o hl hw hm P ⟨72,by decide +kernel,by decide⟩;rw[H]at R;rw[F]at B;have ak:=sY (gs.first (s:=j));have t2:∀{x y:D} {s:d_},(if [x,y].length<=100000 then PR.ok (D.tup [x,y]) s else .bad)=.ok (.tup [x,y]) s:=λ{x y s}=>c_ (by simp);have cl:oo.p [jv ns]=J (jv ns):=CH (by simp;ext);have O:nr (ns.map aj) (m:Int)=J (aj (jj ns m)):=L2.cP (by rw[tx,iF o hm];rfl);obtain⟨y6,eg⟩:=EU (ws:=ws) (m:=m) (G:=G) (z7:=J (.str "pivot")) (z8:=J (aj (jj ns m))) (s:=j) o bs Y S;have Q:∀{l:Bool},yB l (.str "pivot") (.str "pivot")=J (.bl (!l)):=λ{l}=>xk (by decide +kernel);have ei:yB I (aj (jj ns m)) (aj (jj ns m))=J (.bl T):=by rw[jo];simp
 have C:∃x y,be.p [Ag n G2,jv ns] u=.ok (.tup [x,y]) u/\(bw (sF (ag v4 (ac 7) (xC (.str ""))) (kE (ag v4 (ac 7) (xC (.str "pivot"))) (ag (Kz T) (ac 8) (vB (ac 2) (vz (ag aX (ac 4) (xC (.int 1)))) vv)))):Xd []).p (tE n ns ws m G y6 (J x) (J y)) u=.rt (.bl I) u:=by
  rcases L.second (by decide +kernel) (s:=u)with⟨d,e⟩|⟨k,k1,k2,e⟩
  .refine⟨_,_,zr e,?_⟩;have E:yB T (.str "") (.str "")=J (.bl I):=xk (by decide +kernel);dsimp![bZ,wq,aI,ax,au,bg,jC,fC,E,Pl,if_true,Pg]
  .refine⟨_,_,sY e,?_⟩;have E:yB T (.str "pivot") (.str "")=J (.bl T):=by
    have h1:PyData.strOk ("pivot":Str)=I:=by decide +kernel
    have h2:PyData.strOk ("":Str)=I:=by decide +kernel
    have h3:(("pivot":Str)==("":Str))=T:=by decide +kernel
    simp[yB,py,y_,SeqAt.shaped,PyData.canLay0,PyData.depth,PyData.eqv,h1,h2,h3]
   have U:=jM ns aj (k:=m+1) (by ext);have k3:((m:Int)+1)=((m+1:Nat):Int):=by ext
   have M:(Kz T).p (aj (jj ns k)) (.lst ((ns.drop (m+1)).map aj))=J (.bl I):=by
    have:jj ns k∈ns.drop (m+1):=Al (i:=k-(m+1)) (by rw[Nw,show m+1+(k-(m+1))=k by ext];exact iF o k2)
    have e2:(ns.drop (m+1)).map aj=((ns.drop (m+1)).map λ(x:Nat)=>(x:Int)).map .int:=by rw[wr];rfl
    rw[e2,KO,GK (xs:=(ns.drop (m+1)).map λ(x:Nat)=>(x:Int)) rfl]
    have:((jj ns k:Nat):Int)∈(ns.drop (m+1)).map λ(x:Nat)=>(x:Int):=vp.mpr ⟨_,this,rfl⟩
    rw[hI (by simp),decide_eq_true this]
   dsimp![bZ,wq,aI,ax,au,bg,jC,fC,E,Pl,Am,if_false,uk,Q,I_,if_true,gu,fY,aT,cQ,k3,fZ,gc,U,M,Pg]
 obtain⟨x,y,al,er⟩:=C;refine⟨u,?_⟩;rw[wj (by rfl)];unfold gy;rw[show lw 9 [D.pen]=[J .pen,Y,Y,Y,Y,Y,Y,Y,Y]from rfl,aK,bV];simp![aI,bg,aT,aJ,qa,cQ,en,Pf,Pg,va,tr,PU.aw];rw[aK,bV];simp![aI,bg,aT,aJ,Z,Pg,va,tr,PU.aw];rw[aK,bV];simp![aI,bg,aT,aJ,X,cQ,Pf,qw,Pg,va,tr,PU.aw];rw[aK,bV];simp![aI,bg,aT,aJ,qc,Pg,va,tr,PU.aw];rw[aK,bV,tH (s1:=j) (ds:=[jv ns,.lst (ws.map qi),.int (m:Int),.tup [.int 0,.int 1]]) (by rfl) (by simp![bW,bg,aT,t2]) (by simp[bN,bK,LV,g6 ku]) R LU];simp only[Pg,va,tr,PU.aw];rw[aK,wU];simp![aJ,ce,cl,Pf,ak,Pg,Ew,Ax,NE,if_true,Ev,Et,BH,Eu,va,tr,PU.aw];have i1:(fX ["int"]).p (aj (jj ns m))=J (.bl I):=rfl;have i2:(fX ["bool"]).p (aj (jj ns m))=J (.bl T):=rfl;rw[aK,dL];dsimp![Es,cN,aI,ax,au,bg,jC,nE,Q,BI,Pl,Am,if_false,gM,lW,i1,i2,lY,O,ei,Pg,dh,PU.aw];rw[aK,nQ,dj,tH (s1:=j) (ds:=[jv ns]) (by rfl) (by simp![Pb]) (by simp[bN,bK,g6 ku]) qn (nP λd hd=>(S d hd).np)];dsimp![iU,Pg];refine(congrArg (λz:PS=>(z.then _).fin) eg).trans ?_;rw[PU.aw,aK,wU];simp![aJ,bW,bg,aT,t2,B,ce,cl,Pf,al,Pg];simp only[Ew,Ax,NE,if_true,Ev,Et,BH,Eu,va,tr,PU.aw];rw[er];rfl
end
def DD{i:Int}{h:MH}:bG.m [.int i] h=.ok (.bl I) h:=by show bP 1 1 (bC (lU (yV (eR ["int"]) (af 0)) (nA (yV (eR ["bool"]) (af 0))))) [.int i] h=_;rw[bJ (by rfl)];simp[aY,List.replicate,eR,Ar,dm]
def DE{b:Bool}{h:MH}:bG.m [.bl b] h=.ok (.bl T) h:=by show bP 1 1 (bC (lU (yV (eR ["int"]) (af 0)) (nA (yV (eR ["bool"]) (af 0))))) [.bl b] h=_;rw[bJ (by rfl)];simp[aY,List.replicate,eR,Ar,dm]
def DF{x:PV}{h:MH}(a:x=.int 0\/x=.bl I):bA.m [.int 0,x] h=.ok (.bl T) h:=by
 show bP 2 2 (bC (lU (bo bG.m (ae (af 1) b_)) (kN B8 A0 (mC (.int 0)) (af 1) (af 0)))) [.int 0,x] h=_;rw[bJ (by rfl)];rcases a with rfl|rfl
 .simp[aY,List.replicate,DD]
 .simp[aY,List.replicate,DE]
def zh{x:PV}:[x].length<=sizeLine:=pu (by simp:[x].length<=1000) (by unfold sizeLine;ext)
abbrev W0:PV:=.tup [.int 0,.tup []]
def DG{x:PV}{t:String}{h:MH}(a:Ar h x=J t)(hl:["list"].any (dm t)=T):bQ.m [W0,x] h=.ok (.bl T) h:=by show bP 2 2 (bi (zJ (j9 (mB (yV (eR ["list"]) (af 1)))) (bC (mC (.bl T))) kq) (aO (Az (hZ (xB (qs rW (aa (bO 1 [0] (bx (ac 1)) (ws':=[]) (pf 0) qo (ay bA (aa (ag k_ (ac 1) (xC (.int 0))) (aa (ac 0) a_)))) a_)))) (bw (xC (.bl T))) nz) (bw (ag v4 (qs dH (aa (ac 1) a_)) (qs GC (aa (ag k_ (ac 0) (xC (.int 0))) a_)))):Xd []).m) [W0,x] h=_;rw[bJ (by rfl),show aY 2 [W0,x]=[J W0,J x]from rfl,aU];simp_all![eB,ji,lQ,jF,dE,eR,a,hl,Out.ne_ok,I_,aA,if_true,jE,gU];rfl
def um{x:PV}{h:MH}{k:Nat}(u:x=.int 0\/x=.bl I)(e:h[k]?=J (.lst [x])):∃g,bQ.m [W0,.loc k] h=.ok (.bl T) (h++g):=by
 have j:Ar h (.loc k)=J "list":=by simp[Ar,e]
 have l:∀h:MH,aM W0 (.int 0) h=.ok (.int 0) h:=λ_=>rfl
 obtain⟨g,c⟩:=x4 (it:=⟨[x],[(k,[x])]⟩) (Z:=[J W0,J (.loc k)]) (h:=h) (h1:=h) (mi:=cH (af 1)) (gt:=m_ 0) (mt:=mh) (me:=bo bA.m (ae (ao aM (af 1) (mC (.int 0))) (ae (af 0) b_))) (nv:=1) (fm:=[0]) (by simp[xQ e]) (Ca.mpr e) (by simp) (λ_=>I) (λ_=>.bl T) (λy a i g hv=>by
  have:y=x:=by simpa using a
  subst this
  match i,hv with
  |[_],_=>exact⟨[J y],rfl,rfl,[],by rw[By];rfl,λ_=>⟨[],by
   show(bo bA.m (ae (ao aM (af 1) (mC (.int 0))) (ae (af 0) b_))) [J y,J W0] (h++g++[])=_
   simp_all![eQ,bn,jt,dE,gU,bR,l,Out.ne_ok,DF u,By]⟩⟩)
 have e2:(h++MO.lst [.bl T]::g)[h.length]?=J (.lst [.bl T]):=j7;have z:Ap [.loc h.length] (h++MO.lst [.bl T]::g)=.ok (.bl T) (h++MO.lst [.bl T]::g):=by simp[Ap,pX e2,i7]
 refine⟨.lst [.bl T]::g,?_⟩;show bP 2 2 (bi (zJ (j9 (mB (yV (eR ["list"]) (af 1)))) (bC (mC (.bl T))) kq) (bi (zJ (j9 (mB (n_ Ap (ae (bv 1 [0] (cH (af 1)) (m_ 0) mh (bo bA.m (ae (ao aM (af 1) (mC (.int 0))) (ae (af 0) b_)))) b_)))) (bC (mC (.bl T))) kq) (bw (ag v4 (qs dH (aa (ac 1) a_)) (qs GC (aa (ag k_ (ac 0) (xC (.int 0))) a_))):Xd []).m)) [W0,.loc k] h=_;rw[bJ (by rfl),show aY 2 [W0,.loc k]=[J W0,J (.loc k)]from rfl,aU];simp_all![eB,ji,lQ,jF,dE,eR,j,show(["list"].any (dm "list"))=I from rfl,Out.ne_ok,BI,aA,Am,if_false,mL,MM.aw];rw[aU,eB,ji,lQ,xW,bn,c];simp only[Out.bind_ok,bR];rw[show(List.map (λ_=>PV.bl T) (List.filter (λ_=>I) (⟨[x],[(k,[x])]⟩:MIt).xs))=[.bl T]from rfl,z];rfl
def zl{x:PV}{h g:MH}(e:bQ.m [W0,x] h=.ok (.bl T) (h++g)):bc.m [W0,x] h=.exc NO (h++g):=by
 have c:bS.m [W0,x] h=.exc NO (h++g):=by show bP 2 2 (zJ (j9 (mB (bo bQ.m (ae (af 0) (ae (af 1) b_))))) (lg "NoOrder" (ae (mC (.str "an order is a list with each place once")) b_)) kq) [W0,x] h=_;rw[bJ (by rfl),show aY 2 [W0,x]=[J W0,J x]from rfl];simp_all![eB,ji,lQ,eQ,bn,bR,dE,e,I_,aA,if_true,wO,gU];rw[c_ (zh)];rfl
 have i:aM W0 (.int 0) h=.ok (.int 0) h:=rfl;have a:m2 [] h=.ok (.tup []) h:=by unfold m2;rw[c_ (by simp)]
 have t2:m2 [PV.int 0,.tup []] h=.ok W0 h:=by unfold m2;rw[c_ (pu (show _<=1000 by simp) (by decide))]
 show bP 2 2 (bi (fw (bo bS.m (ae (bU (ae (ao aM (af 0) (mC (.int 0))) (ae (bU b_) b_))) (ae (af 1) b_)))) (bw (ay gQ (aa (ac 0) (aa (ac 1) (aa AL a_)))):Xd []).m) [W0,x] h=_;rw[bJ (by rfl),show aY 2 [W0,x]=[J W0,J x]from rfl,aU];simp_all![iD,eQ,bn,jt,pC,bR,dE,gU,i,Out.ne_ok,a,t2,c];rfl
def sO{a b:Str}{c:Bool}{Z:lR}{h:MH}{m:Mx PV}(em:m Z (h++[.lst [.str a,.str b]])=.ok (.bl c) (h++[.lst [.str a,.str b]])):(ao aM (bX (ae (mC (.str a)) (ae (mC (.str b)) b_))) (n_ yL (ae m b_))) Z h=.ok (.str (if c then b else a)) (h++[.lst [.str a,.str b]]):=by have e:(h++[MO.lst [.str a,.str b]])[h.length]?=J (.lst [.str a,.str b]):=j7;have i:nr [PV.str a,PV.str b] 1=J (.str b):=rfl;have j:nr [PV.str a,PV.str b] 0=J (.str a):=rfl;cases c<;>simp[cW,em,yL,dN e,j,i]
def HZ{H:MH}{n:Nat}(F:H[n]?=J (.exc NO)):∃g,c9.m [.loc n] H=.ok (.str "order") (H++g):=by
 have j:∀(i:RM) (g:MH),bf ["NoOrder","NoPivot"] i (.loc n) (H++g)=.ok (.bl (i.contains "NoOrder")) (H++g):=λi g=>xO (u9 F) (by decide +kernel);have y:=λi=>j i [];rw[By]at y;have E:zJ (JL (mB (ao (pG T) (af 0) (mC .non))) (j9 (mB (yV (bf ["NoOrder","NoPivot"] ["NoOrder","NoPivot"]) (af 0))))) (bC (mC (.str ""))) kq [J (.loc n),Y] H=.nx [J (.loc n),Y] H:=by
  have u:pG T (.loc n) .non H=.ok (.bl T) H:=by simp[pG]
  simp_all![eB,F_,ji,lQ,jt,jF,gU,u,Out.ne_ok,y,show(["NoOrder","NoPivot"]:RM).contains "NoOrder"=I by decide +kernel,BI,Am,if_false,aA,mL]
 have L:bt 1 (yV (bf ["NoOrder","NoPivot"] ([]++([]++([]++([]++([]++([]++([]++([]++([]++[])))))))))) (af 0)) [J (.loc n),Y] H=.nx [J (.loc n),J (.bl T)] H:=by simp_all![cU,jF,y,Out.ne_ok,aA];rfl
 have C:=sO (a:="") (b:="pivot") (c:=T) (Z:=[J (.loc n),J (.bl T)]) (h:=H) (m:=yV (bf ["NoOrder","NoPivot"] ["NoPivot"]) (af 0)) (by simp_all![jF,j,Out.ne_ok,show(["NoPivot"]:RM).contains "NoOrder"=T by decide +kernel]);have B:=sO (a:="") (b:="order") (c:=I) (Z:=[J (.loc n),J (.bl T)]) (h:=H++[.lst [.str "",.str "pivot"]]) (m:=yV (bf ["NoOrder","NoPivot"] ["NoOrder"]) (af 0)) (by rw[A7];simp_all![jF,j,Out.ne_ok,show(["NoOrder"]:RM).contains "NoOrder"=I by decide +kernel]);have z:=sO (a:="") (b:="other") (c:=T) (Z:=[J (.loc n),J (.bl T)]) (h:=H++[.lst [.str "",.str "pivot"]]++[.lst [.str "",.str "order"]]) (m:=af 1) rfl;rw[hI (by simp)]at C z;rw[c_ rfl]at B;have l:(bX (ae (ao aM (bX (ae (mC (.str "")) (ae (mC (.str "pivot")) b_))) (n_ yL (ae (yV (bf ["NoOrder","NoPivot"] ["NoPivot"]) (af 0)) b_))) (ae (ao aM (bX (ae (mC (.str "")) (ae (mC (.str "order")) b_))) (n_ yL (ae (yV (bf ["NoOrder","NoPivot"] ["NoOrder"]) (af 0)) b_))) (ae (ao aM (bX (ae (mC (.str "")) (ae (mC (.str "other")) b_))) (n_ yL (ae (af 1) b_))) b_)))) [J (.loc n),J (.bl T)] H=.ok (.loc (H++[MO.lst [PV.str "",.str "pivot"]]++[MO.lst [PV.str "",.str "order"]]++[MO.lst [PV.str "",.str "other"]]).length) (H++[MO.lst [PV.str "",.str "pivot"]]++[MO.lst [PV.str "",.str "order"]]++[MO.lst [PV.str "",.str "other"]]++[MO.lst [PV.str "",.str "order",.str ""]]):=by rw[oE,bn,C,Out.bind_ok,bn,B,Out.bind_ok,bn,z,Out.bind_ok,bR];exact cW (by simp)
 have M:∀H:MH,iH "" [.loc H.length] (H++[.lst [.str "",.str "order",.str ""]])=.ok (.str "order") (H++[.lst [.str "",.str "order",.str ""]]):=λH=>by
  have e:(H++[MO.lst [.str "",.str "order",.str ""]])[H.length]?=J (.lst [.str "",.str "order",.str ""]):=j7;have O:iP [.str "",.str "order",.str ""]=J (["","order",""]:RM):=rfl;have hw:JoinOk "" (["","order",""]:RM)=I:=by decide +kernel
  have G:Txt.join "" (["","order",""]:RM)="order":=by decide +kernel
  simp only[iH,e,O,hw,if_true,G]
 refine⟨[.lst [.str "",.str "pivot"]]++[.lst [.str "",.str "order"]]++[.lst [.str "",.str "other"]]++[.lst [.str "",.str "order",.str ""]],?_⟩;show bP 2 1 (bi (zJ (JL (mB (ao (pG T) (af 0) (mC .non))) (j9 (mB (yV (bf ["NoOrder","NoPivot"] ["NoOrder","NoPivot"]) (af 0))))) (bC (mC (.str ""))) kq) (bi (bt 1 (yV (bf ["NoOrder","NoPivot"] ([]++([]++([]++([]++([]++([]++([]++([]++([]++[])))))))))) (af 0))) (bC (Kj iH (mC (.str "")) (ae (bX (ae (ao aM (bX (ae (mC (.str "")) (ae (mC (.str "pivot")) b_))) (n_ yL (ae (yV (bf ["NoOrder","NoPivot"] ["NoPivot"]) (af 0)) b_))) (ae (ao aM (bX (ae (mC (.str "")) (ae (mC (.str "order")) b_))) (n_ yL (ae (yV (bf ["NoOrder","NoPivot"] ["NoOrder"]) (af 0)) b_))) (ae (ao aM (bX (ae (mC (.str "")) (ae (mC (.str "other")) b_))) (n_ yL (ae (af 1) b_))) b_)))) b_))))) [.loc n] H=_;rw[bJ (by rfl),show aY 2 [PV.loc n]=[J (.loc n),Y]from rfl,aU,E,MM.aw,aU,L,MM.aw,jE];simp only[Kj,gU,Out.bind_ok];rw[bn,l,Out.bind_ok,bR,Out.bind_ok,Out.bind_ok,M];simp
def oV{x:PV}{h g:MH}(e:bQ.m [W0,x] h=.ok (.bl T) (h++g)):∃i,be.m [W0,x] h=.ok (.tup [.str "order",.non]) (h++i):=by
 have st:=zl e;obtain⟨j,w⟩:=HZ (H:=h++g++[.exc NO]) (n:=(h++g).length) j7;have q:lL "NoPivot" "place" ["NoOrder"] 2 3 4 (fw (bo bc.m (ae (af 0) (ae (af 1) b_)))) [J W0,J x,J .non,J .non,Y] h=.nx [J W0,J x,J (.loc (h++g).length),J .non,Y] (h++g++[.exc NO]):=by
  have:fw (bo bc.m (ae (af 0) (ae (af 1) b_))) [J W0,J x,J .non,J .non,Y] h=.exc NO [J W0,J x,J .non,J .non,Y] (h++g):=by simp_all![iD,eQ,bn,bR,dE,st];rfl
  unfold lL;rw[this];dsimp only;rw[hI (by decide +kernel),c_ ⟨rfl,by simp⟩];rfl
 have t2:∀{a b:PV}{h:MH},m2 [a,b] h=.ok (.tup [a,b]) h:=λ{a b h}=>by unfold m2;rw[c_ (pu (show _<=1000 by simp) (by decide))]
 refine⟨g++[.exc NO]++j,?_⟩;show bP 5 2 (bi (bt 2 (mC .non)) (bi (bt 3 (mC .non)) (bi (lL "NoPivot" "place" ["NoOrder"] 2 3 4 (fw (bo bc.m (ae (af 0) (ae (af 1) b_))))) (bC (bU (ae (bo c9.m (ae (af 2) b_)) (ae (af 3) b_))))))) [W0,x] h=_;rw[bJ (by rfl),show aY 5 [W0,x]=[J W0,J x,Y,Y,Y]from rfl,aU];simp only[cU,gU,aA,va,tr,MM.aw];rw[aU];simp only[cU,gU,aA,va,tr,MM.aw];rw[aU,q,MM.aw];simp_all![jE,pC,eQ,bn,bR,dE,w,t2,aA];simp only[A7];rfl
def v8{lo:Int}{c:Nat}{x:PV}(h:x∈bE lo c):∃i:Int,x=.int i/\lo<=i/\i<lo+c:=by unfold bE at h;obtain⟨k,a,rfl⟩:=vp.mp h;rw[DR]at a;exact⟨_,rfl,by ext,by ext⟩
def u0{ns:RN}{k:Nat}(a:k<ns.length):nr (ns.map PV.int) (k:Int)=J (.int ns[k]):=L2.cP (by simp[a])
def rM{h:MH}:rk (.int 10) (.int 18) h=.ok (.int (10^18)) h:=rL (by decide)
def zG{h:MH}:rk (.int 10) (.int 15) h=.ok (.int (10^15)) h:=rL (by decide)
def yK{h:MH}{ns:RN}{k:Nat}(hk:k<64):∃m c:Int,hV [.frl (ns.map .int),.int k] h=.ok (.loc h.length) (h++[.lst [.int m,.int c,.int 0]]):=by
 unfold hV;have F:∀{i:Int}{h:MH},ki (.int 7919) (.int i) h=.ok (.int (7919*i)) h:=hR (by decide);have Q:∀{i:Int}{h:MH},ki (.int 48271) (.int i) h=.ok (.int (48271*i)) h:=hR (by decide);have R:∀{i:Int}{h:MH},ki (.int 40009) (.int i) h=.ok (.int (40009*i)) h:=hR (by decide);have O:∀{a b c:PV}{h:MH},q7 [a,b,c] h=.ok (.loc h.length) (h++[.lst [a,b,c]]):=cW (by simp)
 have fin:∀cell:Int,∃m c:Int,(bi (zJ (mB (ao A1 (n_ Ay (ae (af 2) b_)) (ao rk (mC (.int 10)) (mC (.int 18))))) (bC (bX (ae (mC (.int 1)) (ae (n_ Ay (ae (af 2) b_)) (ae (mC (.int 0)) b_))))) kq)
   (bC (bX (ae (mC (.int 0)) (ae (ao l_ (ao nw (af 2) (mC (.int 2147483587))) (ao ki (mC (.int 40009)) (af 1))) (ae (mC (.int 0)) b_)))))) [J (.frl (ns.map .int)),J (.int k),J (.int cell)] h=.rt (.loc h.length) (h++[.lst [.int m,.int c,.int 0]]):=λcell=>by
  by_cases z:(10:Int)^18<=(if cell<0 then -cell else cell)
  .exact⟨1,(if cell<0 then -cell else cell),by simp[rM,O,z,-Int.reducePow]⟩
  .exact⟨0,cell.fmod 2147483587+40009*k,by simp[rM,O,z,R,fU,-Int.reducePow]⟩
 have y:∀cell:Int,∃m c:Int,((bi (zJ (mB (ao A1 (n_ Ay (ae (af 2) b_)) (ao rk (mC (.int 10)) (mC (.int 18))))) (bC (bX (ae (mC (.int 1)) (ae (n_ Ay (ae (af 2) b_)) (ae (mC (.int 0)) b_))))) kq)
   (bC (bX (ae (mC (.int 0)) (ae (ao l_ (ao nw (af 2) (mC (.int 2147483587))) (ao ki (mC (.int 40009)) (af 1))) (ae (mC (.int 0)) b_)))))) [J (.frl (ns.map .int)),J (.int k),J (.int cell)] h).fin=.ok (.loc h.length) (h++[.lst [.int m,.int c,.int 0]]):=λcell=>by
  obtain⟨m,c,q⟩:=fin cell;exact⟨m,c,by rw[q];rfl⟩
 have l:∀cell:Int,(bi (bt 2 (ao l_ (ao ki (mC (.int 7919)) (af 1)) (mC (.int 11))))
 (zJ (mB (ao A0 (af 1) (n_ zM (ae (n_ oh (ae (af 0) b_)) (ae (mC (.int 63)) b_))))) (bt 2 (ao aM (af 0) (af 1))) (zJ (mB (ao Bk (n_ oh (ae (af 0) b_)) (mC (.int 0)))) (bt 2 (ao l_ (ao nw (ao aM (af 0) (ao nw (af 1) (n_ zM (ae (n_ oh (ae (af 0) b_)) (ae (mC (.int 63)) b_))))) (ao rk (mC (.int 10)) (mC (.int 15)))) (ao ki (mC (.int 48271)) (af 1)))) kq))) [J (.frl (ns.map .int)),J (.int k),Y] h=.nx [J (.frl (ns.map .int)),J (.int k),J (.int cell)] h ->
   ∃m c:Int,bP 3 2 zB [.frl (ns.map .int),.int k] h=.ok (.loc h.length) (h++[.lst [.int m,.int c,.int 0]]):=λcell q=>by
  obtain⟨m,c,X⟩:=y cell;refine⟨m,c,(bJ (by rfl)).trans ?_⟩;rw[<-X];unfold zB;simp only[aU]at q ⊢;have U:aY 3 [PV.frl (ns.map .int),PV.int k]=[J (.frl (ns.map .int)),J (.int k),Y]:=rfl;rw[U];generalize (bt 2 (ao l_ (ao ki (mC (.int 7919)) (af 1)) (mC (.int 11)))) [J (.frl (ns.map .int)),J (.int k),Y] h=o1 at q ⊢
  cases o1 with
  |nx Z1 L =>
   simp only[MM.aw,aU]at q ⊢;rw[q];rfl
  |_=>cases q
 have B:∃j:Nat,(if(63:Int)<(ns.length:Int)then(63:Int)else(ns.length:Int))=(j:Int)/\j<=ns.length/\(0<ns.length->0<j):=by
  by_cases z:(63:Int)<(ns.length:Int)
  .exact⟨63,by rw[c_ z];rfl,by ext,by ext⟩
  .exact⟨ns.length,by rw[hI z],by ext,by ext⟩
 obtain⟨j,E,G,u⟩:=B;by_cases L:k<j
 .refine l (ns[k]'(by ext)) ?_;simp[F,E,L,u0 (show k<ns.length by ext)]
 .by_cases C:0<ns.length
  .have H:(j:Int)≠0:=by have:=u C;ext
   have P:k % j<ns.length:=r_ (Nat.mod_lt _ (u C)) G;have S:(k:Int).fmod (j:Int)=((k % j:Nat):Int):=by rw[L0 _ (by ext)];rfl
   refine l ((ns[k % j]'P).fmod (10^15)+48271*k) ?_;have Z:((10:Int)^15)≠0:=by decide
   have M:=u0 P;rw[Int.natCast_emod]at M;simp[F,E,L,C,fU H,S,M,zG,fU Z,Q,-Int.reducePow]
  .have W:ns=[]:=List.length_eq_zero_iff.mp (by ext);refine l (7919*k+11) ?_;have z:¬((k:Int)<(j:Int)):=by ext
   simp[F,E,z,C]
def vb{h:MH}{p:Nat}{s:d_}(pn:bh h p s):∃a,lm [.loc p] h=.ok (.bl I) a/\∀n:Nat,n<h.length->n≠p->a[n]?=h[n]?:=by
 obtain⟨j,q⟩:=DC (s:=s)
 have k:=cV.ok (q:=p) (h:=h) (O:=[p]) (vs:=[.loc p]) (ds:=[.pen]) (s:=s) (λo i=>by
  have:o=p:=by simpa using i
  subst this;exact aG pn) (by simp) pn ⟨_,_,rfl,rfl,rfl⟩
 rw[q,tT]at k;obtain⟨v,a,e,kb,_,r,_⟩:=k;exact⟨a,by rw[e];rw[show v=PV.bl I from r],kb.2⟩
def DH{h:MH}{n:Nat}{o a:MO}(e:h[n]?=J a):(h.set n o)[n]?=J o:=u_ (pj.mp e).1
def sM{ns:RN}{it:MIt}{n:Nat}(l:∀h,it.ok h):∀(xs:RL)(m:Nat)(z:RK)(h:MH),(∀x∈xs,∃k:Nat,x=.int (k:Int)/\k<64)->h[n]?=J (.lst (List.replicate m (.bl I)))->m+xs.length<=100->∃i,v7 it n (m_ 0) mh (bo lm (ae (bo hV (ae (af 1) (ae (af 0) b_))) b_)) xs [z,J (.frl (ns.map .int))] h=.ok () i/\i[n]?=J (.lst (List.replicate (m+xs.length) (.bl I)))
 |[],m,z,h,u,e,hl=>⟨h,jz (l h),e⟩
 |x::xs,m,z,h,u,e,hl=>by
  have C:m+(xs.length+1)<=100:=hl;obtain⟨k,rfl,H⟩:=u x (by simp);obtain⟨a,b,F⟩:=yK (h:=h) (ns:=ns) (k:=k) H;obtain⟨j,G,kb⟩:=vb (h:=h++[.lst [.int a,.int b,.int 0]]) (p:=h.length) (s:=(a,b,0)) (by show(h++[MO.lst [.int a,.int b,.int 0]])[h.length]?=J (.lst [.int a,.int b,.int 0]);exact j7);have L:n<h.length:=(pj.mp e).1;have e3:j[n]?=J (.lst (List.replicate m (.bl I))):=by rw[kb n (by simp;ext) (by ext)];exact u9 e
  obtain⟨i,q,E⟩:=sM (ns:=ns) l xs (m+1) (J (.int (k:Int))) (j.set n (.lst (List.replicate m (.bl I)++[.bl I]))) (λy B=>u y (n4 _ B)) (by rw[DH e3,List.replicate_succ']) (by ext);refine⟨i,?_,by rw[E,Ax,show m+1+xs.length=m+(xs.length+1) by ext]⟩;rw[jx (Z:=[z,J (.frl (ns.map .int))]) (Z1:=[J (.int (k:Int)),J (.frl (ns.map .int))]) (h1:=h) (h2:=h) (v:=.bl I) (h3:=j) (ys:=List.replicate m (.bl I)) (l h) rfl rfl (by simp -implicitDefEqProofs [F,G]) e3 (by simp;ext)];exact q
def LX{h:MH}:yJ (.tup [.str "order",.non]) (.tup [.str "order",.non]) h=.ok (.bl T) h:=by
 have a:PyData.strOk ("order":Str)=I:=by decide +kernel
 have e:rd 60 h (.tup [.str "order",.non])=J (.tuple [.str "order",.none]):=rfl;unfold yJ;rw[e];dsimp only;rw[c_ (by simp[SeqAt.shaped,PyData.canLay0,PyData.canLayAll0,PyData.depth,PyData.depthAll,a])];simp[PyData.eqv,PyData.eqvAll]
def IJ:RL:=[.non,.tup [],.loc 0,.loc 1,.int 0,.str "",.loc 2]
abbrev stH:MH:=[.lst [.int 0],.lst [.bl I],.dic T [] []]
def Ac{g:MH}:∀x∈IJ,∃j,be.m [W0,x] (stH++g)=.ok (.tup [.str "order",.non]) (stH++g++j):=λx l=>by
 unfold IJ at l;simp only[n8,DP,or_false]at l;have i:∀{x:PV} {t:String},Ar (stH++g) x=J t->["list"].any (dm t)=T->∃j,be.m [W0,x] (stH++g)=.ok (.tup [.str "order",.non]) (stH++g++j):=λa b=>oV (g:=[]) (by rw[By];exact DG a b);rcases l with rfl|rfl|rfl|rfl|rfl|rfl|rfl
 .exact i (t:="NoneType") rfl rfl
 .exact i (t:="tuple") rfl rfl
 .obtain⟨u,e⟩:=um (x:=.int 0) (h:=stH++g) (k:=0) (.inl rfl) rfl;exact oV e
 .obtain⟨u,e⟩:=um (x:=.bl I) (h:=stH++g) (k:=1) (.inr rfl) rfl;exact oV e
 .exact i (t:="int") rfl rfl
 .exact i (t:="str") rfl rfl
 .exact i (t:="dict") rfl rfl
def Bu(ns:RN)(hn:ns.length<=63):∃Q,AX [.frl (ns.map .int)] []=.ok (.bl I) Q:=by
 unfold AX;rw[bJ (by rfl)];unfold Bt;rw[show aY 2 [PV.frl (ns.map .int)]=[J (.frl (ns.map .int)),Y]from rfl];obtain⟨Z1,j,q1,z1,e1,g1,X⟩:=u8 (it:=⟨IJ,[]⟩) (g:=m_ 1) (b:=zJ (mB (ao yJ (bo be.m (ae (bU (ae (mC (.int 0)) (ae (bU b_) b_))) (ae (af 1) b_))) (bU (ae (mC (.str "order")) (ae (mC .non) b_))))) (bC (mC (.bl T))) kq)
  (λ_ Z h=>∃z,Z=[J (.frl (ns.map .int)),z]/\∃g,h=stH++g) IJ 0 [J (.frl (ns.map .int)),Y] stH ⟨Y,rfl,[],rfl⟩ (λ_ _ _ _=>fe.mpr trivial) (λm Z h x ⟨z,B,g,U⟩ y=>by
   subst B;subst U;obtain⟨E,w⟩:=Ac (g:=g) x (Al y);have l:∀{h:MH},m2 [] h=.ok (.tup []) h:=λ{h}=>by unfold m2;rw[c_ (by simp)]
   have t2:∀{a b:PV}{h:MH},m2 [a,b] h=.ok (.tup [a,b]) h:=λ{a b h}=>by unfold m2;rw[c_ (pu (show _<=1000 by simp) (by decide))]
   refine⟨_,_,[J (.frl (ns.map .int)),J x],stH++g++E,rfl,?_,_,rfl,g++E,by rw[A7]⟩
   simp -implicitDefEqProofs only[eB,lQ,jt,eQ,bn,bR,gU,pC,va,tr,dE,cg,Out.bind_ok,l,t2,w,Out.ne_ok,LX,aA,Am,if_false,mL])
 subst e1;have F:cH (bU (ae (mC .non) (ae (bU b_) (ae (bX (ae (mC (.int 0)) b_)) (ae (bX (ae (mC (.bl I)) b_)) (ae (mC (.int 0)) (ae (mC (.str "")) (ae Bn b_)))))))) [J (.frl (ns.map .int)),Y] []=.ok ⟨IJ,[]⟩ stH:=by have G:q7 [.int 0] []=.ok (.loc 0) [.lst [.int 0]]:=cW (by simp);have O:q7 [.bl I] [.lst [.int 0]]=.ok (.loc 1) [.lst [.int 0],.lst [.bl I]]:=cW (by simp);have l:∀{h:MH},m2 [] h=.ok (.tup []) h:=λ{h}=>dZ (by simp);have M:∀{h:MH},m2 [.non,.tup [],.loc 0,.loc 1,.int 0,.str "",.loc 2] h=.ok (.tup IJ) h:=λ{h}=>dZ (by simp);simp -implicitDefEqProofs [G,O,l,M]
 obtain⟨c,hc,P⟩:∃c:Nat,c<=63/\(ae (n_ AJ (ae (mC (.int 1)) (ae (n_ zM (ae (n_ oh (ae (af 0) b_)) (ae (mC (.int 10)) b_))) b_))) b_) [J (.frl (ns.map .int)),z1] j=.ok [.int (c:Int)] j:=by
  have e:(ae (n_ AJ (ae (mC (.int 1)) (ae (n_ zM (ae (n_ oh (ae (af 0) b_)) (ae (mC (.int 10)) b_))) b_))) b_) [J (.frl (ns.map .int)),z1] j=.ok [.int (if(if(10:Int)<(ns.length:Int)then 10 else(ns.length:Int))>1 then(if(10:Int)<(ns.length:Int)then 10 else(ns.length:Int))else 1)] j:=by simp -implicitDefEqProofs
  have u:0<=(if(if(10:Int)<(ns.length:Int)then 10 else(ns.length:Int))>1 then(if(10:Int)<(ns.length:Int)then 10 else(ns.length:Int))else 1)/\(if(if(10:Int)<(ns.length:Int)then 10 else(ns.length:Int))>1 then(if(10:Int)<(ns.length:Int)then 10 else(ns.length:Int))else 1)<=63:=by constructor<;>(repeat' split)<;>ext
  generalize (if(if(10:Int)<(ns.length:Int)then 10 else(ns.length:Int))>1 then(if(10:Int)<(ns.length:Int)then 10 else(ns.length:Int))else 1)=i at e u;obtain⟨c,rfl⟩:=nt u.1;exact⟨c,by ext,e⟩
 have S:=Gn P (by ext)
 obtain⟨C,H,R⟩:=sM (ns:=ns) (it:=⟨bE 0 c,[]⟩) (n:=j.length) (λ_=>fe.mpr trivial) (bE 0 c) 0 Y (j++[.lst []]) (λx y=>by
  obtain⟨i,rfl,h0,u⟩:=v8 y;obtain⟨k,rfl⟩:=nt h0
  exact⟨k,rfl,by ext⟩) j7 (by rw[MM.dY];ext)
 have L:bv 1 [0] (dA (ae (n_ AJ (ae (mC (.int 1)) (ae (n_ zM (ae (n_ oh (ae (af 0) b_)) (ae (mC (.int 10)) b_))) b_))) b_)) (m_ 0) mh (bo cV.m (ae (bo hV (ae (af 1) (ae (af 0) b_))) b_)) [J (.frl (ns.map .int)),z1] j=.ok (.loc j.length) C:=by rw[fR,S,Out.bind_ok];refine(congrArg (λo:Out Unit=>o.bind _) H).trans ?_;rfl
 have W:=xJ R;refine⟨C,?_⟩;rw[aU,hU,F,aA];refine(congrArg (λz:SOut=>(z.then _).fin) q1).trans ?_;rw[MM.aw,jE,xW,bn,L,Out.bind_ok,bR,Out.bind_ok,Out.bind_ok,W];rfl
end Law
namespace Law
open PySem.Spec PyProof.Rows L2 MM
set_option maxHeartbeats 4000000
def top(i:Nat):Stmt:=PySem.Challenge.pw_fewfills_k32_noughts_to_strike_by.main.body.getD i (.Pass ⟨0,0,0,0⟩)
abbrev mV:Stmt:=Q_ (top 9) 0
abbrev QR:RM:=["self","place"]
abbrev Bv:Str:="the pivot of the place "
abbrev AZ:Str:=" is nought"
def DI{X:Cx}{C F B:Addr}(a:X.env.scope=ah mV)(hN:X.N=QR)(z:X.ex=[])(E:G9 X.K X.mg "FillError" F)(y:AA X.K X.mg "NoPivot" C F B "place"):PSs X (aH mV) (tP C Bv AZ "place"):=by
 have l:X.N[0]?=J ("self":Str):=by rw[hN];rfl
 have i:X.N[1]?=J ("place":Str):=by rw[hN];rfl
 have u:Il X.env.scope "self":=by rw[a];exact .inl rfl
 have j:Il X.env.scope "place":=by rw[a];exact .inl rfl
 have hg:Gl X "FillError":=by unfold Gl Env.kindOf;rw[a];rfl
 exact mK (uz (yE hg E y (cC (gz l u) (cC (G_ (by decide +kernel) (gz i j)) gC)) rfl rfl rfl rfl) rfl) (lH (wQ y z (gz l u) (gz i j) rfl))
def LY{P:Program}{w:World}{K:g_}{mg:RD}{base:Heap}{C F a:Addr}{fd:FuncData}{k:Nat}(j:Fun K "__init__" "NoPivot.__init__" mV a fd)(l:G9 K mg "FillError" F)(i:AA K mg "NoPivot" C F a "place"):FnOk P w K mg base Io (k+1) a fd QR (M7 C Bv AZ "place") :=
 zb j ⟨rfl,rfl,rfl,by decide +kernel,rfl,by decide +kernel,by decide +kernel⟩ λX e3 e4 y hN u=>DI y hN u (e3▸e4▸l) (e3▸e4▸i)
def yy{K:g_}{F:Addr}{n:String}(q:PySem.W.excIn K F fH n=I):PySem.W.tailIn K fH (.ref F::fH)=I:=by
 unfold PySem.W.excIn at q
 split at q
 .rename_i dd l sl a
  split at q
  .simp only[AC,beq_iff_eq,Bool.not_eq_true']at q;obtain⟨⟨_,j⟩,i⟩:=q;unfold PySem.W.tailIn;rw[Bool.or_eq_true_iff];refine .inr ?_;dsimp only;rw[a];dsimp only;rw[j,i];rfl
  .cases q
 .cases q
structure Np(P:Program)(w:World)(K:g_)(mg:Aq)(base:Heap):Prop where
 rp:PK P w K mg base "NoPivot" Bv AZ "place"
 t2:PL K mg "NoPivot" "place" "FillError" ["NoOrder"]
 r_NoOrder:PM K mg "NoOrder"
 i_NoOrder:Hh K mg "NoOrder" ["NoOrder","NoPivot"] ["NoOrder"]
 i_NoPivot:Hh K mg "NoPivot" ["NoOrder","NoPivot"] ["NoPivot"]
 i_ValueError:Hh K mg "ValueError" ["NoOrder","NoPivot"] ["NoOrder","NoPivot"]
 j_NoNumber:Au K mg "NoNumber" ["NoOrder","NoPivot"] []
 j_NoParting:Au K mg "NoParting" ["NoOrder","NoPivot"] []
 j_NoPlace:Au K mg "NoPlace" ["NoOrder","NoPivot"] []
 j_NoRow:Au K mg "NoRow" ["NoOrder","NoPivot"] []
 j_NoSheet:Au K mg "NoSheet" ["NoOrder","NoPivot"] []
 j_NoText:Au K mg "NoText" ["NoOrder","NoPivot"] []
 j_NoWeb:Au K mg "NoWeb" ["NoOrder","NoPivot"] []
 j_NoWord:Au K mg "NoWord" ["NoOrder","NoPivot"] []
 j_TooMany:Au K mg "TooMany" ["NoOrder","NoPivot"] []
def Qa(K:g_):Prop:=∀(P:Program)(w:World)(mg:Aq)(base:Heap),K.In base->base.Ns mainGlobals mg->Np P w K mg base
def H_{K:g_}{a j fI N E i C G a5 F R a3 S H:Addr}{nm qn:Str}{bs:RU}{sn:RM}{sub:RU}{ab:Bool}{ed:Option Bool}{dd:RG}{k0 k1 k2 k3 k5:RW}{oc:Value}{od eh an:RG}{sl ef:Array (RW)}{kV dc pm cd ct:Value}{es:Array DictEntry}{ep:Nat}(dr:PySem.W.nsIn K mainGlobals "NoPivot"=J (J (.ref a)))(b4:PySem.W.nsIn K mainGlobals "FillError"=J (J (.ref j)))(l:K.lookup a=J (excClassObj nm qn a N bs (.ref j::fH) I sn sub ab ed dd k0 k1 k2 k3 k5 "ValueError.__new__"))(lN:K.lookup N=J ⟨oc,eh,.dict es ep,ef⟩)(eg:(es.all λe=>match e.key with|.str _ _=>I|_=>T)=I)(ni:PySem.W.nsIn K N "__init__"=J (J (.ref fI)))(eF:PySem.W.excIn K j fH "ValueError.__new__"=I)(sa:PySem.W.findIn K (.ref a) "__setattr__"=J (J (.builtin "object.__setattr__")))(tk:PySem.W.takerIn K a "place"=J Y)(hg:PySem.W.specialIn K (.ref j) "__getattribute__"=J (J (.builtin "type.__getattribute__")))(hr:PySem.W.readsIn K j (.type "type")=I)(fc:PySem.W.findCls K (.ref j) (.type "type") "__init__"=J (.val (.builtin "ValueError.__init__")))(lf:K.lookup fI=J ⟨.type "function",od,.func (PySem.W.fnOf "__init__" "NoPivot.__init__" (fK mV) (aH mV) (ah mV) .none kV dc pm an cd ct),sl⟩)(cI:PySem.W.codeIn K cd "NoPivot.__init__"=I)(kp:PySem.W.keepIn K (.ref fI)=I)(hd:PySem.W.hasDictIn K a=I)(fi:PySem.W.findIn K (.ref a) "place"=J Y)(c0:PySem.W.nsIn K mainGlobals "NoNumber"=J (J (.ref E)))(c5:PySem.W.nsIn K mainGlobals "NoOrder"=J (J (.ref i)))(b9:PySem.W.nsIn K mainGlobals "NoParting"=J (J (.ref C)))(di:PySem.W.nsIn K mainGlobals "NoPlace"=J (J (.ref G)))(d1:PySem.W.nsIn K mainGlobals "NoRow"=J (J (.ref a5)))(df:PySem.W.nsIn K mainGlobals "NoSheet"=J (J (.ref F)))(dV:PySem.W.nsIn K mainGlobals "NoText"=J (J (.ref R)))(d5:PySem.W.nsIn K mainGlobals "NoWeb"=J (J (.ref a3)))(dx:PySem.W.nsIn K mainGlobals "NoWord"=J (J (.ref S)))(da:PySem.W.nsIn K mainGlobals "TooMany"=J (J (.ref H)))(b3:PySem.W.excIn K i fH "ValueError.__new__"=I)(dq:PySem.W.mroIn K i (.ref j)=J I)(c4:PySem.W.mroIn K i (.ref a)=J T)(cf:PySem.W.findIn K (.ref i) "__getattribute__"=J (J (.builtin "BaseException.__getattribute__")))(cp:PySem.W.findIn K (.ref i) "__class__"=J (J (.builtin "object.__class__")))(cn:PySem.W.findIn K (.ref i) "__getattr__"=J Y)(ca:PySem.W.mroIn K i (.type "object")=J I)(cv:PySem.W.mroIn K i (.type "BaseException")=J I)(ch:PySem.W.findIn K (.ref a) "__getattribute__"=J (J (.builtin "BaseException.__getattribute__")))(cw:PySem.W.findIn K (.ref a) "__class__"=J (J (.builtin "object.__class__")))(cc:PySem.W.findIn K (.ref a) "__getattr__"=J Y)(cs:PySem.W.mroIn K a (.type "object")=J I)(cB:PySem.W.mroIn K a (.type "BaseException")=J I)(ck:PySem.W.kitOne K (.type "NoneType") (.ref E)=J T)(U:PySem.W.kitOne K (.ref i) (.ref E)=J T)(W:PySem.W.kitOne K (.ref a) (.ref E)=J T)(c1:PySem.W.kitOne K (.type "NoneType") (.ref i)=J T)(ar:PySem.W.kitOne K (.ref i) (.ref i)=J I)(al:PySem.W.kitOne K (.ref a) (.ref i)=J T)(b5:PySem.W.kitOne K (.type "NoneType") (.ref C)=J T)(O:PySem.W.kitOne K (.ref i) (.ref C)=J T)(Q:PySem.W.kitOne K (.ref a) (.ref C)=J T)(dk:PySem.W.kitOne K (.type "NoneType") (.ref a)=J T)(as:PySem.W.kitOne K (.ref i) (.ref a)=J T)(Z:PySem.W.kitOne K (.ref a) (.ref a)=J I)(dn:PySem.W.kitOne K (.type "NoneType") (.ref G)=J T)(ak:PySem.W.kitOne K (.ref i) (.ref G)=J T)(X:PySem.W.kitOne K (.ref a) (.ref G)=J T)(ea:PySem.W.kitOne K (.type "NoneType") (.ref a5)=J T)(bm:PySem.W.kitOne K (.ref i) (.ref a5)=J T)(b2:PySem.W.kitOne K (.ref a) (.ref a5)=J T)(db:PySem.W.kitOne K (.type "NoneType") (.ref F)=J T)(ai:PySem.W.kitOne K (.ref i) (.ref F)=J T)(a0:PySem.W.kitOne K (.ref a) (.ref F)=J T)(dv:PySem.W.kitOne K (.type "NoneType") (.ref R)=J T)(a8:PySem.W.kitOne K (.ref i) (.ref R)=J T)(a9:PySem.W.kitOne K (.ref a) (.ref R)=J T)(eb:PySem.W.kitOne K (.type "NoneType") (.ref a3)=J T)(b0:PySem.W.kitOne K (.ref i) (.ref a3)=J T)(b1:PySem.W.kitOne K (.ref a) (.ref a3)=J T)(dt:PySem.W.kitOne K (.type "NoneType") (.ref S)=J T)(a4:PySem.W.kitOne K (.ref i) (.ref S)=J T)(a2:PySem.W.kitOne K (.ref a) (.ref S)=J T)(c3:PySem.W.kitOne K (.type "NoneType") (.ref H)=J T)(a1:PySem.W.kitOne K (.ref i) (.ref H)=J T)(ap:PySem.W.kitOne K (.ref a) (.ref H)=J T)(M:PySem.W.kitOne K (.ref i) (.type "ValueError")=J I)(L:PySem.W.kitOne K (.ref a) (.type "ValueError")=J I)(ee:Zn K "ValueError"):Qa K:=λP w mg base kin ns=>by
 have no:PySem.W.nsOkIn K N=I:=by unfold PySem.W.nsOkIn;rw[lN];exact eg
 have tl:PySem.W.tailIn K fH (.ref j::fH)=I:=yy eF;have y:=PySem.W.mg_of kin ns dr;have a6:=PySem.W.mg_of kin ns b4;have cm:=PySem.W.mg_of kin ns c0;have u:=PySem.W.mg_of kin ns c5;have b6:=PySem.W.mg_of kin ns b9;have de:=PySem.W.mg_of kin ns di;have ec:=PySem.W.mg_of kin ns d1;have c2:=PySem.W.mg_of kin ns df;have d0:=PySem.W.mg_of kin ns dV;have d2:=PySem.W.mg_of kin ns d5;have dF:=PySem.W.mg_of kin ns dx;have ds:=PySem.W.mg_of kin ns da;have B:vE K i:=⟨cf,cp,cn,ca,cv⟩;have z:vE K a:=⟨ch,cw,cc,cs,cB⟩;have EI:AA K mg "NoPivot" a j fI "place":=⟨y,⟨nm,qn,N,bs,sn,sub,ab,ed,dd,k0,k1,k2,k3,k5,l,no,ni⟩,tl,sa,tk⟩;have Fu:=w4 (x:="__init__") (qual:="NoPivot.__init__") (st:=mV) lf cI kp;exact⟨⟨a,j,fI,"self","place",_,_,EI,LY (k:=0) Fu ⟨a6,hg,hr,fc⟩ EI,Fu.binds λ_ _ _ _ _ _ us hl=>match us,hl with|[_,_],_=>rfl,lf,rfl⟩,⟨j,a,j,fI,⟨a6,eF⟩,EI,⟨z,hd,fi⟩,(aS ⟨_,⟨u,b3⟩,dq,c4⟩ cD)⟩,⟨_,u,b3⟩,.e ⟨_,u,cR (dU c1) (aS ⟨_,u,B,ar⟩ (aS ⟨_,y,z,al⟩ cD))⟩,.e ⟨_,y,cR (dU dk) (aS ⟨_,u,B,as⟩ (aS ⟨_,y,z,Z⟩ cD))⟩,.b _ ee qJ (cR (J6 K) (aS ⟨_,u,B,M⟩ (aS ⟨_,y,z,L⟩ cD))),⟨⟨_,cm,cR (dU ck) (aS ⟨_,u,B,U⟩ (aS ⟨_,y,z,W⟩ cD))⟩⟩,⟨⟨_,b6,cR (dU b5) (aS ⟨_,u,B,O⟩ (aS ⟨_,y,z,Q⟩ cD))⟩⟩,⟨⟨_,de,cR (dU dn) (aS ⟨_,u,B,ak⟩ (aS ⟨_,y,z,X⟩ cD))⟩⟩,⟨⟨_,ec,cR (dU ea) (aS ⟨_,u,B,bm⟩ (aS ⟨_,y,z,b2⟩ cD))⟩⟩,⟨⟨_,c2,cR (dU db) (aS ⟨_,u,B,ai⟩ (aS ⟨_,y,z,a0⟩ cD))⟩⟩,⟨⟨_,d0,cR (dU dv) (aS ⟨_,u,B,a8⟩ (aS ⟨_,y,z,a9⟩ cD))⟩⟩,⟨⟨_,d2,cR (dU eb) (aS ⟨_,u,B,b0⟩ (aS ⟨_,y,z,b1⟩ cD))⟩⟩,⟨⟨_,dF,cR (dU dt) (aS ⟨_,u,B,a4⟩ (aS ⟨_,y,z,a2⟩ cD))⟩⟩,⟨⟨_,ds,cR (dU c3) (aS ⟨_,u,B,a1⟩ (aS ⟨_,y,z,ap⟩ cD))⟩⟩⟩
local macro_rules | `(tactic| contradiction)=>do let q <-[`w_var,`KU,`O3,`KW,`KY,`K7,`GV,`O4,`GW,`Pr,`La,`Po,`Ll,`Li,`KZ,`K0,`K1,`GS,`CU,`K2,`GU,`K3,`w_ifE,`K4,`K5,`K6,`O5,`O6,`O7,`G3,`Lp,`Lq,`Pp,`Ld,`G0,`w_tchain,`G1,`Ps,`w_and1,`w_and,`Lm,`w_or,`Ln,`Lo,`Px,`Pu,`Pw,`Py,`Pz,`Ls,`Lr,`PB,`gN,`fF,`Lu,`G6,`PC,`Lx,`PD,`w_set,`w_setO,`Lw,`G5,`Pq,`zU,`zF,`G7,`w_pass,`PH,`Hb,`Lv,`zx,`Hi,`Hj,`C9,`LA,`Hk,`LB,`EA,`K8,`K9,`K_,`Ph,`Lb,`Lc,`O8,`O9,`O_,`Pa,`Pj,`Pk,`Pc,`Pm,`j_InD,`j_InnD,`Lf,`Lg,`Lh,`GX,`CV,`Lj,`yo,`Lk,`GY,`GZ].foldrM (λn t=>`(tactic| first | apply $(Lean.mkIdent n) | $t:tactic)) (<-`(tactic| fail));`(tactic| (first | assumption | ((with_reducible apply G4);assumption;(intro env h;cases env;cases h;rfl)) | ((with_reducible apply G8);assumption;(intro env h;cases env;cases h;rfl)) | ((with_reducible apply CW);assumption;(intro env h;cases env;cases h;rfl)) | ((with_reducible apply CY);assumption;(intro env h;cases env;cases h;rfl)) | ((with_reducible apply Ly);assumption;(intro env h;cases env;cases h;rfl)) | with_reducible $q:tactic | exact rfl | decide +kernel | refine λY c=>⟨?_,?_,?_⟩ | (intro _;rfl) | exact λ_ _=>rfl | exact Bh _ | omega | exact⟨⟨rfl,rfl⟩,rfl,rfl,rfl⟩ | with_unfolding_all rfl | intro Y c d) <;> contradiction)
abbrev g7:Stmt:=top 15
abbrev dg:Stmt:=top 16
abbrev gh:Stmt:=top 17
abbrev nj:Stmt:=top 18
abbrev lG:Stmt:=top 19
abbrev lv:Stmt:=top 20
abbrev nC:Stmt:=top 21
abbrev gW:Stmt:=top 23
abbrev g9:Stmt:=top 24
abbrev eM:Stmt:=top 25
abbrev gw:Stmt:=top 27
abbrev gT:Stmt:=top 28
abbrev iO:Stmt:=top 29
abbrev eN:Stmt:=top 30
abbrev kF:RM:=["sheet","order","known","rows","work","k","v","step","i","factor"]
abbrev kH:RM:=["enumerate","step_of","sorted","add_times","minus","NOUGHT"]
abbrev qP:RM:=["sheet","order","known"]
def qG(l:Sc X eN)(g:Gd X kF kH k)(F:h_ X)(C:Cal X "minus" ["a","b"] jB.m k)(u:Cal X "add_times" ["row","factor","parts"] i4 k)(i:Cal X "step_of" ["rows","v","later"] eV.m k)(E:Nn X "enumerate")(j:Nn X "sorted")(B:Nn X "dict")(a:mH X.K X.mg "NOUGHT" 0 1):AD X (aH eN) n5 :=
 (nc.h (At (yO (Q6 g l 3 ["row"] [] ["dict"] [] (eG (Ad (kV g 0) aE)) λz y g=>⟨(Ak g 0),hX,(OX g 0 (Cw g) (y.n B) CM (aC (kV g 0) aP))⟩))
 (At (CQ g 4 (p_ (xj aP)))
 (At (yO (fu g (QK g 0 E (aC (kV g 1) aP)) (iA g (bH (Ak g 5) (bH (Ak g 6) fW))) (nc.h (At (CQ g 7 (p_ (FU (Br (xN T) (kV g 6) (kV g 2)) (xF (kV g 2) (kV g 6)) (Bc g 1 i (aC (kV g 3) (aC (kV g 6) (aC (A4 g 2 pN j pP (aC (nh (kV g 1) (je (aV dy (kV g 5) aE)) jG) aP)) aP)))))))
 (At (yO (fu g (eG (Ad (kV g 7) aE)) (iA g (bH (Ak g 8) (bH (Ak g 9) fW))) (nc.h (zg (yO (gX (Br (xN I) (kV g 8) (kV g 2)) (nc.h (zg (yO (lB (Bc g 3 u (aC (Ad (kV g 3) (kV g 8)) (aC (Bc g 4 C (aC (w9 g (q:=5) rfl a) (aC (kV g 9) aP))) (aC (Ad (kV g 7) aE) aP)))))))) fO))))))
 (zg (yO (lB (Eg pK qk qt (kV g 4) (aC (kV g 7) aP))))))))))
 (zg (BE (p_ (kV g 4))))))))
abbrev j3:Stmt:=top 31
abbrev lT:Stmt:=top 33
abbrev uw:RM:=["_law_script","_law_k","_law_cell"]
abbrev uy:RM:=["min","len","abs"]
abbrev DJ:RM:=["_law_script","_law_k"]
def DL(l:Sc X lT)(g:Gd X uw uy k)(u:h_ X)(j:Nn X "abs")(i:Nn X "len")(a:Nn X "min"):AD X (aH lT) zB :=
 (nc.h (At (CQ g 2 (p_ (aV dy (aV gF aE (kV g 1)) aE)))
 (At (yO (gX (Br Ea (kV g 1) (A4 g 0 (sv g) a rG (aC (A4 g 1 jw i jJ (aC (kV g 0) aP)) (aC aE aP)))) (nc.h (zg (CQ g 2 (p_ (Ad (kV g 0) (kV g 1)))))) (nc.h (zg (yO (gX (Br Eb (A4 g 1 jw i jJ (aC (kV g 0) aP)) aE) (nc.h (zg (CQ g 2 (p_ (aV dy (aV dM (Ad (kV g 0) (aV dM (kV g 1) (A4 g 0 (sv g) a rG (aC (A4 g 1 jw i jJ (aC (kV g 0) aP)) (aC aE aP))))) (aV re aE aE)) (aV gF aE (kV g 1))))))) fO))))))
 (At (yO (gX (Br Ec (A4 g 2 sj j sN (aC (kV g 2) aP)) (aV re aE aE)) (nc.h (zg (BE (IA (aR (p_ aE) (aR (p_ (A4 g 2 sj j sN (aC (kV g 2) aP))) (aR (p_ aE) cb))))))) fO))
 (zg (BE (IA (aR (p_ aE) (aR (p_ (aV dy (aV dM (kV g 2) aE) (aV gF aE (kV g 1)))) (aR (p_ aE) cb))))))))))
abbrev jP:Stmt:=top 34
abbrev sL:RM:=["_law_pen_here","_law_size","_law_number","_law_drawn"]
abbrev rl:RM:=[]
abbrev yw:RM:=["_law_pen_here","_law_size"]
def y0(a:Sc X jP)(g:Gd X sL rl k)(i:h_ X):AD X (aH jP) vR :=
 (nc.h (At (yO (jc (aV dy (Ad (kV g 0) aE) aE) (kO (kV g 0) aE)))
 (At (yO (gX (Br (nZ g.room) (Ad (kV g 0) aE) aE) (nc.h (At (CQ g 3 (p_ (aV dM (Ad (kV g 0) aE) (kV g 1))))
 (At (yO (jc (aV (vO g.room) (Ad (kV g 0) aE) (kV g 1)) (kO (kV g 0) aE)))
 (zg (BE (p_ (kV g 3))))))) fO))
 (At (CQ g 2 (p_ (aV dM (aV gF (aV dy (aV dy (Ad (kV g 0) aE) (aV gF aE (Ad (kV g 0) aE))) aE) aE) aE)))
 (At (CQ g 2 (p_ (aV dM (aV gF (kV g 2) (aV dy (aV dy (aV dM (kV g 2) aE) (Ad (kV g 0) aE)) aE)) aE)))
 (zg (BE (p_ (aV dM (aV (vO g.room) (aV dM (aV gF (kV g 2) (aV dy (aV dM (kV g 2) aE) aE)) aE) aE) (kV g 1))))))))))
abbrev g8:Stmt:=top 35
abbrev iS:Stmt:=top 36
abbrev jR:Stmt:=top 37
abbrev iR:Stmt:=top 38
abbrev iG:Stmt:=top 39
abbrev iN:Stmt:=top 40
abbrev iM:Stmt:=top 41
abbrev qC:RM:=["_law_pen_here","_law_order_here","_law_work","_law_many","_law_own","_law_n","_law_grid","_law_i","_law_v","_law_pivot","_law_row","_law_column","_law_j","_law_factor","_law_number"]
abbrev pY:RM:=["len","range","_law_plus","_law_times","_law_draw","_law_small","tuple"]
abbrev wT:RM:=["_law_pen_here","_law_order_here","_law_work","_law_many","_law_own"]
def w6(a:Sc X iM)(g:Gd X qC pY k)(G:h_ X)(j:Cal X "_law_plus" ["_law_a","_law_b"] c7.m k)(B:Cal X "_law_draw" ["_law_pen_here","_law_size"] cF k)(u:Cal X "_law_small" ["_law_pen_here","_law_wide"] bD.m k)(C:Cal X "_law_times" ["_law_a","_law_b"] eZ.m k)(F:Nn X "enumerate")(l:Nn X "tuple")(n12:Nn X "range")(E:Nn X "len"):AD X (aH iM) wh :=
 (nc.h (At (CQ g 5 (p_ (A4 g 0 jw E jJ (aC (kV g 1) aP))))
 (At (yO (Q8 g a 6 ["_law_i"] ["_law_n"] ["range"] [5] (OY g 1 n12 (aC (kV g 5) aP)) λi y a g=>⟨(Ak g 0),hX,(OZ g a ["_law_j"] [] [] [] (OY g 0 (y.n n12) (aC (kV g 1) aP)) λi z g=>⟨(Ak g 0),hX,(js.h (A5 (aR (p_ aE) (aR (p_ aE) cb))))⟩)⟩))
 (At (yO (fu g (eG (nh (kV g 2) jG (je (kV g 3)))) (iA g (bH (Ak g 8) (bH (Ak g 9) (bH (Ak g 10) (bH (Ak g 11) fW))))) (nc.h (zg (yO (fu g (eG (aV dy (js.h (A5 (aR (A5 (aR (p_ (kV g 8)) (aR (A5 (aR (p_ aE) (aR (p_ aE) cb))) cb))) cb))) (kV g 11))) (iA g (bH (Ak g 7) (bH (Ak g 13) fW))) (nc.h (zg (yO (fu g (eG (aV dy (js.h (A5 (aR (A5 (aR (p_ (kV g 8)) (aR (p_ (kV g 9)) cb))) cb))) (kV g 10))) (iA g (bH (Ak g 12) (bH (Ak g 14) fW))) (nc.h (zg (yO (jc (Bc g 2 j (aC (Ad (Ad (kV g 6) (kV g 7)) (kV g 12)) (aC (Bc g 3 C (aC (kV g 13) (aC (kV g 14) aP))) aP))) (kO (Ad (kV g 6) (kV g 7)) (kV g 12))))))))))))))))
 (At (yO (fu g (eG (nh (kV g 1) (je (kV g 3)) jG)) (Ak g 7) (nc.h (zg (yO (fu g (eG (nh (kV g 1) (je (kV g 3)) jG)) (Ak g 12) (nc.h (zg (yO (gX (MW.mt (FN (Br (nZ g.room) (kV g 7) (Ad (kV g 1) (kV g 3))) (B4 (Br (nZ g.room) (kV g 12) (kV g 7))))) (nc.h (zg (yO (jc (Bc g 2 j (aC (Ad (Ad (kV g 6) (kV g 7)) (kV g 12)) (aC (kV g 4) aP))) (kO (Ad (kV g 6) (kV g 7)) (kV g 12)))))) (nc.h (zg (yO (gX (Br (nZ g.room) (Bc g 4 B (aC (kV g 0) (aC aE aP))) aE) (nc.h (zg (yO (jc (Bc g 2 j (aC (Ad (Ad (kV g 6) (kV g 7)) (kV g 12)) (aC (Bc g 5 u (aC (kV g 0) (aC qV aP))) aP))) (kO (Ad (kV g 6) (kV g 7)) (kV g 12)))))) fO))))))))))))))
 (zg (BE (A5 (aR (p_ (kV g 5)) (aR (p_ (OX g 6 mF l m3 (aC (Q7 g a ["_law_row"] [] ["tuple","enumerate"] [] (eG (kV g 6)) λi y a g=>⟨(Ak g 0),hX,(OX g 0 mF (y.n l) m3 (aC (OZ g a ["_law_j","_law_one"] [] [] [] (QK g 1 (y.n F) (aC (kV g 0) aP)) λi z g=>⟨(iA g (bH (Ak g 0) (bH (Ak g 1) fW))),(u7 (Br (vq g.room) (kV g 1) (js.h (A5 (aR (p_ aE) (aR (p_ aE) cb)))))),(js.h (A5 (aR (p_ (kV g 0)) (aR (p_ (kV g 1)) cb))))⟩) aP))⟩) aP))) cb))))))))))
abbrev jY:Stmt:=top 42
abbrev iI:Stmt:=top 43
abbrev eK:Stmt:=top 44
abbrev iJ:Stmt:=top 45
abbrev om:Stmt:=top 46
abbrev EV:RM:=["_law_script","_law_bent"]
abbrev EW:RM:=["_law_asked","all","range","max","min","len"]
abbrev Bw:RM:=["_law_script"]
def LZ(l:Sc X om)(g:Gd X EV EW k)(F:h_ X)(i:Cal X "_law_pen" ["_law_script","_law_k"] hV k)(z:Cal X "_law_right" ["_law_pen_here"] cV.m k)(j:Cal X "_law_asked" ["_law_sheet_here","_law_order_here"] be.m k)(n12:Nn X "range")(C:Nn X "len")(a:Nn X "min")(u:Nn X "max")(E:Nn X "all"):AD X (aH om) Bt :=
 (nc.h (At (yO (fu g (eG (js.h (A5 (aR (p_ tK) (aR (p_ (rT aP)) (aR (IA (aR (p_ aE) cb)) (aR (IA (aR (p_ qV) cb)) (aR (p_ aE) (aR (p_ tt) (aR (p_ uD) cb)))))))))) (Ak g 1) (nc.h (zg (yO (gX (Br (vq g.room) (Bc g 0 j (aC (js.h (A5 (aR (p_ aE) (aR (p_ (rT aP)) cb)))) (aC (kV g 1) aP))) (js.h (A5 (aR (p_ tt) (aR (p_ tK) cb))))) (nc.h (zg (BE (p_ qV)))) fO))))))
 (zg (BE (p_ (A4 g 1 (xA g) E xL (aC (OZ g l ["_law_k"] ["_law_script"] ["_law_right","_law_pen"] [0] (OY g 2 n12 (aC (A4 g 3 (F4 g) u GQ (aC aE (aC (A4 g 4 (sv g) a rG (aC (A4 g 5 jw C jJ (aC (kV g 0) aP)) (aC aE aP))) aP))) aP)) λB y g=>⟨(Ak g 0),hX,(Bc g 0 (y.c z) (aC (Bc g 1 (y.c i) (aC (kV g 1) (aC (kV g 0) aP))) aP))⟩) aP)))))))
def Ia:hJ "law" om Bw:=λ_ _ _ _ _ _=>M3 λ_=>rfl
abbrev jN:RM:=["thing"]
def wd{K:g_}(c:Wc X P w K mg base jN jN 0 (ah g7))(d:h_ X)(j:Zn K "isinstance")(i:Zn K "bool")(a:Zn K "int"):nc X (aH g7) d4.m:=by unfold d4;apply gN<;>contradiction
abbrev d8:RM:=["a","b","rest"]
def md{K:g_}(c:Wc X P w K mg base d8 d8 0 (ah dg))(d:h_ X):nc X (aH dg) cj.m:=by unfold cj;apply fF<;>contradiction
abbrev iW:RM:=["top","bottom","shared"]
def t7{K:g_}(c:Wc X P w K mg base iW iW 1 (ah gh))(d:h_ X)(z1:Zn K "abs")(a:FnAt P w K mg base "greatest_shared" Ps1 cq.m 1)(i:FnAt P w K mg base "is_whole" Ps0 bG.m 1):nc X (aH gh) eD.m:=by unfold eD;apply fF<;>contradiction
abbrev sZ:RM:=["a","b"]
def Ib{K:g_}(c:Wc X P w K mg base sZ sZ 2 (ah nj))(d:h_ X)(a:FnAt P w K mg base "number_of" Ps2 bF.m 2):nc X (aH nj) kU.m:=by unfold kU;apply gN<;>contradiction
abbrev oN:RM:=["a","b"]
def DM{K:g_}(c:Wc X P w K mg base oN oN 2 (ah lG))(d:h_ X)(a:FnAt P w K mg base "number_of" Ps2 bF.m 2):nc X (aH lG) jf.m:=by unfold jf;apply gN<;>contradiction
abbrev ph:RM:=["a","b"]
def DN{K:g_}(c:Wc X P w K mg base ph ph 2 (ah lv))(d:h_ X)(a:FnAt P w K mg base "number_of" Ps2 bF.m 2):nc X (aH lv) jL.m:=by unfold jL;apply gN<;>contradiction
abbrev sV:RM:=["a","b"]
def Ic{K:g_}(c:Wc X P w K mg base sV sV 2 (ah nC))(d:h_ X)(a:FnAt P w K mg base "number_of" Ps2 bF.m 2):nc X (aH nC) k7.m:=by unfold k7;apply gN<;>contradiction
abbrev j6:RM:=["n","thing"]
def vK{K:g_}(c:Wc X P w K mg base j6 j6 1 (ah gW))(d:h_ X)(a:FnAt P w K mg base "is_whole" Ps0 bG.m 1):nc X (aH gW) d3.m:=by unfold d3;apply gN<;>contradiction
abbrev jZ:RM:=["web","thing"]
def v5{K:g_}(c:Wc X P w K mg base jZ jZ 2 (ah g9))(d:h_ X)(a:Zn K "sorted")(u:Zn K "list")(i:Zn K "range")(l:Zn K "all")(j:Zn K "isinstance")(a7:FnAt P w K mg base "is_place" Ps7 bA.m 2):nc X (aH g9) dX.m:=by unfold dX;apply fF<;>contradiction
abbrev gR:RM:=["web","thing"]
def qL{K:g_}(c:Wc X P w K mg base gR gR 3 (ah eM))(d:h_ X)(r_NoOrder:PM K mg "NoOrder")(a:FnAt P w K mg base "is_order" Ps8 bQ.m 3):nc X (aH eM) cT.m:=by unfold cT;apply gN<;>contradiction
abbrev i6:RM:=["row","factor","parts","j","number"]
def tY{K:g_}(c:Wc X P w K mg base i6 i6 3 (ah gw))(d:h_ X)(a:mH K mg "NOUGHT" 0 1)(j:FnAt P w K mg base "times" Ps5 dG.m 3)(i:FnAt P w K mg base "plus" Ps3 d9.m 3):nc X (aH gw) bL.m:=by unfold bL;apply gN<;>contradiction
abbrev jO:RM:=["row","places"]
def wc{K:g_}(c:Wc X P w K mg base jO jO 0 (ah gT))(d:h_ X)(i:Zn K "tuple")(a:mH K mg "NOUGHT" 0 1):nc X (aH gT) fA.m:=by unfold fA;apply gN<;>contradiction
abbrev kJ:RM:=["rows","v","later","pivot","column"]
def wZ{K:g_}(c:Wc X P w K mg base kJ kJ 3 (ah iO))(d:h_ X)(i:Zn K "tuple")(a:mH K mg "NOUGHT" 0 1)(rp:PK P w K mg base "NoPivot" "the pivot of the place " " is nought" "place")(j:FnAt P w K mg base "parts_at" Ps11 fy.m 1)(l:FnAt P w K mg base "over" Ps6 iu.m 3):nc X (aH iO) fb.m:=by unfold fb;apply fF<;>contradiction
abbrev mG:RM:=["sheet","order"]
def yS{K:g_}(c:Wc X P w K mg base mG mG 5 (ah j3))(d:h_ X)(a:FnAt P w K mg base "struck_with" Ps13 cO 5)(i:FnAt P w K mg base "check_order" Ps9 bS.m 4):nc X (aH j3) fT.m:=by unfold fT;apply fF<;>contradiction
abbrev jW:RM:=["_law_top","_law_bottom","_law_one","_law_other"]
def vd{K:g_}(c:Wc X P w K mg base jW jW 0 (ah g8))(d:h_ X)(z1:Zn K "abs"):nc X (aH g8) fB.m:=by unfold fB;apply fF<;>contradiction
abbrev kY:RM:=["_law_pen_here","_law_n","_law_found","_law_k"]
def xh{K:g_}(c:Wc X P w K mg base kY kY 1 (ah iS))(d:h_ X)(i:Zn K "range")(a:FnAt P w K mg base "_law_draw" Ps16 cF 1):nc X (aH iS) gD.m:=by unfold gD;apply fF<;>contradiction
abbrev mZ:RM:=["_law_a","_law_b"]
def yY{K:g_}(c:Wc X P w K mg base mZ mZ 1 (ah jR))(d:h_ X)(a:FnAt P w K mg base "_law_lowest" Ps17 cA.m 1):nc X (aH jR) ia.m:=by unfold ia;apply gN<;>contradiction
abbrev kT:RM:=["_law_a","_law_b"]
def xR{K:g_}(c:Wc X P w K mg base kT kT 1 (ah iR))(d:h_ X)(a:FnAt P w K mg base "_law_lowest" Ps17 cA.m 1):nc X (aH iR) gE.m:=by unfold gE;apply gN<;>contradiction
abbrev ln:RM:=["_law_pen_here","_law_wide","_law_top"]
def wy{K:g_}(c:Wc X P w K mg base ln ln 1 (ah iG))(d:h_ X)(j:Zn K "int")(i:FnAt P w K mg base "_law_draw" Ps16 cF 1)(a:FnAt P w K mg base "_law_lowest" Ps17 cA.m 1):nc X (aH iG) gB.m:=by unfold gB;apply fF<;>contradiction
abbrev lp:RM:=["_law_pen_here","_law_n","_law_order_here","_law_some","_law_wide","_law_work","_law_at","_law_v","_law_later","_law_row","_law_column"]
def w5{K:g_}(c:Wc X P w K mg base lp lp 2 (ah iN))(d:h_ X)(u:Zn K "enumerate")(a:Zn K "tuple")(j:Zn K "sorted")(i:FnAt P w K mg base "_law_small" Ps21 bD.m 2)(l:FnAt P w K mg base "_law_draw" Ps16 cF 1):nc X (aH iN) gL.m:=by unfold gL;apply fF<;>contradiction
abbrev mS:RM:=["_law_caught","_law_others"]
def Ab{K:g_}(c:Wc X P w K mg base mS mS 0 (ah jY))(d:h_ X)(a:Zn K "int")(i:Zn K "isinstance")(z0:Zn K "ValueError")(i_NoOrder:Hh K mg "NoOrder" ["NoOrder","NoPivot"] ["NoOrder"])(i_NoPivot:Hh K mg "NoPivot" ["NoOrder","NoPivot"] ["NoPivot"])(i_ValueError:Hh K mg "ValueError" ["NoOrder","NoPivot"] ["NoOrder","NoPivot"])(j_NoNumber:Au K mg "NoNumber" ["NoOrder","NoPivot"] [])(j_NoParting:Au K mg "NoParting" ["NoOrder","NoPivot"] [])(j_NoPlace:Au K mg "NoPlace" ["NoOrder","NoPivot"] [])(j_NoRow:Au K mg "NoRow" ["NoOrder","NoPivot"] [])(j_NoSheet:Au K mg "NoSheet" ["NoOrder","NoPivot"] [])(j_NoText:Au K mg "NoText" ["NoOrder","NoPivot"] [])(j_NoWeb:Au K mg "NoWeb" ["NoOrder","NoPivot"] [])(j_NoWord:Au K mg "NoWord" ["NoOrder","NoPivot"] [])(j_TooMany:Au K mg "TooMany" ["NoOrder","NoPivot"] []):nc X (aH jY) eO.m:=by unfold eO;apply fF<;>contradiction
abbrev kX:RM:=["_law_sheet_here","_law_order_here","_law_caught","_law_place","e"]
def xZ{K:g_}(c:Wc X P w K mg base kX kX 6 (ah iI))(d:h_ X)(t2:PL K mg "NoPivot" "place" "FillError" ["NoOrder"])(i:FnAt P w K mg base "_law_word" Ps24 c9.m 1)(a:FnAt P w K mg base "struck" Ps14 bc.m 6):nc X (aH iI) gH.m:=by unfold gH;apply fF<;>contradiction
abbrev gO:RM:=["_law_pen_here","_law_order_here","_law_n","_law_at","_law_bent"]
def qH{K:g_}(c:Wc X P w K mg base gO gO 1 (ah eK))(d:h_ X)(a:Zn K "tuple")(j:Zn K "len")(i:FnAt P w K mg base "_law_draw" Ps16 cF 1):nc X (aH eK) dB.m:=by unfold dB;apply fF<;>contradiction
abbrev kM:RM:=["_law_pen_here","_law_n","_law_order_here","_law_work","_law_many","_law_sheet_here","_law_bent","_law_word_here","_law_place"]
def xu{K:g_}(c:Wc X P w K mg base kM kM 7 (ah iJ))(d:h_ X)(C:Zn K "list")(E:Zn K "isinstance")(B:Zn K "bool")(z:Zn K "int")(l:FnAt P w K mg base "_law_sheet" Ps23 iK 3)(a:FnAt P w K mg base "_law_asked" Ps25 be.m 7)(i:FnAt P w K mg base "_law_no_orders" Ps26 cS.m 2)(u:FnAt P w K mg base "_law_draw" Ps16 cF 1)(j:FnAt P w K mg base "_law_built" Ps22 gK.m 3)(y:FnAt P w K mg base "_law_order" Ps18 gJ.m 2):nc X (aH iJ) gy.m:=by unfold gy;apply fF<;>contradiction
def Ie{K:g_}(b:Ba P w K mg base)(D0:f_ K "is_whole" g7)(D1:f_ K "greatest_shared" dg)(D2:f_ K "number_of" gh)(D3:f_ K "plus" nj)(D4:f_ K "minus" lG)(D5:f_ K "times" lv)(D6:f_ K "over" nC)(D7:f_ K "is_place" gW)(D8:f_ K "is_order" g9)(D9:f_ K "check_order" eM)(al:f_ K "add_times" gw)(ai:f_ K "parts_at" gT)(b4:f_ K "step_of" iO)(ca:f_ K "struck_with" eN)(S:f_ K "struck" j3)(ch:f_ K "_law_pen" lT)(cp:f_ K "_law_draw" jP)(cv:f_ K "_law_lowest" g8)(ck:f_ K "_law_order" iS)(an:f_ K "_law_plus" jR)(cB:f_ K "_law_times" iR)(bm:f_ K "_law_small" iG)(b9:f_ K "_law_built" iN)(cf:f_ K "_law_sheet" iM)(cm:f_ K "_law_word" jY)(b2:f_ K "_law_asked" iI)(b6:f_ K "_law_no_orders" eK)(b1:f_ K "_law_right" iJ)(b5:f_ K "law" om)(z0:Zn K "ValueError")(z1:Zn K "abs")(z2:Zn K "all")(z3:Zn K "bool")(z4:Zn K "dict")(z5:Zn K "enumerate")(M:Zn K "int")(O:Zn K "isinstance")(R:Zn K "len")(z9:Zn K "list")(W:Zn K "max")(E:Zn K "min")(y:Zn K "range")(C:Zn K "sorted")(u:Zn K "tuple")(l:nL K "NOUGHT" 0 1)(i:Qa K):FnAt P w K mg base "law" Bw AX 9:=by
 have i:=i P w mg base b.kin b.ns;have a:=l.mg b.kin b.ns;have a0:=Af (F:=bG) jN b D0 λX c d=>wd c d O z3 M;have a1:=Af (F:=cq) d8 b D1 λX c d=>md c d;have Q:=Af (F:=bF) iW b D2 λX c d=>t7 c d z1 a1 a0;have a3:=Af (F:=d9) sZ b D3 λX c d=>Ib c d  Q;have a4:=Af (F:=jB) oN b D4 λX c d=>DM c d  Q;have a5:=Af (F:=dG) ph b D5 λX c d=>DN c d  Q;have a6:=Af (F:=iu) sV b D6 λX c d=>Ic c d  Q;have a7:=Af (F:=bA) j6 b D7 λX c d=>vK c d  a0;have a8:=Af (F:=bQ) jZ b D8 λX c d=>v5 c d C z9 y z2 O a7;have a9:=Af (F:=bS) gR b D9 λX c d=>qL c d  i.r_NoOrder a8;have b3:=PF (B:=bL) (np:=3) i6 b al λX c d=>tY c d a a5 a3;have as:=Af (F:=fy) jO b ai λX c d=>wc c d u a;have ap:=Af (F:=eV) kJ b b4 λX c d=>wZ c d u a i.rp as a6;have cw:=KS (k:=4) (N:=kF) (G:=kH) (ps:=qP) b ca λX e h g d=>qG h g d (a4.c e) (b3.c e) (ap.c e) (e.n z5) (e.n C) (e.n z4) (e.e3▸e.e4▸a);have U:=Af (F:=bc) mG b S λX c d=>yS c d  cw a9;have cd:=KS (k:=0) (N:=uw) (G:=uy) (ps:=DJ) b ch λX e h g d=>DL h g d (e.n z1) (e.n R) (e.n E);have j:=KS (k:=0) (N:=sL) (G:=rl) (ps:=yw) b cp λX e h g d=>y0 h g d;have z:=Af (F:=cA) jW b cv λX c d=>vd c d z1;have c0:=Af (F:=gJ) kY b ck λX c d=>xh c d y j;have b0:=Af (F:=c7) mZ b an λX c d=>yY c d  z;have ab:=Af (F:=eZ) kT b cB λX c d=>xR c d  z;have L:=Af (F:=bD) ln b bm λX c d=>wy c d M j z;have cn:=Af (F:=gK) lp b b9 λX c d=>w5 c d z5 u C L j;have Z:=KS (k:=2) (N:=qC) (G:=pY) (ps:=wT) b cf λX e h g d=>w6 h g d (b0.c e) (j.c e) (L.c e) (ab.c e) (e.n z5) (e.n u) (e.n y) (e.n R);have cs:=Af (F:=c9) mS b cm λX c d=>Ab c d M O z0 i.i_NoOrder i.i_NoPivot i.i_ValueError i.j_NoNumber i.j_NoParting i.j_NoPlace i.j_NoRow i.j_NoSheet i.j_NoText i.j_NoWeb i.j_NoWord i.j_TooMany;have H:=Af (F:=be) kX b b2 λX c d=>xZ c d  i.t2 cs U;have ar:=Af (F:=cS) gO b b6 λX c d=>qH c d u R j;have cc:=Af (F:=cV) kM b b1 λX c d=>xu c d z9 O z3 M Z H ar j cn c0;have ak:=KS (k:=8) (N:=EV) (G:=EW) (ps:=Bw) b b5 λX e h g d=>LZ h g d (cd.c e) (cc.c e) (H.c e) (e.n y) (e.n R) (e.n E) (e.n W) (e.n z2);exact ak
end Law
namespace PySem.W.Fast
def tw939838720793292593:=0
def tw2975606183691344886:=0
def tw1014367262180440385:=0
def tw16683388025124386250:=0
def tw12125400301869573308:=0
def tw11025898790080411113:=0
def tw1100026419636838604:=0
def tw6861375370366053017:=0
def tw13314180298005858288:=0
def tw13236458420375527005:=0
def tw3406119738809077237:=0
def tw14855989247776502526:=0
def tw5866915300088340203:=0
def tw5491635976555617335:=0
def tw5645675828918531559:=0
def tw17160713492910956549:=0
def tw3747341883768728789:=0
def tw16902956795659999664:=0
def tw17112457128715525694:=0
def tw2123577626264142259:=0
def tw5409254731286553682:=0
def tw5388531228357681865:=0
def tw16278201742623560430:=0
def tw7469401381152249786:=0
def tw6245114855678974700:=0
def tw14377864792072781592:=0
def tw2676006450271479707:=0
def tw7053663358880002445:=0
def tw3782337160434862610:=0
def tw14245306870409647732:=0
def tw15183365287674838686:=0
def tw11591059359973346124:=0
def tw15849470882500789681:=0
def tw13944491256154864916:=0
def tw7930163424347065268:=0
def tw729028300697953411:=0
def tw14607596772455286489:=0
def tw3633877820144089187:=0
def tw6711014707371412143:=0
def tw8277586054612754968:=0
def tw13093808131872243671:=0
def tw14890050238581565534:=0
def tw10812968229655079811:=0
def tw16227785172754553033:=0
def tw6940085045793206749:=0
def tw1639033504095778509:=0
def tw6672981209605728227:=0
def tw15455087066363215951:=0
def tw14159469573913377844:=0
def tw4730872642360341172:=0
def tw5662878375929079684:=0
def tw2149693616037305514:=0
def tw10201262664015791067:=0
def tw1139853904110165470:=0
def tw17369583223235457343:=0
def tw408754966926422806:=0
def tw10235702537167067255:=0
def tw2446787455364800182:=0
def tw12401583083000422040:=0
def tw1616726194876514290:=0
def tw18225534301912419453:=0
def tw9216539089705408699:=0
def tw9144451280711186645:=0
def tw11191596261901248114:=0
def tw7999575532082142911:=0
def tw14927436951498651945:=0
def tw16683540196935501162:=0
def tw8762139183223404061:=0
def tw17891407447711539288:=0
def tw10677615615688137613:=0
def tw143987540294967996:=0
def tw10435243814562264484:=0
def tw6413310426115120213:=0
def tw8788496930049175090:=0
def tw4864191626531628334:=0
def tw853240033063414632:=0
def tw3604720294011611186:=0
def tw17498228307661858652:=0
def tw15365773405887737502:=0
def tw15005853789189959178:=0
def tw17939101617836617855:=0
def tw14030073342816169286:=0
def tw931130275864572286:=0
def tw12542331224991406163:=0
def tw16547737994354243701:=0
def tw8038498844760329900:=0
def tw11472427272679758776:=0
def tw9666235285459159761:=0
def tw14412431522751731190:=0
def tw14051451570459702305:=0
def tw16656708493577295270:=0
def tw3614093639982516648:=0
def tw12813359221458036172:=0
def tw8676456243802449676:=0
def tw14976890589940295733:=0
def tw2666494209983663977:=0
def tw10867618317977816446:=0
def tw5291576333223908686:=0
def tw14993804367485995206:=0
def tw11502983468049811069:=0
def tw17655435037656867489:=0
def tw9316334740176231434:=0
def tw15661392530366162258:=0
def tw14097967872077137659:=0
def tw8776769142236128979:=0
def tw10122016160777939132:=0
def tw14292508706810500300:=0
def tw45500265182575612:=0
def tw7500016182741754120:=0
def tw12459009024550295685:=0
def tw8048075560920929099:=0
def tw7961985337720154614:=0
def tw5674358256711688613:=0
def tw2841249548040947468:=0
def tw6168971023050198129:=0
def tw1596183092953704186:=0
def tw181219486330529021:=0
def tw15613119026722739966:=0
def tw16160390021450580447:=0
def tw3272066472195833431:=0
def tw10915003743623754093:=0
def tw18092045076298982029:=0
def tw16050762369453816006:=0
def tw12902410729202655193:=0
def tw5583445297125836372:=0
def tw5202735341027995928:=0
def tw4983629465487436561:=0
def tw978545323589584866:=0
def tw8349598954331491396:=0
def tw12168462968960988674:=0
def tw2861312430776366640:=0
def tw2146500287538308700:=0
def tw14839772198858863090:=0
def tw10068228442203742842:=0
def tw7033758589382590618:=0
def tw6578709713542871686:=0
def tw12672041950607045408:=0
def tw4744899313695305492:=0
def tw1458562235274820343:=0
def tw7788729202325297218:=0
def tw6991943225950022904:=0
def tw9108082490267508347:=0
def tw6509817844954718642:=0
def tw7728238784251408837:=0
def tw2422742775506051717:=0
def tw1627647606304343282:=0
def tw3569872119794605516:=0
def tw15623909021857474641:=0
def tw13236244687721062348:=0
def tw4506995908456992227:=0
end PySem.W.Fast
open PySem PySem.W PyProof.Rows
local macro_rules | `(tactic| and_intros) => `(tactic| (dsimp only [L2.o_]; first | k_is | (refine' MM.Bp ?a ?l ?c ?k; (case a => k_is); (case l => k_is); (case c => k_is); (case k => k_is))))
set_option maxRecDepth 100000 in
set_option maxHeartbeats 0 in
theorem PySem.Challenge.cw_fewfills_k32_noughts_to_strike_by_holds : PySem.Challenge.rw_fewfills_k32_noughts_to_strike_by.Holds := by
  w_on; o_law; k_head; (case hw=>w_witness2)
  k_fill
  refine MM.F9 (l:=PySem.Challenge.rw_fewfills_k32_noughts_to_strike_by) (k:=9) (x:="_law_script") (F:=Law.AX) rfl rfl ⟨rfl,by decide,by decide,rfl⟩ (by decide +kernel) rfl (fun w h Y=>PySem.W.kIn_of Y) ?F Law.Bu
  case F=>
    intro w mg fa h KX G hmg
    have Dlaw:MM.f_ (L2.o_ KX) "law" Law.om:=by and_intros
    have D0:MM.f_ (L2.o_ KX) "is_whole" Law.g7:=by and_intros
    have D1:MM.f_ (L2.o_ KX) "greatest_shared" Law.dg:=by and_intros
    have D2:MM.f_ (L2.o_ KX) "number_of" Law.gh:=by and_intros
    have D3:MM.f_ (L2.o_ KX) "plus" Law.nj:=by and_intros
    have D4:MM.f_ (L2.o_ KX) "minus" Law.lG:=by and_intros
    have D5:MM.f_ (L2.o_ KX) "times" Law.lv:=by and_intros
    have D6:MM.f_ (L2.o_ KX) "over" Law.nC:=by and_intros
    have D7:MM.f_ (L2.o_ KX) "is_place" Law.gW:=by and_intros
    have D8:MM.f_ (L2.o_ KX) "is_order" Law.g9:=by and_intros
    have D9:MM.f_ (L2.o_ KX) "check_order" Law.eM:=by and_intros
    have D10:MM.f_ (L2.o_ KX) "add_times" Law.gw:=by and_intros
    have D11:MM.f_ (L2.o_ KX) "parts_at" Law.gT:=by and_intros
    have D12:MM.f_ (L2.o_ KX) "step_of" Law.iO:=by and_intros
    have D13:MM.f_ (L2.o_ KX) "struck_with" Law.eN:=by and_intros
    have D14:MM.f_ (L2.o_ KX) "struck" Law.j3:=by and_intros
    have D15:MM.f_ (L2.o_ KX) "_law_pen" Law.lT:=by and_intros
    have D16:MM.f_ (L2.o_ KX) "_law_draw" Law.jP:=by and_intros
    have D17:MM.f_ (L2.o_ KX) "_law_lowest" Law.g8:=by and_intros
    have D18:MM.f_ (L2.o_ KX) "_law_order" Law.iS:=by and_intros
    have D19:MM.f_ (L2.o_ KX) "_law_plus" Law.jR:=by and_intros
    have D20:MM.f_ (L2.o_ KX) "_law_times" Law.iR:=by and_intros
    have D21:MM.f_ (L2.o_ KX) "_law_small" Law.iG:=by and_intros
    have D22:MM.f_ (L2.o_ KX) "_law_built" Law.iN:=by and_intros
    have D23:MM.f_ (L2.o_ KX) "_law_sheet" Law.iM:=by and_intros
    have D24:MM.f_ (L2.o_ KX) "_law_word" Law.jY:=by and_intros
    have D25:MM.f_ (L2.o_ KX) "_law_asked" Law.iI:=by and_intros
    have D26:MM.f_ (L2.o_ KX) "_law_no_orders" Law.eK:=by and_intros
    have D27:MM.f_ (L2.o_ KX) "_law_right" Law.iJ:=by and_intros
    have ZValueError:PySem.W.nsIn (L2.o_ KX) mainGlobals "ValueError" = some none:=by and_intros
    have Z28:PySem.W.nsIn (L2.o_ KX) mainGlobals "abs" = some none:=by and_intros
    have Z29:PySem.W.nsIn (L2.o_ KX) mainGlobals "all" = some none:=by and_intros
    have Z30:PySem.W.nsIn (L2.o_ KX) mainGlobals "bool" = some none:=by and_intros
    have Z31:PySem.W.nsIn (L2.o_ KX) mainGlobals "dict" = some none:=by and_intros
    have Z32:PySem.W.nsIn (L2.o_ KX) mainGlobals "enumerate" = some none:=by and_intros
    have Z33:PySem.W.nsIn (L2.o_ KX) mainGlobals "int" = some none:=by and_intros
    have Z34:PySem.W.nsIn (L2.o_ KX) mainGlobals "isinstance" = some none:=by and_intros
    have Z35:PySem.W.nsIn (L2.o_ KX) mainGlobals "len" = some none:=by and_intros
    have Z36:PySem.W.nsIn (L2.o_ KX) mainGlobals "list" = some none:=by and_intros
    have Z37:PySem.W.nsIn (L2.o_ KX) mainGlobals "max" = some none:=by and_intros
    have Z38:PySem.W.nsIn (L2.o_ KX) mainGlobals "min" = some none:=by and_intros
    have Z39:PySem.W.nsIn (L2.o_ KX) mainGlobals "range" = some none:=by and_intros
    have Z40:PySem.W.nsIn (L2.o_ KX) mainGlobals "sorted" = some none:=by and_intros
    have Z41:PySem.W.nsIn (L2.o_ KX) mainGlobals "tuple" = some none:=by and_intros
    have YNOUGHT:MM.nL (L2.o_ KX) "NOUGHT" 0 1:=by
      dsimp only [L2.o_]
      refine' MM.Cs ?h ?l
      (case h=>k_is)
      (case l=>k_is)
    have NP:Law.Qa (L2.o_ KX):=by
      dsimp only [L2.o_]
      refine' Law.H_ ?p0 ?p1 ?p2 ?p3 ?p4 ?p5 ?p6 ?p7 ?p8 ?p9 ?p10 ?p11 ?p12 ?p13 ?p14 ?p15 ?p16 ?p17 ?p18 ?p19 ?p20 ?p21 ?p22 ?p23 ?p24 ?p25 ?p26 ?p27 ?p28 ?p29 ?p30 ?p31 ?p32 ?p33 ?p34 ?p35 ?p36 ?p37 ?p38 ?p39 ?p40 ?p41 ?p42 ?p43 ?p44 ?p45 ?p46 ?p47 ?p48 ?p49 ?p50 ?p51 ?p52 ?p53 ?p54 ?p55 ?p56 ?p57 ?p58 ?p59 ?p60 ?p61 ?p62 ?p63 ?p64 ?p65 ?p66 ?p67 ?p68 ?p69 ?p70 ?p71 ?p72 ?p73 ?p74 ?p75
      (case p0=>k_is)
      (case p1=>k_is)
      (case p2=>k_is)
      (case p3=>k_is)
      (case p4=>first | with_unfolding_all rfl | simp)
      (case p5=>k_is)
      (case p6=>k_exc)
      (case p7=>k_is)
      (case p8=>k_is)
      (case p9=>k_is)
      (case p10=>k_is)
      (case p11=>k_is)
      (case p12=>k_is)
      (case p13=>k_is)
      (case p14=>k_is)
      (case p15=>k_is)
      (case p16=>k_is)
      (case p17=>k_is)
      (case p18=>k_is)
      (case p19=>k_is)
      (case p20=>k_is)
      (case p21=>k_is)
      (case p22=>k_is)
      (case p23=>k_is)
      (case p24=>k_is)
      (case p25=>k_is)
      (case p26=>k_is)
      (case p27=>k_exc)
      (case p28=>k_is)
      (case p29=>k_is)
      (case p30=>k_is)
      (case p31=>k_is)
      (case p32=>k_is)
      (case p33=>k_is)
      (case p34=>k_is)
      (case p35=>k_is)
      (case p36=>k_is)
      (case p37=>k_is)
      (case p38=>k_is)
      (case p39=>k_is)
      (case p40=>kit_is)
      (case p41=>kit_is)
      (case p42=>kit_is)
      (case p43=>kit_is)
      (case p44=>kit_is)
      (case p45=>kit_is)
      (case p46=>kit_is)
      (case p47=>kit_is)
      (case p48=>kit_is)
      (case p49=>kit_is)
      (case p50=>kit_is)
      (case p51=>kit_is)
      (case p52=>kit_is)
      (case p53=>kit_is)
      (case p54=>kit_is)
      (case p55=>kit_is)
      (case p56=>kit_is)
      (case p57=>kit_is)
      (case p58=>kit_is)
      (case p59=>kit_is)
      (case p60=>kit_is)
      (case p61=>kit_is)
      (case p62=>kit_is)
      (case p63=>kit_is)
      (case p64=>kit_is)
      (case p65=>kit_is)
      (case p66=>kit_is)
      (case p67=>kit_is)
      (case p68=>kit_is)
      (case p69=>kit_is)
      (case p70=>kit_is)
      (case p71=>kit_is)
      (case p72=>kit_is)
      (case p73=>kit_is)
      (case p74=>kit_is)
      (case p75=>exact ZValueError)
    exact MM.F8 Dlaw Law.Ia hmg KX G fun base kb nb=>Law.Ie ⟨kb,nb⟩ D0 D1 D2 D3 D4 D5 D6 D7 D8 D9 D10 D11 D12 D13 D14 D15 D16 D17 D18 D19 D20 D21 D22 D23 D24 D25 D26 D27 Dlaw ZValueError Z28 Z29 Z30 Z31 Z32 Z33 Z34 Z35 Z36 Z37 Z38 Z39 Z40 Z41 YNOUGHT NP
