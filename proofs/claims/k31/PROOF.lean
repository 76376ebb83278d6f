import PyProof.Rows.All
import Wide.All
import OpenK.AllK
import Wide.FinOn
import Lean
import PyProof.EqAt
import PyProof.EqKinds
import PyProof.TupleCall
import PyProof.ReprRoads
import PyProof.FitsInt
import PyProof.FitsBits
import PyProof.Rows.IntMath
import PyProof.ConsumeWalk
import PyProof.WalkInts
import PyProof.ListRange
import PySem.SetTable
import PyProof.SetKind
import PyProof.TupleKey
import PyProof.DictKinds
import PyProof.IsRules
import PyProof.Rows.SetFrom
import PyProof.CollectIter
import PyProof.ForAny
import PyProof.Rows.SortRuns
import PyProof.Rows.SortKey
import KE.KSortTup
import PyProof.ZipIter
import PyProof.Draws
import PyProof.EnumMake
import PyProof.TupleIter
import PyProof.P3Eq
import PyProof.StrCalls2
import PyProof.StrCalls3
import PyProof.FString
import PyProof.AttrMissHeap
import PyProof.DictUpdate
import PyProof.DictRoads
import KE.KDictOf
import PyProof.Walks
import PyProof.SetRoads
import PyProof.Rows.SeqMore
import KE.KDictList
import PyProof.DictItems
import KE.KPairComp
import PyProof.MeetsSeq
import PyProof.Rows.Chain
import PyProof.ListMulRoad
import PyProof.FactsAll.tuple_2
import OpenK.KCls
import PyProof.InstStoreFacts
import KE.KRevIter
import PyProof.StrWalks
import PyProof.StrCalls5
import PyProof.StrOps
import KE.KIntText
import PyProof.Rows.StrNews2
import PyProof.SliceStr2
import PyProof.StrBlockI
import PyProof.Truth
import OpenK.KWalk
import PySem.Challenge.RW_fewfills_k31_works_put_back
set_option Elab.async false
set_option bootstrap.genMatcherCode false
set_option compiler.extract_closed false
set_option genSizeOf false
set_option linter.all false
set_option maxRecDepth 100000
noncomputable section
local macro_rules|`(command|def $i:declId $s:optDeclSig $v:declVal)=>`(command|noncomputable def $i:declId $s:optDeclSig $v:declVal)
local macro_rules|`(command|abbrev $i:declId $s:optDeclSig $v:declVal)=>`(command|noncomputable abbrev $i:declId $s:optDeclSig $v:declVal)
open PySem
abbrev _root_.SQ:=List Str
abbrev _root_.SS:=List Int
abbrev _root_.SU:=List Nat
abbrev _root_.SW:=List Addr
abbrev _root_.SX:=List Value
abbrev _root_.SA:=List (Addr×Obj)
abbrev _root_.SD:=Option Value
abbrev _root_.SF:=Option Int
abbrev _root_.SG:=List Expr
abbrev _root_.SK:=Value->Shared->Prop
abbrev _root_.Sn:=Str->Option Value
abbrev _root_.Sq:=List Stmt
abbrev _root_.Sr:=Option Addr
abbrev g_:=@PySem.W.Frag
abbrev n3:=@Heap.get?_push_of_some
abbrev hG:=@wpAny_bind
abbrev qi:=@List.getElem?_eq_some_iff
abbrev n8:=@List.getElem?_set_ne
abbrev qs:=@List.getElem?_append_left
abbrev pj:=@List.mem_cons_of_mem
abbrev e_:=@if_pos
abbrev q_:=@List.set_cons_zero
abbrev nc:=@List.map_cons
abbrev l_:=@Nat.le_refl
abbrev r_:=@List.set_cons_succ
abbrev r6:=@List.getElem?_map
abbrev zL:=@List.getElem?_eq_getElem
abbrev x4:=@List.getElem?_set_self
abbrev vv:=@Nat.lt_of_lt_of_le
abbrev xf:=@List.mem_append_right
abbrev wj:=@Bool.false_eq_true
abbrev n_:=@Nat.le_trans
abbrev qd:=@List.mem_cons
abbrev pk:=@Heap.lt_size
abbrev h8:=@if_neg
abbrev Bt:=@Option.map_eq_some_iff
abbrev o_:=@wpAny_pure
abbrev A0:=@Heap.get?_push_size
abbrev BL:=@List.getElem?_append_right
abbrev se:=@List.mem_map
abbrev z_:=@List.size_toArray
abbrev xg:=@List.length_map
abbrev x6:=@List.nodup_cons
abbrev BA:=@List.mem_of_getElem?
abbrev wu:=@List.map_map
abbrev BM:=@List.getElem?_eq_none
abbrev Bw:=@Bool.and_eq_true
abbrev x5:=@Nat.ne_of_lt
abbrev BN:=@List.length_cons
abbrev B2:=@Int.toNat_natCast
abbrev BO:=@List.mem_filter
abbrev CF:=@List.map_congr_left
abbrev Cb:=@List.not_mem_nil
abbrev BQ:=@Nat.lt_irrefl
abbrev BR:=@Bool.not_true
abbrev BP:=@Nat.ne_of_gt
abbrev E5:=@List.length_filter_le
abbrev F0:=@List.getElem?_replicate
abbrev CP:=@List.mem_cons_self
abbrev Ci:=@List.mem_append
abbrev Jn:=@List.drop_eq_getElem_cons
abbrev Cc:=@Heap.size_push
abbrev Cj:=@Int.natAbs_mul
abbrev CG:=@Option.map_some
abbrev Jo:=@List.getElem?_cons_zero
abbrev F1:=@List.mem_append_left
abbrev CQ:=@List.lookup_cons
abbrev JT:=@List.getD_eq_getElem?_getD
abbrev F2:=@List.replicate_succ
abbrev F3:=@List.length_append
abbrev Jp:=@List.getElem?_zipIdx
abbrev Jq:=@List.mem_of_mem_drop
abbrev JU:=@Option.bind_eq_some_iff
abbrev F4:=@List.ext_getElem?
abbrev Jr:=@List.getElem?_range
abbrev MZ:=@Int.fmod_eq_emod_of_nonneg
abbrev F5:=@Option.bind_some
abbrev F6:=@List.nodup_range
abbrev JV:=@List.length_replicate
abbrev E6:=@List.mem_range
abbrev JW:=@Nat.pow_le_pow_right
abbrev Js:=@List.length_range
abbrev JX:=@Heap.get?_update_ne
abbrev M0:=@List.filter_cons_of_pos
abbrev M1:=@List.filter_cons_of_neg
abbrev JY:=@List.filter_eq_self
abbrev Jt:=@Option.getD_some
abbrev M2:=@List.take_of_length_le
abbrev JZ:=@Int.emod_lt_of_pos
abbrev Ju:=@List.append_nil
abbrev M3:=@Heap.get?_update_self
abbrev CT:=@Nat.zero_le
abbrev Jv:=@List.length_nil
abbrev Jw:=@List.map_append
abbrev Jx:=@Int.natCast_mul
abbrev E7:=@Nat.zero_add
abbrev J0:=@List.append_assoc
abbrev J1:=@List.getElem?_inj
abbrev M4:=@Heap.get?_none_of_le
abbrev M5:=@List.range_eq_range'
abbrev J2:=@List.length_take
abbrev M6:=@List.mem_filterMap
abbrev J3:=@Nat.min_eq_left
abbrev J4:=@List.nil_append
abbrev J5:=@Int.emod_nonneg
abbrev M7:=@Nat.lt_of_le_of_lt
abbrev J6:=@Nat.mul_ne_zero
abbrev J7:=@Int.mul_ne_zero
abbrev Of:=@Heap.get?_update_other
abbrev Og:=@List.drop_of_length_le
abbrev F7:=@Nat.le_succ
abbrev Jy:=@Nat.le_of_lt
abbrev Jz:=@List.map_nil
abbrev M8:=@List.length_drop
abbrev M9:=@List.range'_succ
abbrev Oh:=@List.getElem?_of_mem
abbrev Oi:=@List.filterMap_cons
abbrev M_:=@List.of_mem_zip
abbrev Na:=@List.length_set
abbrev Nb:=@List.find?_cons
abbrev Oj:=@List.getElem_of_mem
abbrev Ol:=@Bool.false_ne_true
abbrev Om:=@List.contains_cons
abbrev Oo:=@Int.natAbs_natCast
abbrev Nc:=@Bool.not_false
abbrev Nd:=@List.drop_zero
abbrev Op:=@List.nodup_append
abbrev Oq:=@Nat.lt_succ_of_lt
abbrev QJ:=@Nat.gcd_pos_of_pos_right
abbrev Ot:=@List.drop_sublist
abbrev Ou:=@List.filter_congr
abbrev QK:=@Int.eq_ofNat_of_zero_le
abbrev Nf:=@List.map_drop
abbrev QL:=@List.getElem?_cons_succ
abbrev QM:=@List.length_eq_zero_iff
abbrev Ow:=@Nat.lt_succ_self
abbrev Ox:=@List.cons_append
abbrev Oy:=@Nat.mul_lt_mul''
abbrev QN:=@List.range_succ_eq_map
abbrev QO:=@List.pairwise_lt_range
abbrev QP:=@List.cons_sublist_cons
abbrev QQ:=@Array.getElem?_modify
abbrev QR:=@List.mem_iff_getElem?
abbrev Ng:=@Nat.lt_trans
abbrev Oz:=@List.map_const'
abbrev OA:=@List.any_cons
abbrev OB:=@Nat.pow_succ
noncomputable section
local macro_rules | `(tactic| ext) => `(tactic| omega)
local instance (priority:=1) cdec (p:Prop):Decidable p:=Classical.propDecidable p
local macro_rules | `(⋯) => `(by lia)
open Option renaming some->J,none->Y
open Bool renaming true->I,false->T
namespace L2
open PySem.Spec PyProof.Rows
abbrev tr:=Sum Int Str
def sD:tr->Value->Bool
 |.inl k,v=>Value.isInt k v
 |.inr x,v=>Value.isStrOf x v
def OC(w:World):tr->Int
 |.inl k=>hashInt k
 |.inr x=>hashStr w x
def bX:∀{k:tr}{v:Value},sD k v=I->(∃i t,k=Sum.inl i/\v=Value.int i t)\/(∃x t,k=Sum.inr x/\v=Value.str x t)
 |.inl i,v,h=>by
  obtain⟨t,e⟩:=Value.isInt_shape h;exact .inl ⟨i,t,rfl,e⟩
 |.inr x,v,h=>by
  obtain⟨t,e⟩:=Value.isStrOf_shape h;exact .inr ⟨x,t,rfl,e⟩
def yC(i:Int)(t:Tok):sD (.inl i) (.int i t)=I:=by simp[sD,Value.isInt]
def F8(a b:Int):decide ((Sum.inl a:tr)=Sum.inl b)=(a==b):=by
 by_cases e:a=b
 .subst e;simp
 .have h:¬(Sum.inl a:tr)=Sum.inl b:=λq=>e (Sum.inl.inj q);rw[decide_eq_false h];exact(beq_eq_false_iff_ne.mpr e).symm
def F9(a b:Str):decide ((Sum.inr a:tr)=Sum.inr b)=decide (a=b):=by simp
def F_(a:Int)(b:Str):decide ((Sum.inl a:tr)=Sum.inr b)=T:=decide_eq_false (λq=>nomatch q)
def Ga(a:Str)(b:Int):decide ((Sum.inr a:tr)=Sum.inl b)=T:=decide_eq_false (λq=>nomatch q)
def fP(prog:Program)(w:World):PySem.KeyKind prog w tr where
 is:=sD
 hash:=OC w
 inj:=λv a b B l=>by
  rcases bX B with⟨i,t,rfl,rfl⟩|⟨x,t,rfl,rfl⟩
  .rcases bX l with⟨j,u,rfl,e⟩|⟨y,u,rfl,e⟩
   .injection e with e1 _;rw[e1]
   .exact nomatch e
  .rcases bX l with⟨j,u,rfl,e⟩|⟨y,u,rfl,e⟩
   .exact nomatch e
   .injection e with e1 _;rw[e1]
 byValue:=λk v h=>by
  rcases bX h with⟨i,t,rfl,rfl⟩|⟨x,t,rfl,rfl⟩<;>rfl
 pyHash:=λhv h=>by
  rcases bX hv with⟨i,t,rfl,rfl⟩|⟨x,t,rfl,rfl⟩
  .exact wpAny_pyHash_int h
  .exact wpAny_pyHash_str h
 eqBool:=λz hv h=>by
  rcases bX z with⟨i,t,rfl,rfl⟩|⟨x,t,rfl,rfl⟩
  .rcases bX hv with⟨j,u,rfl,rfl⟩|⟨y,u,rfl,rfl⟩
   .rw[F8]at h;exact wpAny_eqBool_int h
   .rw[F_]at h;exact SeqAt.EqAt.int_str i t y u _ _ _ _ h
  .rcases bX hv with⟨j,u,rfl,rfl⟩|⟨y,u,rfl,rfl⟩
   .rw[Ga]at h;exact SeqAt.EqAt.str_int x t j u _ _ _ _ h
   .rw[F9]at h;exact wpAny_eqBool_str h
 «strs»:=λk x t v h=>by
  rcases bX h with⟨i,u,rfl,e⟩|⟨y,u,rfl,e⟩
  .exact nomatch e
  .injection e with e1 _
   subst e1;cases v<;>rfl
def fe(prog:Program)(w:World)(i:Int)(t:Tok):(fP prog w).is (.inl i) (.int i t)=I:=yC i t
inductive V where
 |non | bl (b:Bool) | int (i:Int) | str (x:Str) | byt (b:Array UInt8) | flt (b:UInt64) | ref (a:Addr) | ty (n:String)
 deriving DecidableEq
def aO:V->Value->Prop
 |.non,u=>u=Value.none
 |.bl b,u=>u=Value.bool b
 |.int i,u=>∃t,u=Value.int i t
 |.str x,u=>∃t,u=Value.str x t
 |.byt b,u=>∃t,u=Value.bytes b t
 |.flt b,u=>∃t,u=Value.float b t
 |.ref a,u=>u=Value.ref a
 |.ty n,u=>u=Value.type n
abbrev aL:List V->SX->Prop:=Paired aO
def aL.length(r:aL xs us):xs.length=us.length:=Paired.length r
def aL.get{xs:List V}{a:SX}{i:Nat}{x:V}(r:aL xs a)(e:xs[i]?=J x):∃u,a[i]?=J u/\aO x u:=by
 induction r generalizing i with
 |nil=>cases e
 |cons r t j =>
  cases i with
  |zero=>cases e;exact⟨_,rfl,r⟩
  |succ i=>have z:=@j i e;exact z
def aL.set(r:aO x u)(i:Nat)(q:aL xs us):aL (xs.set i x) (us.set i u):=by
 induction q generalizing i with
 |nil=>exact .nil
 |cons a t j =>
  cases i with
  |zero=>exact .cons r t
  |succ i=>exact .cons a (j i)
def aL.append(r:aL xs us)(s:aL ys ws):aL (xs++ys) (us++ws):=by
 induction r with
 |nil=>exact s
 |cons r t a=>exact .cons r a
def aL.take(n:Nat)(r:aL xs us):aL (xs.take n) (us.take n):=by
 induction r generalizing n with
 |nil=>cases n<;>exact .nil
 |cons a t i =>
  cases n with
  |zero=>exact .nil
  |succ n=>exact .cons a (i n)
def aL.drop(n:Nat)(r:aL xs us):aL (xs.drop n) (us.drop n):=by
 induction r generalizing n with
 |nil=>cases n<;>exact .nil
 |cons a t i =>
  cases n with
  |zero=>exact .cons a t
  |succ n=>exact i n
def ii:Option V->SD->Prop
 |some v,J u=>aO v u
 |none,Y=>True
 |_,_=>False
def KV{κ:Type}:List (κ×V)->List (κ×Value)->Prop:=Paired λ(p:κ×V)(q:κ×Value)=>p.1=q.1/\aO p.2 q.2
def kV:tr->V
 |.inl i=>.int i
 |.inr x=>.str x
inductive HO where
 |lst(xs:List V)
 |tup(xs:List V)
 |dK(kvs:List (tr×V)) | dT (kvs:List (List tr×V))
 |set(S:Int->Bool)(n:Nat)
 |ins(C dx:Addr)(fs:List (Str×V))
 |own(x:Addr)
 |xd(fs:List (Str×V))
 |met(f x:Addr)
 |rng(lo hi:Int)
 |frz(o:Obj)(u:HO)
 |tbl(ps:Array Value)
 |ext(φ:Heap->Prop)
abbrev Hp:=Addr->Option HO
def upd(H:Hp)(a:Addr)(o:HO):Hp:=λb=>if b=a then J o else H b
def aK:upd H a o a=J o:=by unfold upd;rw[e_ rfl]
def az(h:b≠a):upd H a o b=H b:=by unfold upd;rw[h8 h]
def bu{H:Hp}{a b:Addr}{o:HO}(h:H a=J o)(i:H b=Y):a≠b:=by intro e;subst e;rw[h]at i;cases i
def je(h:Heap)(a:Addr)(i:Array Value):Prop:=∃o,h.get? a=J o/\o.cls=.type "tuple"/\(∃n,o.data=.seq i n)/\o.dict=Y
def je.tup(t:je h a its):IsTup h a its:=let⟨o,e,c,d,_⟩:=t;⟨o,e,c,d⟩
def je.lt(t:je h a its):a<h.objs.size:=t.tup.lt
def je.new(h:Heap)(a:Array Value):je (h.push { cls:=.type "tuple",data:=.seq a}) h.objs.size a:=⟨_,A0 h rfl,rfl,⟨_,rfl⟩,rfl⟩
section
variable(P:Program)(w:World)
def ObjOk(H:Hp)(h:Heap)(a:Addr):HO->Prop
 |.lst xs=>xs.length<=sizeLine/\∃(j:SX) (n:Nat),aL xs j/\h.get? a=J { cls:=.type "list",data:=.seq j.toArray n}
 |.tup xs=>xs.length<=sizeLine/\∃j:SX,aL xs j/\je h a j.toArray
 |.dK i=>i.length<=sizeLine/\(a==sysModules)=T/\∃F,KV i F/\h.DictOf (fP P w) a F
 |.dT i=>i.length<=sizeLine/\(a==sysModules)=T/\∃xs:List (List tr×Addr×Value),
   Paired (λ(p:List tr×V)(q:List tr×Addr×Value)=>p.1=q.1/\H q.2.1=J (.tup (p.1.map kV))/\aO p.2 q.2.2) i xs /\
   ∃o z M,h.get? a=J o/\o.ExactDict/\o.data=.dict z M/\z.toList=xs.map (entryOfKey (tupleKind (fP P w)))/\(xs.map (·.1)).Nodup
 |.set S n=>h.SetOf (intKind P w) a S n
 |.ins C y fs=>H y=J (.own a)/\fs.length<=1000/\y≠a/\h.get? a=J (PySem.W.instObj C y) /\
   ∃l,h.Ns1 y l/\(∀f,ii (fs.lookup f) (l f))/\PySem.Within l (fs.map (·.1))
 |.own _=>∃o,h.get? a=J o
 |.xd fs=>∃l,h.Ns1 a l/\∀f,ii (fs.lookup f) (l f)
 |.rng lo G=>∃t u v,h.get? a=J { cls:=.type "range",data:=.fields #[.int lo t,.int G u,.int 1 v]}
 |.frz o u=>h.get? a=J o/\ObjOk H h a u
 |.tbl L=>h.get? a=J { cls:=.none,data:=.fields L}
 |.met f x=>h.get? a=J (PySem.W.methodObj (.ref f) (.ref x))
 |.ext φ=>φ h/\(∃o,h.get? a=J o)/\∀E B:Heap,φ E->(∀o,E.get? a=J o->B.get? a=J o)->φ B
def HOk(H:Hp)(h:Heap):Prop:=∀a o,H a=J o->ObjOk P w H h a o
end
section
variable{P:Program}{w:World}{H H':Hp}{h h':Heap}{a:Addr}{o:HO}
def ObjOk.lt(x:ObjOk P w H h a o):a<h.objs.size:=by
 cases o with
 |lst xs=>obtain⟨_,_,_,_,e⟩:=x;exact pk e
 |tup xs=>obtain⟨_,_,_,p⟩:=x;exact p.lt
 |dK i=>obtain⟨_,_,_,_,o,_,_,e,_⟩:=x;exact pk e
 |dT i=>obtain⟨_,_,_,_,o,_,_,e,_⟩:=x;exact pk e
 |set S n=>obtain⟨o,_,_,_,e,_⟩:=x;exact pk e
 |ins C j fs=>obtain⟨_,_,_,e,_⟩:=x;exact pk e
 |own y=>obtain⟨_,e⟩:=x;exact pk e
 |xd fs=>obtain⟨_,⟨_,_,_,e,_⟩,_⟩:=x;exact pk e
 |rng lo l=>obtain⟨_,_,_,e⟩:=x;exact pk e
 |frz B u=>obtain⟨e,_⟩:=x;exact pk e
 |tbl z=>exact pk (x)
 |met f y=>exact pk (x)
 |ext φ=>obtain⟨_,⟨_,e⟩,_⟩:=x;exact pk e
def Paired.mapP{α β:Type}{F G:α->β->Prop}{i:List α}{j:List β}(r:Paired F i j)(f:∀a b,F a b->G a b):Paired G i j:=by
 induction r with
 |nil=>exact .nil
 |cons r t l=>exact .cons (f _ _ r) l
def ObjOk.stay(x:ObjOk P w H h a o)(k:∀b u,(b=a\/H b=J (.own a))->h.get? b=J u->h'.get? b=J u)(O:∀b,H b=J (.own a)->H' b=J (.own a))(M:∀b xs,H b=J (.tup xs)->H' b=J (.tup xs)):ObjOk P w H' h' a o:=by
 induction o with
 |lst xs=>obtain⟨z,B,n,r,e⟩:=x;exact⟨z,B,n,r,k _ _ (.inl rfl) e⟩
 |tup xs=>obtain⟨z,B,r,i,e,c⟩:=x;exact⟨z,B,r,i,k _ _ (.inl rfl) e,c⟩
 |dK E=>obtain⟨z,y,Q,r,i,j,l,e,c⟩:=x;exact⟨z,y,Q,r,i,j,l,k _ _ (.inl rfl) e,c⟩
 |dT E =>
  obtain⟨z,y,xs,r,i,j,l,e,c⟩:=x;exact⟨z,y,xs,Paired.mapP r λp q z=>⟨z.1,M _ _ z.2.1,z.2.2⟩,i,j,l,k _ _ (.inl rfl) e,c⟩
 |set S n=>obtain⟨i,j,l,t,e,c⟩:=x;exact⟨i,j,l,t,k _ _ (.inl rfl) e,c⟩
 |ins C R fs =>
  obtain⟨d,z,ne,e,G,⟨F,j,l,e2,c⟩,r⟩:=x;exact⟨O _ d,z,ne,k _ _ (.inl rfl) e,G,⟨F,j,l,k _ _ (.inr d) e2,c⟩,r⟩
 |own y=>obtain⟨i,e⟩:=x;exact⟨i,k _ _ (.inl rfl) e⟩
 |xd fs=>obtain⟨G,⟨F,j,l,e,c⟩,r⟩:=x;exact⟨G,⟨F,j,l,k _ _ (.inl rfl) e,c⟩,r⟩
 |rng lo U=>obtain⟨t,u,v,e⟩:=x;exact⟨t,u,v,k _ _ (.inl rfl) e⟩
 |frz i u L=>obtain⟨e,q⟩:=x;exact⟨k _ _ (.inl rfl) e,L q⟩
 |tbl W =>
  have e:=x;exact k a _ (.inl rfl) e
 |met f y =>
  have e:=x;exact k a _ (.inl rfl) e
 |ext φ=>obtain⟨p,⟨o,e⟩,st⟩:=x;exact⟨st _ _ p λo q=>k _ _ (.inl rfl) q,⟨o,k _ _ (.inl rfl) e⟩,st⟩
def HOk.lt(x:HOk P w H h)(e:H a=J o):a<h.objs.size:=(x a o e).lt
def HOk.fresh(x:HOk P w H h)(e:h.objs.size<=a):H a=Y:=by
 cases q:H a with
 |none=>rfl
 |some u=>exact absurd (vv (x.lt q) e) (BQ _)
def HOk.kept(x:HOk P w H h)(k:∀b u,h.get? b=J u->h'.get? b=J u):HOk P w H h':=λa o e =>
 (x a o e).stay (λb u _ q=>k b u q) (λ_ q=>q) λ_ _ q=>q
def HOk.laid(x:HOk P w H h)(k:∀b u,h.get? b=J u->h'.get? b=J u)(l:h.objs.size<=a)(new:ObjOk P w (upd H a o) h' a o):HOk P w (upd H a o) h':=λb u e=>by
 have i:=x.fresh l;by_cases j:b=a
 .subst j;rw[aK]at e;cases e;exact new
 .rw[az j]at e;exact(x b u e).stay (λc v _ q=>k c v q) (λc q=>by rw[az (bu q i)];exact q) λc xs q=>by rw[az (bu q i)];exact q
end
def Rd(H:Hp)(a:Addr)(u:HO):Prop:=H a=J u\/∃o,H a=J (.frz o u)
def Rd.ok(r:Rd H a u)(x:HOk P w H h):ObjOk P w H h a u:=by
 rcases r with r|⟨o,r⟩
 .exact x a u r
 .obtain⟨_,q⟩:=x a _ r;exact q
def Nh:Option HO->Prop
 |some (.lst _)=>True
 |some (.dK _)=>True
 |some (.dT _)=>True
 |some (.set _ _)=>True
 |some (.ins _ _ _)=>True
 |some (.ext _)=>True
 |_=>False
section
variable{P:Program}{w:World}{H:Hp}{h h':Heap}{x e:Addr}{o':HO}
def HOk.write(ok:HOk P w H h)(mu:Nh (H x))(E:e=x\/H e=J (.own x))(k:∀b u,b≠e->h.get? b=J u->h'.get? b=J u)(B:∃u,h'.get? e=J u)(new:ObjOk P w (upd H x o') h' x o'):HOk P w (upd H x o') h':=λb u q=>by
 have i:∀c y,H c=J (.own y)->c≠x:=λc y r z=>by subst z;rw[r]at mu;exact mu
 have j:∀c xs,H c=J (.tup xs)->c≠x:=λc xs r z=>by subst z;rw[r]at mu;exact mu
 by_cases l:b=x
 .subst l;rw[aK]at q;cases q;exact new
 .rw[az l]at q;by_cases a:b=e
  .have C:H b=J (.own x):=by
    rcases E with z|z
    .exact absurd (a.trans z) l
    .rw[a];exact z
   rw[q]at C;cases C;obtain⟨v,hv⟩:=B;exact⟨v,by rw[a];exact hv⟩
  .refine (ok b u q).stay (λc v F r=>k c v ?_ r) (λc r=>by rw[az (i c b r)];exact r) λc xs r=>by rw[az (j c xs r)];exact r
   grind
end
structure Un(fs ex:SW)(H H':Hp)(h h':Heap):Prop where
 keep:∀b o,h.get? b=J o->H b=Y->b∉fs->b∉ex->h'.get? b=J o
 slot:∀b o,h.get? b=J o->H b=Y->b∈fs->b∉ex->∃sl,h'.get? b=J { o with slots:=sl}
 free:∀b o,h.get? b=J o->H b=Y->b∉ex->H' b=Y
 there:∀b o,h.get? b=J o->b∉ex->∃o',h'.get? b=J o'
 tups:∀b xs,H b=J (.tup xs)->H' b=J (.tup xs)
 frzs:∀b o u,H b=J (.frz o u)->H' b=J (.frz o u)
 tbls:∀b ps,H b=J (.tbl ps)->∃more,H' b=J (.tbl (ps++more))
section
variable{fs fs' ex ex':SW}{H H1 H2:Hp}{h h1 h2 h':Heap}{a x e:Addr}{o:HO}
def Un.any(u:Un fs ex H H1 h h1)(q:h.get? b=J ob)(n:H b=Y)(j:b∉ex):∃l,h1.get? b=J { ob with slots:=l}:=by
 by_cases i:b∈fs
 .exact u.slot b ob q n i j
 .exact⟨ob.slots,u.keep b ob q n i j⟩
def Un.kept(k:∀b u,h.get? b=J u->h'.get? b=J u):Un fs ex H H h h' :=
 ⟨λb i q _ _ _=>k b i q,λb i q _ _ _=>⟨i.slots,k b i q⟩,λ_ _ _ n _=>n,λb i q _=>⟨i,k b i q⟩,λ_ _ q=>q,λ_ _ _ q=>q,λ_ j q=>⟨#[],by rw[q];simp⟩⟩
def Un.refl:Un fs ex H H h h:=Un.kept λ_ _ q=>q
def Un.laid(k:∀b u,h.get? b=J u->h'.get? b=J u)(j:h.objs.size<=a)(i:H a=Y):Un fs ex H (upd H a o) h h' where
 keep:=λb u q _ _ _=>k b u q
 slot:=λb u q _ _ _=>⟨u.slots,k b u q⟩
 free:=λb u q n _=>by rw[az (x5 (vv (pk q) j))];exact n
 there:=λb u q _=>⟨u,k b u q⟩
 tups:=λb xs q=>by rw[az (bu q i)];exact q
 frzs:=λb u xs q=>by rw[az (bu q i)];exact q
 tbls:=λb l q=>⟨#[],by rw[az (bu q i),q];simp⟩
def Un.write(mu:Nh (H x))(F:e=x\/H e=J (.own x))(k:∀b u,b≠e->h.get? b=J u->h'.get? b=J u)(j:∃u,h'.get? e=J u):Un fs ex H (upd H x o) h h':=by
 have B:∀b,H b=Y->b≠x:=λb n z=>by subst z;rw[n]at mu;exact mu
 have y:∀b,H b=Y->b≠e:=λb n z=>by
  simp_all
 have l:∀b u,H b=J u->¬Nh (J u)->b≠x:=λb u q C z=>by subst z;rw[q]at mu;exact C mu
 refine⟨λb u q n _ _=>k b u (y b n) q,λb u q n _ _=>⟨u.slots,k b u (y b n) q⟩,λb u q n _=>by rw[az (B b n)];exact n,λb u q _=>?_,
  λb xs q=>by rw[az (l b _ q λz=>z)];exact q,λb u xs q=>by rw[az (l b _ q λz=>z)];exact q,λb E q=>⟨#[],by rw[az (l b _ q λz=>z),q];simp⟩⟩
 by_cases i:b=e
 .subst i;exact j
 .exact⟨u,k b u i q⟩
end
def Ni(h:Heap)(H:Hp):SW:=(List.range h.objs.size).filter λa=>(H a).isSome
def kO(h:Heap)(H:Hp):Heap:=PySem.W.hideAll h (Ni h H)
def zn(h:Heap)(H:Hp):(kO h H).objs.size=h.objs.size:=PySem.W.hideAll_size _ _
def AB(e:h.get? b=J o)(n:H b=Y):(kO h H).get? b=J o :=
 PySem.W.hideAll_get _ e λa=>by
  have q:=(BO.mp a).2;rw[n]at q;simp at q
def CU(e:(kO h H).get? b=J o):h.get? b=J o/\H b=Y:=by
 have a:=PySem.W.of_hideAll (Ni h H) e;refine⟨a,?_⟩
 cases q:H b with
 |none=>rfl
 |some x =>
  have i:b∈Ni h H:=BO.mpr ⟨E6.mpr (pk a),by simp[q]⟩;have z:(kO h H).get? b=Y:=PySem.W.hideAll_none (Ni h H) i;rw[z]at e;cases e
structure Mod(K:g_)(mg:Sn)(base:Heap):Prop where
 kin:K.In base
 glob:base.Ns mainGlobals mg
 blt:∃mb,base.Ns builtinsNs mb/\∀x:Str,x≠"__name__"->mb x=bootBuiltins x
 nolimit:base.NoLimit
 seer:base.NoSeer
structure Cx where
 prog:Program
 w:World
 K:g_
 mg:Str->SD
 base:Heap
 A:Around
 N:SQ
 s₀:Shared
 H₀:Hp
 env:Env
 outer:List Env
 stack:List Env
 ex:SW
 fn:Str->Bool
 calm:Bool
 pn:SA
 xe:Value->Shared->Prop
def Al(l:List Env):SW:=l.filterMap (·.frame)
abbrev Cx.fs(X:Cx):SW:=Al X.outer
def JA(a:Scope)(x:Str):Prop:=a.names.lookup x=J .local\/a.names.lookup x=J .cell\/a.names.lookup x=J .free
def Loc(a:Scope)(x:Str):Prop:=a.names.lookup x=J .local\/a.names.lookup x=J .cell
def Look(env:Env)(h:Heap)(m:Sn)(x:Str)(u:Value):Prop :=
 (env.kindOf x=J .local/\m x=J u)\/((env.kindOf x=J .cell\/env.kindOf x=J .free)/\∃c,env.cells.lookup x=J c/\h.IsCell c (J u))
structure Cx.Ok(X:Cx):Prop where
 mod:Mod X.K X.mg X.base
 kind:X.env.scope.kind=.function
 glob:X.env.globals=mainGlobals
 blt:X.env.builtins=builtinsNs
 above:X.s₀.heap.objs.size<=X.env.locals
 inj:∀x y c,X.env.cells.lookup x=J c->X.env.cells.lookup y=J c->x=y
 has:∀x,(X.env.kindOf x=J .cell\/X.env.kindOf x=J .free)->∃c,X.env.cells.lookup x=J c
 cab:∀x c,X.fn x=I->X.env.cells.lookup x=J c->X.s₀.heap.objs.size<=c
 hd:X.calm=I->X.A.handled=Y
 frames:X.A.frames=J X.stack
 stk:X.stack=X.outer\/(X.stack=X.env::X.outer/\X.env.frame=J X.env.locals)
 exf:∀b∈X.ex,b≠X.env.locals/\∀x c,X.env.cells.lookup x=J c->c≠b
 bs:∀b o,X.base.get? b=J o->X.s₀.heap.get? b=J o/\X.H₀ b=Y
 bsz:X.base.objs.size<=X.s₀.heap.objs.size
 noex:∀b o,X.base.get? b=J o->b∉X.ex
 exfs:∀b∈X.ex,b∉X.fs
 funs:X.s₀.heap.FunFrames X.base X.outer
 frf:∀b∈X.fs,X.H₀ b=Y
 tree:X.prog.given.tree=Y
 top:∃e l,X.stack=e::l/\e.scope.isGenerator=T/\e.scope.isCoroutine=T/\e.builtins=builtinsNs/\e.globals=mainGlobals
structure Inv(X:Cx)(K4:SA)(Z:List (Option V))(H:Hp)(s:Shared):Prop where
 ok:X.Ok
 os:s.os=X.s₀.os
 bare:AllBare s.gens
 base:Un X.fs X.ex X.H₀ H X.s₀.heap s.heap
 loc:∃m,s.heap.Ns X.env.locals m/\∀(i:Nat)(x:Str)(v:V),X.N[i]?=J x->Z[i]?=J (J v)->JA X.env.scope x->∃u,aO v u/\Look X.env s.heap m x u
 cell:∀x c,X.env.cells.lookup x=J c->∃v,s.heap.IsCell c v
 free:H X.env.locals=Y
 freeC:∀x c,X.env.cells.lookup x=J c->H c=Y
 pin:∀p∈X.pn++K4,s.heap.get? p.1=J p.2/\H p.1=Y/\p.1≠X.env.locals/\p.1∉X.fs/\∀v,p.2.data≠.cell v
 hok:HOk X.prog X.w H s.heap
 len:Z.length=X.N.length
section
variable{X:Cx}{K4:List (Addr × Obj)}{Z:List (Option V)}{H H':Hp}{s:Shared}{h':Heap}
def Cx.Ok.nofr(ok:X.Ok)(e:X.base.get? b=J o):b∉X.fs:=λa=>by
 have:=(ok.funs.mem a).1
 rw[e]at this;cases this
def Inv.bs(a:Inv X K4 Z H s):∀b o,X.base.get? b=J o->s.heap.get? b=J o/\H b=Y:=λb o e =>
 ⟨a.base.keep b o (a.ok.bs b o e).1 (a.ok.bs b o e).2 (a.ok.nofr e) (a.ok.noex b o e),a.base.free b o (a.ok.bs b o e).1 (a.ok.bs b o e).2 (a.ok.noex b o e)⟩
def Inv.bk(a:Inv X K4 Z H s):∀b o,X.base.get? b=J o->s.heap.get? b=J o:=λb o e=>(a.bs b o e).1
def Inv.mod(a:Inv X K4 Z H s):Mod X.K X.mg X.base:=a.ok.mod
def Inv.kIn(a:Inv X K4 Z H s):X.K.In s.heap:=a.ok.mod.kin.keeps a.bk
def Inv.nolimit(a:Inv X K4 Z H s):s.heap.NoLimit:=a.ok.mod.nolimit.keeps a.bk
def Inv.lt(a:Inv X K4 Z H s):X.env.locals<s.heap.objs.size:=let⟨_,i,_⟩:=a.loc;i.lt
def Inv.sz(a:Inv X K4 Z H s):X.s₀.heap.objs.size<=s.heap.objs.size:=n_ a.ok.above (Jy a.lt)
def Inv.nofs(i:Inv X K4 Z H s){a:Addr}(h:s.heap.objs.size<=a):a∉X.fs:=λl=>by
 obtain⟨_,o,j,_⟩:=i.ok.funs.mem l;exact absurd (vv (pk j) (n_ i.sz h)) (BQ _)
def Inv.cne(a:Inv X K4 Z H s):∀x c,X.env.cells.lookup x=J c->c≠X.env.locals:=λx c e z=>by
 obtain⟨v,o,l,hd⟩:=a.cell x c e;obtain⟨m,⟨y,u,B,i,j,_⟩,_⟩:=a.loc;rw[z,i]at l;cases l;rw[j]at hd;cases hd
def Inv.funs(a:Inv X K4 Z H s):s.heap.FunFrames X.base X.outer:=by
 have all:∀(l:List Env),(∀b∈Al l,b∈X.fs)->X.s₀.heap.FunFrames X.base l->s.heap.FunFrames X.base l:=by
  intro l
  induction l with
  |nil=>intro _ _;trivial
  |cons env r B =>
   intro j hl;obtain⟨y,⟨L,o,hf,u,C,hd⟩,hr⟩:=hl;have hL:=j L (by unfold Al;rw[Oi,hf];exact CP);obtain⟨E,e⟩:=a.base.slot L o C (a.ok.frf L hL) hL λz=>a.ok.exfs L z hL;exact⟨y,⟨L,_,hf,u,e,hd⟩,B (λb i=>j b (by unfold Al;rw[Oi,hf];exact pj _ i)) hr⟩
 exact all X.outer (λ_ i=>i) a.ok.funs
def Inv.stack(a:Inv X K4 Z H s):s.heap.FunFrames X.base X.stack:=by
 rcases a.ok.stk with e|⟨e,hf⟩
 .rw[e];exact a.funs
 .rw[e];obtain⟨m,i,_⟩:=a.loc;refine .cons (by rw[a.ok.kind];decide) hf i ?_ a.funs;exact M4 (n_ a.ok.bsz a.ok.above)
def Inv.stkSub(i:Inv X K4 Z H s):∀b∈Al X.stack,b∈X.env.locals::X.fs:=λb a=>by
 rcases i.ok.stk with e|⟨e,hf⟩
 .rw[e]at a;exact pj _ a
 .rw[e]at a;unfold Al at a;rw[Oi,hf]at a;exact a
def Inv.stkFree(a:Inv X K4 Z H s):∀b∈Al X.stack,H b=Y:=λb i=>by
 rcases qd.mp (a.stkSub b i)with e|i
 .rw[e];exact a.free
 .obtain⟨_,o,j,_⟩:=a.ok.funs.mem i;exact a.base.free b o j (a.ok.frf b i) λz=>a.ok.exfs b z i
def Inv.step{g':Array GenState}{t':Nat}{d':Drawn}{ch:SW}(a:Inv X K4 Z H s)(B:∀b∈ch,(b∈X.ex\/X.s₀.heap.objs.size<=b)/\b≠X.env.locals/\(∀x c,X.env.cells.lookup x=J c->c≠b)/\∀p∈X.pn++K4,p.1≠b)(keep:∀b o,b≠X.env.locals->b∉X.fs->b∉ch->s.heap.get? b=J o->H b=Y->h'.get? b=J o)(slot:∀b o,b≠X.env.locals->b∈X.fs->b∉ch->s.heap.get? b=J o->H b=Y->∃R,h'.get? b=J { o with slots:=R})(free:∀b o,b∉ch->s.heap.get? b=J o->H b=Y->H' b=Y)(there:∀b o,b∉ch->s.heap.get? b=J o->∃M,h'.get? b=J M)(tups:∀b xs,H b=J (.tup xs)->H' b=J (.tup xs))(frzs:∀b o u,H b=J (.frz o u)->H' b=J (.frz o u))(tbls:∀b P,H b=J (.tbl P)->∃O,H' b=J (.tbl (P++O)))(ns:∀m,s.heap.Ns X.env.locals m->h'.Ns X.env.locals m)(hok:HOk X.prog X.w H' h')(hg:AllBare g'):
  Inv X K4 Z H' { s with heap:=h',gens:=g',drawn:=d',toks:=t'}:=by
 have L:∀b o,X.s₀.heap.get? b=J o->b≠X.env.locals:=λb o e=>x5 (vv (pk e) a.ok.above);have E:∀b o,X.s₀.heap.get? b=J o->b∉X.ex->b∉ch:=λb o e j F=>by
  rcases(B b F).1 with z|z
  .exact j z
  .exact absurd (vv (pk e) z) (BQ _)
 have y:∀x c,X.env.cells.lookup x=J c->∀v,s.heap.IsCell c v->h'.IsCell c v:=λx c e v ⟨o,G,hd⟩=>by
  have C:c∉ch:=λz=>(B c z).2.2.1 x c e rfl;by_cases S:c∈X.fs
  .obtain⟨R,q⟩:=slot c o (a.cne x c e) S C G (a.freeC x c e);exact⟨_,q,hd⟩
  .exact⟨o,keep c o (a.cne x c e) S C G (a.freeC x c e),hd⟩
 refine⟨a.ok,a.os,hg,⟨λb o e n F j=>?_,λb o e n F j=>?_,λb o e n j=>?_,λb o e j=>?_,λb xs e=>tups b xs (a.base.tups b xs e),λb o xs e=>frzs b o xs (a.base.frzs b o xs e),λb P e=>?_⟩,?_,λx c e=>?_,?_,λx c e=>?_,λp W=>?_,hok,a.len⟩
 .exact keep b o (L b o e) F (E b o e j) (a.base.keep b o e n F j) (a.base.free b o e n j)
 .obtain⟨R,e1⟩:=a.base.slot b o e n F j;obtain⟨Q,e2⟩:=slot b _ (L b o e) F (E b o e j) e1 (a.base.free b o e n j);exact⟨Q,e2⟩
 .obtain⟨M,e1⟩:=a.base.there b o e j;exact free b M (E b o e j) e1 (a.base.free b o e n j)
 .obtain⟨M,e1⟩:=a.base.there b o e j;exact there b M (E b o e j) e1
 .obtain⟨m1,e1⟩:=a.base.tbls b P e;obtain⟨m2,e2⟩:=tbls b _ e1;exact⟨m1++m2,by rw[e2,Array.append_assoc]⟩
 .obtain⟨m,hn,hl⟩:=a.loc;refine⟨m,ns m hn,λi x v e1 e2 e3=>?_⟩;obtain⟨u,r,l⟩:=hl i x v e1 e2 e3;refine⟨u,r,?_⟩;rcases l with l|⟨k,c,e,z⟩
  .exact .inl l
  .exact .inr ⟨k,c,e,y x c e _ z⟩
 .obtain⟨v,z⟩:=a.cell x c e;exact⟨v,y x c e v z⟩
 .obtain⟨m,⟨o,_,_,G,_⟩,_⟩:=a.loc;exact free _ o (λz=>(B _ z).2.1 rfl) G a.free
 .obtain⟨v,o,G,hd⟩:=a.cell x c e;exact free c o (λz=>(B c z).2.2.1 x c e rfl) G (a.freeC x c e)
 .obtain⟨e,n,ne,U,d⟩:=a.pin p W;have C:p.1∉ch:=λz=>(B p.1 z).2.2.2 p W rfl;exact⟨keep p.1 p.2 ne U C e n,free p.1 p.2 C e n,ne,U,d⟩
def Inv.un{t':Nat}(a:Inv X K4 Z H s)(u:Un X.fs [] H H' s.heap h')(hok:HOk X.prog X.w H' h'):Inv X K4 Z H' { s with heap:=h',toks:=t'}:=by
 obtain⟨m,⟨o,F,L,B,r⟩,_⟩:=id a.loc;obtain⟨M,hL⟩:=u.any B a.free (by simp)
 exact a.step (g':=s.gens) (d':=s.drawn) (ch:=[]) (λ_ z=>nomatch z) (λb o _ j _ e n=>u.keep b o e n j (by simp)) (λb o _ j _ e n=>u.slot b o e n j (by simp)) (λb o _ e n=>u.free b o e n (by simp)) (λb o _ e=>u.there b o e (by simp)) u.tups u.frzs u.tbls (λO E=>by
  obtain⟨G,y,l,i,C⟩:=E;rw[B]at i;cases i
  exact⟨_,y,l,hL,C⟩) hok a.bare
def Inv.call{g':Array GenState}{t':Nat}{d':Drawn}{C:SW}(a:Inv X K4 Z H s)(u:Un (Al X.stack) C H H' s.heap h')(hok:HOk X.prog X.w H' h')(hg:AllBare g')(j:∀b∈C,(b∈X.ex\/X.s₀.heap.objs.size<=b)/\b≠X.env.locals/\(∀x c,X.env.cells.lookup x=J c->c≠b)/\∀p∈X.pn++K4,p.1≠b):
  Inv X K4 Z H' { s with heap:=h',gens:=g',drawn:=d',toks:=t'}:=by
 obtain⟨m,⟨o,M,P,E,r⟩,_⟩:=id a.loc;obtain⟨Q,hL⟩:=u.any E a.free λz=>(j _ z).2.1 rfl
 exact a.step j (λb o hL G i e n=>u.keep b o e n (λz=>(qd.mp (a.stkSub b z)).elim hL G) i) (λb o _ _ i e n=>u.any e n i) (λb o i e n=>u.free b o e n i) (λb o i e=>u.there b o e i) u.tups u.frzs u.tbls (λR L=>by
  obtain⟨O,B,y,l,F⟩:=L;rw[E]at l;cases l
  exact⟨_,B,y,hL,F⟩) hok hg
def Inv.turned{t':Nat}{a:Addr}(j:Inv X K4 Z H s)(k:∀b o,b≠a->s.heap.get? b=J o->h'.get? b=J o)(C:H a=Y)(hL:a≠X.env.locals)(M:a∈X.ex\/X.s₀.heap.objs.size<=a)(L:∀x c,X.env.cells.lookup x=J c->c≠a)(E:∀p∈X.pn++K4,p.1≠a):Inv X K4 Z H { s with heap:=h',toks:=t'}:=by
 have l:∀b u,H b=J u->b≠a:=λb u e z=>by rw[z,C]at e;cases e
 refine j.step (g':=s.gens) (d':=s.drawn) (ch:=[a]) (λb B=>?_) (λb o _ _ i e _=>k b o (λz=>i (by simp[z])) e) (λb o _ _ i e _=>⟨o.slots,k b o (λz=>i (by simp[z])) e⟩) (λ_ _ _ _ n=>n)
  (λb o i e=>⟨o,k b o (λz=>i (by simp[z])) e⟩) (λ_ _ e=>e) (λ_ _ _ e=>e) (λb P e=>⟨#[],by rw[e];simp⟩) (λm F=>?_) (λb u e=>?_) j.bare
 .have e:b=a:=by simpa using B
  subst e;exact⟨M,hL,L,E⟩
 .obtain⟨o,y,G,O,r⟩:=F;exact⟨o,y,G,k _ o (Ne.symm hL) O,r⟩
 .refine (j.hok b u e).stay (λc v i q=>k c v ?_ q) (λ_ q=>q) λ_ _ q=>q;rcases i with z|z
  .rw[z];exact l b u e
  .exact l c _ z
def Inv.tok(a:Inv X K4 Z H s)(t:Nat):Inv X K4 Z H { s with toks:=t}:=a.un (h':=s.heap) (t':=t) Un.refl a.hok
def Inv.kept(a:Inv X K4 Z H s)(k:∀b u,s.heap.get? b=J u->h'.get? b=J u):Inv X K4 Z H { s with heap:=h',toks:=t'}:=a.un (Un.kept k) (a.hok.kept k)
def Inv.laid{a:Addr}{o:HO}{t':Nat}(i:Inv X K4 Z H s)(k:∀b u,s.heap.get? b=J u->h'.get? b=J u)(j:s.heap.objs.size<=a)(new:ObjOk X.prog X.w (upd H a o) h' a o):
  Inv X K4 Z (upd H a o) { s with heap:=h',toks:=t'}:=i.un (Un.laid k j (i.hok.fresh j)) (i.hok.laid k j new)
def Inv.write(a:Inv X K4 Z H s)(mu:Nh (H x))(j:e=x\/H e=J (.own x))(k:∀b u,b≠e->s.heap.get? b=J u->h'.get? b=J u)(i:∃u,h'.get? e=J u)(new:ObjOk X.prog X.w (upd H x o) h' x o):Inv X K4 Z (upd H x o) { s with heap:=h',toks:=t'}:=a.un (Un.write mu j k i) (a.hok.write mu j k i new)
def Inv.pins_of(a:Inv X K4 Z H s)(h:∀p∈i,s.heap.get? p.1=J p.2/\H p.1=Y/\p.1≠X.env.locals/\p.1∉X.fs/\∀v,p.2.data≠.cell v):Inv X i Z H s :=
 ⟨a.ok,a.os,a.bare,a.base,a.loc,a.cell,a.free,a.freeC,λp j=>(Ci.mp j).elim (λz=>a.pin p (F1 _ z)) (h p),a.hok,a.len⟩
def oB{N:SQ}(hN:N.Nodup){i j:Nat}{x:Str}(a:N[i]?=J x)(b:N[j]?=J x):i=j:=by obtain⟨l,e1⟩:=qi.mp a;obtain⟨u,e2⟩:=qi.mp b;exact(List.getElem_inj hN).mp (e1.trans e2.symm)
def xZ{M:Model}{A:Around}{E:SK}{i:Nat}{x:Str}{v:V}{u:Value}{Q:Unit->Shared->Prop}(l:Inv X K4 Z H s)(hN:X.N.Nodup)(W:X.N[i]?=J x)(G:Loc X.env.scope x)(r:aO v u)(h:∀s',Inv X K4 (Z.set i (J v)) H s'->(∃a,Heap.SameBut a s.heap s'.heap/\(a=X.env.locals\/X.env.cells.lookup x=J a))->Q () s')(hf:X.fn x=I\/X.env.scope.names.lookup x=J .local:=by first | exact .inl rfl | exact .inr rfl | assumption):wpAny M A (storeName X.env x u) Q E s:=by
 obtain⟨m,hn,hl⟩:=id l.loc;have ak:(X.env.scope.kind == .class||(X.env.scope.kind == .module&&X.env.locals != X.env.globals))=T:=by rw[l.ok.kind];rfl
 have P:i<Z.length:=by rw[l.len];exact(qi.mp W).1
 have cne:=l.cne;have C:∀{a:Addr}{h':Heap},(∃o,s.heap.get? a=J o/\H a=Y)->Heap.SameBut a s.heap h'->HOk X.prog X.w H h':=λ{a h'} ha B b ob e=>by
  obtain⟨_,_,L⟩:=ha;refine(l.hok b ob e).stay (λc w' F q=>(B.2 c ?_).trans q) (λ_ q=>q) λ_ _ q=>q;rintro rfl;rcases F with rfl|F
  .rw[L]at e;cases e
  .rw[L]at F;cases F
 rcases G with O|O
 .refine wpAny_storeName_local O hn (λh' ar B=>?_) ak;obtain⟨oL,_,_,ap,_⟩:=id hn;refine h _ ⟨l.ok,l.os,l.bare,⟨λb o e n S G=>?_,λb o e n S G=>?_,l.base.free,λb o e G=>?_,l.base.tups,l.base.frzs,l.base.tbls⟩,⟨_,ar,λj y v' e1 e2 e3=>?_⟩,λy c e=>?_,l.free,l.freeC,λp hp=>?_,C ⟨oL,ap,l.free⟩ B,by simpa using l.len⟩ ⟨_,B,.inl rfl⟩
  .exact (B.2 b (x5 (vv (pk e) l.ok.above))).trans (l.base.keep b o e n S G)
  .obtain⟨sl,e1⟩:=l.base.slot b o e n S G;exact⟨sl,(B.2 b (x5 (vv (pk e) l.ok.above))).trans e1⟩
  .obtain⟨o',e1⟩:=l.base.there b o e G;exact⟨o',(B.2 b (x5 (vv (pk e) l.ok.above))).trans e1⟩
  .by_cases R:j=i
   .subst R;rw[W]at e1;cases e1;rw[x4 P]at e2;cases e2;exact⟨u,r,.inl ⟨O,by simp⟩⟩
   .rw[n8 (Ne.symm R)]at e2;obtain⟨u',r',q⟩:=hl j y v' e1 e2 e3;refine⟨u',r',?_⟩;rcases q with⟨k,e⟩|⟨k,c,e,z⟩
    .refine .inl ⟨k,?_⟩
     have:y≠x:=λe=>R (oB hN e1 (e▸W))
     simp[this,e]
    .exact .inr ⟨k,c,e,z.sameBut B (cne y c e)⟩
  .obtain⟨w',z⟩:=l.cell y c e;exact⟨w',z.sameBut B (cne y c e)⟩
  .obtain⟨e,n,ne,nf,d⟩:=l.pin p hp;exact⟨(B.2 p.1 ne).trans e,n,ne,nf,d⟩
 .have U:X.fn x=I:=by
   rcases hf with z|z
   .exact z
   .rw[z]at O;cases O
  obtain⟨c,F⟩:=l.ok.has x (.inl O);obtain⟨w',z⟩:=l.cell x c F;refine wpAny_storeName_cell l.ok.kind O F z (λh' an B=>?_);obtain⟨oc,al,ab⟩:=id z;refine h { s with heap:=h'} ⟨l.ok,l.os,l.bare,⟨λb o e n S G=>?_,λb o e n S G=>?_,l.base.free,λb o e G=>?_,l.base.tups,l.base.frzs,l.base.tbls⟩,⟨m,hn.sameBut B (Ne.symm (cne x c F)),λj y v' e1 e2 e3=>?_⟩,λy c' e=>?_,l.free,l.freeC,λp hp=>?_,C ⟨oc,al,l.freeC x c F⟩ B,by simpa using l.len⟩ ⟨c,B,.inr F⟩
  .exact (B.2 b (x5 (vv (pk e) (l.ok.cab x c U F)))).trans (l.base.keep b o e n S G)
  .obtain⟨sl,e1⟩:=l.base.slot b o e n S G;exact⟨sl,(B.2 b (x5 (vv (pk e) (l.ok.cab x c U F)))).trans e1⟩
  .obtain⟨o',e1⟩:=l.base.there b o e G;exact⟨o',(B.2 b (x5 (vv (pk e) (l.ok.cab x c U F)))).trans e1⟩
  .by_cases R:j=i
   .subst R;rw[W]at e1;cases e1;rw[x4 P]at e2;cases e2;exact⟨u,r,.inr ⟨.inl O,c,F,an⟩⟩
   .rw[n8 (Ne.symm R)]at e2;obtain⟨u',r',q⟩:=hl j y v' e1 e2 e3;refine⟨u',r',?_⟩;rcases q with q|⟨k,c',e,z'⟩
    .exact .inl q
    .refine .inr ⟨k,c',e,z'.sameBut B ?_⟩;rintro rfl;exact R (oB hN e1 (l.ok.inj _ _ _ e F▸W))
  .by_cases ai:c'=c
   .subst ai;exact⟨_,an⟩
   .obtain⟨w2,z2⟩:=l.cell y c' e;exact⟨w2,z2.sameBut B ai⟩
  .obtain⟨e,n,ne,nf,d⟩:=l.pin p hp;refine⟨(B.2 p.1 ?_).trans e,n,ne,nf,d⟩;intro q;rw[q,al]at e;have q':oc=p.2:=Option.some.inj e;exact d w' (by rw[<-q'];exact ab)
def jl(j:Inv X K4 Z H s)(hN:X.N.Nodup)(l:X.N[i]?=J x)(y:Loc X.env.scope x)(r:aO v u)(h:∀a,Inv X K4 (Z.set i (J v)) H a->Q () a)(hf:X.fn x=I\/X.env.scope.names.lookup x=J .local:=by first | exact .inl rfl | exact .inr rfl | assumption):wpAny M A (storeName X.env x u) Q E s :=
 xZ j hN l y r (λa z _=>h a z) hf
def Inv.call'(a:Inv X K4 Z H s)(j:s'.os=s.os)(u:Un (Al X.stack) ch H H' s.heap s'.heap)(hok:HOk X.prog X.w H' s'.heap)(hg:AllBare s'.gens)(i:∀b∈ch,(b∈X.ex\/X.s₀.heap.objs.size<=b)/\b≠X.env.locals/\(∀x c,X.env.cells.lookup x=J c->c≠b)/\∀p∈X.pn++K4,p.1≠b):Inv X K4 Z H' s':=by
 obtain⟨h',z,l,y,B⟩:=s';have e:=j;subst e;exact a.call (g':=z) (t':=y) (d':=l) u hok hg i
end
abbrev XK:=Value->Sr->Hp->Prop
abbrev St:=List (Option V)
abbrev VK:=V->Hp->Prop
abbrev TE:=St->Hp->VK->Prop
abbrev TT:=St->Hp->(Bool->Hp->Prop)->Prop
abbrev TA:=St->Hp->(List V->Hp->Prop)->Prop
structure Ends where
 nx:St->Hp->Prop
 rt:VK
 bk:St->Hp->Prop:=λ_ _=>False
 ct:St->Hp->Prop:=λ_ _=>False
abbrev TS:=Ends->St->Hp->Prop
inductive EP(X:Cx)(K4:SA)(Z:St)(Q:VK)(u:Value)(s':Shared):Prop
 |mk(v:V)(H':Hp)(i:Inv X K4 Z H' s')(r:aO v u)(q:Q v H'):EP X K4 Z Q u s'
inductive TP(X:Cx)(K4:SA)(Z:St)(Q:Bool->Hp->Prop)(b:Bool)(s':Shared):Prop
 |mk(H':Hp)(i:Inv X K4 Z H' s')(q:Q b H'):TP X K4 Z Q b s'
inductive AP(X:Cx)(K4:SA)(Z:St)(Q:List V->Hp->Prop)(us:SX)(s':Shared):Prop
 |mk(vs:List V)(H':Hp)(i:Inv X K4 Z H' s')(r:aL vs us)(q:Q vs H'):AP X K4 Z Q us s'
inductive SN(X:Cx)(K4:SA)(Q:St->Hp->Prop)(s':Shared):Prop
 |mk(Z':St)(H':Hp)(i:Inv X K4 Z' H' s')(q:Q Z' H'):SN X K4 Q s'
inductive SR(X:Cx)(K4:SA)(Q:VK)(u:Value)(s':Shared):Prop
 |mk(v:V)(Z':St)(H':Hp)(i:Inv X K4 Z' H' s')(r:aO v u)(q:Q v H'):SR X K4 Q u s'
def SP(X:Cx)(i:SA)(D:Ends)(f:Flow)(a:Shared):Prop :=
 match f with
 |.next=>SN X i D.nx a
 |.brk=>SN X i D.bk a
 |.cont=>SN X i D.ct a
 |.ret u=>SR X i D.rt u a
def PE(X:Cx)(e:Expr)(t:TE):Prop :=
 ∀(a:SA)(s:Shared)(Z:St)(H:Hp)(Q:VK),Inv X a Z H s->t Z H Q->wpAny (model X.prog X.w) X.A (eval e X.env) (EP X a Z Q) X.xe s
def PT(X:Cx)(e:Expr)(t:TT):Prop :=
 ∀(a:SA)(s:Shared)(Z:St)(H:Hp)(Q:Bool->Hp->Prop),Inv X a Z H s->t Z H Q->wpAny (model X.prog X.w) X.A (isTrue e X.env (eval e X.env)) (TP X a Z Q) X.xe s
def PW(X:Cx)(e:Expr)(t:TT):Prop :=
 ∀(a:Sem Value)(i:SA)(s:Shared)(Z:St)(H:Hp)(Q:Bool->Hp->Prop),Inv X i Z H s->t Z H Q->wpAny (model X.prog X.w) X.A (isTrue e X.env a) (TP X i Z Q) X.xe s
def PW.pt(h:PW X e t):PT X e t:=h _
def PA(X:Cx)(j:SG)(t:TA):Prop :=
 ∀(a:Pos)(i:SA)(s:Shared)(Z:St)(H:Hp)(Q:List V->Hp->Prop),Inv X i Z H s->t Z H Q->wpAny (model X.prog X.w) X.A (spliced (backTo a (starEach j X.env))) (AP X i Z Q) X.xe s
def PS(X:Cx)(st:Stmt)(t:TS):Prop :=
 ∀(a:SA)(s:Shared)(Z:St)(H:Hp)(D:Ends),Inv X a Z H s->t D Z H->wpAny (model X.prog X.w) X.A (exec st X.env) (SP X a D) X.xe s
def PSs(X:Cx)(st:Sq)(t:TS):Prop :=
 ∀(a:SA)(s:Shared)(Z:St)(H:Hp)(D:Ends),Inv X a Z H s->t D Z H->wpAny (model X.prog X.w) X.A (execs st X.env) (SP X a D) X.xe s
def ln(h:wpAny M A t Q E s)(i:∀a s,Q a s->Q' a s):wpAny M A t Q' E s:=wpAny_mono h i λ_ _ x=>x
section
variable{X:Cx}
def tD(i:Nat):TE:=λZ H Q=>∃v,Z[i]?=J (J v)/\Q v H
def tC(v:V):TE:=λ_ H Q=>Q v H
def kE{i:Nat}{x:Str}{pos:Pos}(hN:X.N[i]?=J x)(hv:JA X.env.scope x)(hd:(x==("__debug__":Str))=T:=by decide)(z:(x==("__classdict__":Str))=T:=by decide):PE X (.Name x pos) (tD i):=by
 intro F s Z H Q j h;obtain⟨v,e,h⟩:=h;obtain⟨m,C,hl⟩:=j.loc;obtain⟨u,r,l⟩:=hl i x v hN e hv;have fin:EP X F Z Q u s:=⟨v,H,j,r,h⟩;rcases l with⟨y,E⟩|⟨y,c,B,a⟩
 .exact wpAny_Name (wpAny_loadName_local j.ok.kind y C E fin) hd
 .rcases y with y|y
  .exact wpAny_Name (wpAny_loadName_cell j.ok.kind y B a fin) hd
  .exact wpAny_Name (wpAny_loadName_free j.ok.kind y B a fin z) hd
def Gb{i j pos}:PE X (.Constant (.int i) j pos) (tC (.int i)):=λ_ _ _ H _ a h=>wpAny_Constant_int ⟨.int i,H,a.tok _,⟨_,rfl⟩,h⟩
def J8{b j pos}:PE X (.Constant (.bool b) j pos) (tC (.bl b)):=λ_ _ _ H _ a h=>Constant_bool ⟨.bl b,H,a,rfl,h⟩
def yw{j pos}:PE X (.Constant .none j pos) (tC .non):=λ_ _ _ H _ a h=>Constant_none ⟨.non,H,a,rfl,h⟩
def Gl(X:Cx)(x:Str):Prop:=X.env.kindOf x=J .globalImplicit
def nC{E:SK}{l:SA}{s:Shared}{Z:St}{H:Hp}{x:Str}{u:Value}{i:Pos}{Q:SK}(a:Inv X l Z H s)(hg:Gl X x)(j:X.mg x=J u)(h:Q u s)(hd:(x==("__debug__":Str))=T:=by decide):wpAny (model X.prog X.w) X.A (eval (.Name x i) X.env) Q E s :=
 Calls.Name_function_global a.ok.kind hg (Calls.loadGlobal_global (by rw[a.ok.glob];exact a.mod.glob.keeps a.bk) j h) hd
def jv{E:SK}{y:SA}{s:Shared}{Z:St}{H:Hp}{x:Str}{u:Value}{i:Pos}{Q:SK}(a:Inv X y Z H s)(hg:Gl X x)(l:X.mg x=Y)(hv:bootBuiltins x=J u)(h:Q u s)(j:x≠"__name__":=by decide)(hd:(x==("__debug__":Str))=T:=by decide):wpAny (model X.prog X.w) X.A (eval (.Name x i) X.env) Q E s:=by
 obtain⟨mb,B,z⟩:=a.mod.blt;exact Calls.Name_function_global a.ok.kind hg (Calls.loadGlobal_builtin (by rw[a.ok.glob];exact a.mod.glob.keeps a.bk) l (by rw[a.ok.blt];exact B.keeps a.bk) ((z x j).trans hv) h) hd
def CV(hg:Gl X x)(i:X.mg x=J u)(r:aO v u)(hd:(x==("__debug__":Str))=T:=by decide):PE X (.Name x pos) (tC v) :=
 λ_ _ _ H _ a h=>nC a hg i ⟨v,H,a,r,h⟩ hd
def qt{x:Str}{v:V}{u:Value}{i:Pos}(hg:Gl X x)(l:X.mg x=Y)(hv:bootBuiltins x=J u)(r:aO v u)(j:x≠"__name__":=by decide)(hd:(x==("__debug__":Str))=T:=by decide):PE X (.Name x i) (tC v) :=
 λ_ _ _ H _ a h=>jv a hg l hv ⟨v,H,a,r,h⟩ j hd
variable{a b:Expr}{ta tb:TE}{pos:Pos}
def tB(t:TE):TT:=λZ H Q=>t Z H λx i=>∃c,x=.bl c/\Q c i
def Gc(h:PE X e t)(B:∀i,isTrue e X.env i=(do let v <-i;standAt e.pos;holding [v] (truthy v)):=by intro _;rfl):PT X e (tB t):=by intro u s Z H Q j hw;refine isTrue_plain (ln (h u s Z H _ j hw) λv E ⟨x,C,y,z,l⟩=>?_) (B _);obtain⟨d,rfl,q⟩:=l;cases z;exact wpAny_truthy_bool ⟨C,y,q⟩
variable{tA tB':TT}{rest:SG}
def RR(t u:TT):TT:=λZ H Q=>t Z H λc i=>if c=I then Q I i else u Z i Q
def OD(t:TT):TT:=λZ H Q=>t Z H λc i=>Q (!c) i
def Ge(j:PT X a tA):PW X (.BoolOp .Or [a] pos) tA:=by
 intro y l s Z H Q i h;refine isTrue_or (ln (j l s Z H Q i h) λc u e=>?_)
 cases c with
 |false=>exact isTrue_or_nil e
 |true=>exact e
def J9(C:PT X a tA)(E:PW X (.BoolOp .Or (b::rest) pos) tB'):PW X (.BoolOp .Or (a::b::rest) pos) (RR tA tB'):=by
 intro B u s Z H Q i h;refine isTrue_or (ln (C u s Z H _ i h) λc z ⟨y,j,l⟩=>?_)
 cases c with
 |true=>exact⟨y,j,l⟩
 |false=>exact E B u z Z y Q j l
def Gf(u:PT X a tA):PT X (.UnaryOp .Not a pos) (OD tA):=by intro y s Z H Q i h;exact isTrue_not (ln (u y s Z H (λc j=>Q (!c) j) i h) λ_ _ ⟨j,l,q⟩=>⟨j,l,q⟩)
def J_(ta tb:TE):TE:=λZ H Q=>ta Z H λx i=>∃c,x=.bl c/\if c=I then tb Z i Q else Q (.bl T) i
def Ka(ta:TE):TE:=λZ H Q=>ta Z H λx i=>∃c,x=.bl c/\Q (.bl (!c)) i
def Gg{op}(h:PE X a t):PE X (.BoolOp op [a] pos) t:=λj s Z H Q i hw=>BoolOp_one (h j s Z H Q i hw)
def Gh(C:PE X a ta)(B:PE X (.BoolOp .And (b::rest) pos) tb):PE X (.BoolOp .And (a::b::rest) pos) (J_ ta tb):=by
 intro l s Z H Q j h;refine BoolOp_and (ln (C l s Z H _ j h) λv z ⟨x,y,u,E,i⟩=>?_);obtain⟨c,rfl,i⟩:=i;cases E;refine wpAny_truthy_bool ?_
 cases c with
 |true=>exact B l z Z y Q u i
 |false=>exact⟨.bl T,y,u,rfl,i⟩
def Gi(y:PE X a ta):PE X (.UnaryOp .Not a pos) (Ka ta):=by intro z s Z H Q i h;refine UnaryOp_ (ln (y z s Z H _ i h) λv C ⟨x,B,l,u,j⟩=>?_);obtain⟨c,rfl,j⟩:=j;cases u;exact not_of (wpAny_truthy_bool ⟨.bl (!c),B,l,rfl,j⟩)
def RT(t:TT)(ta tb:TE):TE:=λZ H Q=>t Z H λc i=>if c=I then ta Z i Q else tb Z i Q
def AC(B:PT X c tA)(C:PE X a ta)(E:PE X b tb):PE X (.IfExp c a b pos) (RT tA ta tb):=by
 intro j s Z H Q i h;refine wpAny_IfExp (ln (B j s Z H _ i h) λd l ⟨z,u,y⟩=>?_)
 cases d with
 |true=>exact C j l Z z Q u y
 |false=>exact E j l Z z Q u y
end
def SqL(K:g_)(H:Hp)(a:Addr)(xs:List V):Prop :=
 Rd H a (.lst xs) \/
  ∃(o:Obj) (i:Array Value) (n:Nat),K.lookup a=J o/\o.cls=.type "list"/\o.dict=Y/\o.data=.seq i n/\i.size<=sizeLine/\aL xs i.toList
def SqT(K:g_)(H:Hp)(a:Addr)(xs:List V):Prop :=
 Rd H a (.tup xs) \/
  ∃(o:Obj) (i:Array Value) (n:Nat),K.lookup a=J o/\o.cls=.type "tuple"/\(o.data=.seq i n/\o.dict=Y)/\i.size<=sizeLine/\aL xs i.toList
def OE:Value->Option V
 |.none=>J .non
 |.bool b=>J (.bl b)
 |.int i _=>J (.int i)
 |.str x _=>J (.str x)
 |.bytes b _=>J (.byt b)
 |.float b _=>J (.flt b)
 |.ref a=>J (.ref a)
 |.type n=>J (.ty n)
 |_=>Y
def aO.abs(r:aO x u):OE u=J x:=by
 cases x with
 |non=>cases r;rfl
 |bl _=>cases r;rfl
 |int _=>obtain⟨t,rfl⟩:=r;rfl
 |str _=>obtain⟨t,rfl⟩:=r;rfl
 |byt _=>obtain⟨t,rfl⟩:=r;rfl
 |flt _=>obtain⟨t,rfl⟩:=r;rfl
 |ref _=>cases r;rfl
 |ty _=>cases r;rfl
def aO.inj(r:aO x u)(q:aO y u):x=y:=Option.some.inj (r.abs.symm.trans q.abs)
def aL.inj(r:aL xs us)(q:aL ys us):xs=ys:=by
 induction r generalizing ys with
 |nil=>cases q;rfl
 |cons r t j=>cases q with|cons a i=>rw[r.inj a,j i]
section
variable{X:Cx}{K4:List (Addr × Obj)}{Z:St}{H:Hp}{s:Shared}{a:Addr}{xs ys:List V}
def SqL.of{K:g_}(h:H a=J (.lst xs)):SqL K H a xs:=.inl (.inl h)
def SqT.of{K:g_}(h:H a=J (.tup xs)):SqT K H a xs:=.inl (.inl h)
def Inv.list(j:Inv X K4 Z H s)(h:SqL X.K H a xs):∃i:SX,aL xs i/\PlainL s.heap a i.toArray/\xs.length<=sizeLine:=by
 rcases h with h|⟨o,i,n,u,l,hd,y,B,r⟩
 .obtain⟨z,i,n,r,e⟩:=h.ok j.hok;exact⟨i,r,⟨_,n,e,rfl,rfl,rfl⟩,z⟩
 .refine⟨i.toList,r,⟨o,n,j.kIn a o u,l,hd,by simpa using y⟩,?_⟩;have e:=r.length
  grind
def Inv.tupleN(j:Inv X K4 Z H s)(h:SqT X.K H a xs):∃i:SX,aL xs i/\je s.heap a i.toArray/\xs.length<=sizeLine:=by
 rcases h with h|⟨o,i,n,y,u,l,B,r⟩
 .obtain⟨z,i,r,p⟩:=h.ok j.hok;exact⟨i,r,p,z⟩
 .refine⟨i.toList,r,⟨o,j.kIn a o y,u,⟨n,by simpa using l.1⟩,l.2⟩,?_⟩;have e:=r.length
  grind
def Inv.tuple(j:Inv X K4 Z H s)(h:SqT X.K H a xs):∃i:SX,aL xs i/\IsTup s.heap a i.toArray/\xs.length<=sizeLine :=
 let⟨i,r,p,z⟩:=j.tupleN h
 ⟨i,r,p.tup,z⟩
def Inv.list_inj(j:Inv X K4 Z H s)(h:SqL X.K H a xs)(B:SqL X.K H a ys):xs=ys:=by
 obtain⟨l,r,⟨o,n,e,_,_,d⟩,_⟩:=j.list h;obtain⟨i,z,⟨C,E,u,_,_,y⟩,_⟩:=j.list B;rw[e]at u;cases u;rw[d]at y;injection y with d1 _
 have:l=i:=by simpa using congrArg Array.toList d1
 subst this;exact r.inj z
def Inv.tuple_inj(j:Inv X K4 Z H s)(h:SqT X.K H a xs)(B:SqT X.K H a ys):xs=ys:=by
 obtain⟨l,r,⟨o,e,_,n,d⟩,_⟩:=j.tuple h;obtain⟨i,z,⟨C,u,_,E,y⟩,_⟩:=j.tuple B;rw[e]at u;cases u;rw[d]at y;injection y with d1 _
 have:l=i:=by simpa using congrArg Array.toList d1
 subst this;exact r.inj z
end
abbrev Cx.wish(X:Cx)(E:SK):Cx:={ X with xe:=E}
abbrev Cx.nox(X:Cx):Cx:=X.wish λ_ _=>False
def Cx.Ok.wish{X:Cx}(ok:X.Ok)(E:SK):(X.wish E).Ok :=
 ⟨ok.mod,ok.kind,ok.glob,ok.blt,ok.above,ok.inj,ok.has,ok.cab,ok.hd,ok.frames,ok.stk,ok.exf,ok.bs,ok.bsz,ok.noex,ok.exfs,ok.funs,ok.frf,ok.tree,ok.top⟩
def Cx.Ok.unwish{X:Cx}{E:SK}(ok:(X.wish E).Ok):X.Ok :=
 ⟨ok.mod,ok.kind,ok.glob,ok.blt,ok.above,ok.inj,ok.has,ok.cab,ok.hd,ok.frames,ok.stk,ok.exf,ok.bs,ok.bsz,ok.noex,ok.exfs,ok.funs,ok.frf,ok.tree,ok.top⟩
section
variable{X:Cx}{K4:List (Addr × Obj)}{Z:St}{H:Hp}{s:Shared}{E:SK}
def Inv.wish(a:Inv X K4 Z H s)(E:SK):Inv (X.wish E) K4 Z H s:=⟨a.ok.wish E,a.os,a.bare,a.base,a.loc,a.cell,a.free,a.freeC,a.pin,a.hok,a.len⟩
def Inv.unwish(a:Inv (X.wish E) K4 Z H s):Inv X K4 Z H s:=⟨a.ok.unwish,a.os,a.bare,a.base,a.loc,a.cell,a.free,a.freeC,a.pin,a.hok,a.len⟩
def SP.unwish(h:SP (X.wish E) K4 D f s'):SP X K4 D f s':=by
 cases f with
 |next=>obtain⟨i,j,a,q⟩:=h;exact⟨i,j,a.unwish,q⟩
 |brk=>obtain⟨i,j,a,q⟩:=h;exact⟨i,j,a.unwish,q⟩
 |cont=>obtain⟨i,j,a,q⟩:=h;exact⟨i,j,a.unwish,q⟩
 |ret u=>obtain⟨v,i,j,a,r,q⟩:=h;exact⟨v,i,j,a.unwish,r,q⟩
def PSs.nox{st:Sq}{t:TS}(h:PSs X.nox st t):PSs X st t:=λK4 s Z H D a hw =>
 wpAny_mono (h K4 s Z H D (a.wish _) hw) (λ_ _ q=>q.unwish) λ_ _ z=>False.elim z
end
section
variable{X:Cx}{st:Stmt}{rest:Sq}{t u:TS}{e:Expr}{te:TE}{pos:Pos}
def Kb:TS:=λD Z H=>D.nx Z H
def Kc(t u:TS):TS:=λD Z H=>t { D with nx:=u D} Z H
def CW:PSs X [] Kb:=λ_ _ Z H _ a h=>wpAny_execs_nil ⟨Z,H,a,h⟩
def tN(C:PS X st t)(B:PSs X rest u):PSs X (st::rest) (Kc t u):=by
 intro i s Z H D a h;refine wpAny_execs_cons (ln (C i s Z H { D with nx:=u D} a h) λf j q=>?_)
 cases f with
 |next =>
  obtain⟨l,z,y,q⟩:=q;exact B i j l z D y q
 |ret v=>exact q
 |brk=>exact q
 |cont=>exact q
def qS(i:PS X st t):PSs X [st] t:=by
 intro j s Z H D a h;refine wpAny_execs_cons (ln (i j s Z H D a h) λf l q=>?_)
 cases f with
 |next=>exact wpAny_execs_nil q
 |ret v=>exact q
 |brk=>exact q
 |cont=>exact q
def Inv.quiet{i:SA}{Z:St}{H:Hp}{s:Shared}(a:Inv X i Z H s):interactive X.env=T:=by simp[interactive,a.ok.kind]
def E9(te:TE):TS:=λD Z H=>te Z H λ_ a=>D.nx Z a
def vh(y:PE X e te)(B:swapsWith e Y pos.line X.env=pure T:=by rfl):PS X (.Expr e pos) (E9 te):=by intro l s Z H D a h;exact wpAny_Expr_any (ln (y l s Z H _ a h) λv C ⟨x,z,i,E,j⟩=>⟨Z,z,i,j⟩) a.quiet B
def OF(te:TE):TS:=λD Z H=>te Z H D.rt
def Gj(z:PE X e te):PS X (.Return (J e) pos) (OF te):=by intro y s Z H D a h;exact wpAny_Return_some (ln (z y s Z H _ a h) λv C ⟨x,B,i,j,l⟩=>⟨x,Z,B,i,j,l⟩)
def OG(c:TT)(t u:TS):TS:=λD Z H=>c Z H λb a=>if b=I then t D Z a else u D Z a
def Kd(C:PT X c tc)(E:PSs X a t)(F:PSs X b u):PS X (.If c a b pos) (OG tc t u):=by
 intro j s Z H D i h;refine wpAny_If (ln (C j s Z H _ i h) λd l ⟨B,y,z⟩=>?_)
 cases d with
 |true=>exact E j l Z B D y z
 |false=>exact F j l Z B D y z
end
abbrev TG:=V->St->Hp->(St->Hp->Prop)->Prop
abbrev JB:=List V->St->Hp->(St->Hp->Prop)->Prop
def PG(X:Cx)(a:Expr)(t:TG):Prop :=
 ∀(i:SA)(s:Shared)(Z:St)(H:Hp)(v:V)(u:Value)(Q:St->Hp->Prop),Inv X i Z H s->aO v u->t v Z H Q ->
  wpAny (model X.prog X.w) X.A (assign a X.env u) (λ_ j=>SN X i Q j) X.xe s
def PGs(X:Cx)(u:SG)(t:JB):Prop :=
 ∀(j:SA)(s:Shared)(Z:St)(H:Hp)(a:List V)(i:SX)(Q:St->Hp->Prop),Inv X j Z H s->aL a i->t a Z H Q ->
  wpAny (model X.prog X.w) X.A (assignInOrder ((assignEach u X.env).map (·.2)) i) (λ_ l=>SN X j Q l) X.xe s
abbrev Ke:=V->V->V->Hp->(Hp->Prop)->Prop
inductive SE(X:Cx)(K4:SA)(Z:St)(Q:Hp->Prop)(s':Shared):Prop
 |mk(H':Hp)(i:Inv X K4 Z H' s')(q:Q H'):SE X K4 Z Q s'
def Kg(X:Cx)(t:Ke):Prop :=
 ∀(j:SA)(s:Shared)(Z:St)(H:Hp)(o i v:V)(ov a u:Value)(Q:Hp->Prop),Inv X j Z H s->aO o ov->aO i a->aO v u->t o i v H Q ->
  wpAny (model X.prog X.w) X.A (setItem ov a u) (λ_ l=>SE X j Z Q l) X.xe s
section
variable{X:Cx}{pos:Pos}
def E_(i:Nat):TG:=λv Z H Q=>Q (Z.set i (J v)) H
def vg(hN:X.N.Nodup)(j:X.N[i]?=J x)(l:Loc X.env.scope x)(hf:X.fn x=I\/X.env.scope.names.lookup x=J .local:=by first | exact .inl rfl | exact .inr rfl | assumption):PG X (.Name x pos) (E_ i):=by intro B s Z H v u Q a r h;exact wpAny_assign_Name (jl a hN j l r (λz y=>⟨_,H,y,h⟩) hf)
def OH:JB:=λa Z H Q=>a=[]/\Q Z H
def Kh(t:TG)(u:JB):JB:=λa Z H Q=>∃v r,a=v::r/\t v Z H λi j=>u r i j Q
def CY:PGs X [] OH:=by intro l s Z H i j Q a r h;obtain⟨e,h⟩:=h;subst e;cases r;exact assignInOrder_nil ⟨Z,H,a,h⟩
def A7(B:PG X e t)(z:PGs X es u)(E:(assignEach (e::es) X.env).map (·.2)=assign e X.env::(assignEach es X.env).map (·.2):=by rfl):PGs X (e::es) (Kh t u):=by
 intro i s Z H L M Q a r h;obtain⟨v,O,e1,h⟩:=h;subst e1
 cases r with
 |cons r l =>
  rw[E];refine assignInOrder_cons (ln (B i s Z H _ _ _ a r h) λ_ j ⟨F,G,C,y⟩=>?_);exact z i j F G _ _ Q C l y
def OI(K:g_)(n:Nat)(t:JB):TG:=λv Z H Q=>∃a xs,v=.ref a/\SqT K H a xs/\xs.length=n/\t xs Z H Q
def Gk{j:SG}{k:Nat}{t:JB}{n:Nat}(B:X.calm=I)(h:PGs X j t)(z:(assignEach j X.env).length=n:=by rfl)(l:(assignEach j X.env).findIdx? (·.1)=Y:=by rfl):PG X (.Tuple j k pos) (OI X.K n t):=by
 intro C s Z H v u Q i r hw;obtain⟨a,xs,e1,G,hl,hw⟩:=hw;subst e1;cases r;obtain⟨M,y,E,P⟩:=i.tuple G;refine assign_Tuple_tuple (i.ok.hd B) E (by simp[z,<-hl,y.length]) l λO L=>?_;have F:=i.kept (t':=s.toks) λb o e=>L b o (x5 (pk e)) e;exact h C _ Z H xs _ Q F (by simpa using y) hw
def OK(to u:TE)(t:Ke):TG:=λv Z H Q=>to Z H λo l=>u Z l λi a=>t o i v a λj=>Q Z j
def Gm(S:PE X o to)(C:PE X i ti)(P:Kg X t)(ha:∀v,assign (.Subscript o i pos) X.env v=(do
   let ov <-holding [v] (eval o X.env)
   let a <-holding [v,ov] (eval i X.env)
   standAt pos
   holding [v,ov,a] (setItem ov a v)
   release [v,ov,a] []):=by intro _;rfl):PG X (.Subscript o i pos) (OK to ti t):=by
 intro j s Z H v u Q l r h;refine hG (wpAny_holding (ln (S j s Z H _ l h) λov z ⟨x,H1,O,U,F⟩=>?_));refine hG (wpAny_holding (ln (C j z Z H1 _ O F) λa M ⟨y,G,B,W,q2⟩=>?_));refine hG (wpAny_standAt (hG (wpAny_holding (ln (P j M Z G x y v ov a u _ B U W r q2) λ_ s3 ⟨R,E,L⟩=>?_))));exact wpAny_release ⟨Z,R,E,L⟩
def Ki(a:TE)(g:TG):TS:=λD Z H=>a Z H λx i=>g x Z i D.nx
def Gn(C:PE X e te)(hg:PG X tg g)(z:swapsWithSole [tg] e pos.line X.env=pure T:=by rfl)(hw:swappedStores [tg] e X.env=pure Y:=by rfl)(u:(assignEach [tg] X.env).map (·.2)=[assign tg X.env]:=by rfl):PS X (.Assign [tg] e pos) (Ki te g):=by
 intro i s Z H D a h;refine wpAny_Assign_stores (ln (C i s Z H _ a h) λv j ⟨x,E,y,B,l⟩=>?_) z hw;rw[u];exact ln (hg i j Z E x v _ y B l) λ_ F q=>q
def yK(hN:X.N.Nodup)(l:X.N[i]?=J x)(F:Loc X.env.scope x)(G:PE X e te)(C:swapsWith e (J (.Name x pos')) pos.line X.env=pure T:=by rfl)(hf:X.fn x=I\/X.env.scope.names.lookup x=J .local:=by first | exact .inl rfl | exact .inr rfl | assumption):
  PS X (.Assign [.Name x pos'] e pos) (Ki te (E_ i)):=by
 intro z s Z H D a h;refine wpAny_Assign_Name (ln (G z s Z H _ a h) λv M ⟨y,L,B,E,u⟩=>?_) C;exact jl B hN l F E (λO j=>⟨_,L,j,u⟩) hf
def OL(i j:Nat)(l:TA):TS:=λD Z H=>l Z H λa u=>∃v w,a=[v,w]/\D.nx ((Z.set i (J v)).set j (J w)) u
def Go{kt k2 pt2}(hc:X.calm=I)(hN:X.N.Nodup)(S:X.N[i]?=J x)(Q:X.N[j]?=J y)(F:i≠j)(M:X.env.scope.names.lookup x=J .local)(O:X.env.scope.names.lookup y=J .local)(ha:PA X [a,b] ta)(hw:swappedStores [.Tuple [.Name x px,.Name y py] kt pt] (.Tuple [a,b] k2 pt2) X.env=pure (J [x,y]))(hs:swapsWithSole [.Tuple [.Name x px,.Name y py] kt pt] (.Tuple [a,b] k2 pt2) pos.line X.env=pure T:=by rfl):
  PS X (.Assign [.Tuple [.Name x px,.Name y py] kt pt] (.Tuple [a,b] k2 pt2) pos) (OL i j ta):=by
 intro G s Z H D z h;refine hG (wpAny_standAt ?_);refine hG (o_ ?_);refine hG (Tuple_ (ln (ha _ G s Z H _ z h) λus l ⟨vs,P,I1,r1,E⟩=>?_));obtain⟨v,w,e1,E⟩:=E;subst e1;obtain⟨B,u,rfl,rv,rw'⟩:∃B u,us=[B,u]/\aO v B/\aO w u:=by
  cases r1 with
  |cons p q =>
   cases q with
   |cons U q' =>
    cases q';exact⟨_,_,rfl,p,U⟩
 refine wpAny_newObj_type ?_ (by show 2<=sizeLine;decide);have R:Inv X G Z P { l with heap:=l.heap.push { cls:=.type "tuple",data:=.seq [B,u].toArray}}:=I1.kept (t':=l.toks) λb o e=>n3 _ e;rw[hw];show wpAny (model X.prog X.w) X.A (do rule "assign.swapped-stores";let items <-unpackItems (.ref l.heap.objs.size) 2 Y;assignInOrder [λv=>bindName X.env y v,λv=>bindName X.env x v] items.reverse;pure Flow.next) _ _ _;refine hG (wpAny_rule (hG (unpackItems_tuple (items:=#[B,u]) (z.ok.hd hc) (IsTup.new l.heap _) λh' C=>?_)));have W:=R.kept (h':=h') (t':=l.toks) λb o e=>C b o (x5 (pk e)) e;refine hG (assignInOrder_cons (wpAny_bindName (jl W hN Q (.inl O) rw' (λs2 I4=>?_) (.inr O))));refine assignInOrder_cons (wpAny_bindName (jl I4 hN S (.inl M) rv (λs3 L=>assignInOrder_nil (o_ ?_)) (.inr M)));rw[List.set_comm _ _ (Ne.symm F)]at L;exact⟨_,P,L,E⟩
def Gp(c:TT)(u:TS):TS:=λD Z H=>∃W:Nat->St->Hp->Prop,(∃m,W m Z H)/\∀m Z H,W m Z H ->
 c Z H λb j=>if b=I then ∃N:St->Hp->Prop,(∀a l,N a l->∃i,i<m/\W i a l)/\u { D with nx:=N,ct:=N,bk:=D.nx} Z j else D.nx Z j
def Bm(Q:PassesOwn (model X.prog X.w) X.A X.env X.xe)(hc:PT X c tc)(hb:PSs X body tb):PS X (.While c body [] pos) (Gp tc tb):=by
 intro E s Z H D F h;obtain⟨W,⟨m0,U⟩,turn⟩:=h;refine wpAny_While (codeAny_whileLoop (λn s'=>∃L O,Inv X E L O s'/\W n L O) ?_ m0 ⟨Z,H,F,U⟩);rintro n S ⟨l,R,I1,w1⟩;refine wpAny_passesOwn Q (ln (hc E S l R _ I1 (turn n l R w1)) λb s2 ⟨P,M,u⟩=>?_)
 cases b with
 |true =>
  obtain⟨N,hN,u⟩:=u;refine wpAny_passesOwn Q (ln (hb E s2 l P _ M u) λf s3 j=>?_)
  cases f with
  |next =>
   obtain⟨a,i,y,B⟩:=j;obtain⟨G,C,z⟩:=hN a i B;exact⟨G,C,a,i,y,z⟩
  |cont =>
   obtain⟨a,i,y,B⟩:=j;obtain⟨G,C,z⟩:=hN a i B;exact⟨G,C,a,i,y,z⟩
  |brk=>exact j
  |ret v=>exact j
 |false =>
  exact wpAny_execs_nil ⟨l,P,M,u⟩
end
structure It where
 go:Nat->Hp->Prop
 yld:Nat->Hp->V->Hp->Prop
 stop:Nat->Hp->Prop
def jd(X:Cx)(a:SA)(H:Hp)(b:Addr):Prop :=
 H b=Y/\b≠X.env.locals/\b∉X.fs/\(b∈X.ex\/X.s₀.heap.objs.size<=b)/\(∀x c,X.env.cells.lookup x=J c->c≠b)/\∀p∈X.pn++a,p.1≠b
def Inv.fpOk{X:Cx}{j:SA}{Z:St}{H H':Hp}{s:Shared}{b:Addr}(a:Inv X j Z H s)(i:s.heap.objs.size<=b)(l:H' b=Y):jd X j H' b:=by
 refine⟨l,BP (vv a.lt i),a.nofs i,.inr (n_ a.sz i),λx c e z=>?_,λp u z=>?_⟩
 .obtain⟨v,q⟩:=a.cell x c e;exact absurd (vv q.lt (by rw[z];exact i)) (BQ _)
 .exact absurd (vv (pk (a.pin p u).1) (by rw[z];exact i)) (BQ _)
inductive QS(X:Cx)(K4:SA)(Z:St)(u:Value)(Y:V->Hp->Prop)(n:Heap->Prop)(fp:SW)(s2:Shared):Prop
 |mk(x:V)(H':Hp)(i:Inv X K4 Z H' s2)(r:aO x u)(y:Y x H')(t:n s2.heap)(f:∀b∈fp,H' b=none):QS X K4 Z u Y n fp s2
structure B6(P:Program)(w:World)(K:g_)(tg:Expr)(J:It)(fp:SW)(it:Addr)(tn:Nat->Heap->Prop):Prop where
 mem:it∈fp
 obj:∀i h,tn i h->∀b∈fp,∃o,h.get? b=some o/\∀v,o.data≠.cell v
 keep:∀i h h',tn i h->(∀b∈fp,∀o,h.get? b=some o->h'.get? b=some o)->tn i h'
 item:∀(X:Cx),X.prog=P->X.w=w->X.K=K->X.calm=I->∀(i:Nat)(K4:SA)(s:Shared)(Z:St)(H:Hp)(E:SK),Inv X K4 Z H s->(∀b∈fp,jd X K4 H b)->tn i s.heap->J.go i H ->
  wpAny (model P w) X.A (pyNext (.ref it)) (λr s1=>∃u,r=some u /\
   wpAny (model P w) X.A (letOwnedTupleGo tg (.ref it) u) (λ_ s2=>QS X K4 Z u (J.yld i H) (tn (i+1)) fp s2) E s1) E s
 done:∀(X:Cx),X.prog=P->X.w=w->X.K=K->X.calm=I->∀(i:Nat)(K4:SA)(s:Shared)(Z:St)(H:Hp)(E:SK),Inv X K4 Z H s->(∀b∈fp,jd X K4 H b)->tn i s.heap->J.stop i H ->
  wpAny (model P w) X.A (pyNext (.ref it)) (λr s1=>r=Y/\Inv X K4 Z H s1) E s
 self:∀(A:Around)(i:Nat)(s:Shared)(Q:SK)(E:SK),tn i s.heap->Q (.ref it) s->wpAny (model P w) A (pyIter (.ref it)) Q E s
abbrev TI:=St->Hp->(It->Hp->Prop)->Prop
inductive OM(X:Cx)(K4:SA)(Z:St)(tg:Expr)(R:It->Hp->Prop)(itv:Value)(s2:Shared):Prop
 |mk(it:Addr)(fp:SW)(tn:Nat->Heap->Prop)(J:It)(H':Hp)(e:itv=.ref it)(i:Inv X K4 Z H' s2)(t:B6 X.prog X.w X.K tg J fp it tn)(n:tn 0 s2.heap)(f:∀b∈fp,jd X K4 H' b)(r:R J H'):OM X K4 Z tg R itv s2
def PI(X:Cx)(j a:Expr)(u:TI):Prop :=
 ∀(i:SA)(s:Shared)(Z:St)(H:Hp)(R:It->Hp->Prop),Inv X i Z H s->u Z H R ->
  wpAny (model X.prog X.w) X.A (eval a X.env) (λv l=>wpAny (model X.prog X.w) X.A (pyIter v) (OM X i Z j R) X.xe l) X.xe s
def wI(j:s.heap.get? it=J o)(l:o.cls=.type n)(hd:o.data=.fields vs)(i:["enumerate","zip","dict_itemiterator","dict_reverseitemiterator","odict_iterator","itertools.zip_longest","itertools.pairwise"].contains n=T)(a:Q () s):wpAny M A (letOwnedTupleGo tg (.ref it) u) Q E s:=by
 cases tg<;>first
  |exact o_ a
  | (cases u<;>first
    |exact o_ a
    | (refine hG (wpAny_load j ?_)
       rw[l,hd];show wpAny M A (if(["enumerate","zip","dict_itemiterator","dict_reverseitemiterator","odict_iterator","itertools.zip_longest","itertools.pairwise"].contains n&&vs[0]? == J (rawInt _))=I then _ else _) Q E s;rw[h8 (by intro h;rw[i]at h;cases h)]
       exact o_ a))
def ON(K:g_)(a:Addr):It :=
 ⟨λi H=>∃xs x,SqL K H a xs/\xs[i]?=J x,λi H x j=>j=H/\∀xs,SqL K H a xs->xs[i]?=J x,λi H=>∃xs,SqL K H a xs/\xs.length<=i⟩
def QT(K:g_)(a:Addr):It :=
 ⟨λi H=>∃xs x,SqT K H a xs/\xs[i]?=J x,λi H x j=>j=H/\∀xs,SqT K H a xs->xs[i]?=J x,λi H=>∃xs,SqT K H a xs/\xs.length<=i⟩
def Nj(lo:Int)(n:Nat):It:=⟨λi _=>i<n,λi H x a=>a=H/\x=.int (lo+i),λi _=>n<=i⟩
def yf{P:Program}{w:World}{K:g_}{tg:Expr}(a y:Addr):B6 P w K tg (ON K a) [y] y (λi h=>h.IsListIter y a i) where
 mem:=by simp
 obj:=λi h st b l=>by
  have e:b=y:=by simpa using l
  subst e;obtain⟨o,e,c,d⟩:=st;exact⟨o,e,λv z=>by rw[d]at z;cases z⟩
 keep:=λi h h' st k=>st.at λo e=>k y (by simp) o e
 item:=by intro X R hw W hc i K4 s Z H E j hf st hg;subst R hw W;obtain⟨xs,x,C,S⟩:=hg;obtain⟨U,G,p,hz⟩:=j.list C;obtain⟨u,hu,ru⟩:=G.get S;obtain⟨L,O,f2,F,M,Q⟩:=hf y (by simp);refine wpAny_pyNext_list_item st p.isList (by simpa using hu) λh' B sb=>?_;have I1:=j.turned (t':=s.toks) (λb o l e=>(sb.2 b l).trans e) L O F M Q;obtain⟨o,e,c,d⟩:=id B;exact⟨u,rfl,wI e c d (by decide) ⟨x,H,I1,ru,⟨rfl,λys hy=>by rw[j.list_inj hy C];exact S⟩,B,λb l=>(hf b l).1⟩⟩
 done:=by intro X R hw W hc i K4 s Z H E j hf st hg;subst R hw W;obtain⟨xs,C,S⟩:=hg;obtain⟨U,G,p,hz⟩:=j.list C;obtain⟨L,O,f2,F,M,Q⟩:=hf y (by simp);have hl:=G.length;exact wpAny_pyNext_list_end (j.ok.hd hc) st p.isList (by simp;lia) λh' eb=>⟨rfl,j.turned (t':=s.toks) (λb o l e=>eb b o l e) L O F M Q⟩
 self:=λ_ _ _ _ _ st h=>wpAny_pyIter_listiter st h
def wm{P:Program}{w:World}{K:g_}{tg:Expr}(a y:Addr):B6 P w K tg (QT K a) [y] y (λi h=>h.IsTupleIter y a i) where
 mem:=by simp
 obj:=λi h st b l=>by
  have e:b=y:=by simpa using l
  subst e;obtain⟨o,e,c,d⟩:=st;exact⟨o,e,λv z=>by rw[d]at z;cases z⟩
 keep:=λi h h' st k=>st.at λo e=>k y (by simp) o e
 item:=by intro X R hw W hc i K4 s Z H E j hf st hg;subst R hw W;obtain⟨xs,x,C,S⟩:=hg;obtain⟨U,G,p,hz⟩:=j.tuple C;obtain⟨u,hu,ru⟩:=G.get S;obtain⟨L,O,f2,F,M,Q⟩:=hf y (by simp);refine wpAny_pyNext_tuple_item st (p) (by simpa using hu) λh' B sb=>?_;have I1:=j.turned (t':=s.toks) (λb o l e=>(sb.2 b l).trans e) L O F M Q;obtain⟨o,e,c,d⟩:=id B;exact⟨u,rfl,wI e c d (by decide) ⟨x,H,I1,ru,⟨rfl,λys hy=>by rw[j.tuple_inj hy C];exact S⟩,B,λb l=>(hf b l).1⟩⟩
 done:=by intro X R hw W hc i K4 s Z H E j hf st hg;subst R hw W;obtain⟨xs,C,S⟩:=hg;obtain⟨U,G,p,hz⟩:=j.tuple C;obtain⟨L,O,f2,F,M,Q⟩:=hf y (by simp);have hl:=G.length;exact wpAny_pyNext_tuple_end (j.ok.hd hc) st (p) (by simp;lia) λh' eb=>⟨rfl,j.turned (t':=s.toks) (λb o l e=>eb b o l e) L O F M Q⟩
 self:=λ_ _ _ _ _ st h=>wpAny_pyIter_tupleiter st h
def w5{P:Program}{w:World}{K:g_}{S:Expr}(j:Addr)(lo:Int)(n:Nat):B6 P w K S (Nj lo n) [j] j (λi h=>IsRangeIter h j (lo+(i:Nat)*1) ((n:Int)-(i:Nat)) 1) where
 mem:=by simp
 obj:=λi h st b l=>by
  have e:b=j:=by simpa using l
  subst e
  exact⟨_,st,λv z=>by
   have U:=z
   cases U⟩
 keep:=λi h F st k=>k j (by simp) _ st
 item:=by intro X Q hw R B i O s Z H E a hf st hg;subst Q hw R;obtain⟨C,L,f2,y,G,M⟩:=hf j (by simp);have W:=Walks.range (prog:=X.prog) (w:=X.w) (a.ok.hd B) j lo 1 n;refine W.item i s _ _ hg st λv F tk hv u kk=>?_;obtain⟨t,rfl⟩:=hv;have I1:Inv X O Z H { s with heap:=F,toks:=tk}:=a.turned (λb o l e=>kk b o (by simpa using l) e) C L y G M;refine⟨_,rfl,wI u rfl rfl (by decide) ⟨.int (lo+i),H,I1,⟨t,?_⟩,⟨rfl,rfl⟩,u,λb l=>(hf b l).1⟩⟩;rw[Int.mul_one]
 done:=by intro X Q hw R B i O s Z H E a hf st hg;obtain⟨C,L,f2,y,G,M⟩:=hf j (by simp);exact wpAny_pyNext_range_end (a.ok.hd B) st (by have:n<=i:=hg;lia) λF eb=>⟨rfl,a.turned (t':=s.toks) (λb o l e=>eb b o l e) C L y G M⟩
 self:=λ_ _ _ _ _ st h=>wpAny_pyIter_rangeiter st h
section
variable{X:Cx}{tg:Expr}
def Kj(K:g_)(tl:TE):TI:=λZ H R=>tl Z H λx i=>∃a,x=.ref a/\(∃xs,SqL K i a xs)/\R (ON K a) i
def OO(K:g_)(tl:TE):TI:=λZ H R=>tl Z H λx i=>∃a,x=.ref a/\(∃xs,SqT K i a xs)/\R (QT K a) i
def CZ{l:Expr}{tl:TE}(hl:PE X l tl):PI X tg l (Kj X.K tl):=by
 intro B s Z H R u h;refine ln (hl B s Z H _ u h) λv i ⟨x,G,j,C,z⟩=>?_;obtain⟨a,e,⟨xs,E⟩,q⟩:=z;subst e;cases C;obtain⟨F,L,p,M⟩:=j.list E;refine wpAny_pyIter_list p.isList ?_;refine⟨i.heap.objs.size,[i.heap.objs.size],_,_,G,rfl,j.kept (t':=i.toks) λb o e=>n3 _ e,yf a _,⟨_,A0 _ rfl,rfl,rfl⟩,λb y=>?_,q⟩;have e:b=i.heap.objs.size:=by simpa using y
 subst e;exact j.fpOk (l_ _) (j.hok.fresh (l_ _))
def Gq{l:Expr}{tl:TE}(hl:PE X l tl):PI X tg l (OO X.K tl):=by
 intro B s Z H R u h;refine ln (hl B s Z H _ u h) λv i ⟨x,G,j,C,z⟩=>?_;obtain⟨a,e,⟨xs,E⟩,q⟩:=z;subst e;cases C;obtain⟨F,L,p,M⟩:=j.tuple E;refine wpAny_pyIter_tuple (p) ?_;refine⟨i.heap.objs.size,[i.heap.objs.size],_,_,G,rfl,j.kept (t':=i.toks) λb o e=>n3 _ e,wm a _,⟨_,A0 _ rfl,rfl,rfl⟩,λb y=>?_,q⟩;have e:b=i.heap.objs.size:=by simpa using y
 subst e;exact j.fpOk (l_ _) (j.hok.fresh (l_ _))
def AE{i:SA}{Z:St}{H:Hp}{s:Shared}{R:It->Hp->Prop}{E:SK}{lo a:Int}{t u v:Tok}{tk:Nat}(l:Inv X i Z H s)(F:-(2^62)<=lo)(C:lo<2^62)(B:-(2^62)<=a)(z:a<2^62)(q:R (Nj lo (a-lo).toNat) H):wpAny (model X.prog X.w) X.A (pyIter (.ref s.heap.objs.size)) (OM X i Z tg R) E { s with heap:=s.heap.push { cls:=.type "range",data:=.fields #[.int lo t,.int a u,.int 1 v]},toks:=tk}:=by
 refine wpAny_pyIter_range (IsRange.new ..) (small_one F C B z) ?_;have j:Inv X i Z H { s with heap:=s.heap.push { cls:=.type "range",data:=.fields #[.int lo t,.int a u,.int 1 v]},toks:=tk}:=l.kept λb o e=>n3 _ e
 refine⟨(s.heap.push { cls:=.type "range",data:=.fields #[.int lo t,.int a u,.int 1 v]}).objs.size,[(s.heap.push { cls:=.type "range",data:=.fields #[.int lo t,.int a u,.int 1 v]}).objs.size],_,_,H,rfl,
  j.kept (t':=tk) λb o e=>n3 _ e,w5 _ lo (a-lo).toNat,?_,λb y=>?_,q⟩
 .have e1:lo+((0:Nat):Int)*1=lo:=by simp
  have e2:(((a-lo).toNat:Nat):Int)-((0:Nat):Int)=Builtin.Range.rangeSize lo a 1:=by rw[rangeSize_one];split<;>lia
  rw[e1,e2];exact A0 _ rfl
 .have e:b=(s.heap.push { cls:=.type "range",data:=.fields #[.int lo t,.int a u,.int 1 v]}).objs.size:=by simpa using y
  subst e;exact j.fpOk (l_ _) (j.hok.fresh (l_ _))
def Kk(i:TA):TI:=λZ H R=>i Z H λa l=>∃j:Int,a=[.int j] /\ -(2^62)<=j/\j<2^62/\R (Nj 0 j.toNat) l
def yv{a:Expr}{y:TA}{p i:Pos}(hg:Gl X "range")(B:X.mg "range"=Y)(G:PA X [a] y)(F:starEach [a] X.env=[(T,eval a X.env)]:=by rfl):PI X tg (.Call (.Name "range" p) [a] [] i) (Kk y):=by
 intro C s Z H R l h;refine Call_ (jv l hg B boot_range (PyProof.Rows.callWith_type1 (ln (G i C s Z H _ l h) λP O ⟨Q,S,E,L,u⟩=>?_) F rfl));obtain⟨j,e,u,M,q⟩:=u;subst e
 cases L with
 |cons r z =>
  cases z;obtain⟨t,rfl⟩:=r;exact call_range_1 (AE E ⋯ ⋯ u M (by simpa using q))
def OP(z:TI)(g:TG)(B:TS):TS:=λD Z H=>z Z H λa E=>∃W:Nat->Nat->St->Hp->Prop,(∃m,W 0 m Z E)/\∀i m Z H,W i m Z H ->
 (a.stop i H/\D.nx Z H)\/(a.go i H/\∃N:St->Hp->Prop,(∀l j,N l j->∃u,u<m/\W (i+1) u l j)/\∀x j,a.yld i H x j->g x Z j λC y=>B { D with nx:=N,ct:=N,bk:=D.nx} C y)
def mw(a:SW)(h:Heap):SA:=a.filterMap λb=>(h.get? b).map λo=>(b,o)
def iR(a:b∈fp)(e:h.get? b=J o):(b,o)∈mw fp h:=M6.mpr ⟨b,a,by rw[e];rfl⟩
def za(j:p∈mw fp h):p.1∈fp/\h.get? p.1=J p.2:=by
 obtain⟨b,i,e⟩:=M6.mp j
 cases q:h.get? b with
 |none=>rw[q]at e;cases e
 |some o =>
  rw[q]at e;have a:=Option.some.inj e;subst a;exact⟨i,q⟩
def Inv.pinned{i:SA}{Z:St}{H:Hp}{s:Shared}{j:SW}(a:Inv X i Z H s)(hf:∀b∈j,jd X i H b)(u:∀b∈j,∃o,s.heap.get? b=J o/\∀v,o.data≠.cell v):Inv X (i++mw j s.heap) Z H s :=
 a.pins_of λp y=>(Ci.mp y).elim (λz=>a.pin p (xf _ z)) λz=>by
  obtain⟨l,e⟩:=za z;obtain⟨B,E,C,_⟩:=hf p.1 l;obtain⟨o,F,d⟩:=u p.1 l
  simp_all
def Inv.unpinned{K4 pl:SA}{Z:St}{H:Hp}{s:Shared}(a:Inv X (K4++pl) Z H s):Inv X K4 Z H s:=a.pins_of λp i=>a.pin p (xf _ (F1 _ i))
def Gs(R:PassesOwn (model X.prog X.w) X.A X.env X.xe)(hc:X.calm=I)(hi:PI X tg iter wi)(hg:PG X tg g)(j:PSs X body tb)(hs:∀x,foldedSetIterable iter X.env x=pure x:=by intro _;rfl):PS X (.For tg iter body [] pos) (OP wi g tb):=by
 intro G s Z H D ak h;refine wpAny_For (ln (hi G s Z H _ ak h) λv s1 h1=>ln h1 λan s2 h2=>?_) hs;obtain⟨it,O,tn,ap,H2,e,I2,a,al,f2,W,⟨m0,w0⟩,turn⟩:=h2;subst e;have B:∀{C:Hp},(∀b∈O,C b=Y)->∀b∈O,jd X G C b:=λhn b j=>⟨hn b j,(f2 b j).2⟩;refine codeAny_forLoop_any (λn s'=>∃i L C,Inv X G L C s'/\tn i s'.heap/\(∀b∈O,C b=Y)/\W i n L C) ?_ m0 ⟨0,Z,H2,I2,al,λb j=>(f2 b j).1,w0⟩;rintro n s3 ⟨i,S,U,I3,Q,P,w3⟩;rcases turn i n S U w3 with⟨stop,qn⟩|⟨go,N,hN,step⟩
 .refine wpAny_passesOwn R (ln (a.done X rfl rfl rfl hc i G s3 S U X.xe I3 (B P) Q stop) λr s4 ⟨hr,I4⟩=>?_);subst hr;exact wpAny_execs_nil ⟨S,U,I4,qn⟩
 .refine wpAny_passesOwn R (ln (a.item X rfl rfl rfl hc i G s3 S U X.xe I3 (B P) Q go) λr s4 ⟨u,hr,h4⟩=>?_);subst hr;refine wpAny_passesOwn R (ln h4 λ_ s5 ⟨x,H5,I5,r5,y5,F,ai⟩=>?_);have ab:=I5.pinned (B ai) (a.obj _ _ F);refine wpAny_passesOwn R (ln (hg _ s5 S H5 x u _ ab r5 (step x H5 y5)) λ_ s6 ⟨Z6,H6,I6,q6⟩=>?_);refine wpAny_passesOwn R (ln (j _ s6 Z6 H6 _ I6 q6) λf s7 E=>?_);have again:∀{z:St}{y:Hp},Inv X (G++mw O s5.heap) z y s7->N z y->∃m,m<n/\∃i L C,Inv X G L C s7/\tn i s7.heap/\(∀b∈O,C b=Y)/\W i m L C:=λ{z y} l M=>by
   obtain⟨m',hm,w7⟩:=hN z y M;refine⟨m',hm,i+1,z,y,l.unpinned,a.keep _ _ _ F λb j o e=>(l.pin (b,o) (xf _ (xf _ (iR j e)))).1,λb j=>?_,w7⟩;obtain⟨o,e,d⟩:=a.obj _ _ F b j;exact(l.pin (b,o) (xf _ (xf _ (iR j e)))).2.1
  cases f with
  |next=>obtain⟨z,y,l,M⟩:=E;exact again l M
  |cont=>obtain⟨z,y,l,M⟩:=E;exact again l M
  |brk=>obtain⟨z,y,l,E⟩:=E;exact⟨z,y,l.unpinned,E⟩
  |ret v=>obtain⟨x7,z,y,l,r7,E⟩:=E;exact⟨x7,z,y,l.unpinned,r7,E⟩
end
abbrev R2:=V->V->Hp->VK->Prop
def OpR(X:Cx)(f:Value->Value->Sem Value)(r:R2):Prop :=
 ∀(a:SA)(s:Shared)(Z:St)(H:Hp)(x y:V)(v u:Value)(Q:VK),Inv X a Z H s->aO x v->aO y u->r x y H Q ->
  wpAny (model X.prog X.w) X.A (f v u) (EP X a Z Q) X.xe s
def Nk(X:Cx)(f:Value->Sem Value)(r:V->Hp->VK->Prop):Prop :=
 ∀(a:SA)(s:Shared)(Z:St)(H:Hp)(x:V)(v:Value)(Q:VK),Inv X a Z H s->aO x v->r x H Q ->
  wpAny (model X.prog X.w) X.A (f v) (EP X a Z Q) X.xe s
def dy(X:Cx)(f:Value)(r:List V->Hp->VK->Prop):Prop :=
 ∀(i:SA)(s:Shared)(Z:St)(H:Hp)(xs:List V)(a:SX)(Q:VK),Inv X i Z H s->aL xs a->r xs H Q ->
  wpAny (model X.prog X.w) X.A (call f a) (EP X i Z Q) X.xe s
def OQ(X:Cx)(r:V->Hp->(Bool->Hp->Prop)->Prop):Prop :=
 ∀(a:SA)(s:Shared)(Z:St)(H:Hp)(x:V)(v:Value)(Q:Bool->Hp->Prop),Inv X a Z H s->aO x v->r x H Q ->
  wpAny (model X.prog X.w) X.A (truthy v) (TP X a Z Q) X.xe s
def Kl(r:R2)(j i:TE):TE:=λZ H Q=>j Z H λx l=>i Z l λy a=>r x y a Q
def RU(r:V->Hp->VK->Prop)(a:TE):TE:=λZ H Q=>a Z H λx i=>r x i Q
def rI(C:Int->Int->Prop)(g:Int->Int->V):R2:=λx y H Q=>∃i j,x=.int i/\y=.int j/\C i j/\Q (g i j) H
def C0(g:Int->Int->V):R2:=λx y H Q=>∃i j,x=.int i/\y=.int j/\Q (g i j) H
def rU(g:Int->V):V->Hp->VK->Prop:=λx H Q=>∃i,x=.int i/\Q (g i) H
section
variable{X:Cx}{a b c:Expr}{ta tb tc:TE}{pos:Pos}
def Gu(P:PE X a ta)(L:PE X b tb){z:SA}{s:Shared}{Z:St}{H:Hp}{R:V->V->Hp->Prop}(C:Inv X z Z H s)(h:ta Z H λx E=>tb Z E λy i=>R x y i){Q:SK}{f:Value->Value->Sem Value}(hf:∀v u B x y i,Inv X z Z i B->aO x v->aO y u->R x y i->wpAny (model X.prog X.w) X.A (f v u) Q X.xe B):
  wpAny (model X.prog X.w) X.A (eval a X.env) (λv j=>wpAny (model X.prog X.w) X.A (eval b X.env) (λu l=>wpAny (model X.prog X.w) X.A (f v u) Q X.xe l) X.xe j) X.xe s:=by
 refine ln (P z s Z H _ C h) λv F ⟨x,E,O,S,M⟩=>?_;refine ln (L z F Z E _ O M) λu B ⟨y,i,G,W,U⟩=>?_;exact hf v u B x y i G S W U
def Km{j:Operator}{r:R2}(M:OpR X (binaryOp j) r)(L:PE X a ta)(z:PE X b tb):PE X (.BinOp a j b pos) (Kl r ta tb):=by intro C s Z H Q i h;exact wpAny_BinOp (Gu L z i h λv u G x y F l B E q=>M C G Z F x y v u Q l B E q)
def Kn(y:Nk X (unaryOp op) r)(C:PE X a ta):PE X (.UnaryOp op a pos) (RU r ta):=by intro j s Z H Q i h;exact UnaryOp_ (ln (C j s Z H _ i h) λv l ⟨x,E,u,z,B⟩=>y j l Z E x v Q u z B)
def RV{f:Value->Value->Sem Value}{C:Int->Int->Prop}{g:Int->Int->Int}(rule:∀(i j:Int)(t u:Tok)(s:Shared)(Q:SK)(E:SK),C i j->Q (.int (g i j) s.toks) { s with toks:=s.toks+1}->wpAny (model X.prog X.w) X.A (f (.int i t) (.int j u)) Q E s):
  OpR X f (rI C λi j=>.int (g i j)):=by
 intro L s Z H x y v u Q l z F h;obtain⟨i,j,rfl,rfl,B,q⟩:=h;obtain⟨t,rfl⟩:=z;obtain⟨G,rfl⟩:=F;exact rule i j t G s _ _ B ⟨.int (g i j),H,l.tok _,⟨_,rfl⟩,q⟩
def Ko{f:Value->Value->Sem Value}{g:Int->Int->Int}(rule:∀(i j:Int)(t u:Tok)(s:Shared)(Q:SK)(E:SK),Q (.int (g i j) s.toks) { s with toks:=s.toks+1}->wpAny (model X.prog X.w) X.A (f (.int i t) (.int j u)) Q E s):
  OpR X f (C0 λi j=>.int (g i j)):=by
 intro F s Z H x y v u Q l z B h;obtain⟨i,j,rfl,rfl,q⟩:=h;obtain⟨t,rfl⟩:=z;obtain⟨C,rfl⟩:=B;exact rule i j t C s _ _ ⟨.int (g i j),H,l.tok _,⟨_,rfl⟩,q⟩
def C2{f:Value->Value->Sem Value}{g:Int->Int->Bool}(rule:∀(i j:Int)(t u:Tok)(s:Shared)(Q:SK)(E:SK),Q (.bool (g i j)) s->wpAny (model X.prog X.w) X.A (f (.int i t) (.int j u)) Q E s):
  OpR X f (C0 λi j=>.bl (g i j)):=by
 intro F s Z H x y v u Q l z B h;obtain⟨i,j,rfl,rfl,q⟩:=h;obtain⟨t,rfl⟩:=z;obtain⟨C,rfl⟩:=B;exact rule i j t C s _ _ ⟨.bl (g i j),H,l,rfl,q⟩
def gC(i j:Int):Prop:=0<=j/\j<=1000000/\i.natAbs<2^64
def Gw:OpR X (binaryOp .Add) (C0 λi j=>.int (i+j)):=Ko λ_ _ _ _ _ _ _ q=>add_int q
def Gx:OpR X (binaryOp .Sub) (C0 λi j=>.int (i-j)):=Ko λ_ _ _ _ _ _ _ q=>sub_int q
def Gy:OpR X (binaryOp .Pow) (rI gC λi j=>.int (i^j.toNat)):=RV λ_ _ _ _ _ _ _ l q=>pow_int_small l.1 l.2.1 l.2.2 q
def RW{f:Value->Sem Value}{g:Int->Int}(rule:∀(i:Int)(t:Tok)(s:Shared)(Q:SK)(E:SK),Q (.int (g i) s.toks) { s with toks:=s.toks+1}->wpAny (model X.prog X.w) X.A (f (.int i t)) Q E s):
  Nk X f (rU λi=>.int (g i)):=by
 intro u s Z H x v Q j l h;obtain⟨i,rfl,q⟩:=h;obtain⟨t,rfl⟩:=l;exact rule i t s _ _ ⟨.int (g i),H,j.tok _,⟨_,rfl⟩,q⟩
def Gz:Nk X (unaryOp .USub) (rU λi=>.int (-i)):=RW λ_ _ _ _ _ q=>neg_int q
def GA{l:SA}{Z:St}{H:Hp}{s:Shared}{Q:VK}{k j:Bool}(i:Inv X l Z H s)(q:Q (.bl k) H)(e:k=j):EP X l Z Q (.bool j) s:=by subst e;exact⟨.bl k,H,i,rfl,q⟩
def Kq:OpR X (compareOp .Lt) (C0 λi j=>.bl (decide (i<j))):=C2 λ_ _ _ _ _ _ _ q=>lt_int q
def Kr:OpR X (compareOp .LtE) (C0 λi j=>.bl (decide (i<=j))):=C2 λ_ _ _ _ _ _ _ q=>le_int q
def Ks:OpR X (compareOp .Gt) (C0 λi j=>.bl (decide (j<i))):=C2 λ_ _ _ _ _ _ _ q=>gt_int q
def Kt:OpR X (compareOp .GtE) (C0 λi j=>.bl (decide (j<=i))):=C2 λ_ _ _ _ _ _ _ q=>ge_int q
def GB:OpR X (compareOp .Is) (λx y H Q=>y=.non/\Q (.bl (decide (x=.non))) H):=by
 intro z s Z H x y v u Q i l j h;obtain⟨rfl,q⟩:=h;cases j;refine is_none_gen (GA i q ?_);cases x<;>first
  |(obtain⟨t,rfl⟩:=l;rfl)
def Ck(b:Expr)(h:op≠.In:=by decide)(i:op≠.NotIn:=by decide):behindInMarks op b=T:=by
 have e1:(op==CmpOp.In)=T:=by cases op<;>first | rfl | exact absurd rfl h
 have e2:(op==CmpOp.NotIn)=T:=by cases op<;>first | rfl | exact absurd rfl i
 cases b<;>simp[behindInMarks,e1,e2]
def C3{i:CmpOp}{r:R2}(O:OpR X (compareOp i) r)(M:PE X a ta)(z:PE X b tb)(C:behindInMarks i b=T):PE X (.Compare a [i] [b] pos) (Kl r ta tb):=by intro E s Z H Q j h;exact wpAny_Compare1 (Gu M z j h λv u L x y G l B F q=>O E L Z G x y v u Q l B F q) C
def Ku(t:TE):TT:=λZ H Q=>t Z H λx i=>∃k,x=.bl k/\Q k i
def C4(U:OpR X (compareOp op) r)(S:PE X a ta)(C:PE X b tb)(G:behindInMarks op b=T):PT X (.Compare a [op] [b] pos) (Ku (Kl r ta tb)):=by
 intro i s Z H Q j h
 refine wpAny_isTrue_Compare1 (ln (S i s Z H _ j h) λv l ⟨x,H1,P,r1,F⟩=>ln (C i l Z H1 _ P F) λu O ⟨y,L,B,r2,q2⟩ =>
  ln (U i O Z L x y v u _ B r1 r2 q2) λc s3 ⟨z,R,E,W,k,e,M⟩=>?_) G
 subst e;cases W;exact wpAny_truthy_bool ⟨R,E,M⟩
def zG(r j:R2)(ta tb tc:TE):TE:=λZ H Q=>ta Z H λx C=>tb Z C λy l=>r x y l λz i=>∃k,z=.bl k /\
 (if k=I then tc Z i λB u=>j y B u Q else Q (.bl T) i)
def zU(ho:OpR X (compareOp op) r)(l:OpR X (compareOp op') r')(ha:PE X a ta)(O:PE X b tb)(S:PE X c tc)(hm:lastMarks [op,op'] [b,c]=T:=by with_unfolding_all rfl):PE X (.Compare a [op,op'] [b,c] pos) (zG r r' ta tb tc):=by
 intro i s Z H Q j h
 refine Compare_chain (ln (ha i s Z H _ j h) λv L ⟨x,H1,I1,r1,q1⟩=>chain_link (ln (O i L Z H1 _ I1 q1) λu s2 ⟨y,H2,M,F,q2⟩ =>
  ln (ho i s2 Z H2 x y v u _ M r1 F q2) λd P ⟨z,E,B,r3,k,e,C⟩=>?_)) hm
 subst e;cases r3;refine wpAny_truthy_bool ?_
 cases k with
 |false=>exact ite_ff ⟨.bl T,E,B,rfl,C⟩
 |true=>exact ite_tt (chain_last (ln (S i P Z E _ B C) λw' G ⟨W,R,I4,r4,U⟩=>l i G Z R y W u w' Q I4 F r4 U))
def Kv(K:g_)(x:V)(H:Hp)(k:Bool):Prop :=
 match x with
 |.non=>k=T
 |.bl b=>k=b
 |.int i=>k=(i != 0)
 |.str y=>y.length<=sizeLine/\k=((y.length:Int) != 0)
 |.byt y=>y.size<=sizeLine/\k=((y.size:Int) != 0)
 |.ref p=>(∃xs,SqL K H p xs/\k=!xs.isEmpty)\/(∃xs,SqT K H p xs/\k=!xs.isEmpty)\/∃j,H p=J (.dK j)/\k=!j.isEmpty
 |_=>False
def xc{κ:Type}{i:List (κ×V)}{j:List (κ×Value)}(r:KV i j):(!j.isEmpty)=!i.isEmpty:=by cases r<;>rfl
def oW(r:aL xs its):(!its.toArray.isEmpty)=!xs.isEmpty:=by cases r<;>simp
def pq:(sizeLine:Nat)<2^63:=by rw[sizeLine_eq];decide
def tX:OQ X (λx H Q=>∃k,Kv X.K x H k/\Q k H):=by
 intro P s Z H x v Q j B h;obtain⟨k,e,q⟩:=h;have R:sizeLine=16777216:=sizeLine_eq
 cases x with
 |non =>
  cases B;have l:k=T:=e;subst l;exact truthy_none ⟨H,j,q⟩
 |bl b =>
  cases B;have l:k=b:=e;subst l;exact wpAny_truthy_bool ⟨H,j,q⟩
 |int i =>
  obtain⟨t,rfl⟩:=B;have l:k=(i != 0):=e;subst l;exact PySem.P.truthy_int ⟨H,j,q⟩
 |str y =>
  obtain⟨t,rfl⟩:=B;obtain⟨O,l⟩:y.length<=sizeLine/\k=((y.length:Int) != 0):=e;subst l;exact PySem.P.truthy_str ⋯ ⟨H,j.tok _,q⟩
 |byt y =>
  obtain⟨t,rfl⟩:=B;obtain⟨O,l⟩:y.size<=sizeLine/\k=((y.size:Int) != 0):=e;subst l;exact PySem.W.truthy_bytes ⋯ ⟨H,j.tok _,q⟩
 |ref p =>
  cases B;have l:(∃xs,SqL X.K H p xs/\k=!xs.isEmpty)\/(∃xs,SqT X.K H p xs/\k=!xs.isEmpty)\/∃u,H p=J (.dK u)/\k=!u.isEmpty:=e;rcases l with⟨xs,C,l⟩|⟨xs,C,l⟩|⟨u,C,l⟩
  .subst l;obtain⟨G,r,F,L⟩:=j.list C;have z:=r.length;exact wpAny_truthy_list F.isList (by simp only[z_];lia) ⟨H,j.tok _,by rw[oW r];exact q⟩
  .subst l;obtain⟨G,r,F,L⟩:=j.tuple C;have z:=r.length;exact truthy_tuple F (by simp only[z_];lia) ⟨H,j.tok _,by rw[oW r];exact q⟩
  .subst l;obtain⟨L,M,E,r,m⟩:u.length<=sizeLine/\(p==sysModules)=T/\∃E,KV u E/\s.heap.DictOf (fP X.prog X.w) p E:=j.hok p _ C;have z:u.length=E.length:=Paired.length r;exact wpAny_truthy_dict M m ⋯ ⟨H,j.tok _,by rw[xc r];exact q⟩
 |_=>exact(show False from e).elim
def A5(C:PE X a ta)(F:∀i,isTrue a X.env i=(do let v <-i;standAt a.pos;holding [v] (truthy v))):
  PT X a (λZ H Q=>ta Z H λx l=>∃k,Kv X.K x l k/\Q k l):=by
 intro u s Z H Q j h;exact isTrue_plain (ln (C u s Z H _ j h) λv y ⟨x,G,B,E,z⟩=>tX u y Z G x v Q B E z) (F _)
def xy:OpR X (binaryOp .Add) (λx y H Q=>∃i j,x=.str i/\y=.str j/\i.length+j.length<=sizeLine/\Q (.str (i++j)) H):=by intro F s Z H x y v u Q l z B h;obtain⟨i,j,rfl,rfl,C,q⟩:=h;obtain⟨t,rfl⟩:=z;obtain⟨E,rfl⟩:=B;exact add_str (λE tk=>⟨.str (i++j),H,l.tok _,⟨_,rfl⟩,q⟩) C
def jx(r:aL [x] us):∃u,us=[u]/\aO x u:=by
 cases r with
 |cons i j=>cases j;exact⟨_,rfl,i⟩
def vals2(r:aL [x,y] us):∃u i,us=[u,i]/\aO x u/\aO y i:=by
 cases r with
 |cons z B =>
  cases B with
  |cons j l=>cases l;exact⟨_,_,rfl,z,j⟩
def AO:dy X (.builtin "abs") (λxs H Q=>∃i,xs=[.int i]/\Q (.int (if i<0 then -i else i)) H):=by intro y s Z H xs l Q j r h;obtain⟨i,rfl,q⟩:=h;obtain⟨u,rfl,t,rfl⟩:=jx r;exact call_abs_int λu tk=>⟨.int (if i<0 then -i else i),H,j.tok _,⟨_,rfl⟩,q⟩
def zb(z:X.calm=I):dy X (.builtin "max") (λxs H Q=>∃i j,xs=[.int i,.int j]/\Q (.int (if j>i then j else i)) H):=by
 intro B s Z H xs E Q l r h;obtain⟨i,j,rfl,q⟩:=h;obtain⟨u,F,rfl,⟨t,rfl⟩,⟨G,rfl⟩⟩:=vals2 r;refine max_two_ints (l.ok.hd z) λC tk k=>⟨_,H,l.kept k,?_,q⟩;by_cases y:j>i
 .rw[e_ y,e_ y];exact⟨_,rfl⟩
 .rw[h8 y,h8 y];exact⟨_,rfl⟩
def zK(z:X.calm=I):dy X (.builtin "min") (λxs H Q=>∃i j,xs=[.int i,.int j]/\Q (.int (if j<i then j else i)) H):=by
 intro B s Z H xs E Q l r h;obtain⟨i,j,rfl,q⟩:=h;obtain⟨u,F,rfl,⟨t,rfl⟩,⟨G,rfl⟩⟩:=vals2 r;refine min_two_ints (l.ok.hd z) λC tk k=>⟨_,H,l.kept k,?_,q⟩;by_cases y:j<i
 .rw[e_ y,e_ y];exact⟨_,rfl⟩
 .rw[h8 y,h8 y];exact⟨_,rfl⟩
def rK:dy X (.type "int") (λxs H Q=>(∃i,xs=[.int i]/\Q (.int i) H)\/∃k,xs=[.bl k]/\Q (.int (if k then 1 else 0)) H):=by
 intro z s Z H xs y Q j r h;rcases h with⟨i,rfl,q⟩|⟨k,rfl,q⟩
 .obtain⟨u,rfl,t,rfl⟩:=jx r;exact call_int_int ⟨.int i,H,j,⟨_,rfl⟩,q⟩
 .obtain⟨u,rfl,l⟩:=jx r;cases l;exact call_int_bool ⟨.int (if k then 1 else 0),H,j.tok _,⟨_,rfl⟩,q⟩
def OS(K:g_)(x:V)(H:Hp)(n:Nat):Prop :=
 match x with
 |.str y=>y.length<=sizeLine/\n=y.length
 |.byt y=>y.size<=sizeLine/\n=y.size
 |.ref p=>(∃xs,SqL K H p xs/\n=xs.length)\/∃xs,SqT K H p xs/\n=xs.length
 |_=>False
def k6:dy X (.builtin "len") (λxs H Q=>∃x n,xs=[x]/\OS X.K x H n/\Q (.int n) H):=by
 intro M s Z H xs P Q i r h;obtain⟨x,n,rfl,e,q⟩:=h;obtain⟨u,rfl,B⟩:=jx r;have O:=sizeLine_eq
 cases x with
 |str y =>
  obtain⟨t,rfl⟩:=B;obtain⟨L,l⟩:=e;subst l;exact len_str ⋯ ⟨.int _,H,i.tok _,⟨_,rfl⟩,q⟩
 |byt y =>
  obtain⟨t,rfl⟩:=B;obtain⟨L,l⟩:=e;subst l;exact PySem.W.len_bytes ⋯ ⟨.int _,H,i.tok _,⟨_,rfl⟩,q⟩
 |ref p =>
  cases B;have l:=e;rcases l with⟨xs,E,l⟩|⟨xs,E,l⟩
  .subst l;obtain⟨F,z,C,G⟩:=i.list E;have j:=z.length;exact Calls.call_len_list C.isList (by simp only[z_];lia) ⟨.int xs.length,H,i.tok _,⟨_,by simp only[z_];rw[j]⟩,q⟩
  .subst l;obtain⟨F,z,C,G⟩:=i.tuple E;have j:=z.length;exact len_tuple C (by simp only[z_];lia) ⟨.int xs.length,H,i.tok _,⟨_,by simp only[z_];rw[j]⟩,q⟩
 |_=>exact(e).elim
end
def ii.some_of(r:ii (J v) o):∃u,o=J u/\aO v u:=by
 cases o with
 |none=>exact(r).elim
 |some u=>exact⟨u,rfl,r⟩
def ii.none_of(r:ii Y o):o=Y:=by
 cases o with
 |none=>rfl
 |some u=>exact(show False from r).elim
section
variable{X:Cx}{K4:List (Addr × Obj)}{Z:St}{H:Hp}{s:Shared}{a C dx:Addr}{fs:List (Str × V)}{f:Str}{v:V}{A:Around}{E:SK}
def C5(j:attributeBase e f env (eval e env)=eval e env)(h:wpAny (model prog w) A (eval e env) (λo i=>wpAny (model prog w) A (getAttr o f I) Q E i) E s):wpAny (model prog w) A (eval (.Attribute e f pos) env) Q E s :=
 Attribute_any_ h (by rw[arm_eval_Attribute,j])
end
structure Room(k:Nat)(A:Around):Prop where
 hd:A.handled=Y
 dp:A.depth+3*k+105<recursionLimit
 un:A.units+16*k+200<cLine
 gd:A.guards=J []
def Room.mono(r:Room k A)(h:j<=k):Room j A:=⟨r.hd,by have:=r.dp;lia,by have:=r.un;lia,r.gd⟩
def Room.deeper(r:Room (k+1) A)(env:Env):Room k (A.deeper env) :=
 ⟨r.hd,by have:=r.dp;show A.depth+1+3*k+105<_;lia,by have:=r.un;show A.units+3+16*k+200<_;lia,r.gd⟩
def wB{A:Around}{C:Addr}{i:SX}{a:List (Str×Value)}:(A.under (.builtin "type.__call__" ⟨.ref C::i,a⟩)).depth=A.depth+1:=rfl
def wt{A:Around}{C:Addr}{i:SX}{a:List (Str×Value)}:(A.under (.builtin "type.__call__" ⟨.ref C::i,a⟩)).units=A.units+1:=rfl
def Room.make(r:Room (k+1) A)(C:Addr)(i:SX)(a:List (Str×Value)):Room k (A.under (.builtin "type.__call__" ⟨.ref C::i,a⟩)) :=
 ⟨r.hd,by have:=r.dp;rw[wB];lia,by have:=r.un;rw[wt];lia,r.gd⟩
def Room.depth(r:Room k A):A.depth<recursionLimit:=by have:=r.dp;lia
def Room.units(r:Room k A):A.units+64<cLine:=by have:=r.un;lia
def Kw:TA:=λ_ H Q=>Q [] H
def wZ(j:TE)(i:TA):TA:=λZ H Q=>j Z H λx l=>i Z l λxs a=>Q (x::xs) a
section
variable{X:Cx}{e:Expr}{es:SG}{te:TE}{t:TA}{pos:Pos}
def jq:PA X [] Kw:=λ_ _ _ _ H Q a h=>Calls.spliced_nil ⟨[],H,a,.nil,h⟩
def cV(E:PE X e te)(hr:PA X es t)(C:starEach (e::es) X.env=(T,eval e X.env)::starEach es X.env:=by rfl):PA X (e::es) (wZ te t):=by intro pos i s Z H Q a h;rw[C];show wpAny _ _ (spliced ((T,eval e X.env)::backTo pos (starEach es X.env))) _ _ s;refine Calls.spliced_cons (ln (E i s Z H _ a h) λu j ⟨x,M,B,F,y⟩=>?_);exact ln (hr pos i j Z M _ B y) λP O ⟨xs,z,l,G,L⟩=>⟨x::xs,z,l,.cons F G,L⟩
def OT(t:TA):TE:=λZ H Q=>t Z H λxs a=>xs.length<=sizeLine/\∀p,a p=Y->Q (.ref p) (upd a p (.tup xs))
def OU(t:TA):TE:=λZ H Q=>t Z H λxs a=>xs.length<=sizeLine/\∀p,a p=Y->Q (.ref p) (upd a p (.lst xs))
def uv{x1}(h:PA X es t):PE X (.Tuple es x1 pos) (OT t):=by intro l s Z H Q i B;refine wpAny_Tuple_spliced (ln (h pos l s Z H _ i B) λy a ⟨xs,C,j,r,z,q⟩=>⟨by rw[<-r.length];exact z,?_⟩);have hf:=j.hok.fresh (l_ _);refine⟨.ref a.heap.objs.size,upd C a.heap.objs.size (.tup xs),j.laid (t':=a.toks) (λb u e=>n3 _ e) (l_ _) ?_,rfl,q _ hf⟩;exact⟨z,y,r,⟨_,A0 _ rfl,rfl,⟨_,rfl⟩,rfl⟩⟩
def GC(h:PA X es t):PE X (.List es pos) (OU t):=by intro l s Z H Q i B;refine wpAny_List_spliced (ln (h pos l s Z H _ i B) λy a ⟨xs,C,j,r,z,q⟩=>⟨by rw[<-r.length];exact z,?_⟩);have hf:=j.hok.fresh (l_ _);refine⟨.ref a.heap.objs.size,upd C a.heap.objs.size (.lst xs),j.laid (t':=a.toks) (λb u e=>n3 _ e) (l_ _) ?_,rfl,q _ hf⟩;exact⟨z,y,0,r,A0 _ rfl⟩
end
abbrev Sp:=List V->Hp->VK->XK->Prop
abbrev Co:=List Env->Hp->Shared->XK->Value->Shared->Prop
structure Env0(P:Program)(w:World)(K:g_)(mg:Sn)(base:Heap)(A:Around)(outer:List Env)(s:Shared)(H:Hp):Prop where
 frames:A.frames=J outer
 mod:Mod K mg base
 bs:∀b o,base.get? b=J o->s.heap.get? b=J o/\H b=Y
 bsz:base.objs.size<=s.heap.objs.size
 funs:s.heap.FunFrames base outer
 frf:∀b∈Al outer,H b=Y
 hok:HOk P w H s.heap
 bare:AllBare s.gens
 tree:P.given.tree=Y
inductive CE(outer:List Env)(P:Program)(w:World)(H:Hp)(s:Shared)(Q:VK)(u:Value)(s':Shared):Prop
 |mk(v:V)(H':Hp)(o:s'.os=s.os)(b:AllBare s'.gens)(n:Un (Al outer) [] H H' s.heap s'.heap)(k:HOk P w H' s'.heap)(r:aO v u)(q:Q v H'):CE outer P w H s Q u s'
def CR(i:Co)(outer:List Env)(P:Program)(w:World)(H:Hp)(s:Shared)(Q:VK)(E:XK)(r:Result)(a:Shared):Prop :=
 match r with
 |.ok (.ret u)=>CE outer P w H s Q u a
 |.ok _=>False
 |.error e=>i outer H s E e a
structure FnOk(P:Program)(w:World)(K:g_)(mg:Sn)(base:Heap)(CX:Co)(k:Nat)(f:Addr)(fd:FuncData)(ps:SQ)(sp:Sp):Prop where
 len:∀vs H Q E,sp vs H Q E->vs.length=ps.length
 run:∀(A:Around)(outer:List Env)(s:Shared)(H:Hp)(args:Args)(us:SX)(vs:List V)(Q:VK)(E:XK),Room k A->Env0 P w K mg base A outer s H->BindsTo s fd args (ps.zip us)->aL vs us->sp vs H Q E ->
  codeAny (model P w) A (.call (.ref f) args) (CR CX outer P w H s Q E) s
def FnOk.mono{P:Program}{w:World}{K:g_}{mg:Sn}{base:Heap}{l:Co}{j k:Nat}{f:Addr}{fd:FuncData}{i:SQ}{u:Sp}(F:FnOk P w K mg base l j f fd i u)(h:j<=k):
  FnOk P w K mg base l k f fd i u:=⟨F.len,λA outer s H a y z Q E hr=>F.run A outer s H a y z Q E (hr.mono h)⟩
def FnOk.imp{P:Program}{w:World}{K:g_}{mg:Sn}{base:Heap}{u:Co}{k:Nat}{f:Addr}{fd:FuncData}{l:SQ}{y i:Sp}(F:FnOk P w K mg base u k f fd l y)(h:∀a H Q E,i a H Q E->y a H Q E):FnOk P w K mg base u k f fd l i :=
 ⟨λa H Q E q=>F.len a H Q E (h _ _ _ _ q),λA outer s H j C a Q E hr G z hv B=>F.run A outer s H j C a Q E hr G z hv (h _ _ _ _ B)⟩
def Env0.make{P:Program}{w:World}{K:g_}{mg:Sn}{base:Heap}{A:Around}{outer:List Env}{s:Shared}{H:Hp}(e:Env0 P w K mg base A outer s H)(C:Addr)(i:SX)(a:List (Str×Value)):
  Env0 P w K mg base (A.under (.builtin "type.__call__" ⟨.ref C::i,a⟩)) outer s H:=⟨by first | exact e.frames | (simpa using e.frames),e.mod,e.bs,e.bsz,e.funs,e.frf,e.hok,e.bare,e.tree⟩
section
variable{X:Cx}{K4:List (Addr × Obj)}{Z:St}{H:Hp}{s s':Shared}
def Inv.env0(a:Inv X K4 Z H s):Env0 X.prog X.w X.K X.mg X.base X.A X.stack s H :=
 ⟨a.ok.frames,a.ok.mod,a.bs,n_ a.ok.bsz a.sz,a.stack,a.stkFree,a.hok,a.bare,a.ok.tree⟩
def Inv.after(a:Inv X K4 Z H s)(h:CE X.stack X.prog X.w H s Q u s'):EP X K4 Z Q u s':=by obtain⟨v,l,os,bare,un,hok,r,q⟩:=h;obtain⟨j,g,d,t,i⟩:=s';obtain rfl:=os;exact⟨v,l,a.call (h':=j) (g':=g) (d':=d) (t':=t) un hok bare (λb z=>absurd z (by simp)),r,q⟩
end
def lM(K:g_)(fd:FuncData)(i:SQ)(j:SX):Prop :=
 ∀(s:Shared)(a:SX),K.In s.heap->(a++j).length=i.length->BindsTo s fd ⟨a,[]⟩ (i.zip (a++j))
def lM.all{K:g_}{fd:FuncData}{i:SQ}(h:∀a:SX,a.length=i.length->bindArgs fd ⟨a,[]⟩=pure (i.zip a)):lM K fd i []:=λs a _ hl=>by
 rw[Ju]at hl ⊢;exact .of_eq (h a hl)
structure pz(N P:SQ)(sc:Scope):Prop where
 kind:sc.kind=.function
 co:sc.isCoroutine=T
 gen:sc.isGenerator=T
 nd:N.Nodup
 pre:N.take P.length=P
 par:∀x∈P,sc.names.lookup x=J .local\/sc.names.lookup x=J .cell
 nofree:∀y∈sc.names,y.2≠.free
def rP{kindOf:Str->Option NameKind}{x:Str}:∀{binds:List (Str×Value)}{m:Sn},(∀v,(x,v)∉binds)->bindL kindOf binds m x=m x
 |[],_,_=>rfl
 |(n,v)::r,m,h=>by
  unfold bindL;rw[rP λw hw=>h w (pj _ hw)];split
  .have:x≠n:=by rintro rfl;exact h v CP
   simp[this]
  .rfl
def rj{kindOf:Str->Option NameKind}{x:Str}:∀{binds:List (Str×Value)}{m:Sn},(∀v,(x,v)∉binds)->bindC kindOf binds m x=m x
 |[],_,_=>rfl
 |(n,v)::r,m,h=>by
  unfold bindC;rw[rj λw hw=>h w (pj _ hw)];split
  .rfl
  .have:x≠n:=by rintro rfl;exact h v CP
   simp[this]
def rL{kindOf:Str->Option NameKind}{x:Str}{v:Value}:∀{P:SQ}{a:SX}{i:Nat}{m:Sn},P.Nodup->P[i]?=J x->a[i]?=J v->kindOf x=J .local ->
  bindL kindOf (P.zip a) m x=J v
 |p::P,w::a,0,m,nd,j,l,u=>by
  simp at j l;subst j;subst l;show bindL kindOf ((p,w)::P.zip a) m p=_;unfold bindL;rw[rP λv hv=>(x6.mp nd).1 (M_ hv).1,e_ u];simp
 |p::P,w::a,i+1,m,nd,j,l,u=>by
  unfold bindL;exact rL (x6.mp nd).2 (by simpa using j) (by simpa using l) u
def rS{kindOf:Str->Option NameKind}{x:Str}{v:Value}:∀{P:SQ}{a:SX}{i:Nat}{m:Sn},P.Nodup->P[i]?=J x->a[i]?=J v->kindOf x≠J .local ->
  bindC kindOf (P.zip a) m x=J v
 |p::P,w::a,0,m,nd,j,l,u=>by
  simp at j l;subst j;subst l;show bindC kindOf ((p,w)::P.zip a) m p=_;unfold bindC;rw[rj λv hv=>(x6.mp nd).1 (M_ hv).1,h8 u];simp
 |p::P,w::a,i+1,m,nd,j,l,u=>by
  unfold bindC;exact rS (x6.mp nd).2 (by simpa using j) (by simpa using l) u
def start(N:SQ)(a:List V):St:=a.map J++List.replicate (N.length-a.length) Y
def qT(u:Co)(P:Program)(w:World)(K:g_)(mg:Sn)(base:Heap)(N:SQ)(i:Str)(a:Scope)(f:Addr)(l:Value)(A:Around)(outer:List Env)(s:Shared)(H:Hp)(E:XK):Cx where
 prog:=P
 w:=w
 K:=K
 mg:=mg
 base:=base
 A:=A.deeper (envOfC i a s.heap.objs.size f l)
 N:=N
 s₀:=s
 H₀:=H
 env:=envOfC i a s.heap.objs.size f l
 outer:=outer
 stack:=envOfC i a s.heap.objs.size f l::outer
 ex:=[]
 calm:=I
 fn:=λ_=>I
 pn:=[]
 xe:=λe y=>wpAny (model P w) (A.deeper (envOfC i a s.heap.objs.size f l)) (leaving (envOfC i a s.heap.objs.size f l) e) (λ_ j=>u outer H s E e j) (λz j=>u outer H s E z j) y
def tq{a:Scope}{n:Nat}{x:Str}(h:a.names.lookup x=J .cell):∃c,(cellsFrom n a.names []).lookup x=J c:=by have q:=PySem.W.cellsFrom_some a.names n [] (.inl h);exact Option.isSome_iff_exists.mp q
def yE{Z:Co}{P:Program}{w:World}{K:g_}{mg:Sn}{base:Heap}{N F:SQ}{l:Str}{j:Scope}{f:Addr}{R:Value}{A:Around}{outer:List Env}{s X:Shared}{H:Hp}{E:XK}{W:SX}{G:List V}(S:pz N F j)(hd:A.handled=Y)(e0:Env0 P w K mg base A outer s H)(hl:G.length=F.length)(r:aL G W)(x:InCallC s s.heap.objs.size (bindL (envOfC l j s.heap.objs.size f R).kindOf (F.zip W) λ_=>Y) (cellsFrom (s.heap.objs.size+1) j.names []) (bindC (envOfC l j s.heap.objs.size f R).kindOf (F.zip W) λ_=>Y) X):
  Inv (qT Z P w K mg base N l j f R A outer s H E) [] (start N G) H X:=by
 have ab:F.length<=N.length:=by have:=congrArg List.length S.pre;rw[J2]at this;lia
 obtain⟨U,tk,rfl,hk⟩:=x.done;have C:∀b:Addr,b∉(qT Z P w K mg base N l j f R A outer s H E).ex:=λb z=>absurd (show b∈([]:SW)from z) (by simp)
 refine⟨⟨e0.mod,S.kind,rfl,rfl,l_ _,λy z c U B=>?_,λy O=>?_,λy c _ h=>?_,λ_=>hd,Around.frames_deeper e0.frames,.inr ⟨rfl,rfl⟩,λb z=>absurd z (C b),e0.bs,e0.bsz,λb _ _=>C b,λb z=>absurd z (C b),e0.funs,e0.frf,e0.tree,⟨_,_,rfl,S.gen,S.co,rfl,rfl⟩⟩,
  rfl,e0.bare,Un.kept hk,⟨_,x.toInCall.ns,λi y v U B h3=>?_⟩,λy c h=>⟨_,x.cell y c h⟩,e0.hok.fresh (l_ _),λy c h=>?_,λp M=>absurd (show p∈([]:SA)from M) (by simp),e0.hok.kept hk,?_⟩
 .exact name_of_addr x.apart (PySem.mem_of_lookup U) (PySem.mem_of_lookup B)
 .rcases O with O|O
  .exact tq O
  .exact absurd rfl (S.nofree _ (PySem.mem_of_lookup O))
 .exact Jy (x.above y c (PySem.mem_of_lookup h))
 .have Q:i<G.length:=by
   unfold start at B;by_cases Q:i<G.length
   .exact Q
   .rw[BL (by simpa using Q)]at B;rw[F0]at B
    split at B<;>cases B
  have ha:G[i]?=J v:=by
   unfold start at B;rw[qs (by simpa using Q),r6]at B
   cases e:G[i]? with
   |none=>rw[e]at B;cases B
   |some a=>rw[e]at B;cases B;rfl
  obtain⟨u,hu,rv⟩:=r.get ha;have M:F[i]?=J y:=by rw[<-S.pre,List.getElem?_take_of_lt ⋯];exact U
  have L:F.Nodup:=by rw[<-S.pre];exact S.nd.sublist (List.take_sublist _ _)
  refine⟨u,rv,?_⟩;rcases S.par y (BA M)with k|k
  .exact .inl ⟨k,rL L M hu k⟩
  .obtain⟨c,e⟩:=tq k;refine .inr ⟨.inl k,c,e,?_⟩;have q:=x.cell y c e;rw[rS L M hu (by show j.names.lookup y≠_;rw[k];decide)]at q;exact q
 .exact e0.hok.fresh (Jy (x.above y c (PySem.mem_of_lookup h)))
 .unfold start;show _=N.length;rw[F3,xg,JV];lia
def Fa{Z:Co}{P:Program}{w:World}{K:g_}{mg:Sn}{base:Heap}{k:Nat}{f:Addr}{G i:Str}{z:Arguments}{B:Sq}{a:Scope}{dV kV R pm l ct oc:Value}{an od:Sr}{ab:Array (SD)}{N X:SQ}{sp:Sp}(lk:K.lookup f=J ⟨oc,od,.func (PySem.W.fnOf G i z B a dV kV R pm an l ct),ab⟩)(al:PySem.W.codeIn K l i=I)(S:pz N X a)(len:∀C H Q E,sp C H Q E->C.length=X.length)(L:∀(A:Around)(outer:List Env)(s:Shared)(H:Hp)(C:List V)(Q:VK)(E:XK),Room k (A.deeper (envOfC i a s.heap.objs.size f l))->sp C H Q E ->
   ∃t,PSs (qT Z P w K mg base N i a f l A outer s H E) B t/\t { nx:=λ_ F=>Q .non F,rt:=Q} (start N C) H):
  FnOk P w K mg base Z (k+1) f (PySem.W.fnOf G i z B a dV kV R pm an l ct) X sp:=by
 refine⟨len,λA outer s H ap us C Q E hr e0 hb r U=>?_⟩;have hl:=len _ _ _ _ U;have KX:=e0.mod.kin.keeps λb o e=>(e0.bs b o e).1;have ai:=e0.mod.nolimit.keeps λb o e=>(e0.bs b o e).1;have M:∀y∈X.zip us,a.names.lookup y.1=J .local\/(a.names.lookup y.1=J .cell/\((cellsFrom (s.heap.objs.size+1) a.names []).lookup y.1).isSome=I):=λ⟨n,v⟩ hy=>by
  rcases S.par n (M_ hy).1 with q|q
  .exact .inl q
  .exact .inr ⟨q,PySem.W.cellsFrom_some _ _ _ (.inl q)⟩
 refine codeAny_call_function hr.depth (KX _ _ lk) rfl S.co S.gen rfl (PySem.W.codeRec_of KX al) (hb _ _ _ _ ?_);refine wpAny_newFunctionEnv_cells S.kind M λenv he s1 x=>?_;subst he;refine⟨ai.keeps x.toInCall.keep,codeAny_func ?_⟩;obtain⟨t,ht,hq⟩:=L A outer s H C Q E (hr.deeper _) U;have ak:Inv (qT Z P w K mg base N i a f l A outer s H E) [] (start N C) H s1:=yE S hr.hd e0 hl r x;refine wpAny_mono (ht [] s1 (start N C) H _ ak hq) (λfl s' O=>?_) λe s' O=>O;have fin:∀{W:St}{F:Hp}{v:V}{u:Value},Inv (qT Z P w K mg base N i a f l A outer s H E) [] W F s'->aO v u->Q v F->CE outer P w H s Q u s' :=
  λ{W F v u} j rv q=>⟨v,F,j.os,j.bare,j.base,j.hok,rv,q⟩
 cases fl with
 |ret u =>
  obtain⟨v,W,F,j,rv,q⟩:=O;exact fin j rv q
 |next =>
  obtain⟨W,F,j,q⟩:=O;exact fin (v:=V.non) j rfl q
 |brk =>
  obtain⟨_,_,_,q⟩:=O;exact False.elim q
 |cont =>
  obtain⟨_,_,_,q⟩:=O;exact False.elim q
section
variable{X:Cx}{x:Str}{p pos:Pos}{e:Expr}{es:SG}{t:TA}{id T:String}{r:List V->Hp->VK->Prop}
def OV(r:List V->Hp->VK->Prop)(t:TA):TE:=λZ H Q=>t Z H λa i=>r a i Q
def ox(z:dy X (.builtin id) r)(hg:Gl X x)(C:X.mg x=Y)(hv:bootBuiltins x=J (.builtin id))(G:PA X (e::es) t)(y:x≠"__name__":=by decide)(j:(x==("__debug__":Str))=false:=by decide)(E:starEach (e::es) X.env=(false,eval e X.env)::starEach es X.env:=by rfl)(i:(backTo pos (starEach es X.env)).any (·.1)=false:=by rfl):PE X (.Call (.Name x p) (e::es) [] pos) (OV r t):=by
 intro l s Z H Q a h;refine wpAny_Call_Name_kw (jv a hg C hv ?_ y j);exact PyProof.Rows.callWith_builtin1 (ln (G pos l s Z H _ a h) λM u ⟨O,P,F,L,B⟩=>z l u Z P O M Q F L B) E i
def rO(z:dy X (.type T) r)(hg:Gl X x)(C:X.mg x=Y)(hv:bootBuiltins x=J (.type T))(G:PA X (e::es) t)(y:x≠"__name__":=by decide)(j:(x==("__debug__":Str))=false:=by decide)(E:starEach (e::es) X.env=(false,eval e X.env)::starEach es X.env:=by rfl)(i:(backTo pos (starEach es X.env)).any (·.1)=false:=by rfl):PE X (.Call (.Name x p) (e::es) [] pos) (OV r t):=by
 intro l s Z H Q a h;refine wpAny_Call_Name_kw (jv a hg C hv ?_ y j);exact PyProof.Rows.callWith_type1 (ln (G pos l s Z H _ a h) λM u ⟨O,P,F,L,B⟩=>z l u Z P O M Q F L B) E i
end
end L2
namespace HT
open PyProof.Rows
section
open PySem.SeqAt
open PySem.AutoSeq1 (wpAny_loadPart')
open PySem.MeetsSeq PySem.MeetsSeq2 PySem.MeetsSeq3
end
section
variable{prog:Program}{w:World}{A:Around}{E:SK}{s:Shared}
def C6(P:IsTup s.heap t vs.toArray)(H:IsTup s.heap b ws.toArray)(hv:vs≠[])(O:ws=[]->Q (.ref t) s)(M:ws≠[]->Q (.ref s.heap.objs.size) { s with heap:=s.heap.push { cls:=.type "tuple",data:=.seq (vs++ws).toArray}})(z:vs.length+ws.length<=sizeLine):wpAny (model prog w) A (binaryOp .Add (.ref t) (.ref b)) Q E s:=by
 obtain⟨⟨cls,dd,F,G⟩,l,L,n,hd⟩:=id P;obtain⟨⟨C,i,data2,j⟩,a,y,B,u⟩:=id H;subst L hd y u;have e:vs.toArray++ws.toArray=(vs++ws).toArray:=by simp
 by_cases hw:ws=[]
 .exact concat_meets ⟨_,l,rfl⟩ ⟨_,a,rfl⟩ noFill_tuple_add seq_tuple_add PySem.F.slot_tuple_add PySem.F.entry_tuple_add (PySem.F.args_tuple_add_2 _ _)
   (tuple_addW1 t b vs.toArray ws.toArray n B dd i G j (by simpa using hv) (by simp[hw])) ⟨l,a,O hw⟩
 .refine concat_meets ⟨_,l,rfl⟩ ⟨_,a,rfl⟩ noFill_tuple_add seq_tuple_add PySem.F.slot_tuple_add PySem.F.entry_tuple_add (PySem.F.args_tuple_add_2 _ _)
   (tuple_addW2 t b vs.toArray ws.toArray n B dd i G j (by simpa using hv) (by simpa using hw) (by exact z)) ⟨l,a,?_⟩
  rw[e];exact M hw
def mA(n d:Nat):SF->Nat
 |none=>d
 |some v=>if v<0 then(v+(n:Int)).toNat else min v.toNat n
def lE(n d:Nat):mA n d Y=d:=rfl
def mY(n d k:Nat):mA n d (J (k:Int))=min k n:=rfl
def vq(v:Int)(n d:Nat):(if v<0 then max (v+(n:Int)) 0 else min v (n:Int))=((mA n d (J v):Nat):Int):=by
 show(if v<0 then max (v+(n:Int)) 0 else min v (n:Int))=(((if v<0 then(v+(n:Int)).toNat else min v.toNat n):Nat):Int)
 grind
def xp(lo a:SF)(n:Nat):Builtin.Slice.sliceAdjust lo a 1 (n:Int)=(((mA n 0 lo:Nat):Int),((mA n n a:Nat):Int)):=by
 refine Prod.ext ?_ ?_
 .cases lo with
  |none=>rfl
  |some v=>exact vq v n 0
 .cases a with
  |none=>rfl
  |some v=>exact vq v n n
def wU(i j:Nat):Builtin.Slice.slicePlaces (i:Int) (j:Int) 1=j-i:=by
 unfold Builtin.Slice.slicePlaces;have a:(1:Int)>0:=by lia
 simp only[a,if_true,Int.ediv_one]
 split<;>lia
def pJ(p:IsPart v o)(h:Q o s):wpAny (model prog w) A (Builtin.Slice.slicePartIndex v) Q E s:=by
 cases p with
 |none=>exact slicePart_none h
 |int i t=>exact slicePart_int h
def og{u:Addr}{vl l:Value}{lo a:SF}{n:Nat}{Q:Int×Int×Nat->Shared->Prop}(C:s.heap.IsSliceOf u vl l .none)(z:IsPart vl lo)(B:IsPart l a)(h:Q (((mA n 0 lo:Nat):Int),1,mA n n a-mA n 0 lo) s):wpAny (model prog w) A (Builtin.Slice.sliceApplied (.ref u) (pure (n:Int))) Q E s:=by
 obtain⟨os,i,y,j⟩:=id C;refine hG (hG (wpAny_field i j rfl (hG (wpAny_field i j rfl (hG (wpAny_field i j rfl (o_ ?_)))))));refine hG (slicePart_none ?_);refine hG (pJ z (hG (pJ B (hG (o_ ?_)))));show wpAny _ _ (match Builtin.Slice.sliceAdjust lo a 1 (n:Int)with | (lo,a)=>pure (lo,(1:Int),Builtin.Slice.slicePlaces lo a 1)) _ _ s;rw[xp lo a n];show wpAny _ _ (pure (((mA n 0 lo:Nat):Int),(1:Int),Builtin.Slice.slicePlaces ((mA n 0 lo:Nat):Int) ((mA n n a:Nat):Int) 1)) _ _ s;rw[wU];exact o_ h
def Ab(xs:Array Value)(i k:Nat):((List.range k).filterMap λ(m:Nat)=>xs[((i:Int)+(m:Int)*1).toNat]?).toArray=((xs.toList.drop i).take k).toArray:=by
 have e:(λ(m:Nat)=>xs[((i:Int)+(m:Int)*1).toNat]?)=λm=>xs[i+m]?:=by grind
 rw[e]
 have:=pick_run xs i k
 rw[List.filterMap_map]at this;have e2:((λx=>xs[x]?)∘λx=>i+x)=λm=>xs[i+m]?:=rfl;rw[e2]at this;rw[this]
def nR{t z:Addr}{items:Array Value}{vl F:Value}{lo a:SF}{Q:SK}(j:IsTup s.heap t items)(C:s.heap.IsSliceOf z vl F .none)(H:IsPart vl lo)(M:IsPart F a)(hw:¬(mA items.size 0 lo=0/\mA items.size items.size a=items.size))(h:Q (.ref s.heap.objs.size) { s with heap:=s.heap.push { cls:=.type "tuple",data:=.seq ((items.toList.drop (mA items.size 0 lo)).take (mA items.size items.size a-mA items.size 0 lo)).toArray}})(L:items.size<=sizeLine):wpAny (model prog w) A (getItem (.ref t) (.ref z)) Q E s:=by
 have i:sizeOk (.seq ((items.toList.drop (mA items.size 0 lo)).take (mA items.size items.size a-mA items.size 0 lo)).toArray):=by show((items.toList.drop (mA items.size 0 lo)).take (mA items.size items.size a-mA items.size 0 lo)).toArray.size<=sizeLine;rw[z_,J2,M8,Array.length_toList];lia
 obtain⟨os,y,u,G⟩:=id C;have B:s.TypeIs (.ref z) "slice":=⟨os,y,u⟩;unfold getItem
 try with_reducible refine wpAny_holding ?_
 refine hG (wpAny_sequenceKey j.typeIs (by decide) ?_)
 refine hG (wpAny_callSpecial?_slot j.typeIs PyProof.Rows.slot_tuple_getitem
  (wpAny_call_entry PyProof.Rows.slot_tuple_getitem j.typeIs entry_tuple_getitem ?_ (args_tuple_getitem _ _)))
 show wpAny _ _ (Builtin.Tuple.tupleItemsOf (.ref t) >>= _) _ _ s;refine hG (tupleItemsOf_ j ?_);refine hG (wpAny_typeOf B ?_);refine hG (og C H M ?_);have l:¬((((mA items.size 0 lo:Nat):Int)==0&&(1:Int)==1&&(mA items.size items.size a-mA items.size 0 lo)==items.size)=I):=by intro q;rw[Bw,Bw]at q;have O:=eq_of_beq q.1.1;have P:=eq_of_beq q.2;exact hw ⟨⋯,⋯⟩
 show wpAny _ _ (if(((mA items.size 0 lo:Nat):Int)==0&&(1:Int)==1&&(mA items.size items.size a-mA items.size 0 lo)==items.size)=I then _ else _) _ _ s;rw[h8 l,Ab]
 first
  |exact hG (m:=Builtin.Tuple.tupleExact _) (wpAny_newObj_type (hG (o_ (o_ ⟨_,rfl,o_ h⟩))) i)
end
end HT
namespace L2
open PySem.Spec PyProof.Rows
abbrev TO:=St->Hp->(SF->Hp->Prop)->Prop
def PO(X:Cx)(e:Option Expr)(t:TO):Prop :=
 ∀(a:SA)(s:Shared)(Z:St)(H:Hp)(Q:SF->Hp->Prop),Inv X a Z H s->t Z H Q ->
  wpAny (model X.prog X.w) X.A (evalPart e X.env) (λu j=>∃o i,Inv X a Z i j/\IsPart u o/\Q o i) X.xe s
def C7:TO:=λ_ H Q=>Q Y H
def Kx(t:TE):TO:=λZ H Q=>t Z H λx a=>∃i,x=.int i/\Q (J i) a
section
variable{X:Cx}{e:Expr}{te:TE}{lo hi:Option Expr}{tl th:TO}{pos p2:Pos}
def C9:PO X Y C7:=by intro i s Z H Q a h;rw[evalPart_none];exact o_ ⟨Y,H,a,.none,h⟩
def C_(h:PE X e te):PO X (J e) (Kx te):=by intro l s Z H Q a hw;refine ln (h l s Z H _ a hw) λu C ⟨x,B,y,z,j⟩=>?_;obtain⟨i,rfl,q⟩:=j;obtain⟨t,rfl⟩:=z;exact⟨J i,B,y,.int i t,q⟩
def Nl(X:Cx)(r:V->SF->SF->Hp->VK->Prop):Prop :=
 ∀(j:SA)(s:Shared)(Z:St)(H:Hp)(x:V)(v vl i:Value)(lo hi:SF)(l:Addr)(Q:VK),Inv X j Z H s->aO x v->s.heap.IsSliceOf l vl i .none->IsPart vl lo->IsPart i hi->r x lo hi H Q ->
  ∃a id,typeLookup (.type a) "__getitem__"=pure (J (.builtin id))/\s.TypeIs v a/\wpAny (model X.prog X.w) X.A (getItem v (.ref l)) (EP X j Z Q) X.xe s
def RX(r:V->SF->SF->Hp->VK->Prop)(te:TE)(tl th:TO):TE:=λZ H Q=>te Z H λx j=>tl Z j λl a=>th Z a λu i=>r x l u i Q
def Au(hr:Nl X r)(he:PE X e te)(hl:PO X lo tl)(P:PO X hi th):PE X (.Subscript e (.Slice lo hi Y p2) pos) (RX r te tl th):=by intro i s Z H Q y h;refine Subscript_ (ln (he i s Z H _ y h) λv B ⟨x,H1,W,r1,G⟩=>?_);refine wpAny_Slice (ln (hl i B Z H1 _ W G) λvl U ⟨l,O,C,E,q2⟩=>ln (P i U Z O _ C q2) λj a ⟨u,z,F,pu,R⟩=>?_);refine o_ ?_;have M:Inv X i Z z { a with heap:=a.heap.push { cls:=.type "slice",data:=.fields #[vl,j,.none]}}:=F.kept (t':=a.toks) λb ob q=>n3 _ q;obtain⟨ab,id,L,S,hg⟩:=hr i { a with heap:=a.heap.push { cls:=.type "slice",data:=.fields #[vl,j,.none]}} Z z x v vl j l u a.heap.objs.size Q M r1 (Heap.IsSliceOf.new ..) E pu R;exact tail_any S L hg (by with_unfolding_all rfl)
def oq(xs:List V)(lo hi:SF):List V:=(xs.drop (HT.mA xs.length 0 lo)).take (HT.mA xs.length xs.length hi-HT.mA xs.length 0 lo)
def nU(xs:List V)(lo hi:SF):(oq xs lo hi).length<=xs.length:=by unfold oq;rw[J2,M8];lia
def OW(K:g_):V->SF->SF->Hp->VK->Prop:=λx lo hi H Q=>∃a xs,x=.ref a/\SqT K H a xs /\
 ¬(HT.mA xs.length 0 lo=0/\HT.mA xs.length xs.length hi=xs.length)/\∀p,H p=Y->Q (.ref p) (upd H p (.tup (oq xs lo hi)))
def GD:Nl X (OW X.K):=by
 intro L s Z H x v vl O lo hi M Q j z C B F h;obtain⟨a,xs,rfl,E,hw,q⟩:=h;cases z;obtain⟨l,r,u,y⟩:=j.tuple E;have i:l.toArray.size=xs.length:=by exact r.length.symm
 refine⟨"tuple",_,PyProof.Rows.slot_tuple_getitem.lookup,u.typeIs,?_⟩;refine HT.nR u C B F (by rw[i];exact hw) ?_ (by rw[i];exact y);rw[i];refine⟨.ref s.heap.objs.size,_,j.laid (t':=s.toks) (λb G q=>n3 _ q) (l_ _) ?_,rfl,q _ (j.hok.fresh (l_ _))⟩;exact⟨n_ (nU xs lo hi) y,_,(r.drop (HT.mA xs.length 0 lo)).take (HT.mA xs.length xs.length hi-HT.mA xs.length 0 lo),je.new _ _⟩
def Ky(K:g_):R2:=λx y H Q=>∃a b xs ys,x=.ref a/\y=.ref b/\SqT K H a xs/\SqT K H b ys/\xs≠[]/\xs.length+ys.length<=sizeLine /\
 (ys=[]->Q (.ref a) H)/\(ys≠[]->∀p,H p=Y->Q (.ref p) (upd H p (.tup (xs++ys))))
def aL.nil_iff(r:aL xs us):us=[]↔xs=[]:=by
 cases r with
 |nil=>simp
 |cons _ _=>simp
def Db:OpR X (binaryOp .Add) (Ky X.K):=by intro W s Z H x y v u Q i G M h;obtain⟨a,b,xs,ys,rfl,rfl,O,E,R,C,L,P⟩:=h;cases G;cases M;obtain⟨S,l,F,_⟩:=i.tuple O;obtain⟨B,j,p2,_⟩:=i.tuple E;refine HT.C6 F p2 (λz=>R (l.nil_iff.mp z)) (λz=>⟨.ref a,H,i,rfl,L (j.nil_iff.mp z)⟩) (λz=>?_) (by rw[<-l.length,<-j.length];exact C);refine⟨.ref s.heap.objs.size,_,i.laid (t':=s.toks) (λb U q=>n3 _ q) (l_ _) ?_,rfl,P (λw=>z (j.nil_iff.mpr w)) _ (i.hok.fresh (l_ _))⟩;exact⟨by rw[F3];exact C,_,l.append j,je.new _ _⟩
end
def wG(n:Nat)(i:Int):Option Nat:=if 0<=i then(if i<n then J i.toNat else Y)else if -(n:Int)<=i then J (i+n).toNat else Y
def nw{α:Type}(xs:List α)(i:Int):Option α:=(wG xs.length i).bind λj=>xs[j]?
def j8(h:wG n i=J j):seqIndex? i n=J j/\j<n /\ -(n:Int)<=i/\i<n:=by
 unfold wG at h;by_cases l:0<=i
 .rw[e_ l]at h;by_cases a:i<n
  .rw[e_ a]at h;have e:=Option.some.inj h;exact⟨by rw[seqIndex_of l a,e],⋯,⋯,a⟩
  .rw[h8 a]at h;cases h
 .rw[h8 l]at h;by_cases a:-(n:Int)<=i
  .rw[e_ a]at h;have e:=Option.some.inj h;exact⟨by rw[seqIndex_neg ⋯ a,e],⋯,a,⋯⟩
  .rw[h8 a]at h;cases h
def qN(h:nw xs i=J v):∃j,seqIndex? i xs.length=J j/\xs[j]?=J v/\j<xs.length /\ -(xs.length:Int)<=i/\i<xs.length:=by
 unfold nw at h
 cases e:wG xs.length i with
 |none=>rw[e]at h;cases h
 |some j =>
  rw[e]at h;obtain⟨l,y,u,a⟩:=j8 e;exact⟨j,l,h,y,u,a⟩
def cK{α:Type}{xs:List α}{j:Nat}{v:α}(h:xs[j]?=J v):nw xs (j:Int)=J v:=by
 have a:=(qi.mp h).1;have e:wG xs.length (j:Int)=J j:=by
  unfold wG
  simp_all
 unfold nw;rw[e];exact h
def ko(b:Expr):Prop:=∀o i,subscripted b T o i=operate [o,i] (getItem o i)
def IxR(X:Cx)(r:R2):Prop :=
 ∀(i a:Expr)(j:SA)(s:Shared)(Z:St)(H:Hp)(x y:V)(v u:Value)(Q:VK),Inv X j Z H s->aO x v->aO y u->r x y H Q ->
  subscripted a T v u=operate [v,u] (getItem v u)->wpAny (model X.prog X.w) X.A (subscriptTail i a v u) (EP X j Z Q) X.xe s
def Kz(X:Cx)(id:String)(r:V->List V->Hp->VK->Prop):Prop :=
 ∀(i:SA)(s:Shared)(Z:St)(H:Hp)(x:V)(xs:List V)(v:Value)(a:SX)(Q:VK),Inv X i Z H s->aO x v->aL xs a->r x xs H Q ->
  wpAny (model X.prog X.w) X.A (call (.builtin id) (v::a)) (EP X i Z Q) X.xe s
section
variable{X:Cx}{a b:Expr}{ta tb:TE}{pos:Pos}
def IxR.or(h:IxR X r)(F:IxR X r'):IxR X (λx y H Q=>r x y H Q\/r' x y H Q):=by
 intro i j B s Z H x y v u Q l E C q z;rcases q with q|q
 .exact h i j B s Z H x y v u Q l E C q z
 .exact F i j B s Z H x y v u Q l E C q z
def KA{r:R2}(hr:IxR X r)(L:PE X a ta)(l:PE X b tb)(G:ko b):PE X (.Subscript a b pos) (Kl r ta tb):=by intro B s Z H Q i h;exact Subscript_ (Gu L l i h λv u F x y E j z C q=>hr a b B F Z E x y v u Q j z C q (G _ _))
def KC(K:g_):R2:=λx y H Q=>∃p xs i v,x=.ref p/\y=.int i/\SqL K H p xs/\nw xs i=J v/\Q v H
def KG(K:g_):R2:=λx y H Q=>∃p xs i v,x=.ref p/\y=.int i/\SqT K H p xs/\nw xs i=J v/\Q v H
def KH:R2:=λx y H Q=>∃z i c,x=.str z/\y=.int i/\z.length<=sizeLine/\nw z.cps.toList i=J c/\Q (.str ⟨#[c]⟩) H
def Dc:IxR X (KC X.K):=by
 intro G E W s Z H x y v u Q l R ry h P;obtain⟨p,xs,i,z,rfl,rfl,hq,he,q⟩:=h;cases R;obtain⟨t,rfl⟩:=ry;obtain⟨L,r,F,hz⟩:=l.list hq;obtain⟨j,B,h2,h3,S,U⟩:=qN he;obtain⟨w,M,rw'⟩:=r.get h2;have hl:=r.length;have hn:=pq;have fin:EP X W Z Q w s:=⟨z,H,l,rw',q⟩;by_cases O:0<=i
 .have C:i.toNat=j:=by
   rw[seqIndex_of O U]at B;exact Option.some.inj B
  exact item_listR F.isList O ⋯ (by rw[C];simpa using M) fin P
 .have C:(i+(L.toArray.size:Int)).toNat=j:=by
   rw[seqIndex_neg ⋯ S]at B;rw[z_,<-hl];exact Option.some.inj B
  exact subscriptTail_builtinR F.isList.typeIs slot_list_getitem.lookup
   (wpAny_getItem_list_neg F.isList ⋯ (by rw[z_]<;>lia) ⋯ (by rw[C];simpa using M) ⟨rfl,fin⟩) P
def GF:IxR X (KG X.K):=by
 intro C B L s Z H x y v u Q l G M h R;obtain⟨p,xs,i,z,rfl,rfl,S,W,q⟩:=h;cases G;obtain⟨t,rfl⟩:=M;obtain⟨U,r,E,hz⟩:=l.tuple S;obtain⟨j,P,O,h3,h4,h5⟩:=qN W;obtain⟨w,F,rw'⟩:=r.get O;have hl:=r.length;have hn:=pq;have fin:EP X L Z Q w s:=⟨z,H,l,rw',q⟩;exact subscriptTail_builtinR E.typeIs slot_tuple_getitem.lookup
  (getItem_tuple E ⋯ ⋯ (by rw[z_,<-hl];exact P) (by simpa using F) ⟨rfl,fin⟩) R
def GG:IxR X KH:=by
 intro C l W s Z H x y v u Q B F M h P;obtain⟨z,i,c,rfl,rfl,hz,R,q⟩:=h;obtain⟨t,rfl⟩:=F;obtain⟨t',rfl⟩:=M;obtain⟨j,E,O,U,G,L⟩:=qN R;have hl:z.cps.toList.length=z.length:=by simp[Str.length]
 rw[hl]at E G L;have S:=pq
 exact tail_any (typeIs_str s z t) slot_str_getitem.lookup (getItem_str (by
  have e1:decide (i < -(2^63:Int))=T:=decide_eq_false ⋯;have e2:decide (i>=2^63)=T:=decide_eq_false ⋯
  rw[e1,e2,Bool.or_false]) (by rw[E];simpa using O) ⟨.str ⟨#[c]⟩,H,B.tok _,⟨_,rfl⟩,q⟩) P
def RY(K:g_):R2:=λx y H Q=>KC K x y H Q\/KG K x y H Q\/KH x y H Q
def GH:IxR X (RY X.K):=Dc.or (GF.or GG)
def ww(i:SX)(n j:Nat)(u:Value):Obj.mapSeq (·.setIfInBounds j u) { cls:=.type "list",data:=.seq i.toArray n}={ cls:=.type "list",data:=.seq (i.set j u).toArray n}:=by simp[Obj.mapSeq]
def Inv.lst{l:SA}{Z:St}{H:Hp}{s:Shared}{p:Addr}{xs:List V}(j:Inv X l Z H s)(h:H p=J (.lst xs)):
  ∃(i:SX) (n:Nat),aL xs i/\s.heap.get? p=J { cls:=.type "list",data:=.seq i.toArray n}/\xs.length<=sizeLine:=by
 obtain⟨z,i,n,r,e⟩:=j.hok p _ h;exact⟨i,n,r,e,z⟩
def Inv.lstUpd{z:SA}{Z:St}{H:Hp}{s:Shared}{p:Addr}{xs ys:List V}{j i:SX}{n l:Nat}{f:Obj->Obj}(y:Inv X z Z H s)(h:H p=J (.lst xs))(E:s.heap.get? p=J { cls:=.type "list",data:=.seq j.toArray n})(hf:f { cls:=.type "list",data:=.seq j.toArray n}={ cls:=.type "list",data:=.seq i.toArray l})(r:aL ys i)(C:ys.length<=sizeLine)(t:Nat):
  Inv X z Z (upd H p (.lst ys)) { s with heap:=s.heap.update p f,toks:=t}:=by
 have e:(s.heap.update p f).get? p=J { cls:=.type "list",data:=.seq i.toArray l}:=by rw[M3 f E (by rw[hf]<;>rfl),hf]
 refine y.write (by rw[h];trivial) (.inl rfl) (λb u B q=>(Of _ _ (Ne.symm B)).trans q) ⟨_,e⟩ ?_;exact⟨C,i,l,r,e⟩
def KI:V->V->V->Hp->(Hp->Prop)->Prop:=λo i v H Q=>∃p xs k j,o=.ref p/\i=.int k/\H p=J (.lst xs)/\wG xs.length k=J j/\Q (upd H p (.lst (xs.set j v)))
def AD:Kg X KI:=by
 intro K4 s Z H o i v ov iv u Q l U P R h;obtain⟨p,xs,k,j,rfl,rfl,M,O,q⟩:=h;cases U;obtain⟨t,rfl⟩:=P;obtain⟨y,n,r,C,S⟩:=l.lst M;obtain⟨z,h2,L,G⟩:=j8 O;have hl:=r.length;have W:=pq;have F :=
  l.lstUpd M C (ww y n j u) (r.set R j) (by rw[Na];exact S) s.toks
 by_cases E:0<=k
 .have B:k.toNat=j:=by
   rw[seqIndex_of E G]at z;exact Option.some.inj z
  exact PySem.W.ki_setAt C E ⋯ (by rw[z_,<-hl];exact G) (by rw[B];exact⟨_,F,q⟩)
 .have B:(k+(y.toArray.size:Int)).toNat=j:=by
   rw[seqIndex_neg ⋯ L]at z;rw[z_,<-hl];exact Option.some.inj z
  exact PySem.W.ki_setBack C ⋯ (by rw[z_,<-hl];exact L) ⋯ (by rw[B];exact⟨_,F,q⟩)
def t7(lo j:SF)(n:Nat):(sliceBounds lo j Y n).1=((HT.mA n 0 lo:Nat):Int)/\(sliceBounds lo j Y n).2.1=((HT.mA n n j:Nat):Int)/\(sliceBounds lo j Y n).2.2=1:=by
 refine⟨?_,?_,rfl⟩
 .cases lo with
  |none=>simp[sliceBounds,HT.mA]
  |some i =>
   simp only[sliceBounds,HT.mA,Option.getD_none,show(1:Int)>0 by decide,if_true];by_cases h:i<0
   .simp only[h,if_true]<;>lia
   .simp only[h,if_false]<;>lia
 .cases j with
  |none=>simp[sliceBounds,HT.mA]
  |some i =>
   simp only[sliceBounds,HT.mA,Option.getD_none,show(1:Int)>0 by decide,if_true];by_cases h:i<0
   .simp only[h,if_true]<;>lia
   .simp only[h,if_false]<;>lia
def rY(i:SX)(lo j:SF):slicePick i.toArray lo j Y=((i.drop (HT.mA i.length 0 lo)).take (HT.mA i.length i.length j-HT.mA i.length 0 lo)).toArray:=by obtain⟨l,y,u⟩:=t7 lo j i.toArray.size;unfold slicePick;rw[l,y,u];simp only[sliceRange_one,pick_run]<;>rfl
def OX(K:g_):V->SF->SF->Hp->VK->Prop:=λx lo i H Q=>∃a xs,x=.ref a/\SqL K H a xs/\∀p,H p=Y->Q (.ref p) (upd H p (.lst (oq xs lo i)))
def u9:Nl X (OX X.K):=by intro M s Z H x v vl P lo l O Q i y C z G h;obtain⟨a,xs,rfl,E,q⟩:=h;cases y;obtain⟨F,r,u,B⟩:=i.list E;have j:=r.length;refine⟨"list",_,slot_list_getitem.lookup,u.isList.typeIs,?_⟩;refine wpAny_getItem_list_slice u.isList C z G .none (by simp) ?_ (by rw[z_]<;>lia);rw[rY,<-j];refine⟨.ref s.heap.objs.size,_,i.laid (t':=s.toks) (λb L q=>n3 _ q) (l_ _) ?_,rfl,q _ (i.hok.fresh (l_ _))⟩;exact⟨n_ (nU xs lo l) B,_,0,(r.drop (HT.mA xs.length 0 lo)).take (HT.mA xs.length xs.length l-HT.mA xs.length 0 lo),A0 _ rfl⟩
def uG:dy X (.type "list") (λxs H Q=>∃p ys,xs=[.ref p]/\(SqL X.K H p ys\/SqT X.K H p ys)/\∀l,H l=Y->Q (.ref l) (upd H l (.lst ys))):=by
 intro R s Z H xs S Q y r h;obtain⟨p,ys,rfl,F,q⟩:=h;obtain⟨u,rfl,P⟩:=jx r;cases P;have fin:∀(i:SX),aL ys i->ys.length<=sizeLine->∀(j:Heap)(B:Nat),(∀b O,s.heap.get? b=J O->j.get? b=J O) ->
   j.get? s.heap.objs.size=J { cls:=.type "list",dict:=Y,data:=.seq i.toArray B,slots:=#[]}->EP X R Z Q (.ref s.heap.objs.size) { s with heap:=j}:=λi z E j B kp e =>
  ⟨.ref s.heap.objs.size,_,y.laid (t':=s.toks) kp (l_ _) (show ObjOk X.prog X.w _ j _ (.lst ys) from⟨E,i,B,z,e⟩),rfl,q _ (y.hok.fresh (l_ _))⟩
 rcases F with F|F
 .obtain⟨i,z,G,E⟩:=y.list F;have C:=z.length;obtain⟨o,M,L,n,hd⟩:=G.isList;exact call_list_seq p (.inl rfl) M L hd (λj B kp e=>fin i z E j B kp e) (by simp only[z_]<;>lia)
 .obtain⟨i,z,G,E⟩:=y.tuple F;have C:=z.length;obtain⟨o,M,L,n,hd⟩:=G;exact call_list_seq p (.inr rfl) M L hd (λj B kp e=>fin i z E j B kp e) (by simp only[z_]<;>lia)
def lP:dy X (.type "tuple") (λxs H Q=>∃p ys,xs=[.ref p]/\((SqL X.K H p ys/\∀l,H l=Y->Q (.ref l) (upd H l (.tup ys)))\/(SqT X.K H p ys/\Q (.ref p) H))):=by
 intro O s Z H xs P Q i r h;obtain⟨p,ys,rfl,h⟩:=h;obtain⟨u,rfl,L⟩:=jx r;cases L;rcases h with⟨B,q⟩|⟨B,q⟩
 .obtain⟨j,y,z,E⟩:=i.list B;have C:=y.length;refine call_tuple_list z.isList (λM kp=>?_) (by simp only[z_]<;>lia);have F:=i.kept (t':=s.toks) kp;have G :=
   F.laid (t':=s.toks) (λb o e=>n3 _ e) (l_ _) (show ObjOk X.prog X.w _ _ _ (.tup ys) from⟨E,j,y,je.new _ _⟩)
  exact⟨.ref M.objs.size,_,G,rfl,q _ (F.hok.fresh (l_ _))⟩
 .obtain⟨j,y,z,E⟩:=i.tuple B;exact call_tuple_same z ⟨.ref p,H,i,rfl,q⟩
def OY(K:g_)(i:String)(x:V)(H:Hp):Prop:=match x with
 |.str _=>i="str"
 |.int _=>i="int"
 |.ref p=>(i="list"/\∃xs,SqL K H p xs)\/(i="tuple"/\∃o,K.lookup p=J o/\o.cls=.type "tuple"/\o.dict=Y) \/
   (i="dict"/\((∃j,H p=J (.dK j))\/∃j,H p=J (.dT j)))\/(i="set"/\∃S n,H p=J (.set S n))
 |_=>False
def GJ{F:SA}{Z:St}{H:Hp}{s:Shared}{u:String}{x:V}{v:Value}(j:Inv X F Z H s)(r:aO x v)(ty:OY X.K u x H):
  s.TypeIs v u/\∀a,v=.ref a->∃C,s.heap.get? a=J C/\C.dict=Y:=by
 cases x with
 |str z =>
  obtain⟨t,rfl⟩:=r;cases(ty);exact⟨typeIs_str s z t,λ_ e=>nomatch e⟩
 |int i =>
  obtain⟨t,rfl⟩:=r;cases(ty);exact⟨typeIs_int s i t,λ_ e=>nomatch e⟩
 |ref p =>
  cases r;rcases ty with⟨rfl,xs,G⟩|⟨rfl,o,l,E,hd⟩|⟨rfl,l⟩|⟨rfl,S,n,l⟩
  .obtain⟨L,_,B,_⟩:=j.list G;refine⟨B.isList.typeIs,λa e=>?_⟩;cases e;obtain⟨o,n,e,c,hd,_⟩:=B;exact⟨o,e,hd⟩
  .refine⟨⟨o,j.kIn p o l,E⟩,λa e=>?_⟩;cases e;exact⟨o,j.kIn _ o l,hd⟩
  .have z:∃o,s.heap.get? p=J o/\o.ExactDict:=by
    rcases l with⟨y,l⟩|⟨y,l⟩
    .obtain⟨_,_,_,_,o,_,_,e,ex,_⟩:=j.hok p _ l;exact⟨o,e,ex⟩
    .obtain⟨_,_,_,_,o,_,_,e,ex,_⟩:=j.hok p _ l;exact⟨o,e,ex⟩
   obtain⟨o,e,ex⟩:=z;refine⟨⟨o,e,ex.1⟩,λa e2=>?_⟩;cases e2;exact⟨o,e,ex.2.1⟩
  .obtain⟨o,_,_,_,e,ex,_⟩:=j.hok p _ l;refine⟨⟨o,e,ex.1⟩,λa e2=>?_⟩;cases e2;exact⟨o,e,ex.2.1⟩
 |_=>exact False.elim ty
def RZ(K:g_)(i:String)(r:V->List V->Hp->VK->Prop)(to:TE)(t:TA):TE:=λZ H Q=>to Z H λx j=>OY K i x j/\t Z j λxs l=>r x xs l Q
variable{o e:Expr}{es:SG}{to:TE}{t:TA}{name:Str}{apos cpos:Pos}{T id:String}{r:V->List V->Hp->VK->Prop}
def KJ(pa:PlainAttrs T)(slot:Slot T name id)(z:typeOf (.builtin id)=pure (.type "method_descriptor"))(O:Kz X id r)(ho:PE X o to)(ha:PA X (e::es) t)(l:attributeBase o name X.env (eval o X.env)=eval o X.env:=by rfl)(u:((backTo cpos (starEach (e::es) X.env)).all (λx=>!x.1)&&(backToKw cpos (keywordEach [] X.env)).all (λx=>x.1.isSome)
   && decide ((e::es).length+([]:List Keyword).length+(if([]:List Keyword).isEmpty then 0 else 1)<30))=I:=by rfl)(j:(apos.endLine==cpos.line)=I:=by rfl)(W:starEach (e::es) X.env=(false,eval e X.env)::starEach es X.env:=by rfl)(i:(backTo cpos (starEach es X.env)).any (·.1)=false:=by rfl):
  PE X (.Call (.Attribute o name apos) (e::es) [] cpos) (RZ X.K T r to t):=by
 intro y s Z H Q B h;refine wpAny_Call_method_late l u j rfl (ln (ho y s Z H _ B h) λv G ⟨x,H1,E,F,ty,M⟩=>?_);obtain⟨S,P⟩:=GJ E F ty;refine⟨T,id,pa,slot,z,S,P,?_⟩;have C:=ha cpos y G Z H1 _ E M;rw[W]at C ⊢;refine Calls.callWith_builtin (by show(false||(backTo cpos (starEach es X.env)).any (·.1))=false;rw[i]<;>rfl) (Calls.evalArgs_plain ?_);exact ln C λus U ⟨vs,R,L,r2,q2⟩=>O y U Z R x vs v us Q L F r2 q2
end
def R0(X:Cx)(id:String)(r:V->List V->Hp->VK->Prop):Prop :=
 ∀(i:SA)(s:Shared)(Z:St)(H:Hp)(x:V)(xs:List V)(v:Value)(a:SX)(Q:VK),Inv X i Z H s->aO x v->aL xs a->r x xs H Q ->
  wpAny (model X.prog X.w) X.A (call (.builtin id) (v::a)) (EP X i Z Q) X.xe s
def aL.zero(h:aL [] us):us=[]:=by cases h;rfl
def aL.one(h:aL [x] us):∃u,us=[u]/\aO x u:=by cases h with|cons r t=>exact⟨_,by rw[aL.zero t],r⟩
def aL.two(h:aL [x,y] us):∃u v,us=[u,v]/\aO x u/\aO y v:=by cases h with|cons r t=>obtain⟨v,e,q⟩:=aL.one t;exact⟨_,v,by rw[e],r,q⟩
def aL.rep(h:aL xs us):∀k:Nat,aL (List.replicate k xs).flatten (List.replicate k us).flatten
 |0=>.nil
 |k+1=>by
  exact aL.append h (aL.rep h k)
def rA(a:SX):∀(k:Nat)(i:SX),
  List.foldl (λj l=>j++l) i.toArray (List.replicate k a.toArray)=(i++(List.replicate k a).flatten).toArray
 |0,i=>by simp
 |k+1,i=>by
  have e:i.toArray++a.toArray=(i++a).toArray:=by simp
  have e2:(i++a)++(List.replicate k a).flatten=i++(List.replicate (k+1) a).flatten:=by rw[F2,List.flatten_cons,J0]
  rw[<-e2,<-rA a k (i++a),<-e,F2,List.foldl_cons]
section
variable{X:Cx}{K4:List (Addr × Obj)}{Z:St}{H:Hp}{s:Shared}{l b:Addr}{xs ys zs:List V}
def Inv.lset{a its':SX}{n:Nat}{f:Array Value->Array Value}{z:Nat}(i:Inv X K4 Z H s)(C:H l=J (.lst xs))(e:s.heap.get? l=J { cls:=.type "list",data:=.seq a.toArray n})(hf:f a.toArray=its'.toArray)(hv:aL ys its')(B:ys.length<=sizeLine):
  Inv X K4 Z (upd H l (.lst ys)) { s with heap:=s.heap.update l (Obj.mapSeq f),toks:=z}:=by
 have q:=PySem.IsL.update e f;rw[hf]at q;refine i.write (x:=l) (e:=l) (by rw[C];exact trivial) (.inl rfl) (λE u y j=>(Of s.heap (Obj.mapSeq f) (Ne.symm y)).trans j) ⟨_,q⟩ ?_;exact⟨B,its',_,hv,q⟩
def Inv.lnew(a:Inv X K4 Z H s)(hv:aL ys its)(i:ys.length<=sizeLine):
  Inv X K4 Z (upd H s.heap.objs.size (.lst ys)) { s with heap:=s.heap.push { cls:=.type "list",data:=.seq its.toArray},toks:=t'} :=
 a.laid (λ_ _ q=>n3 _ q) (l_ _) ⟨i,its,0,hv,A0 _ rfl⟩
def Inv.fresh(a:Inv X K4 Z H s):H s.heap.objs.size=Y:=a.hok.fresh (l_ _)
def Inv.lstM(i:Inv X K4 Z H s)(j:H l=J (.lst xs)):xs.length<=sizeLine/\∃(a:SX) (n:Nat),aL xs a/\xs.length=a.length/\s.heap.get? l=J { cls:=.type "list",data:=.seq a.toArray n}:=by obtain⟨z,a,n,r,e⟩:=i.hok l _ j;exact⟨z,a,n,r,r.length,e⟩
def AA(h:n<=sizeLine):Builtin.List.listTooLong n=T:=by unfold Builtin.List.listTooLong;exact decide_eq_false ⋯
end
section
variable{X:Cx}
def De:V->List V->Hp->VK->Prop:=λx a H Q=>∃l xs y,x=.ref l/\a=[y]/\H l=J (.lst xs)/\xs.length<sizeLine/\Q .non (upd H l (.lst (xs++[y])))
def rQ:R0 X "list.append" De:=by
 intro G s Z H x M v O Q a B C h;obtain⟨l,xs,y,rfl,rfl,j,L,q⟩:=h;cases B;obtain⟨u,rfl,E⟩:=C.one;obtain⟨z,i,n,r,hl,e⟩:=a.lstM j;refine call_meets F.slot_list_append ⟨_,e,rfl⟩ F.entry_list_append (F.args_list_append_2 _ _) (PySem.list_append l i.toArray n u (by rw[z_];lia)) ⟨e,?_⟩;refine⟨.non,_,a.lset (its':=i++[u]) j e (by simp) (r.append (.cons E .nil)) ?_,rfl,q⟩
 grind
def OZ:R2:=λx y H Q=>∃l b xs a,x=.ref l/\y=.ref b/\H l=J (.lst xs)/\H b=J (.lst a)/\xs.length+a.length<=sizeLine/\∀p,H p=Y->Q (.ref p) (upd H p (.lst (xs++a)))
def GK:OpR X (binaryOp .Add) OZ:=by
 intro R s Z H x y v u Q a C F h;obtain⟨l,b,xs,O,rfl,rfl,G,B,S,q⟩:=h;cases C;cases F;obtain⟨z,j,n,r,hl,e⟩:=a.lstM G;obtain⟨U,i,P,M,E,e2⟩:=a.lstM B;refine PySem.P.add_list e e2 ?_ (by rw[z_,z_];lia);have L:j.toArray++i.toArray=(j++i).toArray:=by simp
 rw[L];exact⟨.ref _,_,a.lnew (t':=s.toks) (r.append M) (by rw[F3];lia),rfl,q _ a.fresh⟩
def O0:R2:=λx y H Q=>∃l k xs,x=.ref l/\y=.int k/\H l=J (.lst xs) /\ -(2^63)<=k/\k<2^63/\xs.length*k.toNat<=sizeLine /\
 ∀p,H p=Y->Q (.ref p) (upd H p (.lst (List.replicate k.toNat xs).flatten))
def v9{α:Type}(xs:List α)(k:Nat):(List.replicate k xs).flatten.length=k*xs.length:=by simp
def GL:OpR X (binaryOp .Mult) O0:=by
 intro K4 s Z H x y v u Q B R W h;obtain⟨l,k,xs,rfl,rfl,hH,h1,h2,P,q⟩:=h;cases R;obtain⟨t,rfl⟩:=W;obtain⟨z,i,n,r,hl,e⟩:=B.lstM hH;have G:i.toArray.size*k.toNat<=sizeLine:=by rw[z_,<-hl];exact P
 have C:¬i.toArray.size*k.toNat>(2^63-1)/8:=by
  have:(sizeLine:Nat)<=(2^63-1)/8:=by decide
  lia
 have L:¬(!Builtin.List.listFitsIndex k)=I:=by rw[fitsIndex_both h1 h2];exact Ol
 have j:¬Builtin.List.listTooLong (i.toArray.size*k.toNat)=I:=by rw[AA G];exact Ol
 have E:List.foldl (λO M=>O++M) #[] (List.replicate (if i.toArray.isEmpty=I then 0 else k.toNat) i.toArray)=(List.replicate k.toNat i).flatten.toArray:=by
  have U:∀m:Nat,List.foldl (λO M=>O++M) #[] (List.replicate m i.toArray)=(List.replicate m i).flatten.toArray:=λm=>by
   have:=rA i m []
   exact this
  rw[U]
  cases i with
  |nil=>simp
  |cons a r'=>rw[h8 (by simp)]
 refine wpAny_binaryOp_repeat_ref (by decide) ⟨_,e,rfl⟩ (λS=>typeIs_int S k t) noFill_list_mul F.fills_int_mul F.slot_int_rmul repeat_list F.slot_int_index.lookup
  (call_meets F.slot_int_rmul (typeIs_int s k t) F.entry_int_rmul (F.args_int_rmul_2 _ _) (int___rmul___int_list k t l i.toArray n)
   ⟨e,rfl,⟨_,e,rfl⟩,call_meets F.slot_list_mul ⟨_,e,rfl⟩ F.entry_list_mul (F.args_list_mul_2 _ _) (AutoListH.list___mul___list_int_3 l i.toArray n k t L C j) ⟨e,?_⟩⟩)
 rw[E];exact⟨.ref _,_,B.lnew (t':=s.toks) (r.rep k.toNat) (by rw[v9,Nat.mul_comm];exact P),rfl,q _ B.fresh⟩
end
end L2
namespace Att
open PySem.W PySem.Calls PyProof.Rows
def oQ:∀(ns:SS)(i:SX),WellAll P h i (ns.map WData.int)->IntsAre i ns:=by
 intro ns
 induction ns with
 |nil =>
  intro i w;rw[Jz]at w;cases w;exact .nil
 |cons n ns j =>
  intro i w;rw[nc]at w
  cases w with
  |cons a b =>
   cases a;exact .cons _ _ (j _ b)
def yq{l:OpenLaw}{n:Nat}(G:l.most=J n){P:Params}{h:Heap}{i:List WData}{j:SX}(u:l.row.toRowW.claim.pre i=I)(C:WellAll P h j i):
  ∃a F ns,j=[Value.ref a]/\i=[WData.list (ns.map WData.int)]/\h.get? a=J { cls:=.type "list",data:=.seq F.toArray}/\IntsAre F ns/\ns.length<=n:=by
 have E:=(pre_splitW u).1;have H:=(pre_splitW u).2;obtain⟨d,r,rfl,Q,O⟩:=hasAllW_cons E;obtain rfl:=hasAllW_nil O;obtain⟨xs,rfl,L⟩:=hasW_list Q;obtain⟨ns,rfl⟩:=items_int L;have y:ns.length<=n:=by
  have B:(WTm.not (.lt (.lit (.int (n:Int))) (.len (.arg 0)))).holds [] { args:=[.list (ns.map .int)]}=I:=by have B:=(holds_andW H).1;rw[G]at B;exact B
  have U:=condW_of B (w_not (w_lt w_lit (w_len_list (w_arg rfl))))
  simp_all
 cases C with
 |cons M R =>
  cases R
  cases M with
  |list S z=>exact⟨_,_,ns,rfl,rfl,S,oQ ns _ z,y⟩
def zJ(l:OpenLaw)(a:List WData):l.row.toRowW.claim.post a (.bool I) a=I :=
 postW_of
  (show WShape.has [] (.bool I) .bool=I by first | rfl | decide | simp)
  (w_eq_bool (w_res rfl) w_lit) rfl
def uS{l:OpenLaw}{n:Nat}{q:Program}{loose:SQ}{XP:(Str->SD)->Heap->Prop}{R:World->Heap->Prop}{d:DefRec}(hn:l.most=J n)(Q:d.params.defaults=[])(call:∀(w:World)(s₀ i:Shared)(mg mb:Sn)(C:Addr)(o:Obj)(pm F j:Value)(a:Addr)(y:SX)(ns:SS),
   Ground q loose [] XP w s₀ mg mb i.heap->R w i.heap ->
   i.heap.get? C=J o->o.data=.func (docDef d.name d.params d.body d.scope pm F j)->i.heap.CodeRec F d.name->mg d.name=J (.ref C) ->
   i.heap.get? a=J { cls:=.type "list",data:=.seq y.toArray}->IntsAre y ns->ns.length<=n->i.gens=#[] ->
   codeAny (model l.prog w) callerA (.call (.ref C) ⟨[.ref a],[]⟩) (λr H=>r=.ok (.ret (.bool I))/\OldK i.heap H.heap/\H.os=i.os/\AllBare H.gens) i):
  WalkO q loose XP R l.row.toRowW d [] (λf y=>PySem.call f y):=by
 intro w s₀ i mg mb G P C o pm F j dV kV ho hd O W M hg X U as E S ab L Z;obtain rfl:=Dflts.none W Q;obtain rfl:=Dflts.noKw W;obtain⟨a,y,ns,rfl,rfl,B,u,z⟩:=yq hn E L;refine enter_call (codeAny_mono (call w s₀ i mg mb C o pm F j a y ns G P ho (fd_plain hd) O M B u z hg) λr H hq=>?_);obtain⟨rfl,h2,h3,h4⟩:=hq;exact⟨.inl ⟨.bool I,.bool I,[],rfl,λ_=>rfl,.bool I,zJ l _,λ_=>⟨List.Pairwise.nil,λ_ hm=>(nomatch hm)⟩⟩,h2,h3,h4⟩
end Att
namespace L2
open PySem.Spec PyProof.Rows
def rG:∀{a:SX}{ns:SS},IntsAre a ns->aL (ns.map V.int) a
 |_,_,.nil=>.nil
 |_,_,.cons n t h=>.cons ⟨t,rfl⟩ (rG h)
def GN(H:Hp):Prop:=∀b,H b=Y\/∃o xs,H b=J (.frz o (.lst xs))
def zZ{P:Program}{w:World}{K:g_}{mg mb:Sn}{CX:Co}{k:Nat}{fa a:Addr}{fd:FuncData}{x:Str}{sp:Sp}{i:Shared}{Q:SX}{ns:SS}(KX:K.In i.heap)(ai:i.heap.Ns mainGlobals mg)(y:i.heap.Ns builtinsNs mb)(an:∀x:Str,x≠"__name__"->mb x=bootBuiltins x)(ab:i.heap.NoLimit)(E:i.heap.NoSeer)(al:P.given.tree=Y)(hg:i.gens=#[])(Z:i.heap.get? a=J { cls:=.type "list",data:=.seq Q.toArray})(hi:IntsAre Q ns)(hl:ns.length<=sizeLine)(hr:Room k callerA)(F:∀base:Heap,K.In base->base.Ns mainGlobals mg->FnOk P w K mg base CX k fa fd [x] sp)(O:∀(s:Shared) (u:Value),BindsTo s fd ⟨[u],[]⟩ [(x,u)])(as:∀H:Hp,GN H->SqL K H a (ns.map V.int)->sp [.ref a] H (λv _=>v=.bl I) λ_ _ _=>False)(ar:∀H e B,CX [] H i (λ_ _ _=>False) e B->False):
  codeAny (model P w) callerA (.call (.ref fa) ⟨[.ref a],[]⟩) (λr B=>r=.ok (.ret (.bool I))/\OldK i.heap B.heap/\B.os=i.os/\AllBare B.gens) i:=by
 have rv:=rG hi;have ak:=hi.length;have M:∀H:Hp,GN H->SqL K H a (ns.map V.int)->HOk P w H i.heap->(∀b,H b≠Y->b=a)->(H a≠Y->K.lookup a=Y) ->
   codeAny (model P w) callerA (.call (.ref fa) ⟨[.ref a],[]⟩) (λr B=>r=.ok (.ret (.bool I))/\OldK i.heap B.heap/\B.os=i.os/\AllBare B.gens) i:=by
  intro H hO hS hok hA hK;have j:∀{b:Addr}{o:Obj},i.heap.get? b=J o->H b=Y->(kO i.heap H).get? b=J o:=λe n=>AB e n;have ap:∀{b:Addr}{o:Obj}{R:Array DictEntry}{X:Nat},i.heap.get? b=J o->o.data=.dict R X->H b=Y:=λ{b o R X} e d=>by
   cases q:H b with
   |none=>rfl
   |some u =>
    have e':b=a:=hA b (by rw[q];simp);subst e';rw[Z]at e;cases e;have d':Data.seq Q.toArray _=Data.dict R X:=d;cases d'
  have l:∀{b:Addr}{m:Sn},i.heap.Ns b m->(kO i.heap H).Ns b m:=λ{b m} ⟨o,R,X,e,d,r⟩=>⟨o,R,X,j e (ap e d),d,r⟩
  have S:K.In (kO i.heap H):=λb o e=>j (KX b o e) (by
   cases q:H b with
   |none=>rfl
   |some u =>
    have e':b=a:=hA b (by rw[q];simp);subst e'
    rw[hK (by rw[q];simp)]at e;cases e)
  have hM:Mod K mg (kO i.heap H):=⟨S,l ai,⟨mb,l y,an⟩,let ⟨C,G,L⟩:=ab;⟨C,l G,L⟩,let ⟨C,G,L⟩:=E.statics;⟨C,l G,L⟩,let ⟨C,G,L⟩:=E.mods;⟨C,l G,L⟩,let ⟨C,G,L⟩:=E.imp;⟨C,l G,L⟩,let ⟨C,bm,ob,G,L,h3,h4,h5⟩:=E.main;⟨C,bm,ob,l G,L,j h3 (by
   cases q:H bm with
   |none=>rfl
   |some u =>
    have e':bm=a:=hA bm (by rw[q];simp);subst e';rw[Z]at h3;cases h3
    exact absurd (show Value.type "list"=Value.type "module" from h4) (by decide)),h4,h5⟩⟩
  have e0:Env0 P w K mg (kO i.heap H) callerA [] i H:=⟨rfl,hM,λb o e=>CU e,Nat.le_of_eq (zn _ _),trivial,λb y=>absurd (show b∈([]:SW)from y) (by simp),hok,.of_eq hg,al⟩;refine codeAny_mono ((F _ S (l ai)).run callerA [] i H ⟨[.ref a],[]⟩ [.ref a] [.ref a] _ _ hr e0 (O i (.ref a)) (.cons rfl .nil) (as H hO hS)) λr B h=>?_
  cases r with
  |error e=>exact(ar H e B h).elim
  |ok fl =>
   cases fl with
   |next=>exact False.elim h
   |brk=>exact False.elim h
   |cont=>exact False.elim h
   |ret u =>
    obtain⟨v,H',os,bare,un,U,r',q⟩:=h;have q':v=.bl I:=q;subst q';obtain rfl:u=Value.bool I:=r';refine⟨rfl,OldK.of_keep λb o e=>?_,os,bare⟩
    cases q:H b with
    |none=>exact un.keep b o e q (by intro z;exact absurd (show b∈([]:SW)from z) (by simp)) (by simp)
    |some u =>
     rcases hO b with z|⟨ob,xs,z⟩
     .rw[q]at z;cases z
     .have z2:=un.frzs b ob _ z;obtain⟨e1,_⟩:=hok b _ z;obtain⟨e2,_⟩:=U b _ z2;rw[e]at e1;cases e1;exact e2
 cases hk:K.lookup a with
 |some o =>
  have e:=KX a o hk;rw[Z]at e;cases e;refine M (λ_=>Y) (λ_=>.inl rfl) (.inr ⟨_,Q.toArray,_,hk,rfl,rfl,rfl,by rw[z_,ak];exact hl,by simpa using rv⟩) (λb u z=>by have W:(Y:Option HO)=J u:=z;cases W) (λb z=>absurd rfl z) λz=>absurd rfl z
 |none =>
  refine M (λb=>if b=a then J (.frz { cls:=.type "list",data:=.seq Q.toArray} (.lst (ns.map V.int)))else Y) (λb=>?_) (.inl (.inr ⟨{ cls:=.type "list",data:=.seq Q.toArray},e_ rfl⟩)) (λb u z=>?_) (λb z=>?_) λ_=>hk
  .by_cases y:b=a
   .exact .inr ⟨_,_,e_ y⟩
   .exact .inl (h8 y)
  .by_cases y:b=a
   .have W:=(e_ y).symm.trans z;cases W;subst y;exact⟨Z,by rw[xg];exact hl,Q,_,rv,Z⟩
   .have W:=(h8 y).symm.trans z;cases W
  .by_cases y:b=a
   .exact y
   .exact absurd (h8 y) z
abbrev ng{K:g_}{h:Heap}(_:K.In h):g_:=K
def Df{l:PySem.W.OpenLaw}{n k:Nat}{q:Program}{loose:SQ}{XP:(Str->SD)->Heap->Prop}{S:World->Heap->Prop}{d:DefRec}{K:Params->g_}{CX:World->Co}{sp:World->Sp}{x:Str}(hn:l.most=J n)(O:n<=sizeLine)(R:d.params.defaults=[])(hr:Room k callerA)(X:PyProof.Rows.importsNone q=I)(E:l.prog.given.tree=Y)(hY:∀(w:World)(h:Heap),S w h->(K w.params).In h)(F:∀(w:World)(mg:Sn)(B:Addr)(h:Heap),(K w.params).In h->h.Ns mainGlobals mg->mg d.name=J (.ref B) ->
   ∃fd:FuncData,(∀(s:Shared)(u:Value),BindsTo s fd ⟨[u],[]⟩ [(x,u)]) /\
    ∀base:Heap,(K w.params).In base->base.Ns mainGlobals mg->FnOk l.prog w (K w.params) mg base (CX w) k B fd [x] (sp w))(P:∀(w:World)(H:Hp)(a:Addr)(ns:SS),ns.length<=n->GN H->SqL (K w.params) H a (ns.map V.int)->sp w [.ref a] H (λv _=>v=.bl I) λ_ _ _=>False)(M:∀(w:World)(H:Hp)(s:Shared)(e:Value)(C:Shared),CX w [] H s (λ_ _ _=>False) e C->False):
  PySem.W.WalkO q loose XP S l.row.toRowW d [] (λf W=>PySem.call f W):=by
 refine Att.uS hn R λw s₀ y mg mb B o pm cd ab a W ns G Q ho hd ai L z j i hg=>?_;have U:=hY w _ Q;obtain⟨fd,Z,hF⟩:=F w mg B _ U G.T.g L;exact zZ U G.T.g G.T.b G.T.builtins G.T.nolimit (G.T.seer X) E hg z j (n_ i O) hr hF Z (λH hO hS=>P w H a ns i hO hS) λH e C=>M w H y e C
def gD(s:Stmt):Arguments:=match s with
 |.FunctionDef _ a _ _ _ _ _ _ _ _=>a
 |_=>{ posonlyargs:=[],args:=[],vararg:=Y,kwonlyargs:=[],kw_defaults:=[],kwarg:=Y,defaults:=[]}
def aE(s:Stmt):Sq:=match s with
 |.FunctionDef _ _ b _ _ _ _ _ _ _=>b
 |_=>[]
def ag(s:Stmt):Scope:=match s with
 |.FunctionDef _ _ _ _ _ _ a _ _ _=>a
 |_=>{ kind:=.function,names:=[],isGenerator:=T,isCoroutine:=T}
abbrev JC:Co:=λ_ _ _ _ _ _=>False
structure Fun(K:g_)(x qual:Str)(st:Stmt)(f:Addr)(fd:FuncData):Prop where
 ex:∃(oc:Value)(od:Sr)(kV doc pm:Value)(an:Sr)(cdv ct:Value)(osl:Array (SD)),
  fd=PySem.W.fnOf x qual (gD st) (aE st) (ag st) .none kV doc pm an cdv ct/\K.lookup f=J ⟨oc,od,.func fd,osl⟩/\PySem.W.codeIn K cdv qual=I
 kp:PySem.W.keepIn K (.ref f)=I
section
variable{P:Program}{w:World}{K:g_}{mg:Sn}{base:Heap}
def Fun.ok{x a:Str}{st:Stmt}{f:Addr}{fd:FuncData}{N l:SQ}{k:Nat}{z:Sp}(F:Fun K x a st f fd)(S:pz N l (ag st))(len:∀vs H Q E,z vs H Q E->vs.length=l.length)(j:∀(i:Value)(A:Around)(outer:List Env)(s:Shared)(H:Hp)(vs:List V)(Q:VK)(E:XK),Room k (A.deeper (envOfC a (ag st) s.heap.objs.size f i))->z vs H Q E ->
   ∃t,PSs (qT JC P w K mg base N a (ag st) f i A outer s H E).nox (aE st) t/\t { nx:=λ_ C=>Q .non C,rt:=Q} (start N vs) H):FnOk P w K mg base JC (k+1) f fd l z:=by
 obtain⟨M,L,kV,G,pm,O,i,ct,B,rfl,lk,y⟩:=F.ex;refine Fa lk y S len λA outer s H vs Q E hr u=>?_;obtain⟨t,h,q⟩:=j i A outer s H vs Q E hr u;exact⟨t,h.nox,q⟩
def Fun.binds{x a:Str}{st:Stmt}{f:Addr}{fd:FuncData}{l:SQ}(F:Fun K x a st f fd)(h:∀(kV i pm:Value)(y:Sr)(j ct:Value)(u:SX),u.length=l.length->bindArgs (PySem.W.fnOf x a (gD st) (aE st) (ag st) .none kV i pm y j ct) ⟨u,[]⟩=pure (l.zip u)):lM K fd l []:=by
 obtain⟨E,C,kV,i,pm,y,j,ct,z,rfl,lk,B⟩:=F.ex;exact .all (h kV i pm y j ct)
def yD{x qual:Str}{st:Stmt}{f:Addr}{z:Value}{y u:Sr}{j:Array (SD)}{kV i pm a ct:Value}(l:K.lookup f=J ⟨z,y,.func (PySem.W.fnOf x qual (gD st) (aE st) (ag st) .none kV i pm u a ct),j⟩)(c:PySem.W.codeIn K a qual=I)(k:PySem.W.keepIn K (.ref f)=I):Fun K x qual st f (PySem.W.fnOf x qual (gD st) (aE st) (ag st) .none kV i pm u a ct):=⟨⟨z,y,kV,i,pm,u,a,ct,j,rfl,l,c⟩,k⟩
end
def KD{α:Type}:Sem α->Prop
 |.pure _=>True
 |.raise _=>True
 |.unsupported _=>True
 |.finish _=>True
 |.rule _ k=>KD (k ())
 |.at _ k=>KD (k ())
 |.load _ _ k=>∀o,KD (k o)
 |.update _ _ f k=>(∀o,(f o).dict=o.dict)/\KD (k ())
 |.alloc _ k=>∀a,KD (k a)
 |.loadIfAlive _ k=>∀o,KD (k o)
 |.point _ k=>KD (k ())
 |.fresh k=>∀t,KD (k t)
 |.ask k=>∀t,KD (k t)
 |.handled _ k=>∀t,KD (k t)
 |.stack k=>∀t,KD (k t)
 |.thread k=>∀t,KD (k t)
 |.register _ _=>True
 |_=>False
def DK(e:Addr)(d:Sr)(h:Heap):Prop:=∃o,h.objs[e]?=J o/\o.dict=d
def DK.push{e:Addr}{d:Sr}{h:Heap}(k:DK e d h)(o:Obj):DK e d (h.push o):=by
 obtain⟨u,e1,e2⟩:=k
 exact⟨u,by
  have:=(Array.getElem?_eq_some_iff.mp e1).1
  show(h.objs.push o)[e]?=_;rw[Array.getElem?_push_lt this];rw[Array.getElem?_eq_getElem this]at e1
  exact e1,e2⟩
def DK.upd{e a:Addr}{d:Sr}{h:Heap}{f:Obj->Obj}(k:DK e d h)(hf:∀o,(f o).dict=o.dict):DK e d (h.update a f):=by
 obtain⟨u,e1,e2⟩:=k
 cases h with
 |mk i =>
  by_cases z:a=e
  .subst z;exact⟨f u,by simp only[Heap.update,QQ,if_true];rw[show i[a]?=J u from e1];rfl,(hf u).trans e2⟩
  .exact⟨u,by simp only[Heap.update,QQ,h8 z];exact e1,e2⟩
def KD.keep{α:Type}{M:Model}{Γ:PySem.Ctx}{e:Addr}{d:Sr}{Q:α->Pos->Shared->Prop}{E:Value->Pos->Shared->Prop}:
  ∀(t:Sem α)(p:Pos)(s:Shared),KD t->DK e d s.heap->Sem.wp M Γ t Q E p s->Sem.wp M Γ t (λa p j=>Q a p j/\DK e d j.heap) (λv p j=>E v p j/\DK e d j.heap) p s:=by
 intro t
 induction t with
 |pure a=>intro p s _ k w;rw[Sem.wp]at w ⊢;exact⟨w,k⟩
 |raise v=>intro p s _ k w;rw[Sem.wp]at w ⊢;exact⟨w,k⟩
 |unsupported _=>intro p s _ k w;rw[Sem.wp]at w;exact w.elim
 |finish _=>intro p s _ k w;rw[Sem.wp]at w;exact w.elim
 |rule _ k i=>intro p s h g w;rw[Sem.wp]at w ⊢;exact i () p s h g w
 | «at» _ k i=>intro p s h g w;rw[Sem.wp]at w ⊢;exact i () _ s h g w
 |load a _ k i=>intro p s h g w;rw[Sem.wp]at w ⊢;obtain⟨o,e1,w⟩:=w;exact⟨o,e1,i o p s (h o) g w⟩
 |update a _ f k i=>intro p s h g w;rw[Sem.wp]at w ⊢;exact⟨w.1,i () p _ h.2 (g.upd h.1) w.2⟩
 |alloc o k i=>intro p s h g w;rw[Sem.wp]at w ⊢;exact i _ p _ (h _) (g.push o) w
 |loadIfAlive a k i=>intro p s h g w;rw[Sem.wp]at w ⊢;exact i _ p s (h _) g w
 |point _ k i=>intro p s h g w;rw[Sem.wp]at w ⊢;exact i () p s h g w
 |fresh k i=>intro p s h g w;rw[Sem.wp]at w ⊢;exact i _ p _ (h _) g w
 |ask k i=>intro p s h g w;rw[Sem.wp]at w ⊢;exact i _ p s (h _) g w
 |handled _ k i=>intro p s h g w;rw[Sem.wp]at w ⊢;exact i _ p s (h _) g w
 |stack k i=>intro p s h g w;rw[Sem.wp]at w ⊢;exact i _ p s (h _) g w
 |thread k i=>intro p s h g w;rw[Sem.wp]at w ⊢;exact i _ p s (h _) g w
 |register _ k i=>intro p s h g w;rw[Sem.wp]at w;exact w.elim
 |_=>intro p s h;exact h.elim
def KD.any{α:Type}{M:Model}{A:Around}{t:Sem α}{e:Addr}{d:Sr}{Q:α->Shared->Prop}{E:SK}{s:Shared}(h:KD t)(k:DK e d s.heap)(w:wpAny M A t Q E s):
  wpAny M A t (λa i=>Q a i/\DK e d i.heap) (λv i=>E v i/\DK e d i.heap) s:=λΓ p hg=>KD.keep t p s h k (w Γ p hg)
def dA{α β:Type}:∀{m:Sem α}{f:α->Sem β},KD m->(∀a,KD (f a))->KD (m >>= f):=by
 intro m;show ∀{f:α->Sem β},KD m->(∀a,KD (f a))->KD (m.bind f)
 induction m with
 |pure a=>intro f _ h;exact h a
 |raise v=>intro f _ h;trivial
 |unsupported _=>intro f _ h;trivial
 |finish _=>intro f _ h;trivial
 |rule _ k i=>intro f g h;exact i () g h
 | «at» _ k i=>intro f g h;exact i () g h
 |load a _ k i=>intro f g h;exact λo=>i o (g o) h
 |update a _ u k i=>intro f g h;exact⟨g.1,i () g.2 h⟩
 |alloc o k i=>intro f g h;exact λo=>i o (g o) h
 |loadIfAlive a k i=>intro f g h;exact λo=>i o (g o) h
 |point _ k i=>intro f g h;exact i () g h
 |fresh k i=>intro f g h;exact λo=>i o (g o) h
 |ask k i=>intro f g h;exact λo=>i o (g o) h
 |handled _ k i=>intro f g h;exact λo=>i o (g o) h
 |stack k i=>intro f g h;exact λo=>i o (g o) h
 |thread k i=>intro f g h;exact λo=>i o (g o) h
 |register _ k i=>intro f g h;trivial
 |_=>intro f g;exact g.elim
def GO{α:Type}{c:Prop}[Decidable c]{a b:Sem α}(i:KD a)(j:KD b):KD (if c then a else b):=by
 split
 .exact i
 .exact j
def qz(f:Array Value->Array Value)(o:Obj):(Obj.mapFields f o).dict=o.dict:=by obtain⟨c,d,x,s⟩:=o;cases x<;>rfl
def pW(a:Addr):KD (load a):=λo=>trivial
def uP(a:Addr)(i:Nat)(v:Value):KD (updateField a i v):=by
 unfold updateField;refine dA (pW a) λo=>?_;split
 .exact GO ⟨λo=>qz _ o,trivial⟩ trivial
 .trivial
def nV(v:Value)(i:Nat)(x:Value):KD (setField v i x):=by
 unfold setField;split
 .exact uP _ _ _
 .trivial
local macro_rules | `(tactic| injections) => `(tactic| repeat' (first | trivial | assumption | exact nV _ _ _ | exact pW _ | exact kd_pure _ | refine dA ?_ λ_=>?_ | split | exact⟨λ_=>rfl,trivial⟩ | (intro _)))
def kZ(v:Value)(i:Nat):KD (PySem.field v i):=by
 have h:KD (fieldsOf v):=by unfold fieldsOf;injections
 unfold PySem.field
 injections
def jh(v:Value)(f:Sr):KD (setFlight v f):=by
 unfold setFlight;refine dA (kZ _ _) λ_=>?_
 injections
def Dg(env:Env)(b:Bool):∀l,KD (keptBack env b l):=by
 have h:KD underTheClaimsCaller:=by unfold underTheClaimsCaller;injections
 intro l;cases l<;>unfold keptBack<;>injections
def zh(env:Env)(l:List Env):KD (behindIsImport env l):=by
 have h:=kZ env.code 12;unfold behindIsImport
 injections
def ut:∀l:List Env,KD (readyFrames l)
 |[]=>trivial
 |env::outer=>by
  have u:=ut outer;have j:=zh env outer;have i:∀b,KD (keptBack env b outer):=λb=>Dg env b outer;unfold readyFrames
  repeat' (first | trivial | assumption | exact i _ | exact pW _ | exact a _ | refine dA ?_ λ_=>?_ | split | exact⟨λ_=>rfl,trivial⟩)
def tx:KD stack:=λ_=>trivial
def xk(env:Env):KD (PySem.frameOf env):=by
 have h:KD frameEnvs:=by unfold frameEnvs;exact dA tx λ_=>trivial
 have i:∀l,KD (frameObject l):=λl=>by
  cases l with
  |nil=>trivial
  |cons a l=>unfold frameObject;exact dA (ut _) λ_=>trivial
 unfold PySem.frameOf;refine dA h λ_=>dA (i _) λ_=>?_
 split<;>trivial
def zI(c:Value)(x:Data)(d:Sr):KD (newObj c x d):=by
 unfold newObj
 injections
def AM(f:Addr)(b:Bool):KD (entryPlaceOf f b):=by
 unfold entryPlaceOf;refine dA tx λ_=>?_
 split<;>trivial
def vJ(e:Value)(env:Env):KD (noteFrame e env):=by
 have l:=kZ e 1;have j:∀v,KD (PySem.field v 3):=λv=>kZ v 3;have u:=xk env;have i:∀f b,KD (entryPlaceOf f b):=AM;unfold noteFrame EntryCells.newEntry newFields
 repeat' (first | trivial | assumption | exact j _ | exact i _ _ | exact zI _ _ _ | exact nV _ _ _ | exact a _ | refine dA ?_ λ_=>?_ | split)
def xm(env:Env)(e:Value):KD (leaving env e):=dA (vJ e env) λ_=>jh e Y
end L2
namespace MM
open PySem.Spec PyProof.Rows L2
inductive PV where
 |non | bl (b:Bool) | int (i:Int) | str (x:Str) | tup (xs:List PV) | frl (xs:List PV) | loc (n:Nat)
abbrev _root_.SM:=List PV
abbrev _root_.Ss:=Option PV
structure va where
 cls:Str
 fs:List (Str×PV):=[]
inductive MO where
 |lst(xs:SM)
 |dic(fz:Bool)(ks:SS)(xs:SM)
 |exc(x:va)
def MO.fzd:MO->Bool
 |.dic fz _ _=>fz
 |_=>T
abbrev MH:=List MO
abbrev p_:=List (Ss)
inductive Out(α:Type) where
 |ok(a:α)(h:MH)
 |exc(x:va)(h:MH)
 |bad
abbrev _root_.SH:=Out PV
def Out.bind{α β:Type}(o:Out α)(f:α->MH->Out β):Out β:=match o with
 |.ok a h=>f a h
 |.exc x h=>.exc x h
 |.bad=>.bad
@[simp]theorem Out.bind_ok(a:α)(h:MH)(f:α->MH->Out β):(Out.ok a h).bind f=f a h:=rfl
@[simp]theorem Out.bind_exc(x:va)(h:MH)(f:α->MH->Out β):(Out.exc x h).bind f=.exc x h:=rfl
@[simp]theorem Out.bind_bad(f:α->MH->Out β):(Out.bad:Out α).bind f=.bad:=rfl
inductive SOut where
 |nx(Z:p_)(h:MH)
 |rt(v:PV)(h:MH)
 |bk(Z:p_)(h:MH)
 |ct(Z:p_)(h:MH)
 |exc(x:va)(Z:p_)(h:MH)
 |rse(x:va)(Z:p_)(h:MH)
 |bad
def Out.ne{α:Type}(o:Out α):Out α:=match o with
 |.exc _ _=>.bad
 |o=>o
@[simp]theorem Out.ne_ok(a:α)(h:MH):(Out.ok a h).ne=.ok a h:=rfl
@[simp]theorem Out.ne_bad:(Out.bad:Out α).ne=.bad:=rfl
@[simp]theorem Out.ne_ne(o:Out α):o.ne.ne=o.ne:=by cases o<;>rfl
def SqF(K:g_)(H:Hp)(a:Addr)(ys:List V):Prop :=
 (∃o,H a=J (.frz o (.lst ys))) \/
  ∃(o:Obj) (i:Array Value) (n:Nat),K.lookup a=J o/\o.cls=.type "list"/\o.dict=Y/\o.data=.seq i n/\i.size<=sizeLine/\aL ys i.toList
def SqF.sq{K:g_}{H:Hp}{a:Addr}{ys:List V}(h:SqF K H a ys):SqL K H a ys:=by
 rcases h with h|h
 .exact .inl (.inr h)
 .exact .inr h
mutual
inductive RP(K:g_)(U:SW)(H:Hp):PV->V->Prop where
 |non:RP K U H .non .non
 |bl(b:Bool):RP K U H (.bl b) (.bl b)
 |int(i:Int):RP K U H (.int i) (.int i)
 |str(x:Str):RP K U H (.str x) (.str x)
 |tup{xs:SM}{a:Addr}{ys:List V}(s:SqT K H a ys)(r:RPs K U H xs ys):RP K U H (.tup xs) (.ref a)
 |frl{xs:SM}{a:Addr}{ys:List V}(s:SqF K H a ys)(r:RPs K U H xs ys):RP K U H (.frl xs) (.ref a)
 |loc{n:Nat}{a:Addr}(e:U[n]?=J a):RP K U H (.loc n) (.ref a)
inductive RPs(K:g_)(U:SW)(H:Hp):SM->List V->Prop where
 |nil:RPs K U H [] []
 |cons{x:PV}{y:V}{xs:SM}{ys:List V}(r:RP K U H x y)(t:RPs K U H xs ys):RPs K U H (x::xs) (y::ys)
end
structure Le(U:SW)(H:Hp)(U':SW)(H':Hp):Prop where
 pre:∃m,U'=U++m
 tup:∀a xs,H a=J (.tup xs)->H' a=J (.tup xs)
 frz:∀a o u,H a=J (.frz o u)->H' a=J (.frz o u)
def Le.refl(U:SW)(H:Hp):Le U H U H:=⟨⟨[],by simp⟩,λ_ _ h=>h,λ_ _ _ h=>h⟩
def Le.trans(a:Le U H U1 H1)(b:Le U1 H1 U2 H2):Le U H U2 H2:=by obtain⟨m,e⟩:=a.pre;obtain⟨j,i⟩:=b.pre;exact⟨⟨m++j,by rw[i,e,J0]⟩,λc xs h=>b.tup c xs (a.tup c xs h),λc o u h=>b.frz c o u (a.frz c o u h)⟩
def Le.get{U i:SW}{H u:Hp}(l:Le U H i u){n:Nat}{a:Addr}(e:U[n]?=J a):i[n]?=J a:=by obtain⟨m,j⟩:=l.pre;rw[j,qs (qi.mp e).1];exact e
def Le.sqt{K:g_}{U j:SW}{H i:Hp}(l:Le U H j i){a:Addr}{xs:List V}(h:SqT K H a xs):SqT K i a xs:=by
 rcases h with(h|⟨o,h⟩)|h
 .exact .inl (.inl (l.tup _ _ h))
 .exact .inl (.inr ⟨o,l.frz _ _ _ h⟩)
 .exact .inr h
def Le.sqf{K:g_}{U j:SW}{H i:Hp}(l:Le U H j i){a:Addr}{xs:List V}(h:SqF K H a xs):SqF K i a xs:=by
 rcases h with⟨o,h⟩|h
 .exact .inl ⟨o,l.frz _ _ _ h⟩
 .exact .inr h
section
variable{K:g_}{U U':SW}{H H':Hp}
def RP.le(l:Le U H U' H'){x:PV}{y:V}(r:RP K U H x y):RP K U' H' x y :=
 RP.rec .non .bl .int .str (λs _ i=>.tup (l.sqt s) i) (λs _ i=>.frl (l.sqf s) i) (λe=>.loc (l.get e)) .nil (λ_ _ a b=>.cons a b) r
def RPs.le(l:Le U H U' H')(r:RPs K U H xs ys):RPs K U' H' xs ys:=by
 induction xs generalizing ys with
 |nil=>cases r;exact .nil
 |cons x xs i=>cases r with|cons a t=>exact .cons (a.le l) (i t)
def RPs.length(r:RPs K U H xs ys):xs.length=ys.length:=by
 induction xs generalizing ys with
 |nil=>cases r;rfl
 |cons x xs i=>cases r with|cons a t=>exact congrArg (·+1) (i t)
def RPs.get{xs:SM}{ys:List V}{i:Nat}{x:PV}(r:RPs K U H xs ys)(e:xs[i]?=J x):∃y,ys[i]?=J y/\RP K U H x y:=by
 induction xs generalizing ys i with
 |nil=>cases e
 |cons x xs j =>
  cases r with
  |cons a t =>
   cases i with
   |zero=>cases e;exact⟨_,rfl,a⟩
   |succ i=>have z:=@j _ i t e;exact z
def RPs.set(r:RP K U H x u)(i:Nat)(q:RPs K U H xs us):RPs K U H (xs.set i x) (us.set i u):=by
 induction xs generalizing us i with
 |nil=>cases q;exact .nil
 |cons x xs j =>
  cases q with
  |cons a t =>
   cases i with
   |zero=>exact .cons r t
   |succ i=>exact .cons a (j i t)
def RPs.append(r:RPs K U H xs us)(s:RPs K U H ys ws):RPs K U H (xs++ys) (us++ws):=by
 induction xs generalizing us with
 |nil=>cases r;exact s
 |cons x xs i=>cases r with|cons a t=>exact .cons a (i t)
def RPs.take(n:Nat)(r:RPs K U H xs us):RPs K U H (xs.take n) (us.take n):=by
 induction n generalizing xs us with
 |zero=>exact .nil
 |succ n i =>
  cases xs with
  |nil=>cases r;exact .nil
  |cons x xs=>cases r with|cons a t=>exact .cons a (i t)
def RPs.drop(n:Nat)(r:RPs K U H xs us):RPs K U H (xs.drop n) (us.drop n):=by
 induction n generalizing xs us with
 |zero=>exact r
 |succ n i =>
  cases xs with
  |nil=>cases r;exact .nil
  |cons x xs=>cases r with|cons a t=>exact i t
def RPs.ints:∀(ns:SS),RPs K U H (ns.map PV.int) (ns.map V.int)
 |[]=>.nil
 |n::r=>.cons (.int n) (RPs.ints r)
end
def iH(a C:Addr)(h:Heap):Prop:=∃o i,h.get? a=J o/\o.cls=.ref C/\o.data=.fields i
abbrev BS:=Str->SD
def kz(a:SS)(ys:List V):List (tr×V):=(a.map Sum.inl).zip ys
def dO(fz:Bool)(a:Option HO)(u:HO):Prop:=match fz with
 |false=>a=J u
 |true=>∃o,a=J (.frz o u)
def RO(K:g_)(mg:BS)(U:SW)(H:Hp)(a:Addr):MO->Option HO->Prop
 |.lst xs,i=>∃ys,i=J (.lst ys)/\RPs K U H xs ys
 |.dic fz j xs,i=>∃ys:List V,ys.length=j.length/\RPs K U H xs ys/\dO fz i (.dK (kz j ys))
 |.exc x,i=>x.fs=[]/\∃C,mg x.cls=J (.ref C)/\i=J (.ext (iH a C))
def nj{fz:Bool}{P:Program}{w:World}{H:Hp}{h:Heap}{a:Addr}{i:List (tr×V)}(ok:HOk P w H h)(e:dO fz (H a) (.dK i)):i.length<=sizeLine/\(a==sysModules)=T/\∃j,KV i j/\h.DictOf (fP P w) a j:=by
 cases fz with
 |false=>exact(ok a _ e)
 |true =>
  obtain⟨o,e⟩:=e;exact(ok a _ e).2
structure RH(K:g_)(mg:BS)(U:SW)(H:Hp)(h:MH):Prop where
 len:U.length=h.length
 nd:U.Nodup
 at':∀(n:Nat)(a:Addr)(o:MO),U[n]?=J a->h[n]?=J o->RO K mg U H a o (H a)
def RO.le{K:g_}{mg:BS}{U u:SW}{H j:Hp}{a:Addr}(l:Le U H u j){o:MO}{i:Option HO}(r:RO K mg U H a o i):RO K mg u j a o i:=by
 cases o with
 |lst xs=>obtain⟨ys,e,r⟩:=r;exact⟨ys,e,r.le l⟩
 |dic fz y xs=>obtain⟨ys,e,r,q⟩:=r;exact⟨ys,e,r.le l,q⟩
 |exc x=>exact r
def RO.some{K:g_}{mg:BS}{U:SW}{H:Hp}{a:Addr}{o:MO}{i:Option HO}(r:RO K mg U H a o i):i≠Y:=by
 cases o with
 |lst xs=>obtain⟨ys,e,_⟩:=r;rw[e];simp
 |dic fz j xs =>
  obtain⟨ys,_,_,q⟩:=r
  cases fz with
  |false=>rw[show i=_ from q];simp
  |true=>obtain⟨o,q⟩:=q;rw[q];simp
 |exc x=>obtain⟨_,C,_,e⟩:=r;rw[e];simp
def RO.plain{K:g_}{mg:BS}{U:SW}{H:Hp}{a:Addr}{o:MO}{i:Option HO}(r:RO K mg U H a o i)(hf:o.fzd=T):(∀xs,i≠Option.some (.tup xs))/\∀p u,i≠Option.some (.frz p u):=by
 cases o with
 |lst xs=>obtain⟨ys,e,_⟩:=r;rw[e];exact⟨(λ_ z=>nomatch z),(λ_ _ z=>nomatch z)⟩
 |dic fz j xs =>
  obtain⟨ys,_,_,q⟩:=r
  cases fz with
  |false=>rw[show i=_ from q];exact⟨(λ_ z=>nomatch z),(λ_ _ z=>nomatch z)⟩
  |true=>cases hf
 |exc x=>obtain⟨_,C,_,e⟩:=r;rw[e];exact⟨(λ_ z=>nomatch z),(λ_ _ z=>nomatch z)⟩
section
variable{K:g_}{mg:BS}{U:SW}{H:Hp}{h:MH}
def RH.obj(r:RH K mg U H h){n:Nat}{a:Addr}(e:U[n]?=J a):∃o,h[n]?=J o/\RO K mg U H a o (H a):=by
 have i:n<h.length:=by rw[<-r.len];exact(qi.mp e).1
 exact⟨h[n],by simp,r.at' n a _ e (by simp)⟩
def RH.new(r:RH K mg U H h){p:Addr}(E:H p=Y){o:MO}{ho:HO}(L:RO K mg U H p o (J ho)):RH K mg (U++[p]) (upd H p ho) (h++[o])/\Le U H (U++[p]) (upd H p ho):=by
 have i:∀n a,U[n]?=J a->a≠p:=λn a e z=>by
  obtain⟨F,_,q⟩:=r.obj e;rw[z,E]at q;exact q.some rfl
 have l:Le U H (U++[p]) (upd H p ho):=⟨⟨[p],rfl⟩,λa xs e=>by rw[az (bu e E)];exact e,λa O u e=>by rw[az (bu e E)];exact e⟩;refine⟨⟨by simp[r.len],?_,λn a F e1 e2=>?_⟩,l⟩
 .rw[Op];refine⟨r.nd,by simp,λa M b G=>?_⟩;obtain⟨n,e⟩:=QR.mp M;have y:b=p:=by simpa using G
  rw[y];exact i n a e
 .by_cases j:n<U.length
  .rw[qs j]at e1;rw[qs (by rw[<-r.len];exact j)]at e2;rw[az (i n a e1)];exact(r.at' n a F e1 e2).le l
  .rw[BL ⋯]at e1;rw[BL (by rw[<-r.len];lia)]at e2;have B:n-U.length=0:=by
    grind
   rw[B]at e1;have C:n-h.length=0:=by have:=r.len;lia
   rw[C]at e2;simp at e1 e2;subst e1;subst e2;rw[aK];exact L.le l
def RH.put(r:RH K mg U H h){n:Nat}{a:Addr}(e:U[n]?=J a){o:MO}{ho:HO}(C:RO K mg U H a o (J ho))(hd:∃o0,h[n]?=J o0/\o0.fzd=T:=by exact⟨_,by assumption,rfl⟩):RH K mg U (upd H a ho) (h.set n o)/\Le U H U (upd H a ho):=by
 obtain⟨o0,y,q⟩:=r.obj e;obtain⟨Q,j,hf⟩:=hd;rw[j]at y;cases y;obtain⟨E,O⟩:=q.plain hf
 have l:Le U H U (upd H a ho):=⟨⟨[],by simp⟩,λb xs z=>by
   have:b≠a:=by rintro rfl;exact E _ z
   rw[az this];exact z,λb R u z=>by
   have:b≠a:=by rintro rfl;exact O _ _ z
   rw[az this];exact z⟩
 refine⟨⟨by simp[r.len],r.nd,λm b F e1 e2=>?_⟩,l⟩;by_cases i:m=n
 .subst i;rw[e]at e1;cases e1;rw[aK]
  have:m<h.length:=by rw[<-r.len];exact(qi.mp e).1
  rw[x4 this]at e2;cases e2;exact C.le l
 .rw[n8 (λz=>i z.symm)]at e2;have B:b≠a:=by
   rintro rfl;have M:=qi.mp e;have G:=qi.mp e1;obtain⟨S,L⟩:=M;obtain⟨W,P⟩:=G;exact i ((List.getElem_inj r.nd).mp (P.trans L.symm))
  rw[az B];exact(r.at' m b F e1 e2).le l
def RH.tup(r:RH K mg U H h){p:Addr}(j:H p=Y)(ys:List V):RH K mg U (upd H p (.tup ys)) h/\Le U H U (upd H p (.tup ys)):=by
 have i:∀n a,U[n]?=J a->a≠p:=λn a e z=>by
  obtain⟨B,_,q⟩:=r.obj e;rw[z,j]at q;exact q.some rfl
 have l:Le U H U (upd H p (.tup ys)):=⟨⟨[],by simp⟩,λa xs e=>by rw[az (bu e j)];exact e,λa y u e=>by rw[az (bu e j)];exact e⟩;exact⟨⟨r.len,r.nd,λn a o e1 e2=>by rw[az (i n a e1)];exact(r.at' n a o e1 e2).le l⟩,l⟩
end
def RS(K:g_)(U:SW)(H:Hp)(a:p_)(Z:L2.St):Prop :=
 Z.length=a.length/\∀(i:Nat)(v:PV),a[i]?=J (J v)->∃j,Z[i]?=J (J j)/\RP K U H v j
def RS.le{K:g_}{U j:SW}{H a:Hp}{σp:p_}{Z:L2.St}(l:Le U H j a)(r:RS K U H σp Z):RS K j a σp Z :=
 ⟨r.1,λi v e=>by obtain⟨y,u,q⟩:=r.2 i v e;exact⟨y,u,q.le l⟩⟩
def RS.set{K:g_}{U:SW}{H:Hp}{a:p_}{Z:L2.St}(r:RS K U H a Z)(i:Nat){v:PV}{y:V}(q:RP K U H v y):RS K U H (a.set i (J v)) (Z.set i (J y)):=by
 refine⟨by simp[r.1],λj u e=>?_⟩;by_cases l:j=i
 .subst l;by_cases hl:j<a.length
  .rw[x4 hl]at e;cases e;exact⟨y,x4 (by rw[r.1];exact hl),q⟩
  .rw[BM (by simp;lia)]at e;cases e
 .rw[n8 (λz=>l z.symm)]at e;obtain⟨E,B,C⟩:=r.2 j u e;exact⟨E,by rw[n8 (λz=>l z.symm)];exact B,C⟩
def QU(B:Heap)(fs:SW)(h:Heap):Prop:=∀b o,h.get? b=J o->b∉fs->∃a,B.get? b=J a
def O3(l:List Env)(H:Hp)(a:Heap)(C i:Addr)(h:Heap):Prop :=
 ∃B t,Heap.FlyingW B l i (.ref C) (.ref t) h/\(∀b o,H b=J o->∃j,B.get? b=J j)/\QU B (Al l) a/\H i=Y
structure Cp(X:Cx)(h:Heap):Prop where
 old:∀b o,X.s₀.heap.get? b=J o->b∉X.ex->∃o',h.get? b=J o'
 cell:∀x c,X.env.cells.lookup x=J c->∃o,h.get? c=J o
 pin:∀p∈X.pn,∃o,h.get? p.1=J o
def Inv.bears{X:Cx}{l:SA}{Z:L2.St}{H:Hp}{s:Shared}(a:Inv X l Z H s):Cp X s.heap :=
 ⟨λb o e n=>a.base.there b o e n,λx c e=>let⟨_,o,i,_⟩:=a.cell x c e;⟨o,i⟩,λp j=>⟨_,(a.pin p (F1 _ j)).1⟩⟩
def FD(d:Addr)(f:Str)(i:Int)(h:Heap):Prop:=∃t,h.Ns1 d (λy=>if y=f then J (.int i t)else Y)
def Nm(x:va)(H:Hp)(a:Sr):Prop:=x.fs=[]/\a=Y\/∃f i d,x.fs=[(f,PV.int i)]/\a=J d/\H d=J (.ext (FD d f i))
def DvA(a:Sr)(e:Addr)(h:Heap):Prop:=∀d,a=J d->L2.DK e (J d) h
def DvA.none{e:Addr}{h:Heap}:DvA Y e h:=λd z=>by cases z
def xQ{M:Model}{A:Around}{env:Env}{e:Addr}{i:Sr}{Q:Unit->Shared->Prop}{E:SK}{s:Shared}(hd:DvA i e s.heap)(w:wpAny M A (leaving env (.ref e)) (λu a=>DvA i e a.heap->Q u a) E s):wpAny M A (leaving env (.ref e)) Q E s:=by
 cases i with
 |none=>exact wpAny_mono w (λu a h=>h DvA.none) λ_ _ h=>h
 |some d=>exact wpAny_mono (L2.KD.any (L2.xm _ _) (hd d rfl) w) (λu a h=>h.1 λj z=>by cases z;exact h.2) λ_ _ h=>h.1
def XP(X:Cx)(u:p_)(U:SW)(H:Hp)(x:va)(h:MH):Prop:=∀(l C:Addr)(y:SW)(a:Hp)(z:L2.St)(j:Shared)(i:Heap)(B:Sr),Nm x a B->X.mg x.cls=J (.ref C)->Le U H y a->RH X.K X.mg y a h->RS X.K y a u z ->
 Inv X [] z a j->Cp X i->O3 X.stack a i C l j.heap->DvA B l j.heap->X.xe (.ref l) j
structure Fb(h h':Heap)(e C:Addr):Prop where
 keeps:∀b o,h.get? b=J o->h'.get? b=J o
 new:h.get? e=Y
 there:∃t dx,h'.get? e=J { cls:=.ref C,dict:=dx,data:=.fields #[.ref t,.none,.none,.none,.bool T,.none]}
def XM(X:Cx)(l:p_)(U:SW)(H:Hp)(x:va)(h:MH):Prop:=∀(j C:Addr)(u:SW)(a:Hp)(y:L2.St)(i:Shared)(z:Heap)(B:Sr),Nm x a B->X.mg x.cls=J (.ref C)->Le U H u a->RH X.K X.mg u a h->RS X.K u a l y ->
 Inv X [] y a { i with heap:=z}->Fb z i.heap j C->DvA B j i.heap->X.xe (.ref j) i
def XP.le(l:Le U H U' H')(q:XP X σp U H x h):XP X σp U' H' x h :=
 λu C E j B y a z e1 e2 i=>q u C E j B y a z e1 e2 (l.trans i)
def XM.le(l:Le U H U' H')(q:XM X σp U H x h):XM X σp U' H' x h :=
 λu C E j B y a z e1 e2 i=>q u C E j B y a z e1 e2 (l.trans i)
abbrev Rl(α β:Type):=SW->Hp->α->β->Prop
def Ful{α β:Type}(X:Cx)(R:Rl α β)(i:p_)(U:SW)(H:Hp)(o:Out α)(Q:β->Hp->Prop):Prop:=match o with
 |.ok v j=>∀l a u,Le U H l a->RH X.K X.mg l a j->R l a v u->Q u a
 |.exc x j=>XP X i U H x j
 |.bad=>False
def j5{α β:Type}(X:Cx)(R:Rl α β)(U:SW)(H:Hp)(o:Out α)(Q:β->Hp->Prop):Prop:=match o with
 |.ok v l=>∀i a j,Le U H i a->RH X.K X.mg i a l->R i a v j->Q j a
 |_=>False
def Ful.zero(f:Ful X R σp U H o.ne Q):j5 X R U H o Q:=by
 cases o with
 |ok v h=>exact f
 |exc x h=>exact f
 |bad=>exact f
def Ful.le(l:Le U H U1 H1)(f:Ful X R σp U H o Q):Ful X R σp U1 H1 o Q:=by
 cases o with
 |ok v h=>exact λu a j i=>f u a j (l.trans i)
 |exc x h=>exact XP.le l f
 |bad=>exact f
def Ful.bind{α β γ δ:Type}{X:Cx}{R:Rl α β}{S:Rl γ δ}{a:p_}{U:SW}{H:Hp}{o:Out α}{f:α->MH->Out γ}{Q:δ->Hp->Prop}{z:β->Hp->Prop}(q:Ful X S a U H (o.bind f) Q)(k:∀u i v j y,o=.ok v y->Le U H u i->RH X.K X.mg u i y->R u i v j->Ful X S a u i (f v y) Q->z j i):Ful X R a U H o z:=by
 cases o with
 |ok v h=>exact λC B j l r w=>k C B v j h rfl l r w (Ful.le l q)
 |exc x h=>exact q
 |bad=>exact q
abbrev RV'(X:Cx):Rl PV V:=λU H=>RP X.K U H
abbrev RVs'(X:Cx):Rl (SM) (List V):=λU H=>RPs X.K U H
abbrev KL{α:Type}:Rl α α:=λ_ _ x y=>x=y
abbrev Mx(α:Type):=p_->MH->Out α
inductive tM{α β:Type}(X:Cx)(R:Rl α β)(m:Mx α)(Z:L2.St)(H:Hp)(Q:β->Hp->Prop):Prop
 |mk(U:SW)(σp:p_)(h:MH)(rs:RS X.K U H σp Z)(rh:RH X.K X.mg U H h)(q:Ful X R σp U H (m σp h) Q):tM X R m Z H Q
def ME(X:Cx)(e:Expr)(m:Mx PV):Prop:=PE X e (tM X (RV' X) m)
def MT(X:Cx)(e:Expr)(m:Mx Bool):Prop:=PT X e (tM X KL m)
def MW(X:Cx)(e:Expr)(m:Mx Bool):Prop:=PW X e (tM X KL m)
def MA(X:Cx)(a:SG)(m:Mx (SM)):Prop:=PA X a (tM X (RVs' X) m)
def PE.imp(h:PE X e t)(i:∀Z H Q,t' Z H Q->t Z H Q):PE X e t':=λj s Z H Q a q=>h j s Z H Q a (i Z H Q q)
def PT.imp(h:PT X e t)(i:∀Z H Q,t' Z H Q->t Z H Q):PT X e t':=λj s Z H Q a q=>h j s Z H Q a (i Z H Q q)
def PW.imp(h:PW X e t)(i:∀Z H Q,t' Z H Q->t Z H Q):PW X e t':=λa l s Z H Q j q=>h a l s Z H Q j (i Z H Q q)
def PA.imp(h:PA X e t)(i:∀Z H Q,t' Z H Q->t Z H Q):PA X e t':=λj l s Z H Q a q=>h j l s Z H Q a (i Z H Q q)
def PS.imp(h:PS X e t)(i:∀D Z H,t' D Z H->t D Z H):PS X e t':=λj s Z H D a q=>h j s Z H D a (i D Z H q)
def PSs.imp(h:PSs X e t)(i:∀D Z H,t' D Z H->t D Z H):PSs X e t':=λj s Z H D a q=>h j s Z H D a (i D Z H q)
def bt(X:Cx)(U:SW)(H:Hp)(o:SOut)(D:Ends):Prop:=match o with
 |.nx a l=>∀j i u,Le U H j i->RH X.K X.mg j i l->RS X.K j i a u->D.nx u i
 |.bk a l=>∀j i u,Le U H j i->RH X.K X.mg j i l->RS X.K j i a u->D.bk u i
 |.ct a l=>∀j i u,Le U H j i->RH X.K X.mg j i l->RS X.K j i a u->D.ct u i
 |.rt v l=>∀j i y,Le U H j i->RH X.K X.mg j i l->RP X.K j i v y->D.rt y i
 |.exc x a l=>XP X a U H x l
 |.rse x a l=>XM X a U H x l
 |.bad=>False
def bt.le(l:Le U H U1 H1)(f:bt X U H o D):bt X U1 H1 o D:=by
 cases o with
 |nx a h=>exact λi y u j=>f i y u (l.trans j)
 |bk a h=>exact λi y u j=>f i y u (l.trans j)
 |ct a h=>exact λi y u j=>f i y u (l.trans j)
 |rt v h=>exact λi y u j=>f i y u (l.trans j)
 |exc x a h=>exact XP.le l f
 |rse x a h=>exact XM.le l f
 |bad=>exact f
abbrev nr:=p_->MH->SOut
inductive No(X:Cx)(m:nr)(D:Ends)(Z:L2.St)(H:Hp):Prop
 |mk(U:SW)(σp:p_)(h:MH)(rs:RS X.K U H σp Z)(rh:RH X.K X.mg U H h)(q:bt X U H (m σp h) D):No X m D Z H
def MS(X:Cx)(st:Stmt)(m:nr):Prop:=PS X st (No X m)
def Bx(X:Cx)(st:Sq)(m:nr):Prop:=PSs X st (No X m)
section
variable{X:Cx}{N W G:SQ}{k:Nat}
structure Good(X:Cx)(N W G:SQ)(k:Nat):Prop where
 hN:X.N=N
 nd:N.Nodup
 loc:∀x∈N,Loc X.env.scope x
 fn:∀x∈W,X.fn x=I\/X.env.scope.names.lookup x=J .local
 gl:∀x∈G,Gl X x
 dbg:∀x∈N++G,(x==("__debug__":Str))=T/\(x==("__classdict__":Str))=T/\x≠"__name__"
 calm:X.calm=I
 room:Room k X.A
 po:PassesOwn (model X.prog X.w) X.A X.env X.xe
def Good.x(g:Good X N W G k){i:Nat}{x:Str}(a:N[i]?=J x):X.N[i]?=J x:=by rw[g.hN];exact a
def aM{l:SQ}{i:Nat}{x:Str}(a:l[i]?=J x):x∈l:=BA a
def rJ(X:Cx)(g:PV->PV->MH->SH):R2:=λa i H Q=>∃U h x y,RH X.K X.mg U H h/\RP X.K U H x a/\RP X.K U H y i/\j5 X (RV' X) U H (g x y h) Q
abbrev A4(X:Cx)(f:Value->Value->Sem Value)(g:PV->PV->MH->SH):Prop:=OpR X f (rJ X g)
def uJ(X:Cx)(g:PV->MH->SH):V->Hp->VK->Prop:=λa H Q=>∃U h x,RH X.K X.mg U H h/\RP X.K U H x a/\j5 X (RV' X) U H (g x h) Q
abbrev QV(X:Cx)(f:Value->Sem Value)(g:PV->MH->SH):Prop:=Nk X f (uJ X g)
def cJ(X:Cx)(g:SM->MH->SH):List V->Hp->VK->Prop:=λa H Q=>∃U h xs,RH X.K X.mg U H h/\RPs X.K U H xs a/\j5 X (RV' X) U H (g xs h) Q
abbrev cX(X:Cx)(f:Value)(g:SM->MH->SH):Prop:=dy X f (cJ X g)
def am(i:Nat):Mx PV:=λZ h=>match Z[i]? with
 |some (J v)=>.ok v h
 |_=>.bad
def mC(v:PV):Mx PV:=λ_ h=>.ok v h
def xU(g:Good X N W G k)(i:Nat){x:Str}{l:Pos}(a:N[i]?=J x):ME X (.Name x l) (am i):=by
 have d:=g.dbg x (F1 _ (aM a));have hv:JA X.env.scope x:=by
  rcases g.loc x (aM a)with q|q
  .exact .inl q
  .exact .inr (.inl q)
 refine PE.imp (kE (g.x a) hv d.1 d.2.1) λZ H Q ⟨U,j,h,y,B,f⟩=>?_;unfold am at f
 cases e:j[i]? with
 |none=>rw[e]at f;exact f.elim
 |some o =>
  rw[e]at f
  cases o with
  |none=>exact f.elim
  |some v =>
   obtain⟨u,z,r⟩:=y.2 i v e;exact⟨u,z,f U H u (Le.refl _ _) B r⟩
def aI:ME X (.Constant (.int i) j pos) (mC (.int i)):=PE.imp Gb λ_ H _ ⟨U,_,_,_,a,f⟩=>f U H _ (Le.refl _ _) a (.int i)
def KN:ME X (.Constant (.bool i) j pos) (mC (.bl i)):=PE.imp J8 λ_ H _ ⟨U,_,_,_,a,f⟩=>f U H _ (Le.refl _ _) a (.bl i)
def GP:ME X (.Constant .none j pos) (mC .non):=PE.imp yw λ_ H _ ⟨U,_,_,_,a,f⟩=>f U H _ (Le.refl _ _) a .non
def aA(f:PV->PV->MH->SH)(i mb:Mx PV):Mx PV:=λZ h=>(i Z h).bind λx a=>(mb Z a).bind λy j=>(f x y j).ne
def KO(f:PV->MH->SH)(i:Mx PV):Mx PV:=λZ h=>(i Z h).bind λx a=>(f x a).ne
def ur{f:PV->PV->MH->SH}{u mb:Mx PV}{Z:L2.St}{H:Hp}{Q:VK}(q:tM X (RV' X) (aA f u mb) Z H Q):Kl (rJ X f) (tM X (RV' X) u) (tM X (RV' X) mb) Z H Q:=by obtain⟨U,a,h,l,O,q⟩:=q;refine⟨U,a,h,l,O,Ful.bind q λz H1 x x' M _ L j B C=>?_⟩;refine⟨z,a,M,l.le L,j,Ful.bind C λS H2 y y' F _ R i E P=>?_⟩;exact⟨S,F,x,y,i,B.le R,E,P.zero⟩
def aR(i:A4 X (binaryOp op) f)(l:ME X a ma)(j:ME X b mb):ME X (.BinOp a op b pos) (aA f ma mb) :=
 PE.imp (Km i l j) λ_ _ _ q=>ur q
def KP(l:QV X (unaryOp op) f)(B:ME X a ma):ME X (.UnaryOp op a pos) (KO f ma) :=
 PE.imp (Kn l B) λ_ _ _ ⟨U,i,h,F,y,q⟩=>⟨U,i,h,F,y,Ful.bind q λC M x H u _ L j E z=>⟨C,u,x,j,E,z.zero⟩⟩
def GQ(i:A4 X (compareOp op) f)(u:ME X a ma)(j:ME X b mb)(l:behindInMarks op b=T):ME X (.Compare a [op] [b] pos) (aA f ma mb) :=
 PE.imp (C3 i u j l) λ_ _ _ q=>ur q
def mB(m:Mx PV):Mx Bool:=λZ h=>(m Z h).bind λv a=>match v with
 |.bl b=>.ok b a
 |_=>.bad
def KQ(q:tM X KL (mB m) Z H Q):tM X (RV' X) m Z H λx j=>∃c,x=.bl c/\Q c j:=by
 obtain⟨U,a,h,z,B,q⟩:=q;refine⟨U,a,h,z,B,Ful.bind q λu j x C F _ E i y l=>?_⟩
 cases y with
 |bl b=>exact⟨b,rfl,l u j b (Le.refl _ _) i rfl⟩
 |_=>exact l.elim
def yk(j:A4 X (compareOp op) f)(B:ME X a ma)(u:ME X b mb)(y:behindInMarks op b=T):MT X (.Compare a [op] [b] pos) (mB (aA f ma mb)) :=
 PT.imp (C4 j B u y) λZ H Q q=>by
  obtain⟨U,i,h,z,l,q⟩:=KQ q;exact ur ⟨U,i,h,z,l,q⟩
def GR(h:ME X e m)(i:∀a,isTrue e X.env a=(do let v <-a;standAt e.pos;holding [v] (truthy v)):=by intro _;rfl):MT X e (mB m) :=
 PT.imp (Gc h i) λ_ _ _ q=>KQ q
def GS(m:Mx Bool):Mx Bool:=λZ h=>(m Z h).bind λb a=>.ok (!b) a
def GU(h:MT X e m):MT X (.UnaryOp .Not e pos) (GS m) :=
 PT.imp (Gf h) λ_ _ _ ⟨U,a,h,z,j,q⟩=>⟨U,a,h,z,j,Ful.bind q λu B x C E _ F i y l=>by
  cases y;exact l u B _ (Le.refl _ _) i rfl⟩
def O4(a b:Mx Bool):Mx Bool:=λZ h=>(a Z h).bind λx i=>if x=I then .ok I i else b Z i
section
variable{a b:Expr}{rest:SG}{ma mb:Mx Bool}{pos:Pos}
def GV(i:MT X a ma):MW X (.BoolOp .Or [a] pos) ma:=Ge i
def KR(F:MT X a ma)(z:MW X (.BoolOp .Or (b::rest) pos) mb):MW X (.BoolOp .Or (a::b::rest) pos) (O4 ma mb) :=
 PW.imp (J9 F z) λZ H Q ⟨U,i,h,u,L,q⟩=>⟨U,i,h,u,L,Ful.bind q λl M x O E _ C j B y=>by
  cases B
  cases x with
  |true=>exact y l M _ (Le.refl _ _) j rfl
  |false=>exact⟨l,i,E,u.le C,j,y⟩⟩
def MW.mt(h:MW X e m):MT X e m:=PW.pt h
end
def wJ(a b:Mx PV):Mx PV:=λZ h=>(a Z h).bind λx i=>match x with
 |.bl c=>if c=I then b Z i else .ok (.bl T) i
 |_=>.bad
def wz(a:Mx PV):Mx PV:=λZ h=>(a Z h).bind λx i=>match x with
 |.bl c=>.ok (.bl (!c)) i
 |_=>.bad
section
variable{a b:Expr}{rest:SG}{ma mb:Mx PV}{pos:Pos}
def GW(i:ME X a ma):ME X (.BoolOp op [a] pos) ma:=Gg i
def GX(F:ME X a ma)(z:ME X (.BoolOp .And (b::rest) pos) mb):ME X (.BoolOp .And (a::b::rest) pos) (wJ ma mb) :=
 PE.imp (Gh F z) λZ H Q ⟨U,i,h,y,L,q⟩=>⟨U,i,h,y,L,Ful.bind q λu M x O E _ C j B l=>by
  cases B with
  |bl c =>
   refine⟨c,rfl,?_⟩
   cases c with
   |true=>exact⟨u,i,E,y.le C,j,l⟩
   |false=>exact l u M _ (Le.refl _ _) j (.bl T)
  |_=>exact l.elim⟩
def GY(B:ME X a ma):ME X (.UnaryOp .Not a pos) (wz ma) :=
 PE.imp (Gi B) λZ H Q ⟨U,i,h,z,C,q⟩=>⟨U,i,h,z,C,Ful.bind q λu E x F M _ L j y l=>by
  cases y with
  |bl c=>exact⟨c,rfl,l u E _ (Le.refl _ _) j (.bl _)⟩
  |_=>exact l.elim⟩
def GZ(c:Mx Bool)(a b:Mx PV):Mx PV:=λZ h=>(c Z h).bind λx i=>if x=I then a Z i else b Z i
def G0(F:MT X c mc)(L:ME X a ma)(C:ME X b mb):ME X (.IfExp c a b pos) (GZ mc ma mb) :=
 PE.imp (AC F L C) λZ H Q ⟨U,i,h,l,M,q⟩=>⟨U,i,h,l,M,Ful.bind q λu P x O B _ z j E y=>by
  cases E
  cases x with
  |true=>exact⟨u,i,B,l.le z,j,y⟩
  |false=>exact⟨u,i,B,l.le z,j,y⟩⟩
end
def f_:Mx (SM):=λ_ h=>.ok [] h
def aj(a:Mx PV)(r:Mx (SM)):Mx (SM):=λZ h=>(a Z h).bind λx i=>(r Z i).bind λxs j=>.ok (x::xs) j
def aS:MA X [] f_:=PA.imp jq λZ H Q ⟨U,i,h,j,a,q⟩=>q U H _ (Le.refl _ _) a .nil
def aH(P:ME X e m)(hr:MA X es ms)(O:starEach (e::es) X.env=(T,eval e X.env)::starEach es X.env:=by rfl):MA X (e::es) (aj m ms) :=
 PA.imp (cV P hr O) λZ H Q ⟨U,a,h,l,R,q⟩=>⟨U,a,h,l,R,Ful.bind q λu H1 x x' M _ F j z C =>
  ⟨u,a,M,l.le F,j,Ful.bind C λB L y y' h2 _ l2 i E S=>S B L _ (Le.refl _ _) i (.cons (z.le l2) E)⟩⟩
def vR(xs:SM)(h:MH):SH:=if xs.length<=sizeLine then .ok (.loc h.length) (h++[.lst xs])else .bad
def lw(xs:SM)(h:MH):SH:=if xs.length<=sizeLine then .ok (.tup xs) h else .bad
def ny{U:SW}{H:Hp}{h:MH}{xs:SM}{ys:List V}{Q:VK}(a:RH X.K X.mg U H h)(i:RPs X.K U H xs ys)(f:j5 X (RV' X) U H (vR xs h) Q):ys.length<=sizeLine/\∀p,H p=Y->Q (.ref p) (upd H p (.lst ys)):=by
 unfold vR at f
 split at f
 .rename_i hl
  refine⟨by rw[<-i.length];exact hl,λp l=>?_⟩;obtain⟨j,u⟩:=a.new l (o:=.lst xs) ⟨ys,rfl,i⟩;refine f _ _ _ u j (.loc ?_);rw[<-a.len];simp
 .exact f.elim
def vG{U:SW}{H:Hp}{h:MH}{xs:SM}{ys:List V}{Q:VK}(u:RH X.K X.mg U H h)(a:RPs X.K U H xs ys)(f:j5 X (RV' X) U H (lw xs h) Q):ys.length<=sizeLine/\∀p,H p=Y->Q (.ref p) (upd H p (.tup ys)):=by
 unfold lw at f
 split at f
 .rename_i hl
  refine⟨by rw[<-a.length];exact hl,λp l=>?_⟩;obtain⟨j,i⟩:=u.tup l ys;exact f _ _ _ i j (.tup (.inl (.inl aK)) (a.le i))
 .exact f.elim
def G1{a:p_}{U:SW}{H:Hp}{h:MH}{xs:SM}{Q:VK}(f:Ful X (RV' X) a U H (vR xs h) Q):j5 X (RV' X) U H (vR xs h) Q:=by
 unfold vR at f ⊢
 split at f
 .rw[e_ (by assumption)];exact f
 .exact f.elim
def G2{a:p_}{U:SW}{H:Hp}{h:MH}{xs:SM}{Q:VK}(f:Ful X (RV' X) a U H (lw xs h) Q):j5 X (RV' X) U H (lw xs h) Q:=by
 unfold lw at f ⊢
 split at f
 .rw[e_ (by assumption)];exact f
 .exact f.elim
def gG(m:Mx (SM)):Mx PV:=λZ h=>(m Z h).bind vR
def cq(m:Mx (SM)):Mx PV:=λZ h=>(m Z h).bind lw
def zt(h:MA X es ms):ME X (.List es pos) (gG ms) :=
 PE.imp (GC h) λZ H Q ⟨U,a,h,l,y,q⟩=>⟨U,a,h,l,y,Ful.bind q λB F x z E _ C i j u=>ny i j (G1 u)⟩
def G3(h:MA X es ms):ME X (.Tuple es j pos) (cq ms) :=
 PE.imp (uv h) λZ H Q ⟨U,a,h,u,z,q⟩=>⟨U,a,h,u,z,Ful.bind q λC L x B F _ E i l y=>vG i l (G2 y)⟩
def SOut.then(o:SOut)(k:nr):SOut:=match o with
 |.nx Z h=>k Z h
 |o=>o
def cj(a b:nr):nr:=λZ h=>(a Z h).then b
def qx:nr:=λZ h=>.nx Z h
def kD:Bx X [] qx:=PSs.imp CW λD Z H ⟨U,i,h,j,a,q⟩=>q U H Z (Le.refl _ _) a j
def Dh{st:Stmt}{m:nr}(h:MS X st m):Bx X [st] m:=qS h
def bt.then{U:SW}{H:Hp}{o:SOut}{k:nr}{D:Ends}(q:bt X U H (o.then k) D):bt X U H o { D with nx:=λZ H=>No X k D Z H}:=by
 cases o with
 |nx a h=>exact λi j u l r s=>⟨i,a,h,s,r,bt.le l q⟩
 |_=>exact q
def Bh{st:Stmt}{rest:Sq}{m u:nr}(i:MS X st m)(l:Bx X rest u):Bx X (st::rest) (cj m u) :=
 PSs.imp (tN i l) λD Z H ⟨U,a,h,y,j,q⟩=>⟨U,a,h,y,j,bt.then q⟩
def du(m:Mx PV):nr:=λZ h=>match m Z h with
 |.ok v a=>.rt v a
 |.exc x a=>.exc x Z a
 |.bad=>.bad
def G4(j:ME X e m):MS X (.Return (J e) pos) (du m) :=
 PS.imp (Gj j) λD Z H ⟨U,a,h,u,i,q⟩=>⟨U,a,h,u,i,by
  unfold du at q
  cases e:m a h with
  |ok v l=>rw[e]at q;exact q
  |exc x l=>rw[e]at q;exact q
  |bad=>rw[e]at q;exact q⟩
def Ap{α:Type}(m:Mx α)(k:α->nr):nr:=λZ h=>match m Z h with
 |.ok v a=>k v Z a
 |.exc x a=>.exc x Z a
 |.bad=>.bad
def bt.ex{α β:Type}{R:Rl α β}{m:Mx α}{k:α->nr}{U:SW}{H:Hp}{a:p_}{h:MH}{D:Ends}{Q:β->Hp->Prop}(q:bt X U H (Ap m k a h) D)(w:∀j i v u B,Le U H j i->RH X.K X.mg j i B->R j i v u->bt X j i (k v a B) D->Q u i):Ful X R a U H (m a h) Q:=by
 unfold Ap at q
 cases e:m a h with
 |ok v y=>rw[e]at q;exact λj i u l r z=>w j i v u y l r z (bt.le l q)
 |exc x y=>rw[e]at q;exact q
 |bad=>rw[e]at q;exact q
def jD(m:Mx PV):nr:=Ap m λ_=>qx
def kB{e:Expr}{m:Mx PV}{a:Pos}(C:ME X e m)(y:swapsWith e Y a.line X.env=pure T:=by rfl):MS X (.Expr e a) (jD m) :=
 PS.imp (vh C y) λD Z H ⟨U,i,h,j,B,q⟩=>⟨U,i,h,j,B,bt.ex q λu E v F L l r z w=>w u E Z (Le.refl _ _) r (j.le l)⟩
def Cd(c:Mx Bool)(a b:nr):nr:=Ap c λx=>if x=I then a else b
def nI{c:Expr}{a b:Sq}{B:Mx Bool}{E mb:nr}{u:Pos}(L:MT X c B)(M:Bx X a E)(F:Bx X b mb):MS X (.If c a b u) (Cd B E mb) :=
 PS.imp (Kd L M F) λD Z H ⟨U,i,h,j,O,q⟩=>⟨U,i,h,j,O,bt.ex q λy Q v P C l r z w=>by
  cases z
  cases v with
  |true=>exact⟨y,i,C,j.le l,r,w⟩
  |false=>exact⟨y,i,C,j.le l,r,w⟩⟩
def bM(i:Nat)(m:Mx PV):nr:=Ap m λv Z h=>.nx (Z.set i (J v)) h
def tU(g:Good X N W G k)(i:Nat){x:Str}{e:Expr}{m:Mx PV}{j a:Pos}(y:N[i]?=J x)(hw:W[i]?=J x)(L:ME X e m)(E:swapsWith e (J (.Name x a)) j.line X.env=pure T:=by rfl):
  MS X (.Assign [.Name x a] e j) (bM i m):=by
 refine PS.imp (yK (by rw[g.hN];exact g.nd) (g.x y) (g.loc x (aM y)) L E (g.fn x (aM hw))) λD Z H ⟨U,u,h,B,F,q⟩=>?_;exact⟨U,u,h,B,F,bt.ex q λC M v O P l r z w=>w C M _ (Le.refl _ _) r ((B.le l).set i z)⟩
end
section
variable{X:Cx}{N W G:SQ}{k:Nat}
abbrev Mg:=PV->nr
def oz(X:Cx)(U:SW)(H:Hp)(o:SOut)(Q:L2.St->Hp->Prop):Prop:=match o with
 |.nx a l=>∀j i u,Le U H j i->RH X.K X.mg j i l->RS X.K j i a u->Q u i
 |.exc x a l=>XP X a U H x l
 |_=>False
def oz.le(l:Le U H U1 H1)(f:oz X U H o Q):oz X U1 H1 o Q:=by
 cases o with
 |nx a h=>exact λi y u j=>f i y u (l.trans j)
 |exc x a h=>exact XP.le l f
 |_=>exact f
inductive tG(X:Cx)(g:Mg)(v':V)(Z:L2.St)(H:Hp)(Q:L2.St->Hp->Prop):Prop
 |mk(U:SW)(σp:p_)(h:MH)(v:PV)(rs:RS X.K U H σp Z)(rh:RH X.K X.mg U H h)(rv:RP X.K U H v v')(q:oz X U H (g v σp h) Q):tG X g v' Z H Q
def MG(X:Cx)(a:Expr)(g:Mg):Prop:=PG X a (tG X g)
def PG.imp(h:PG X e t)(i:∀v Z H Q,t' v Z H Q->t v Z H Q):PG X e t':=λj s Z H v u Q a r q=>h j s Z H v u Q a r (i v Z H Q q)
def ki(i:Nat):Mg:=λv Z h=>.nx (Z.set i (J v)) h
def v8(g:Good X N W G k)(i:Nat)(a:N[i]?=J x)(hw:W[i]?=J x):MG X (.Name x pos) (ki i) :=
 PG.imp (vg (by rw[g.hN];exact g.nd) (g.x a) (g.loc x (aM a)) (g.fn x (aM hw))) λz Z H Q ⟨U,u,h,v,y,l,j,q⟩=>q U H _ (Le.refl _ _) l (y.set i j)
abbrev Di:=SM->nr
inductive QW(X:Cx)(g:Di)(v':List V)(Z:L2.St)(H:Hp)(Q:L2.St->Hp->Prop):Prop
 |mk(U:SW)(σp:p_)(h:MH)(v:SM)(rs:RS X.K U H σp Z)(rh:RH X.K X.mg U H h)(rv:RPs X.K U H v v')(q:oz X U H (g v σp h) Q):QW X g v' Z H Q
def KS(X:Cx)(a:SG)(g:Di):Prop:=PGs X a (QW X g)
def PGs.imp(h:PGs X e t)(i:∀v Z H Q,t' v Z H Q->t v Z H Q):PGs X e t':=λj s Z H v u Q a r q=>h j s Z H v u Q a r (i v Z H Q q)
def wH:Di:=λa Z h=>match a with
 |[]=>.nx Z h
 |_=>.bad
def mh(a:Mg)(r:Di):Di:=λi Z h=>match i with
 |v::j=>(a v Z h).then (r j)
 |[]=>.bad
def eW:KS X [] wH:=PGs.imp CY λu Z H Q ⟨U,j,h,v,l,i,a,q⟩=>by
 cases a with
 |nil=>exact⟨rfl,q U H Z (Le.refl _ _) i l⟩
 |cons _ _=>exact q.elim
def aZ(j:MG X e a)(F:KS X es r)(L:(assignEach (e::es) X.env).map (·.2)=assign e X.env::(assignEach es X.env).map (·.2):=by rfl):KS X (e::es) (mh a r) :=
 PGs.imp (A7 j F L) λv' Z H Q ⟨U,i,h,v,B,P,E,q⟩=>by
  cases E with
  |nil=>exact q.elim
  |@cons x y xs ys z C =>
   refine⟨_,_,rfl,U,i,h,x,B,P,z,?_⟩;dsimp only[mh]at q
   cases e:a x i h with
   |nx R j=>rw[e]at q;exact λM H' S l O u=>⟨M,R,j,xs,u,O,C.le l,oz.le l q⟩
   |_=>rw[e]at q;exact q
def wK(r:Di)(n:Nat):Mg:=λv Z h=>match v with
 |.tup xs=>if xs.length=n then r xs Z h else .bad
 |_=>.bad
def gw(g:Good X N W G k){a:SG}{j:Nat}{r:Di}{n:Nat}{u:Pos}(h:KS X a r)(B:(assignEach a X.env).length=n:=by rfl)(l:(assignEach a X.env).findIdx? (·.1)=Y:=by rfl):
  MG X (.Tuple a j u) (wK r n) :=
 PG.imp (Gk g.calm h B l) λF Z H Q ⟨U,i,h,v,z,E,C,q⟩=>by
  cases C with
  |tup s y =>
   dsimp only[wK]at q
   split at q
   .rename_i hl
    exact⟨_,_,rfl,s,by rw[<-y.length];exact hl,U,i,h,_,z,E,y,q⟩
   .exact q.elim
  |_=>exact q.elim
def pX(m:Mx PV)(g:Mg):nr:=Ap m λv Z h=>match g v Z h with
 |.nx i a=>.nx i a
 |.exc x i a=>.exc x i a
 |_=>.bad
def t6{i e:Expr}{m:Mx PV}{g:Mg}{j:Pos}(F:ME X e m)(hg:MG X i g)(C:swapsWithSole [i] e j.line X.env=pure T:=by rfl)(hw:swappedStores [i] e X.env=pure Y:=by rfl)(u:(assignEach [i] X.env).map (·.2)=[assign i X.env]:=by rfl):MS X (.Assign [i] e j) (pX m g) :=
 PS.imp (Gn F hg C hw u) λD Z H ⟨U,a,h,y,E,q⟩=>⟨U,a,h,y,E,bt.ex q λB M v L u l r z w=>⟨B,a,u,v,y.le l,r,z,by
  cases e:g v a u with
  |_=>rw[e]at w;exact w⟩⟩
def G5(i j:Nat)(m:Mx (SM)):nr:=Ap m λa Z h=>match a with
 |[v,w]=>.nx ((Z.set i (J v)).set j (J w)) h
 |_=>.bad
def G6(g:Good X N W G k)(i j:Nat)(F:N[i]?=J x)(E:N[j]?=J y)(B:i≠j)(P:MA X [a,b] m)(R:X.env.scope.names.lookup x=J .local)(S:X.env.scope.names.lookup y=J .local)(hw:swappedStores [.Tuple [.Name x px,.Name y py] kt pt] (.Tuple [a,b] k2 pt2) X.env=pure (J [x,y]))(M:swapsWithSole [.Tuple [.Name x px,.Name y py] kt pt] (.Tuple [a,b] k2 pt2) pos.line X.env=pure T:=by rfl):
  MS X (.Assign [.Tuple [.Name x px,.Name y py] kt pt] (.Tuple [a,b] k2 pt2) pos) (G5 i j m) :=
 PS.imp (Go g.calm (by rw[g.hN];exact g.nd) (g.x F) (g.x E) B R S P hw M) λD Z H ⟨U,u,h,C,Q,q⟩=>⟨U,u,h,C,Q,bt.ex q λL H1 v v' h1 l r z w=>by
  cases z with
  |nil=>exact w.elim
  |cons z1 z =>
   cases z with
   |nil=>exact w.elim
   |cons O z =>
    cases z with
    |nil=>exact⟨_,_,rfl,w L H1 _ (Le.refl _ _) r (((C.le l).set i z1).set j O)⟩
    |cons _ _=>exact w.elim⟩
def ud(o i v:PV)(h:MH):Option MH:=match o,i with
 |.loc n,.int j=>(match h[n]? with
  |some (.lst xs)=>(wG xs.length j).map λp=>h.set n (.lst (xs.set p v))
  |_=>Y)
 |_,_=>Y
def G7(mo j:Mx PV):Mg:=λv=>Ap mo λo=>Ap j λi Z h=>match ud o i v h with
 |some a=>.nx Z a
 |none=>.bad
def sY(ho:ME X o mo)(hi:ME X i mi)(ha:∀v,assign (.Subscript o i pos) X.env v=(do
   let ov <-holding [v] (eval o X.env)
   let z <-holding [v,ov] (eval i X.env)
   standAt pos
   holding [v,ov,z] (setItem ov z v)
   release [v,ov,z] []):=by intro _;rfl):MG X (.Subscript o i pos) (G7 mo mi) :=
 PG.imp (Gm ho hi AD ha) λv' Z H Q ⟨U,l,h,v,C,rh,rv,q⟩=>by
  refine⟨U,l,h,C,rh,?_⟩;unfold G7 Ap at q
  cases e:mo l h with
  |exc x L=>rw[e]at q;exact q
  |bad=>rw[e]at q;exact q
  |ok ov L =>
   rw[e]at q;intro U1 H1 o' y M ro;refine⟨U1,l,L,C.le y,M,?_⟩;dsimp only at q
   cases e2:mi l L with
   |exc x h2=>rw[e2]at q;exact XP.le y q
   |bad=>rw[e2]at q;exact q
   |ok z h2 =>
    rw[e2]at q;intro U2 H2 i' B u ri;have E:=ro.le B;have P:=(rv.le y).le B;unfold ud at q
    cases E with
    |@loc n a en =>
     cases ri with
     |int j =>
      dsimp only at q;obtain⟨ob,eo,O⟩:=u.obj en;rw[eo]at q
      cases ob with
      |dic fz ks xs=>exact q.elim
      |exc x=>exact q.elim
      |lst xs =>
       obtain⟨ys,ey,S⟩:=O;dsimp only at q
       cases F:wG xs.length j with
       |none=>rw[F]at q;exact q.elim
       |some p =>
        rw[F]at q;refine⟨a,ys,j,p,rfl,rfl,ey,by rw[<-S.length];exact F,?_⟩;obtain⟨r3,R⟩:=u.put en (o:=.lst (xs.set p v)) ⟨_,rfl,RPs.set P p S⟩;exact q U2 _ Z (y.trans (B.trans R)) r3 (C.le (y.trans (B.trans R)))
     |_=>exact q.elim
    |_=>exact q.elim
structure MIt where
 xs:SM
 gd:List (Nat×SM):=[]
def MIt.ok(a:MIt)(h:MH):Prop:=∀p∈a.gd,h[p.1]?=J (.lst p.2)
def qH(X:Cx):Rl MIt It:=λz B j a=>∀U H h (i:Nat),Le z B U H->RH X.K X.mg U H h->j.ok h ->
 (i<j.xs.length->a.go i H/\∀y l,a.yld i H y l->∃u x,Le U H u l/\RH X.K X.mg u l h/\j.xs[i]?=J x/\RP X.K u l x y)/\(j.xs.length<=i->a.stop i H)
def MI(X:Cx)(i a:Expr)(m:Mx MIt):Prop:=PI X i a (tM X (qH X) m)
def PI.imp(h:PI X tg e t)(i:∀Z H Q,t' Z H Q->t Z H Q):PI X tg e t':=λj s Z H Q a q=>h j s Z H Q a (i Z H Q q)
def wM(j:MIt)(g:Mg)(b:nr):SM->nr
 |[]=>λZ h=>if j.ok h then .nx Z h else .bad
 |x::r=>λZ h=>if j.ok h then (match g x Z h with
   |.nx u l=>(match b u l with
    |.nx i a=>wM j g b r i a
    |.ct i a=>wM j g b r i a
    |.bk i a=>.nx i a
    |.rt v a=>.rt v a
    |.exc e i a=>.exc e i a
    |.rse e i a=>.rse e i a
    |.bad=>.bad)
   |.exc e u l=>.exc e u l
   |_=>.bad)else .bad
def iz(i:Mx MIt)(g:Mg)(b:nr):nr:=Ap i λa=>wM a g b a.xs
def ig(gd:Good X N W G k)(hi:MI X tg iter mi)(hg:MG X tg g)(hb:Bx X body mb)(hs:∀x,foldedSetIterable iter X.env x=pure x:=by intro _;rfl):MS X (.For tg iter body [] pos) (iz mi g mb):=by
 refine PS.imp (Gs gd.po gd.calm hi hg hb hs) λD Z H ⟨U,u,h,rs,rh,q⟩=>⟨U,u,h,rs,rh,bt.ex q λU1 H1 l al h1 l1 ai jr w=>?_⟩;refine⟨λi m Z H=>m=l.xs.length-i/\i<=l.xs.length/\∃U u h,Le U1 H1 U H/\RS X.K U H u Z/\RH X.K X.mg U H h/\bt X U H (wM l g mb (l.xs.drop i) u h) D,⟨_,rfl,CT _,U1,u,h1,Le.refl _ _,rs.le l1,ai,w⟩,?_⟩;rintro i m Z2 H2 ⟨rfl,hi,U2,F,h2,l2,R,M,B⟩;by_cases C:i<l.xs.length
 .have ed:l.xs.drop i=l.xs[i]::l.xs.drop (i+1):=Jn C;rw[ed]at B;unfold wM at B
  split at B
  .rename_i hok
   obtain⟨j1,j2⟩:=jr U2 H2 h2 i l2 M hok;obtain⟨go,yl⟩:=j1 C;refine .inr ⟨go,λZ3 Q=>∃S E h3,Le U1 H1 S Q/\RS X.K S Q E Z3/\RH X.K X.mg S Q h3/\bt X S Q (wM l g mb (l.xs.drop (i+1)) E h3) D,λZ3 Q z=>⟨_,by ext,rfl,C,z⟩,λx' H' y=>?_⟩;obtain⟨U',x,l',ab,ex,rx⟩:=yl x' H' y;have ak:x=l.xs[i]:=by rw[zL C]at ex;exact(Option.some.inj ex).symm
   subst ak;refine⟨U',F,h2,_,R.le l',ab,rx,?_⟩;have j:=bt.le l' B
   cases eg:g l.xs[i] F h2 with
   |nx Z4 h4 =>
    rw[eg]at j;intro U5 H5 Z5 l5 r5 s5;refine⟨U5,Z4,h4,s5,r5,?_⟩;have a:=bt.le l5 j;have l6:Le U1 H1 U5 H5:=l2.trans (l'.trans l5);dsimp only at a
    cases em:mb Z4 h4 with
    |nx O L=>rw[em]at a;exact λU7 H7 Z7 P r7 s7=>⟨U7,O,L,l6.trans P,s7,r7,bt.le P a⟩
    |ct O L=>rw[em]at a;exact λU7 H7 Z7 P r7 s7=>⟨U7,O,L,l6.trans P,s7,r7,bt.le P a⟩
    |bk O L=>rw[em]at a;exact a
    |rt v L=>rw[em]at a;exact a
    |exc e O L=>rw[em]at a;exact a
    |rse e O L=>rw[em]at a;exact a
    |bad=>rw[em]at a;exact a
   |exc e Z4 h4=>rw[eg]at j;exact j
   |_=>rw[eg]at j;exact j.elim
  .exact B.elim
 .have e:i=l.xs.length:=by ext
  rw[e,List.drop_length]at B;unfold wM at B
  split at B
  .rename_i hok
   obtain⟨j1,j2⟩:=jr U2 H2 h2 i l2 M hok;exact .inl ⟨j2 (by ext),B U2 H2 Z2 (Le.refl _ _) M R⟩
  .exact B.elim
def Fc(v:PV)(h:MH):Out MIt:=match v with
 |.loc n=>(match h[n]? with
  |some (.lst xs)=>.ok ⟨xs,[(n,xs)]⟩ h
  |_=>.bad)
 |.frl xs=>.ok ⟨xs,[]⟩ h
 |_=>.bad
def KU(m:Mx PV):Mx MIt:=λZ h=>(m Z h).bind Fc
def vm(P:∀u j h,Le U H u j->RH X.K X.mg u j h->(⟨xs,gd⟩:MIt).ok h->∃ys,SqL X.K j a ys/\RPs X.K u j xs ys):qH X U H ⟨xs,gd⟩ (ON X.K a):=by
 intro u j h i l L ok;obtain⟨ys,C,F⟩:=P u j h l L ok;refine⟨λB=>?_,λB=>⟨ys,C,by rw[<-F.length];exact B⟩⟩;have M:=zL B;obtain⟨y,E,O⟩:=F.get M;refine⟨⟨ys,y,C,E⟩,λQ R ⟨e,z⟩=>?_⟩;subst e
 have:=z ys C
 rw[E]at this;cases this;exact⟨u,_,Le.refl _ _,L,M,O⟩
def Dj(hl:ME X l m):MI X tg l (KU m) :=
 PI.imp (CZ hl) λZ H Q ⟨U,y,h,P,rh,q⟩=>⟨U,y,h,P,rh,Ful.bind q λF L x x' h1 _ l1 j O i=>by
  cases O with
  |@loc n a e =>
   obtain⟨S,eo,E⟩:=j.obj e;dsimp only[Fc]at i;rw[eo]at i
   cases S with
   |dic fz ks xs=>exact i.elim
   |exc x=>exact i.elim
   |lst xs =>
    obtain⟨ys,M,ry⟩:=E;refine⟨a,rfl,⟨ys,SqL.of M⟩,i F L _ (Le.refl _ _) j (vm λU' R h' l u ok=>?_)⟩;obtain⟨B,C,z⟩:=u.at' n a _ (l.get e) (ok (n,xs) (by simp));exact⟨B,SqL.of C,z⟩
  |frl s r =>
   exact⟨_,rfl,⟨_,s.sq⟩,i F L _ (Le.refl _ _) j (vm λU' R h' l u ok=>⟨_,(l.sqf s).sq,r.le l⟩)⟩
  |_=>exact i.elim⟩
def KW(m:Mx PV):Mx MIt:=λZ h=>(m Z h).bind λv a=>match v with
 |.tup xs=>.ok ⟨xs,[]⟩ a
 |_=>.bad
def G8(hl:ME X l m):MI X tg l (KW m) :=
 PI.imp (Gq hl) λZ H Q ⟨U,u,h,rs,rh,q⟩=>⟨U,u,h,rs,rh,Ful.bind q λR H1 x O h1 _ l1 E S L=>by
  cases S with
  |@tup xs a ys s r =>
   refine⟨_,rfl,⟨_,s⟩,L R H1 _ (Le.refl _ _) E ?_⟩;intro U' H' h' i l C ok;have B:=l.sqt s;have P:=r.le l;refine⟨λj=>?_,λj=>⟨ys,B,by rw[<-r.length];exact j⟩⟩;have M:=zL j;obtain⟨y,F,ry⟩:=P.get M;refine⟨⟨ys,y,B,F⟩,λO H2 ⟨e,z⟩=>?_⟩;subst e
   have:=z ys B
   rw[F]at this;cases this;exact⟨U',_,Le.refl _ _,C,M,ry⟩
  |_=>exact L.elim⟩
def bD(lo:Int)(n:Nat):SM:=(List.range n).map λ(i:Nat)=>PV.int (lo+(i:Int))
def c9(lo:Int)(n:Nat):(bD lo n).length=n:=by simp[bD]
def Dk(lo:Int)(n:Nat):qH X U H ⟨bD lo n,[]⟩ (Nj lo n):=by intro j B h i l u ok;have hl:=c9 lo n;refine⟨λa=>⟨by rw[hl]at a;exact a,λy z ⟨e1,e2⟩=>?_⟩,λa=>by rw[hl]at a;exact a⟩;subst e1;subst e2;rw[hl]at a;exact⟨j,.int (lo+i),Le.refl _ _,u,by simp[bD,a],.int _⟩
def dJ(m:Mx (SM)):Mx MIt:=λZ h=>(m Z h).bind λi a=>match i with
 |[.int j]=>if -(2^62)<=j/\j<2^62 then .ok ⟨bD 0 j.toNat,[]⟩ a else .bad
 |_=>.bad
def rn(hg:Gl X "range")(L:X.mg "range"=Y)(O:MA X [a] m)(M:starEach [a] X.env=[(T,eval a X.env)]:=by rfl):MI X tg (.Call (.Name "range" p) [a] [] pos) (dJ m):=by
 refine PI.imp (yv hg L O M) λZ H Q ⟨U,l,h,F,P,q⟩=>⟨U,l,h,F,P,Ful.bind q λC R x S h1 _ l1 u E i=>?_⟩
 cases E with
 |nil=>exact i.elim
 |cons z B =>
  cases B with
  |nil =>
   cases z with
   |int j =>
    dsimp only at i
    split at i
    .rename_i y
     exact⟨j,rfl,y.1,y.2,i C R _ (Le.refl _ _) u (Dk 0 j.toNat)⟩
    .exact i.elim
   |_=>exact i.elim
  |cons r2 t2=>cases z<;>exact i.elim
def cD(c:Mx Bool)(b:nr):Nat->nr
 |0=>λ_ _=>.bad
 |n+1=>Ap c λx=>if x=I then (λZ h=>match b Z h with
   |.nx i a=>cD c b n i a
   |.ct i a=>cD c b n i a
   |.bk i a=>.nx i a
   |.rt v a=>.rt v a
   |.exc e i a=>.exc e i a
   |.rse e i a=>.rse e i a
   |.bad=>.bad)else qx
def G9(c:Mx Bool)(b:nr):nr:=λZ h=>if z:∃n,cD c b n Z h≠.bad then cD c b (Classical.choose z) Z h else .bad
def mL:∀{n:Nat}{Z:p_}{h:MH},cD c b n Z h≠.bad->cD c b (n+1) Z h=cD c b n Z h
 |n+1,Z,h,q=>by
  rw[cD]at q;rw[cD]
  conv=>rhs;rw[cD]
  unfold Ap at q ⊢
  cases e:c Z h with
  |exc x a=>rfl
  |bad=>rfl
  |ok x a =>
   rw[e]at q
   cases x with
   |false=>rfl
   |true =>
    simp only[if_true]at q ⊢
    cases em:b Z a with
    |nx j i=>rw[em]at q;exact mL q
    |ct j i=>rw[em]at q;exact mL q
    |_=>rfl
def u8(q:cD c b n Z h≠.bad)(l:n<=m):cD c b m Z h=cD c b n Z h:=by
 induction l with
 |refl=>rfl
 |step l a=>rw[mL (by rw[a];exact q),a]
def pN(q:cD c b n Z h≠.bad):G9 c b Z h=cD c b n Z h:=by
 have z:∃n,cD c b n Z h≠.bad:=⟨n,q⟩;unfold G9;rw[dif_pos z];have a:=Classical.choose_spec z;rcases Nat.le_total n (Classical.choose z)with l|l
 .exact u8 q l
 .exact (u8 a l).symm
def Ax(gd:Good X N W G k)(hc:MT X c mc)(R:Bx X body mb):MS X (.While c body [] pos) (G9 mc mb):=by
 refine PS.imp (Bm gd.po hc R) λD Z H ⟨U,a,h,rs,rh,q⟩=>?_;refine⟨λm Z H=>∃U a h,RS X.K U H a Z/\RH X.K X.mg U H h/\bt X U H (cD mc mb m a h) D,?_,?_⟩
 .unfold G9 at q
  split at q
  .exact⟨_,U,a,h,rs,rh,q⟩
  .exact q.elim
 .rintro m Z1 H1 ⟨S,i,h1,l,F,M⟩
  cases m with
  |zero=>exact M.elim
  |succ m =>
   refine⟨S,i,h1,l,F,bt.ex M λL H2 v v' O Q P z w=>?_⟩;cases z
   cases v with
   |false=>exact w L H2 Z1 (Le.refl _ _) P (l.le Q)
   |true =>
    rw[e_ rfl]at w ⊢;refine⟨λZ H=>∃U a h,RS X.K U H a Z/\RH X.K X.mg U H h/\bt X U H (cD mc mb m a h) D,λZ' H' z=>⟨m,Ow _,z⟩,L,i,O,l.le Q,P,?_⟩
    cases em:mb i O with
    |nx u j=>rw[em]at w;exact λC H7 Z7 E y B=>⟨C,u,j,B,y,bt.le E w⟩
    |ct u j=>rw[em]at w;exact λC H7 Z7 E y B=>⟨C,u,j,B,y,bt.le E w⟩
    |bk u j=>rw[em]at w;exact w
    |rt v j=>rw[em]at w;exact w
    |exc e u j=>rw[em]at w;exact w
    |rse e u j=>rw[em]at w;exact w
    |bad=>rw[em]at w;exact w
def cP(f:PV->Option PyData):SM->Option (List PyData)
 |[]=>J []
 |x::r=>match f x,cP f r with
  |some d,J a=>J (d::a)
  |_,_=>Y
def rd:Nat->MH->PV->Option PyData
 |0,_,v=>(match v with
  |.non=>J .none
  |.bl b=>J (.bool b)
  |.int i=>J (.int i)
  |.str x=>J (.str x)
  |_=>Y)
 |n+1,h,v=>(match v with
  |.non=>J .none
  |.bl b=>J (.bool b)
  |.int i=>J (.int i)
  |.str x=>J (.str x)
  |.tup xs=>(cP (rd n h) xs).map PyData.tuple
  |.frl xs=>(cP (rd n h) xs).map PyData.list
  |.loc m=>(match h[m]? with
   |some (.lst xs)=>(cP (rd n h) xs).map PyData.list
   |_=>Y))
def gS{y:Heap}{f:PV->Option PyData}{K:g_}{U:SW}{H:Hp}(hf:∀v l u d,RP K U H v l->aO l u->f v=J d->∃j,Reads y u d j):
  ∀{xs:SM}{ys:List V}{i:SX}{a:List PyData},RPs K U H xs ys->aL ys i->cP f xs=J a->∃j,ReadsAll y i a j:=by
 intro xs
 induction xs with
 |nil =>
  intro ys i a r v e;cases r;cases v;cases e;exact⟨_,.nil⟩
 |cons x xs B =>
  intro ys i a r v e;cases r with|cons r t=>cases v with|cons v w =>
  simp only[cP]at e
  split at e
  .rename_i d C e1 e2
   cases e;obtain⟨F,z⟩:=hf _ _ _ _ r v e1;obtain⟨L,E⟩:=B t w e2;exact⟨_,.cons z E⟩
  .cases e
def gB{R:SA}{Z:L2.St}{H:Hp}{s:Shared}{U:SW}{h:MH}(j:Inv X R Z H s)(rh:RH X.K X.mg U H h):
  ∀(n:Nat)(v:PV)(B:V)(u:Value)(d:PyData),RP X.K U H v B->aO B u->rd n h v=J d->∃C,Reads s.heap u d C:=by
 intro n
 induction n with
 |zero =>
  intro v B u d rp r e
  cases rp with
  |non=>cases e;cases r;exact⟨_,.none⟩
  |bl b=>cases e;cases r;exact⟨_,.bool b⟩
  |int i=>cases e;obtain⟨t,rfl⟩:=r;exact⟨_,.int i t⟩
  |str i=>cases e;obtain⟨t,rfl⟩:=r;exact⟨_,.str i t⟩
  |_=>cases e
 |succ n F =>
  intro v B u d rp r e
  cases rp with
  |non=>cases e;cases r;exact⟨_,.none⟩
  |bl b=>cases e;cases r;exact⟨_,.bool b⟩
  |int i=>cases e;obtain⟨t,rfl⟩:=r;exact⟨_,.int i t⟩
  |str i=>cases e;obtain⟨t,rfl⟩:=r;exact⟨_,.str i t⟩
  |@tup xs a ys s E =>
   cases r;simp only[rd]at e
   cases q:cP (rd n h) xs with
   |none=>rw[q]at e;cases e
   |some M =>
    rw[q]at e;cases e;obtain⟨z,y,⟨o,e1,e2,m,e3⟩,_⟩:=j.tuple s;obtain⟨C,l⟩:=gS (F) E y q;exact⟨_,.tuple e1 e2 e3 (by simpa using l)⟩
  |@frl xs a ys s E =>
   cases r;simp only[rd]at e
   cases q:cP (rd n h) xs with
   |none=>rw[q]at e;cases e
   |some M =>
    rw[q]at e;cases e;obtain⟨z,y,⟨o,m,e1,e2,_,e3⟩,_⟩:=j.list s.sq;obtain⟨C,l⟩:=gS (F) E y q;exact⟨_,.list e1 e2 e3 (by simpa using l)⟩
  |loc en =>
   cases r;simp only[rd]at e;obtain⟨P,Q,L⟩:=rh.obj en;rw[Q]at e
   cases P with
   |dic fz ks xs=>cases e
   |exc x=>cases e
   |lst xs =>
    obtain⟨ys,O,S⟩:=L;dsimp only at e
    cases q:cP (rd n h) xs with
    |none=>rw[q]at e;cases e
    |some M =>
     rw[q]at e;cases e;obtain⟨z,y,⟨o,m',e1,e2,_,e3⟩,_⟩:=j.list (SqL.of (K:=X.K) O);obtain⟨C,l⟩:=gS (F) S y q;exact⟨_,.list e1 e2 e3 (by simpa using l)⟩
def xv(x y:PV)(h:MH):SH:=match rd 60 h x,rd 60 h y with
 |some a,J b=>if SeqAt.shaped a=I/\SeqAt.shaped b=I then .ok (.bl (PyData.eqv a b)) h else .bad
 |_,_=>.bad
def BU(x y:PV)(h:MH):SH:=match rd 60 h x,rd 60 h y with
 |some a,J b=>if SeqAt.shaped a=I/\SeqAt.shaped b=I then .ok (.bl (!PyData.eqv a b)) h else .bad
 |_,_=>.bad
def sF(hr:Room k X.A):A4 X (compareOp .Eq) xv:=by
 intro S s Z H C P u v Q i l j ⟨U,h,x,y,z,F,M,q⟩;unfold xv at q
 split at q
 .rename_i a b R O
  split at q
  .rename_i B
   obtain⟨_,E⟩:=gB i z 60 x C u a F l R;obtain⟨_,L⟩:=gB i z 60 y P v b M j O;exact eq_dataH E L B.1 B.2 hr.units ⟨.bl _,H,i,rfl,q U H _ (Le.refl _ _) z (.bl _)⟩
  .exact q.elim
 .exact q.elim
def Fd(hr:Room k X.A):A4 X (compareOp .NotEq) BU:=by
 intro S s Z H C P u v Q i l j ⟨U,h,x,y,z,F,M,q⟩;unfold BU at q
 split at q
 .rename_i a b R O
  split at q
  .rename_i B
   obtain⟨_,E⟩:=gB i z 60 x C u a F l R;obtain⟨_,L⟩:=gB i z 60 y P v b M j O;exact ne_dataH E L B.1 B.2 hr.units ⟨.bl _,H,i,rfl,q U H _ (Le.refl _ _) z (.bl _)⟩
  .exact q.elim
 .exact q.elim
def ot(f:Int->Int->PV):PV->PV->MH->SH:=λx y h=>match x,y with
 |.int i,.int j=>.ok (f i j) h
 |_,_=>.bad
def oV(M:OpR X F (C0 f))(z:∀U H i j,RP X.K U H (g i j) (f i j)):A4 X F (ot g):=by
 intro E s Z H P R u v Q B l a ⟨U,h,x,y,O,C,L,q⟩;unfold ot at q
 split at q
 .cases C;cases L;exact M E s Z H _ _ u v Q B l a ⟨_,_,rfl,rfl,q U H _ (Le.refl _ _) O (z U H _ _)⟩
 .exact q.elim
def Cq:=ot λi j=>.bl (decide (i<j))
def G_:=ot λi j=>.bl (decide (i<=j))
def Cr:=ot λi j=>.bl (decide (j<i))
def B7:=ot λi j=>.bl (decide (j<=i))
def Fe:A4 X (compareOp .Lt) Cq:=oV Kq λ_ _ _ _=>.bl _
def KY:A4 X (compareOp .LtE) G_:=oV Kr λ_ _ _ _=>.bl _
def Ff:A4 X (compareOp .Gt) Cr:=oV Ks λ_ _ _ _=>.bl _
def Fg:A4 X (compareOp .GtE) B7:=oV Kt λ_ _ _ _=>.bl _
def KZ(a:Bool):PV->PV->MH->SH:=λx y h=>match y with
 |.non=>(match x with
  |.non=>.ok (.bl (!a)) h
  |_=>.ok (.bl a) h)
 |.bl b=>(match x with
  |.bl c=>.ok (.bl (if a then !(c==b)else c==b)) h
  |.non=>.ok (.bl a) h
  |.int _=>.ok (.bl a) h
  |.str _=>.ok (.bl a) h
  |.tup _=>.ok (.bl a) h
  |_=>.bad)
 |_=>.bad
def lx(x y:PV)(h:MH):SH:=match x,y with
 |.int i,.int j=>if IntMulOk i j then .ok (.int (i*j)) h else .bad
 |.loc n,.int j=>(match h[n]? with
  |some (.lst xs)=>if -(2^63)<=j/\j<2^63 then vR (List.flatten (List.replicate j.toNat xs)) h else .bad
  |_=>.bad)
 |_,_=>.bad
def BV(x y:PV)(h:MH):SH:=match x,y with
 |.int i,.int j=>if j≠0 then .ok (.int (i.fdiv j)) h else .bad
 |_,_=>.bad
def nz(x y:PV)(h:MH):SH:=match x,y with
 |.int i,.int j=>if j≠0 then .ok (.int (i.fmod j)) h else .bad
 |_,_=>.bad
def t_(x y:PV)(h:MH):SH:=match x,y with
 |.int i,.int j=>if gC i j then .ok (.int (i^j.toNat)) h else .bad
 |_,_=>.bad
def jj(x y:PV)(h:MH):SH:=match x,y with
 |.int i,.int j=>.ok (.int (i+j)) h
 |.str a,.str b=>if a.length+b.length<=sizeLine then .ok (.str (a++b)) h else .bad
 |.loc n,.loc m=>(match h[n]?,h[m]? with
  |some (.lst xs),J (.lst ys)=>vR (xs++ys) h
  |_,_=>.bad)
 |.tup xs,.tup ys=>if xs≠[]then lw (xs++ys) h else .bad
 |_,_=>.bad
def Cs:=ot λi j=>.int (i-j)
def Ct(x:PV)(h:MH):SH:=match x with
 |.int i=>.ok (.int (-i)) h
 |_=>.bad
def Ha:A4 X (binaryOp .Sub) Cs:=oV Gx λ_ _ _ _=>.int _
def Hb:QV X (unaryOp .USub) Ct:=by
 intro y s Z H B u Q a j ⟨U,h,x,l,z,q⟩
 cases z with
 |int i=>exact Gz y s Z H _ u Q a j ⟨i,rfl,q U H _ (Le.refl _ _) l (.int _)⟩
 |_=>exact q.elim
def R1{z:SA}{Z:L2.St}{H:Hp}{s:Shared}(hr:Room k X.A)(a:Inv X z Z H s):PylongRoom (model X.prog X.w) X.A s:=by obtain⟨e,l,u,B,y,i,j⟩:=a.ok.top;exact PylongRoom.of a.nolimit (by have:=hr.dp;show X.A.depth+100<_;ext) (SeerAt.of (a.ok.mod.seer.keeps a.bk) a.ok.tree (a.ok.frames.trans (congrArg J u)) B y i j)
def wL(hr:Room k X.A):A4 X (binaryOp .FloorDiv) BV:=by
 intro M s Z H L O u v Q a B l ⟨U,h,x,y,F,C,E,q⟩;unfold BV at q
 split at q
 .rename_i i j
  cases C;cases E;obtain⟨t,rfl⟩:=B;obtain⟨P,rfl⟩:=l;by_cases z:j≠0
  .rw[e_ z]at q;exact floordiv_int z ⟨.int _,H,a.tok _,⟨_,rfl⟩,q U H _ (Le.refl _ _) F (.int _)⟩ (.inr (R1 hr a))
  .rw[h8 z]at q;exact q.elim
 .exact q.elim
def eA:A4 X (binaryOp .Mod) nz:=by
 intro F s Z H E L u v Q j i a ⟨U,h,x,y,C,l,B,q⟩;unfold nz at q
 split at q
 .cases l;cases B
  split at q
  .rename_i z
   obtain⟨t,rfl⟩:=i;obtain⟨M,rfl⟩:=a;exact mod_int' z ⟨.int _,H,j.tok _,⟨_,rfl⟩,q U H _ (Le.refl _ _) C (.int _)⟩
  .exact q.elim
 .exact q.elim
def uz:A4 X (binaryOp .Pow) t_:=by
 intro E s Z H M O u v Q z l a ⟨U,h,x,y,L,B,F,q⟩;unfold t_ at q
 split at q
 .rename_i i j
  cases B;cases F
  split at q
  .rename_i C
   exact Gy E s Z H _ _ u v Q z l a ⟨i,j,rfl,rfl,C,q U H _ (Le.refl _ _) L (.int _)⟩
  .exact q.elim
 .exact q.elim
def cL:A4 X (binaryOp .Add) jj:=by
 intro M s Z H x' y' u v Q C B l ⟨U,h,x,y,E,rx,F,q⟩
 cases rx with
 |int i =>
  cases F with
  |int j=>exact Gw M s Z H _ _ u v Q C B l ⟨i,j,rfl,rfl,q U H _ (Le.refl _ _) E (.int _)⟩
  |_=>exact q.elim
 |str a =>
  cases F with
  |str b =>
   dsimp only[jj]at q
   split at q
   .rename_i hl
    exact xy M s Z H _ _ u v Q C B l ⟨a,b,rfl,rfl,hl,q U H _ (Le.refl _ _) E (.str _)⟩
   .exact q.elim
  |_=>exact q.elim
 |@loc n a e =>
  cases F with
  |@loc m b e2 =>
   dsimp only[jj]at q;obtain⟨o1,h1,L⟩:=E.obj e;obtain⟨o2,h2,O⟩:=E.obj e2;rw[h1,h2]at q
   cases o1 with
   |dic fz ks xs=>exact q.elim
   |exc x=>exact q.elim
   |lst xs =>
    cases o2 with
    |dic fz ks xs=>exact q.elim
    |exc x=>exact q.elim
    |lst ys =>
     obtain⟨ab,ex,ai⟩:=L;obtain⟨S,ey,R⟩:=O;obtain⟨z1,z2⟩:=ny E (ai.append R) q;exact GK M s Z H _ _ u v Q C B l ⟨a,b,ab,S,rfl,rfl,ex,ey,by rw[<-F3];exact z1,z2⟩
  |_=>exact q.elim
 |tup s1 L =>
  cases F with
  |tup s2 O =>
   dsimp only[jj]at q
   split at q
   .rename_i P
    obtain⟨z1,z2⟩:=vG E (L.append O) q;refine Db M s Z H _ _ u v Q C B l ⟨_,_,_,_,rfl,rfl,s1,s2,?_,by rw[<-F3];exact z1,λz=>?_,λ_=>z2⟩
    .rintro rfl;cases L;exact P rfl
    .subst z;cases O;unfold lw at q
     split at q
     .exact q U H _ (Le.refl _ _) E (by rw[Ju];exact .tup s1 L)
     .exact q.elim
   .exact q.elim
  |_=>exact q.elim
 |_=>cases F<;>exact q.elim
def RPs.rep{K:g_}{U:SW}{H:Hp}{xs:SM}{ys:List V}(r:RPs K U H xs ys):∀n:Nat,RPs K U H (List.replicate n xs).flatten (List.replicate n ys).flatten
 |0=>.nil
 |n+1=>by exact r.append (RPs.rep r n)
def hW:A4 X (binaryOp .Mult) lx:=by
 intro S s Z H x' y' u v Q B z l ⟨U,h,x,y,L,P,E,q⟩
 cases P with
 |int i =>
  cases E with
  |int j =>
   dsimp only[lx]at q
   split at q
   .rename_i R
    obtain⟨t,rfl⟩:=z;obtain⟨t',rfl⟩:=l;exact PyProof.Rows.mul_int ⟨.int _,H,B.tok _,⟨_,rfl⟩,q U H _ (Le.refl _ _) L (.int _)⟩ R
   .exact q.elim
  |_=>exact q.elim
 |@loc n a e =>
  cases E with
  |int j =>
   dsimp only[lx]at q;obtain⟨O,h1,r1⟩:=L.obj e;rw[h1]at q
   cases O with
   |dic fz ks xs=>exact q.elim
   |exc x=>exact q.elim
   |lst xs =>
    dsimp only at q
    split at q
    .rename_i M
     obtain⟨C,ex,F⟩:=r1;obtain⟨z1,z2⟩:=ny L (F.rep j.toNat) q;refine GL S s Z H _ _ u v Q B z l ⟨a,j,C,rfl,rfl,ex,M.1,M.2,?_,z2⟩;rw[v9]at z1;rw[Nat.mul_comm];exact z1
    .exact q.elim
  |_=>exact q.elim
 |_=>cases E<;>exact q.elim
def pI{i:SA}{Z:L2.St}{H:Hp}{s:Shared}{Q:VK}{x':V}{u:Value}{b c:Bool}(a:Inv X i Z H s)(r:aO x' u)(l:plainIs u (.bool b)=I)(j:(u == .bool b)=c)(q:Q (.bl c) H):
  wpAny (model X.prog X.w) X.A (compareOp .Is u (.bool b)) (EP X i Z Q) X.xe s:=by
 exact hG (wpAny_isSame_plain l (o_ (by rw[j];exact⟨.bl c,H,a,rfl,q⟩)))
def K0:A4 X (compareOp .Is) (KZ T):=by
 intro C s Z H F M u v Q j a z ⟨U,h,x,y,l,B,E,q⟩
 cases E with
 |non =>
  refine GB C s Z H _ _ u v Q j a z ⟨rfl,?_⟩;cases B<;>exact q U H _ (Le.refl _ _) l (by first | exact .bl I | exact .bl T)
 |bl b =>
  cases z
  cases B with
  |non=>cases a;exact pI (x':=.non) j rfl (by cases b<;>rfl) (by cases b<;>rfl) (q U H _ (Le.refl _ _) l (.bl T))
  |bl c=>cases a;exact pI (x':=.bl c) j rfl (by cases b<;>cases c<;>rfl) (by cases b<;>cases c<;>rfl) (q U H _ (Le.refl _ _) l (.bl _))
  |int i=>obtain⟨t,rfl⟩:=a;exact pI (x':=.int i) j ⟨_,rfl⟩ (by cases b<;>rfl) (by cases b<;>rfl) (q U H _ (Le.refl _ _) l (.bl T))
  |str i=>obtain⟨t,rfl⟩:=a;exact pI (x':=.str i) j ⟨_,rfl⟩ (by cases b<;>rfl) (by cases b<;>rfl) (q U H _ (Le.refl _ _) l (.bl T))
  |tup L O=>cases a;exact pI (x':=.ref _) j rfl (by cases b<;>rfl) (by cases b<;>rfl) (q U H _ (Le.refl _ _) l (.bl T))
  |_=>exact q.elim
 |_=>exact q.elim
def be(x y:PV)(h:MH):SH:=match y with
 |.int i=>(match x with
  |.loc n=>(match h[n]? with
   |some (.lst xs)=>(match nw xs i with
    |some v=>.ok v h
    |none=>.bad)
   |_=>.bad)
  |.tup xs=>(match nw xs i with
   |some v=>.ok v h
   |none=>.bad)
  |.frl xs=>(match nw xs i with
   |some v=>.ok v h
   |none=>.bad)
  |.str z=>(match nw z.cps.toList i with
   |some c=>if z.length<=sizeLine then .ok (.str ⟨#[c]⟩) h else .bad
   |none=>.bad)
  |_=>.bad)
 |_=>.bad
def qG{K:g_}{U:SW}{H:Hp}{xs:SM}{ys:List V}{i:Int}{v:PV}(r:RPs K U H xs ys)(e:nw xs i=J v):∃a,nw ys i=J a/\RP K U H v a:=by
 unfold nw at e ⊢;rw[<-r.length]
 cases q:wG xs.length i with
 |none=>rw[q]at e;cases e
 |some j =>
  rw[q]at e;exact r.get e
def Fh{a b:Expr}{ma mb:Mx PV}{S:Pos}(ha:ME X a ma)(hb:ME X b mb)(hs:ko b):ME X (.Subscript a b S) (aA be ma mb):=by
 refine PE.imp (KA GH ha hb hs) λZ H Q q=>?_;obtain⟨U,C,h,rs,rh,q⟩:=q;refine⟨U,C,h,rs,rh,Ful.bind q λU1 H1 x x' h1 _ l1 ab rx q1=>⟨U1,C,h1,rs.le l1,ab,Ful.bind q1 λM O y y' h2 _ l2 u ry j=>?_⟩⟩;have R:=rx.le l2
 cases ry with
 |int i =>
  cases R with
  |@loc n a e =>
   obtain⟨ob,eo,ai⟩:=u.obj e;dsimp only[be]at j;rw[eo]at j
   cases ob with
   |dic fz ks xs=>exact j.elim
   |exc x=>exact j.elim
   |lst xs =>
    obtain⟨ys,ey,E⟩:=ai;dsimp only at j
    cases l:nw xs i with
    |none=>rw[l]at j;exact j.elim
    |some v =>
     rw[l]at j;obtain⟨B,L,F⟩:=qG E l;exact .inl ⟨a,ys,i,B,rfl,rfl,SqL.of ey,L,j M O _ (Le.refl _ _) u F⟩
  |@tup xs a ys P E =>
   dsimp only[be]at j
   cases l:nw xs i with
   |none=>rw[l]at j;exact j.elim
   |some v =>
    rw[l]at j;obtain⟨B,L,F⟩:=qG E l;exact .inr (.inl ⟨_,_,i,B,rfl,rfl,P,L,j M O _ (Le.refl _ _) u F⟩)
  |@frl xs a ys P E =>
   dsimp only[be]at j
   cases l:nw xs i with
   |none=>rw[l]at j;exact j.elim
   |some v =>
    rw[l]at j;obtain⟨B,L,F⟩:=qG E l;exact .inl ⟨_,_,i,B,rfl,rfl,P.sq,L,j M O _ (Le.refl _ _) u F⟩
  |str z =>
   dsimp only[be]at j
   cases l:nw z.cps.toList i with
   |none=>rw[l]at j;exact j.elim
   |some c =>
    rw[l]at j;dsimp only at j
    split at j
    .rename_i hz
     exact .inr (.inr ⟨z,i,c,rfl,rfl,hz,l,j M O _ (Le.refl _ _) u (.str _)⟩)
    .exact j.elim
  |_=>exact j.elim
 |_=>exact j.elim
def sk(f:SM->MH->SH)(m:Mx (SM)):Mx PV:=λZ h=>(m Z h).bind λxs a=>(f xs a).ne
section
variable{x:Str}{id T:String}{e:Expr}{es:SG}{f:SM->MH->SH}{m:Mx (SM)}{p pos:Pos}
def Fi{Z:L2.St}{H:Hp}{Q:VK}(q:tM X (RV' X) (sk f m) Z H Q):OV (cJ X f) (tM X (RVs' X) m) Z H Q:=by obtain⟨U,a,h,u,B,q⟩:=q;exact⟨U,a,h,u,B,Ful.bind q λj F x C z _ E i l y=>⟨j,z,x,i,l,y.zero⟩⟩
def tI(g:Good X N W G k)(j:Nat)(i:G[j]?=J x)(l:cX X (.builtin id) f)(u:X.mg x=Y)(hv:bootBuiltins x=J (.builtin id))(z:MA X (e::es) m)(y:starEach (e::es) X.env=(false,eval e X.env)::starEach es X.env:=by rfl)(a:(backTo pos (starEach es X.env)).any (·.1)=false:=by rfl):ME X (.Call (.Name x p) (e::es) [] pos) (sk f m) :=
 have d:=g.dbg x (xf _ (aM i))
 PE.imp (ox l (g.gl x (aM i)) u hv z d.2.2 d.1 y a) λ_ _ _ q=>Fi q
def qZ(g:Good X N W G k)(j:Nat)(i:G[j]?=J x)(l:cX X (.type T) f)(u:X.mg x=Y)(hv:bootBuiltins x=J (.type T))(z:MA X (e::es) m)(y:starEach (e::es) X.env=(false,eval e X.env)::starEach es X.env:=by rfl)(a:(backTo pos (starEach es X.env)).any (·.1)=false:=by rfl):ME X (.Call (.Name x p) (e::es) [] pos) (sk f m) :=
 have d:=g.dbg x (xf _ (aM i))
 PE.imp (rO l (g.gl x (aM i)) u hv z d.2.2 d.1 y a) λ_ _ _ q=>Fi q
end
def BC(xs:SM)(h:MH):SH:=match xs with
 |[.int i]=>.ok (.int (if i<0 then -i else i)) h
 |_=>.bad
def Bn(xs:SM)(h:MH):SH:=match xs with
 |[.int i,.int j]=>.ok (.int (if j<i then j else i)) h
 |_=>.bad
def BW(xs:SM)(h:MH):SH:=match xs with
 |[.int i,.int j]=>.ok (.int (if j>i then j else i)) h
 |_=>.bad
def Dl(xs:SM)(h:MH):SH:=match xs with
 |[.int i]=>.ok (.int i) h
 |[.bl b]=>.ok (.int (if b then 1 else 0)) h
 |_=>.bad
def sw(xs:SM)(h:MH):SH:=match xs with
 |[.loc n]=>(match h[n]? with
  |some (.lst ys)=>.ok (.int ys.length) h
  |_=>.bad)
 |[.tup ys]=>.ok (.int ys.length) h
 |[.frl ys]=>.ok (.int ys.length) h
 |[.str z]=>if z.length<=sizeLine then .ok (.int z.length) h else .bad
 |_=>.bad
def sM:cX X (.builtin "abs") BC:=by
 intro u s Z H xs y Q a r ⟨U,h,B,z,rp,q⟩
 cases rp with
 |nil=>exact q.elim
 |cons j l =>
  cases l with
  |cons _ _=>cases j<;>exact q.elim
  |nil =>
   cases j with
   |int i=>exact AO u s Z H _ y Q a r ⟨i,rfl,q U H _ (Le.refl _ _) z (.int _)⟩
   |_=>exact q.elim
def uF{f:SM->MH->SH}{F:Int->Int->Int}{r:List V->Hp->VK->Prop}{u:Value}(hf:∀i j h,f [.int i,.int j] h=.ok (.int (F i j)) h)(B:∀xs h,(∀i j,xs≠[.int i,.int j])->f xs h=.bad)(C:dy X u (λxs H Q=>∃i j,xs=[.int i,.int j]/\Q (.int (F i j)) H)):cX X u f:=by
 intro E s Z H xs M Q a r ⟨U,h,l,O,rp,q⟩;by_cases z:∃i j,l=[.int i,.int j]
 .obtain⟨i,j,rfl⟩:=z
  cases rp with
  |cons L y=>cases y with
   |cons P t2 =>
    cases t2;cases L;cases P;rw[hf]at q;exact C E s Z H _ M Q a r ⟨i,j,rfl,q U H _ (Le.refl _ _) O (.int _)⟩
 .rw[B l h λi j e=>z ⟨i,j,e⟩]at q;exact q.elim
def ux(g:Good X N W G k):cX X (.builtin "min") Bn:=uF (r:=λ_ _ _=>True) (λ_ _ _=>rfl) (λxs h z=>by unfold Bn;split<;>first | rfl | exact absurd rfl (z _ _)) (zK g.calm)
def Hc(g:Good X N W G k):cX X (.builtin "max") BW:=uF (r:=λ_ _ _=>True) (λ_ _ _=>rfl) (λxs h z=>by unfold BW;split<;>first | rfl | exact absurd rfl (z _ _)) (zb g.calm)
def Hd:cX X (.type "int") Dl:=by
 intro j s Z H xs u Q a r ⟨U,h,B,y,rp,q⟩
 cases rp with
 |nil=>exact q.elim
 |cons l z =>
  cases z with
  |cons _ _=>cases l<;>exact q.elim
  |nil =>
   cases l with
   |int i=>exact rK j s Z H _ u Q a r (.inl ⟨i,rfl,q U H _ (Le.refl _ _) y (.int _)⟩)
   |bl b=>exact rK j s Z H _ u Q a r (.inr ⟨b,rfl,q U H _ (Le.refl _ _) y (.int _)⟩)
   |_=>exact q.elim
def lU:cX X (.builtin "len") sw:=by
 intro u s Z H xs y Q i r ⟨U,h,R,l,rp,q⟩
 cases rp with
 |nil=>exact q.elim
 |cons E L =>
  cases L with
  |cons _ _=>cases E<;>exact q.elim
  |nil =>
   cases E with
   |@loc n a e =>
    obtain⟨M,O,C⟩:=l.obj e;dsimp only[sw]at q;rw[O]at q
    cases M with
    |dic fz S xs=>exact q.elim
    |exc x=>exact q.elim
    |lst xs =>
     obtain⟨ys,F,j⟩:=C;exact k6 u s Z H _ y Q i r ⟨_,_,rfl,.inl ⟨ys,SqL.of F,rfl⟩,by rw[<-j.length];exact q U H _ (Le.refl _ _) l (.int _)⟩
   |tup B j=>exact k6 u s Z H _ y Q i r ⟨_,_,rfl,.inr ⟨_,B,rfl⟩,by rw[<-j.length];exact q U H _ (Le.refl _ _) l (.int _)⟩
   |frl B j=>exact k6 u s Z H _ y Q i r ⟨_,_,rfl,.inl ⟨_,B.sq,rfl⟩,by rw[<-j.length];exact q U H _ (Le.refl _ _) l (.int _)⟩
   |str z =>
    dsimp only[sw]at q
    split at q
    .rename_i P
     exact k6 u s Z H _ y Q i r ⟨_,_,rfl,⟨P,rfl⟩,q U H _ (Le.refl _ _) l (.int _)⟩
    .exact q.elim
   |_=>exact q.elim
def Dm(h:MH):PV->Option String
 |.non=>J "NoneType"
 |.bl _=>J "bool"
 |.int _=>J "int"
 |.str _=>J "str"
 |.tup _=>J "tuple"
 |.frl _=>J "list"
 |.loc n=>match h[n]? with
  |some (.lst _)=>J "list"
  |some (.dic _ _ _)=>J "dict"
  |_=>Y
def dG(t:String)(a:String):Bool:=t==a||(t == "bool" && a == "int")
def lV(a:List String)(x:PV)(h:MH):SH:=match Dm h x with
 |some t=>.ok (.bl (a.any (dG t))) h
 |none=>.bad
def Dn(a:String):Prop:=∀K:g_,∀t∈["NoneType","bool","int","str","tuple","list","dict"],PySem.W.kitOne K (.type t) (.type a)=J (dG t a)
def oZ(l:∀K,PySem.W.kitOne K (.type "NoneType") (.type b)=J (dG "NoneType" b))(z:∀K,PySem.W.kitOne K (.type "bool") (.type b)=J (dG "bool" b))(u:∀K,PySem.W.kitOne K (.type "int") (.type b)=J (dG "int" b))(i:∀K,PySem.W.kitOne K (.type "str") (.type b)=J (dG "str" b))(j:∀K,PySem.W.kitOne K (.type "tuple") (.type b)=J (dG "tuple" b))(y:∀K,PySem.W.kitOne K (.type "list") (.type b)=J (dG "list" b))(B:∀K,PySem.W.kitOne K (.type "dict") (.type b)=J (dG "dict" b)):Dn b:=by
 intro K t a;simp only[qd,Cb,or_false]at a;rcases a with rfl|rfl|rfl|rfl|rfl|rfl|rfl
 .exact l K
 .exact z K
 .exact u K
 .exact i K
 .exact j K
 .exact y K
 .exact B K
def Do:Dn "int":=oZ (λ_=>rfl) (λ_=>rfl) (λ_=>rfl) (λ_=>rfl) (λ_=>rfl) (λ_=>rfl) (λ_=>rfl)
def zW:Dn "bool":=oZ (λ_=>rfl) (λ_=>rfl) (λ_=>rfl) (λ_=>rfl) (λ_=>rfl) (λ_=>rfl) (λ_=>rfl)
def Bc:Dn "list":=oZ (λ_=>rfl) (λ_=>rfl) (λ_=>rfl) (λ_=>rfl) (λ_=>rfl) (λ_=>rfl) (λ_=>rfl)
def yH:Dn "tuple":=oZ (λ_=>rfl) (λ_=>rfl) (λ_=>rfl) (λ_=>rfl) (λ_=>rfl) (λ_=>rfl) (λ_=>rfl)
def uZ{R:SA}{Z:L2.St}{H:Hp}{s:Shared}{U:SW}{h:MH}{x:PV}{F:V}{u:Value}{t:String}(j:Inv X R Z H s)(rh:RH X.K X.mg U H h)(O:RP X.K U H x F)(l:aO F u)(e:Dm h x=J t):
  t∈["NoneType","bool","int","str","tuple","list","dict"]/\u≠.builtin "__main__.__loader__#opaque"/\∃L,PySem.W.KitX X.K u (.type t) L/\L s.heap:=by
 cases O with
 |non=>cases e;cases l;exact⟨by simp,(λz=>nomatch z),_,PySem.W.kitx_none,trivial⟩
 |bl b=>cases e;cases l;exact⟨by simp,(λz=>nomatch z),_,PySem.W.kitx_bool,trivial⟩
 |int i=>cases e;obtain⟨t,rfl⟩:=l;exact⟨by simp,(λz=>nomatch z),_,PySem.W.kitx_int,trivial⟩
 |str i=>cases e;obtain⟨t,rfl⟩:=l;exact⟨by simp,(λz=>nomatch z),_,PySem.W.kitx_str,trivial⟩
 |tup E r1 =>
  cases e;cases l;obtain⟨B,M,⟨o,e1,e2,_⟩,_⟩:=j.tuple E;exact⟨by simp,(λz=>nomatch z),_,PySem.W.kitx_tuple,⟨o,e1,e2⟩⟩
 |frl E r1 =>
  cases e;cases l;obtain⟨B,M,⟨o,m,e1,e2,_,e3⟩,_⟩:=j.list E.sq;exact⟨by simp,(λz=>nomatch z),_,PySem.W.kitx_list,⟨o,e1,e2⟩⟩
 |@loc n a en =>
  obtain⟨P,Q,y⟩:=rh.obj en;dsimp only[Dm]at e;rw[Q]at e;cases l
  cases P with
  |lst xs =>
   cases e;obtain⟨ys,C,_⟩:=y;obtain⟨B,M,⟨o,m,e1,e2,_,e3⟩,_⟩:=j.list (SqL.of C);exact⟨by simp,(λz=>nomatch z),_,PySem.W.kitx_list,⟨o,e1,e2⟩⟩
  |dic fz ks xs =>
   cases e;obtain⟨zs,_,_,C⟩:=y;obtain⟨_,_,vs,_,p⟩:=nj j.hok C;obtain⟨o,es,ep,h1,S,_⟩:=p;exact⟨by simp,(λz=>nomatch z),_,PySem.W.kitx_dict,⟨o,h1,S.1⟩⟩
  |exc x=>cases e
def He(g:Good X N W G k){a:Expr}{m:Mx PV}{l:String}{c:Str}{i j:Nat}{p q B:Pos}(hi:G[i]?=J "isinstance")(hm:X.mg "isinstance"=Y)(S:G[j]?=J c)(hc:X.mg c=Y)(hv:bootBuiltins c=J (.type l))(hT:Dn l)(ha:ME X a m)(he:starEach [a,.Name c q] X.env=(T,eval a X.env)::starEach [.Name c q] X.env:=by rfl)(R:starEach [.Name c q] X.env=[(T,eval (.Name c q) X.env)]:=by rfl)(O:(backTo B (starEach [.Name c q] X.env)).any (·.1)=T:=by rfl):
  ME X (.Call (.Name "isinstance" p) [a,.Name c q] [] B) (KO (lV [l]) m):=by
 have d1:=g.dbg _ (xf _ (aM hi));have d:=g.dbg c (xf _ (aM S));have y:dy X (.builtin "isinstance") (λxs H Q=>∃z,xs=[z,.ty l]/\uJ X (lV [l]) z H Q):=by
  intro K4 s Z H xs us Q u r ⟨z,e,U,h,x,C,L,q⟩;subst e
  cases r with
  |cons r1 t1=>cases t1 with
   |cons r2 t2 =>
    cases t2;obtain rfl:=(r2);unfold lV at q
    cases M:Dm h x with
    |none=>rw[M]at q;exact q.elim
    |some t =>
     rw[M]at q;obtain⟨ht,F,Hq,Za,hz⟩:=uZ u C L r1 M
     exact PySem.W.kia_one Za u.kIn hz (hT X.K t ht) F λtk=>⟨.bl _,H,u.tok _,rfl,by
      have q':=q U H _ (Le.refl _ _) C (.bl _)
      simpa using q'⟩
 refine PE.imp (ox y (g.gl _ (aM hi)) hm PyProof.Rows.Boot.«isinstance» (cV ha (cV (qt (v:=.ty l) (g.gl c (aM S)) hc hv rfl d.2.2 d.1) jq R) he) d1.2.2 d1.1 he O) λZ H Q ⟨U,E,h,rs,C,q⟩=>?_;exact⟨U,E,h,rs,C,Ful.bind q λU1 H1 x z h1 _ l1 P L q1=>⟨z,rfl,U1,h1,x,P,L,q1.zero⟩⟩
def Hf(K:g_)(mg:BS)(F:SM->MH->SH):Sp:=λz H Q E=>∃U y h,RPs K U H y z/\RH K mg U H h/\match F y h with
 |.ok v j=>∀i a l,Le U H i a->RH K mg i a j->RP K i a v l->Q l a
 |.exc x j=>∀C i a u,Nm x a u->mg x.cls=J (.ref C)->Le U H i a->RH K mg i a j->E (.ref C) u a
 |.bad=>False
def JD(P:Program)(w:World):Co:=λouter H s E e a=>∃j C i l,e=.ref j/\a.os=s.os/\AllBare a.gens/\Un (Al outer) [] H i s.heap a.heap/\HOk P w i a.heap/\O3 outer i s.heap C j a.heap/\DvA l j a.heap/\E (.ref C) l i
structure Cal(X:Cx)(x:Str)(ps:SQ)(F:SM->MH->SH)(k:Nat):Prop where
 ex:∃f fd,X.mg x=J (.ref f)/\PySem.W.keepIn X.K (.ref f)=I/\lM X.K fd ps []/\FnOk X.prog X.w X.K X.mg X.base (JD X.prog X.w) k f fd ps (Hf X.K X.mg F)
def Cal.to(c:Cal X x ps F i)(e1:g.prog=X.prog)(e2:g.w=X.w)(e3:g.K=X.K)(e4:g.mg=X.mg)(e5:g.base=X.base):Cal g x ps F i:=by obtain⟨f,fd,a,b,d,e⟩:=c.ex;refine⟨f,fd,by rw[e4];exact a,by rw[e3];exact b,by rw[e3];exact d,?_⟩;rw[e1,e2,e3,e4,e5];exact e
def fu(F:SM->MH->SH)(m:Mx (SM)):Mx PV:=λZ h=>(m Z h).bind F
def v6(g:Good X N W G k){x:Str}{j:Nat}(hj:G[j]?=J x){ps:SQ}{F:SM->MH->SH}(C:Cal X x ps F k){e:Expr}{es:SG}{m:Mx (SM)}{p S:Pos}(ha:MA X (e::es) m)(he:starEach (e::es) X.env=(T,eval e X.env)::starEach es X.env:=by rfl)(ap:(backTo S (starEach es X.env)).any (·.1)=T:=by rfl):ME X (.Call (.Name x p) (e::es) [] S) (fu F m):=by
 obtain⟨f,fd,hm,hk,hb,F'⟩:=C.ex;have d:=g.dbg x (xf _ (aM hj));intro K4 s Z H Q ab ⟨U,ai,h,rs,rh,q⟩;refine wpAny_Call_Name_kw (nC ab (g.gl x (aM hj)) hm ?_ d.1)
 refine PySem.W.callWith_K ab.ok.mod.kin hk (ln (ha S K4 s Z H (λvs y=>∃B xs O,Le U H B y/\RH X.K X.mg B y O/\RPs X.K B y xs vs/\Ful X (RV' X) ai B y (F xs O) Q) ab
  ⟨U,ai,h,rs,rh,Ful.bind q λB y xs vs O _ l1 M rx P=>⟨B,xs,O,l1,M,rx,P⟩⟩) λus R ⟨vs,y,I1,r,B,xs,O,l1,M,rx,P⟩=>⟨I1.kIn,?_⟩) he ap
 have run:∀E:XK,Hf X.K X.mg F vs y Q E->(∀ea C i l L,l.os=R.os->AllBare l.gens->Un (Al X.stack) [] y i R.heap l.heap->HOk X.prog X.w i l.heap->O3 X.stack i R.heap C ea l.heap->DvA L ea l.heap->E (.ref C) L i->X.xe (.ref ea) l) ->
   wpAny (model X.prog X.w) X.A (call (.ref f) us) (EP X K4 Z Q) X.xe R:=λE al hE=>by
  have hl:(us++[]).length=ps.length:=by rw[Ju,<-r.length];exact F'.len _ _ _ _ al
  have ak:=hb R us I1.kIn hl;rw[Ju]at ak;refine wpAny_call (codeAny_mono (F'.run X.A X.stack R y ⟨us,[]⟩ us vs Q E g.room I1.env0 ak r al) λr l hq=>?_)
  cases r with
  |error e =>
   obtain⟨ea,C,i,L,rfl,a1,a2,a3,a4,a5,a7,a6⟩:=hq;exact hE ea C i l L a1 a2 a3 a4 a5 a7 a6
  |ok fl =>
   cases fl with
   |ret u=>exact I1.after hq
   |next=>exact False.elim hq
   |brk=>exact False.elim hq
   |cont=>exact False.elim hq
 cases eF:F xs O with
 |bad=>rw[eF]at P;exact P.elim
 |ok v h' =>
  rw[eF]at P;exact run (λ_ _ _=>False) ⟨B,xs,O,rx,M,by rw[eF];exact P⟩ λ_ _ _ _ _ _ _ _ _ _ _ z=>z.elim
 |exc x' h' =>
  rw[eF]at P;refine run (λc L i=>∃C U',c=.ref C/\Nm x' i L/\X.mg x'.cls=J (.ref C)/\Le B y U' i/\RH X.K X.mg U' i h') ⟨B,xs,O,rx,M,by rw[eF];exact λC U' i L a b c d=>⟨C,U',rfl,a,b,c,d⟩⟩ λea C i l L a1 a2 a3 a4 a5 a7 a6=>?_;obtain⟨C',U',eC,b1,b2,b3,b4⟩:=a6;cases eC;have IX:=I1.call' (s':=l) (ch:=[]) a1 a3 a4 a2 (λb z=>absurd z (by simp));have an:=Inv.unpinned (K4:=[]) (pl:=K4) IX;exact P ea C U' i Z l R.heap L b1 b2 b3 b4 (rs.le (l1.trans b3)) an (Inv.bears I1) a5 a7
def bv(n:Nat)(a:SM):p_:=a.map J++List.replicate (n-a.length) Y
def cE(n j:Nat)(m:nr):SM->MH->SH:=λi h=>if i.length=j then (match m (bv n i) h with
 |.nx _ a=>.ok .non a
 |.rt v a=>.ok v a
 |.exc x _ a=>.exc x a
 |.rse x _ a=>.exc x a
 |_=>.bad)else .bad
def zV{K:g_}{U:SW}{H:Hp}{N:SQ}{a:SM}{l:List V}(r:RPs K U H a l):RS K U H (bv N.length a) (L2.start N l):=by
 have hl:=r.length;refine⟨by simp[bv,L2.start,hl],λi v e=>?_⟩;unfold bv at e;by_cases j:i<a.length
 .rw[qs (by simpa using j),r6]at e
  cases q:a[i]? with
  |none=>rw[q]at e;cases e
  |some x =>
   rw[q]at e;cases e;obtain⟨u,z,y⟩:=r.get q;refine⟨u,?_,y⟩;unfold L2.start;rw[qs (by simp;lia),r6,z];rfl
 .rw[BL (by simpa using j),F0]at e
  split at e<;>cases e
def td{B h:Heap}(k:B.StaysIn h){b:Addr}{o a:Obj}(e1:B.get? b=J a)(e2:h.get? b=J o):a=o:=by
 have:=k b a e1
 rw[e2]at this;exact(Option.some.inj this).symm
def vS{X:Cx}{Z':L2.St}{O:Hp}{P:Shared}{H B:Heap}(i:Inv X [] Z' O P)(U:X.ex=[])(hB:B.StaysIn P.heap)(C:B.StaysIn H)(sm:P.heap.UpToSlots H)(L:∀b o,X.s₀.heap.get? b=J o->b∉X.fs->∃j,B.get? b=J j)(M:∀b o,O b=J o->∃j,B.get? b=J j):Un X.fs [] X.H₀ O X.s₀.heap H/\HOk X.prog X.w O H:=by
 have l:∀b:Addr,b∉X.ex:=λb=>by rw[U];simp
 have kp:∀b o j,B.get? b=J j->P.heap.get? b=J o->H.get? b=J o:=λb o j e1 e2=>by
  have:=td hB e1 e2
  subst this;exact C b j e1
 refine⟨⟨λb o e n hf _=>?_,λb o e n hf _=>?_,λb o e n _=>i.base.free b o e n (l b),λb o e _=>?_,i.base.tups,i.base.frzs,i.base.tbls⟩,λa o e=>?_⟩
 .obtain⟨j,y⟩:=L b o e hf;exact kp b o j y (i.base.keep b o e n hf (l b))
 .obtain⟨sl,e1⟩:=i.base.slot b o e n hf (l b);obtain⟨_,Z,F,R⟩:=i.ok.funs.mem hf;rw[e]at F;cases F;obtain⟨E,e2⟩:=sm b _ e1 (λS z=>R S z);exact⟨E,e2⟩
 .by_cases hf:b∈X.fs
  .obtain⟨_,Z,F,R⟩:=i.ok.funs.mem hf;rw[e]at F;cases F;obtain⟨sl,e1⟩:=i.base.slot b o e (i.ok.frf b hf) hf (l b);obtain⟨E,e2⟩:=sm b _ e1 (λS z=>R S z);exact⟨_,e2⟩
  .obtain⟨j,y⟩:=L b o e hf;exact⟨j,C b j y⟩
 .refine (i.hok a o e).stay (λb u Q z=>?_) (λ_ z=>z) λ_ _ z=>z;rcases Q with rfl|Q
  .obtain⟨j,y⟩:=M _ _ e;exact kp _ u j y z
  .obtain⟨j,y⟩:=M _ _ Q;exact kp _ u j y z
def _root_.L2.ObjOk.has(x:ObjOk P w H h a o):∃u,h.get? a=J u:=by
 cases o with
 |lst xs=>obtain⟨_,_,_,_,e⟩:=x;exact⟨_,e⟩
 |tup xs=>obtain⟨_,_,_,o,e,_⟩:=x;exact⟨o,e⟩
 |dK i=>obtain⟨_,_,_,_,o,_,_,e,_⟩:=x;exact⟨o,e⟩
 |dT i=>obtain⟨_,_,_,_,o,_,_,e,_⟩:=x;exact⟨o,e⟩
 |set S n=>obtain⟨o,_,_,_,e,_⟩:=x;exact⟨o,e⟩
 |ins C j fs=>obtain⟨_,_,_,e,_⟩:=x;exact⟨_,e⟩
 |own y=>obtain⟨o,e⟩:=x;exact⟨o,e⟩
 |xd fs=>obtain⟨_,⟨o,_,_,e,_⟩,_⟩:=x;exact⟨o,e⟩
 |rng lo l=>obtain⟨_,_,_,e⟩:=x;exact⟨_,e⟩
 |frz B u=>obtain⟨e,_⟩:=x;exact⟨_,e⟩
 |tbl z=>exact⟨_,(x)⟩
 |met f y=>exact⟨_,(x)⟩
 |ext φ=>obtain⟨_,⟨o,e⟩,_⟩:=x;exact⟨o,e⟩
def sW{M:Model}{A:Around}{E:SK}{s:Shared}{base h:Heap}{env:Env}{outer:List Env}{L e C:Addr}{Q:Unit->Shared->Prop}(u:A.frames=J (env::outer))(hf:env.frame=J L)(i:base.StaysIn h)(hl:h.FunFrames base (env::outer))(j:Fb h s.heap e C)(O:∀a t,Heap.FlyingW base outer e (.ref C) (.ref t) a->s.heap.UpToSlots a->Q () { s with heap:=a}):wpAny M A (leaving env (.ref e)) Q E s:=by
 obtain⟨t,R,P⟩:=j.there;have y:base.get? e=Y:=by
  cases q:base.get? e with
  |none=>rfl
  |some o=>have:=i e o q;rw[j.new]at this;cases this
 refine wpAny_leaving_firstW u (hl.of_keeps λb o l _=>⟨o,j.keeps b o l,rfl⟩) hf P (λb o l=>j.keeps b o (i b o l)) y rfl rfl rfl λa hL=>?_;obtain⟨z,⟨_,_,F⟩,H,B⟩:=hL;exact O a t ⟨z,y,F,H⟩ B
structure hI(X:Cx):Prop where
 stk:X.stack=X.env::X.outer
 fr:X.env.frame=J X.env.locals
 ex:X.ex=[]
def O5{P:Program}{w:World}{K:g_}{mg:Sn}{base:Heap}{x a:Str}{st:Stmt}{f:Addr}{fd:FuncData}{ps:SQ}{m:nr}(Fu:Fun K x a st f fd)(S:pz N ps (ag st))(hl:∀y∈N,Loc (ag st) y)(a5:∀y∈G,(ag st).names.lookup y=J .globalImplicit)(dbg:∀x∈N++G,(x==("__debug__":Str))=T/\(x==("__classdict__":Str))=T/\x≠"__name__")(hb:∀X:Cx,X.prog=P->X.w=w->X.K=K->X.mg=mg->X.base=base->X.env.scope=ag st->Good X N N G k->hI X->Bx X (aE st) m):
  FnOk P w K mg base (JD P w) (k+1) f fd ps (Hf K mg (cE N.length ps.length m)):=by
 have len:∀vs H Q E,Hf K mg (cE N.length ps.length m) vs H Q E->vs.length=ps.length:=by
  rintro vs H Q E ⟨U,zs,h,r,rh,q⟩;rw[<-r.length];unfold cE at q;by_cases hp:zs.length=ps.length
  .exact hp
  .rw[h8 hp]at q;exact q.elim
 obtain⟨oc,od,kV,b2,pm,an,i,ct,b0,rfl,lk,a9⟩:=Fu.ex;refine Fa lk a9 S len λA outer s H vs Q E hr a8=>?_;obtain⟨U,zs,h,r,rh,q⟩:=a8;refine⟨_,hb _ rfl rfl rfl rfl rfl rfl ⟨rfl,S.nd,hl,λ_ _=>.inl rfl,a5,dbg,rfl,hr,PassesOwn.leaving⟩ ⟨rfl,rfl,rfl⟩,U,bv N.length zs,h,zV r,rh,?_⟩;unfold cE at q;by_cases hp:zs.length=ps.length
 .rw[e_ hp]at q
  cases e:m (bv N.length zs) h with
  |nx Z' h'=>rw[e]at q;exact λU' H' Z' l r' s'=>q U' H' .non l r' .non
  |rt v h'=>rw[e]at q;exact q
  |bk Z h'=>rw[e]at q;exact q.elim
  |ct Z h'=>rw[e]at q;exact q.elim
  |bad=>rw[e]at q;exact q.elim
  |exc x Z h' =>
   rw[e]at q;intro ea C U' H' Z' s' b1 dv al ar l ak a3 j a2 a6 ai;obtain⟨B,t,a0,O,as,ap⟩:=a6;refine xQ ai ?_;refine wpAny_leaves_onW (base:=B) (env:=envOfC a (ag st) s.heap.objs.size f i) (outer:=outer) j.ok.frames rfl a0 λa1 F sm R=>?_;have M:∀b o,s.heap.get? b=J o->b∉Al outer->∃ob,B.get? b=J ob:=λb o eb hf=>by
    obtain⟨o',e'⟩:=a2.old b o eb (by show b∉([]:SW);simp);refine as b o' e' λhm=>?_;rcases qd.mp (j.stkSub b hm)with z|z
    .exact absurd (pk eb) (by rw[z];exact BQ _)
    .exact hf z
   obtain⟨un,ab⟩:=vS (B:=B) j rfl a0.1 F.1 sm M O;exact⟨ea,C,H',dv,rfl,j.os,j.bare,un,ab,⟨B,t,F,O,M,ap⟩,R,q C U' H' dv al ar l ak⟩
  |rse x Z h' =>
   rw[e]at q;intro ea C U' H' Z' s' h0 dv al ar l ak a3 j L ai;have a4:=j.stack;have a7:∀env∈(envOfC a (ag st) s.heap.objs.size f i::outer),∀b,env.frame=J b->b∈Al (envOfC a (ag st) s.heap.objs.size f i::outer):=λenv he b hb=>M6.mpr ⟨env,he,hb⟩;refine xQ ai ?_;refine sW (base:=PySem.W.hideAll h0 (Al (envOfC a (ag st) s.heap.objs.size f i::outer))) (h:=h0) (env:=envOfC a (ag st) s.heap.objs.size f i) (outer:=outer) j.ok.frames rfl (λb o z=>PySem.W.of_hideAll _ z)
    (PySem.W.funFrames_hide (base:=base) a4 a7) L λa1 t F sm R=>?_
   have sub:∀b,b∈Al (envOfC a (ag st) s.heap.objs.size f i::outer)->b=s.heap.objs.size\/b∈Al outer:=λb hm=>qd.mp (j.stkSub b hm);have M:∀b o,s.heap.get? b=J o->b∉Al outer->∃ob,(PySem.W.hideAll h0 (Al (envOfC a (ag st) s.heap.objs.size f i::outer))).get? b=J ob:=λb o eb hf=>by
    obtain⟨o',e'⟩:=j.base.there b o eb (by show b∉([]:SW);simp);refine⟨o',PySem.W.hideAll_get _ e' λhm=>?_⟩;rcases sub b hm with z|z
    .exact absurd (pk eb) (by rw[z];exact BQ _)
    .exact hf z
   have O:∀b o,H' b=J o->∃ob,(PySem.W.hideAll h0 (Al (envOfC a (ag st) s.heap.objs.size f i::outer))).get? b=J ob:=λb o eb=>by
    have b3:=j.hok.lt eb;obtain⟨u,eu⟩:∃u,h0.get? b=J u:=(j.hok b o eb).has;refine⟨u,PySem.W.hideAll_get _ eu λhm=>?_⟩
    have:=j.stkFree b hm
    rw[eb]at this;cases this
   have bm:h0.UpToSlots a1:=(Heap.UpToSlots.of_keeps L.keeps).trans sm;obtain⟨un,ab⟩:=vS (B:=PySem.W.hideAll h0 (Al (envOfC a (ag st) s.heap.objs.size f i::outer))) j rfl (λb o z=>PySem.W.of_hideAll _ z) F.1 bm M O;have ap:H' ea=Y:=by
    cases z:H' ea with
    |none=>rfl
    |some o =>
     obtain⟨u,eu⟩:=(j.hok ea o z).has;rw[L.new]at eu;cases eu
   exact⟨ea,C,H',dv,rfl,j.os,j.bare,un,ab,⟨_,t,F,O,M,ap⟩,R,q C U' H' dv al ar l ak⟩
 .rw[h8 hp]at q;exact q.elim
def uq(v:PV)(h:MH):Out MIt:=match v with
 |.loc n=>(match h[n]? with
  |some (.lst xs)=>.ok ⟨xs,[(n,xs)]⟩ h
  |_=>.bad)
 |.frl xs=>.ok ⟨xs,[]⟩ h
 |.tup xs=>.ok ⟨xs,[]⟩ h
 |_=>.bad
def cS(m:Mx PV):Mx MIt:=λZ h=>(m Z h).bind uq
def fj(hl:ME X l m):MI X tg l (cS m):=by
 intro y s Z H R j ⟨U,a,h,u,B,q⟩;by_cases z:∃xs i,m a h=.ok (.tup xs) i
 .obtain⟨xs,i,e⟩:=z;refine G8 hl y s Z H R j ⟨U,a,h,u,B,?_⟩;unfold cS at q;unfold KW;rw[e]at q ⊢;exact q
 .refine Dj hl y s Z H R j ⟨U,a,h,u,B,?_⟩;unfold cS at q;unfold KU
  cases e:m a h with
  |ok v i =>
   rw[e]at q
   cases v with
   |tup xs=>exact absurd ⟨xs,i,e⟩ z
   |_=>exact q
  |exc x i=>rw[e]at q;exact q
  |bad=>rw[e]at q;exact q
def Inv.bigM{i:SA}{Z:L2.St}{H:Hp}{s:Shared}(a:Inv X i Z H s):sysModules<s.heap.objs.size:=by have h:mainGlobals<s.heap.objs.size:=(a.mod.glob.keeps a.bk).lt;exact Ng (by decide) h
def B8:Mx PV:=λ_ h=>.ok (.loc h.length) (h++[.dic T [] []])
def vf:ME X (.Dict [] [] pos) B8:=λy s Z H Q a ⟨U,u,h,z,i,q⟩=>by
 have hf:=a.hok.fresh (l_ _);obtain⟨j,l⟩:=i.new hf (o:=.dic T [] []) ⟨[],rfl,.nil,rfl⟩;refine wpAny_Dict_empty ⟨.ref s.heap.objs.size,_,a.laid (t':=s.toks) (λ_ _ q=>n3 _ q) (l_ _) ?_,rfl,q _ _ _ l j (.loc (by rw[<-i.len];simp))⟩;exact⟨CT _,beq_eq_false_iff_ne.mpr (Ne.symm (x5 (Inv.bigM a))),[],.nil,Heap.DictOf.new s.heap⟩
structure FnAt(P:Program)(w:World)(K:g_)(mg:Sn)(base:Heap)(x:Str)(ps:SQ)(F:SM->MH->SH)(k:Nat):Prop where
 ex:∃f fd,mg x=J (.ref f)/\PySem.W.keepIn K (.ref f)=I/\lM K fd ps []/\FnOk P w K mg base (JD P w) k f fd ps (Hf K mg F)/\∃oc od osl,K.lookup f=J ⟨oc,od,.func fd,osl⟩
def FnAt.mono{P:Program}{w:World}{K:g_}{mg:Sn}{base:Heap}{x:Str}{l:SQ}{F:SM->MH->SH}{i j:Nat}(c:FnAt P w K mg base x l F i)(h:i<=j):FnAt P w K mg base x l F j :=
 let⟨f,fd,a,b,d,e,z⟩:=c.ex;⟨f,fd,a,b,d,e.mono h,z⟩
def FnAt.cal{P:Program}{w:World}{K:g_}{mg:Sn}{base:Heap}{x:Str}{j:SQ}{F:SM->MH->SH}{i:Nat}(c:FnAt P w K mg base x j F i){X:Cx}(e1:X.prog=P)(e2:X.w=w)(e3:X.K=K)(e4:X.mg=mg)(e5:X.base=base):Cal X x j F i:=by subst e1;subst e2;subst e3;subst e4;subst e5;obtain⟨f,fd,a,b,d,e,_⟩:=c.ex;exact⟨f,fd,a,b,d,e⟩
structure c_(K:g_)(x:Str)(st:Stmt):Prop where
 ex:∃f fd,PySem.W.nsIn K mainGlobals x=J (J (.ref f))/\Fun K x x st f fd
def Cu{K:g_}{x:Str}{st:Stmt}{f:Addr}{z:Value}{y u:Sr}{B:Array (SD)}{kV j pm i ct:Value}(a:PySem.W.nsIn K mainGlobals x=J (J (.ref f)))(l:K.lookup f=J ⟨z,y,.func (PySem.W.fnOf x x (gD st) (aE st) (ag st) .none kV j pm u i ct),B⟩)(c:PySem.W.codeIn K i x=I)(kp:PySem.W.keepIn K (.ref f)=I):c_ K x st :=
 ⟨f,_,a,yD l c kp⟩
def gL(x:Str)(st:Stmt)(l:SQ):Prop:=∀(kV a pm:Value)(u:Sr)(j ct:Value)(i:SX),i.length=l.length->bindArgs (PySem.W.fnOf x x (gD st) (aE st) (ag st) .none kV a pm u j ct) ⟨i,[]⟩=pure (l.zip i)
def pw{P:Program}{w:World}{K:g_}{mg:Sn}{base:Heap}{x:Str}{st:Stmt}{j:SQ}{m:nr}(kin:K.In base)(ns:base.Ns mainGlobals mg)(D:c_ K x st)(S:pz N j (ag st))(B:gL x st j)(hl:∀y∈N,(ag st).names.lookup y=J .local\/(ag st).names.lookup y=J .cell)(u:∀y∈G,(ag st).names.lookup y=J .globalImplicit)(dbg:∀x∈N++G,(x==("__debug__":Str))=T/\(x==("__classdict__":Str))=T/\x≠"__name__")(z:∀X:Cx,X.prog=P->X.w=w->X.K=K->X.mg=mg->X.base=base->X.env.scope=ag st->Good X N N G k->hI X->Bx X (aE st) m):
  FnAt P w K mg base x j (cE N.length j.length m) (k+1):=by
 obtain⟨f,fd,a,i⟩:=D.ex;have H:=i.ex;obtain⟨F,E,kV,C,pm,M,L,ct,l,e1,e2,_⟩:=H;exact⟨f,fd,PySem.W.mg_of kin ns a,i.kp,i.binds B,O5 i S hl u dbg z,F,E,l,e2⟩
def Hg{P:Program}{w:World}{K:g_}{mg:Sn}{h:Heap}{x y:Str}{st:Stmt}{F:SM->MH->SH}{C:Addr}(D:c_ K x st)(B:gL x st [y])(i:mg x=J (.ref C))(kin:K.In h)(ns:h.Ns mainGlobals mg)(H:∀base:Heap,K.In base->base.Ns mainGlobals mg->FnAt P w K mg base x [y] F k):
  ∃fd:FuncData,(∀(s:Shared)(u:Value),BindsTo s fd ⟨[u],[]⟩ [(y,u)])/\∀base:Heap,K.In base->base.Ns mainGlobals mg->FnOk P w K mg base (JD P w) k C fd [y] (Hf K mg F):=by
 obtain⟨f,fd,a,L⟩:=D.ex;have e:=i.symm.trans (PySem.W.mg_of kin ns a);obtain⟨oc,od,kV,j,pm,S,l,ct,E,e1,e2,e3⟩:=L.ex;refine⟨fd,λs u=>.of_eq ?_,λbase kb M=>?_⟩
 .rw[e1];exact B kV j pm S l ct [u] rfl
 .obtain⟨U,O,Z,g2,g3,g4,Q,R,z,g5⟩:=(H base kb M).ex
  grind
def K1(K:g_):Sp:=λi H Q _=>∃(a:Addr)(ns:SS),i=[.ref a]/\SqF K H a (ns.map V.int)/\ns.length<=63/\∀j,Q (.bl I) j
def Hh{l:PySem.W.OpenLaw}{q:Program}{loose:SQ}{XP:(Str->SD)->Heap->Prop}{O:World->Heap->Prop}{d:DefRec}{K:Params->g_}{x:Str}{F:SM->MH->SH}(hn:l.most=J 63)(M:d.params.defaults=[])(hr:Room k callerA)(S:PyProof.Rows.importsNone q=I)(j:l.prog.given.tree=Y)(hY:∀(w:World)(h:Heap),O w h->(K w.params).In h)(HF:∀(w:World)(mg:Sn)(i:Addr)(h:Heap),(K w.params).In h->h.Ns mainGlobals mg->mg d.name=J (.ref i) ->
   ∃fd:FuncData,(∀(s:Shared)(u:Value),BindsTo s fd ⟨[u],[]⟩ [(x,u)])/\∀base:Heap,(K w.params).In base->base.Ns mainGlobals mg->FnOk l.prog w (K w.params) mg base (JD l.prog w) k i fd [x] (Hf (K w.params) mg F))(ht:∀ns:SS,ns.length<=63->∃P,F [.frl (ns.map .int)] []=.ok (.bl I) P):
  PySem.W.WalkO q loose XP O l.row.toRowW d [] (λf R=>PySem.call f R):=by
 refine L2.Df (x:=x) (CX:=λw=>JD l.prog w) (sp:=λw=>K1 (K w.params)) hn (by decide) M hr S j hY (λw mg i h hK C L=>?_) (λw H a ns hl hO hS=>?_) λw H s e s' z=>?_
 .obtain⟨fd,U,Z⟩:=HF w mg i h hK C L;refine⟨fd,U,λbase kb nb=>(Z base kb nb).imp λR H Q E z=>?_⟩;obtain⟨a,ns,rfl,B,hl,hq⟩:=z;obtain⟨P,e⟩:=ht ns hl;refine⟨[],[.frl (ns.map .int)],[],.cons (.frl B (RPs.ints ns)) .nil,⟨rfl,List.nodup_nil,λn a o z _=>by simp at z⟩,?_⟩;rw[e];intro U' H' v' _ _ r;cases r;exact hq H'
 .have B:SqF (K w.params) H a (ns.map V.int):=by
   rcases hS with(z|z)|z
   .rcases hO a with y|⟨o,xs,y⟩
    .rw[y]at z;cases z
    .rw[y]at z;cases z
   .exact .inl z
   .exact .inr z
  exact⟨a,ns,rfl,B,hl,λ_=>rfl⟩
 .obtain⟨_,_,_,_,_,_,_,_,_,_,_,z⟩:=z;exact z
end
section
variable{α:Type}{Z:p_}{h:MH}
@[simp]theorem QX:mC v Z h=.ok v h:=rfl
@[simp]theorem pg{v:PV}{r:p_}:am 0 (J v::r) h=.ok v h:=rfl
@[simp]theorem pr{i:Nat}{o:Ss}{r:p_}:am (i+1) (o::r) h=am i r h:=by simp[am]
@[simp]theorem Dp:aA f a b Z h=(a Z h).bind λx h1=>(b Z h1).bind λy h2=>(f x y h2).ne:=rfl
@[simp]theorem O6:KO f a Z h=(a Z h).bind λx h1=>(f x h1).ne:=rfl
@[simp]theorem Hi:sk f a Z h=(a Z h).bind λx h1=>(f x h1).ne:=rfl
@[simp]theorem sU:fu f a Z h=(a Z h).bind f:=rfl
@[simp]theorem fN:f_ Z h=.ok [] h:=rfl
@[simp]theorem cN:aj a r Z h=(a Z h).bind λx h1=>(r Z h1).bind λxs h2=>.ok (x::xs) h2:=rfl
@[simp]theorem ve:gG a Z h=(a Z h).bind vR:=rfl
@[simp]theorem Nq:cq a Z h=(a Z h).bind lw:=rfl
@[simp]theorem Nr:B8 Z h=.ok (.loc h.length) (h++[.dic T [] []]):=rfl
@[simp]theorem QY:mB a Z h=(a Z h).bind λv h1=>match v with|.bl b=>.ok b h1|_=>.bad:=rfl
@[simp]theorem Nt:GS a Z h=(a Z h).bind λb h1=>.ok (!b) h1:=rfl
@[simp]theorem O7:O4 a b Z h=(a Z h).bind λx h1=>if x=I then .ok I h1 else b Z h1:=rfl
@[simp]theorem K2:wJ a b Z h=(a Z h).bind λx h1=>match x with|.bl c=>if c=I then b Z h1 else .ok (.bl T) h1|_=>.bad:=rfl
@[simp]theorem K3:wz a Z h=(a Z h).bind λx h1=>match x with|.bl c=>.ok (.bl (!c)) h1|_=>.bad:=rfl
@[simp]theorem Nu:GZ c a b Z h=(c Z h).bind λx h1=>if x=I then a Z h1 else b Z h1:=rfl
@[simp]theorem K5:qx Z h=.nx Z h:=rfl
@[simp]theorem bK:cj a b Z h=(a Z h).then b:=rfl
@[simp]theorem ax:(SOut.nx Z h).then k=k Z h:=rfl
@[simp]theorem kG:(SOut.rt v h).then k=.rt v h:=rfl
@[simp]theorem then_bk:(SOut.bk Z h).then k=.bk Z h:=rfl
@[simp]theorem then_ct:(SOut.ct Z h).then k=.ct Z h:=rfl
@[simp]theorem AH:(SOut.rse x Z h).then k=.rse x Z h:=rfl
@[simp]theorem Am:(SOut.exc x Z h).then k=.exc x Z h:=rfl
@[simp]theorem Aw:SOut.bad.then k=.bad:=rfl
def Out.rt(o:SH)(Z:p_):SOut:=match o with
 |.ok v a=>.rt v a
 |.exc x a=>.exc x Z a
 |.bad=>.bad
@[simp]theorem QZ:(Out.ok v h).rt Z=.rt v h:=rfl
@[simp]theorem O9:(Out.exc x h:SH).rt Z=.exc x Z h:=rfl
@[simp]theorem O_:(Out.bad:SH).rt Z=.bad:=rfl
@[simp]theorem qF:du m Z h=(m Z h).rt Z:=rfl
def Out.go{α:Type}(o:Out α)(Z:p_)(k:α->nr):SOut:=match o with
 |.ok v a=>k v Z a
 |.exc x a=>.exc x Z a
 |.bad=>.bad
@[simp]theorem aw:(Out.ok v h).go Z k=k v Z h:=rfl
@[simp]theorem go_exc:(Out.exc x h:Out α).go Z k=.exc x Z h:=rfl
@[simp]theorem go_bad:(Out.bad:Out α).go Z k=.bad:=rfl
@[simp]theorem Hj:Ap m k Z h=(m Z h).go Z k:=rfl
@[simp]theorem lF:jD m Z h=(m Z h).go Z λ_=>qx:=rfl
@[simp]theorem x9:Cd c a b Z h=(c Z h).go Z λx=>if x=I then a else b:=rfl
@[simp]theorem eQ:bM i m Z h=(m Z h).go Z λv Z h=>.nx (Z.set i (J v)) h:=rfl
@[simp]theorem Nv:G5 i j m Z h=(m Z h).go Z λvs Z h=>match vs with|[v,w]=>.nx ((Z.set i (J v)).set j (J w)) h|_=>.bad:=rfl
@[simp]theorem Nw:pX m g Z h=(m Z h).go Z λv Z h=>match g v Z h with|.nx Z2 h2=>.nx Z2 h2|.exc x Z2 h2=>.exc x Z2 h2|_=>.bad:=rfl
@[simp]theorem Pa:ki i v Z h=.nx (Z.set i (J v)) h:=rfl
@[simp]theorem Pc:wH [] Z h=.nx Z h:=rfl
@[simp]theorem Ph:mh a r (v::vs) Z h=(a v Z h).then (r vs):=rfl
@[simp]theorem Pj:wK r n (.tup xs) Z h=if xs.length=n then r xs Z h else .bad:=rfl
@[simp]theorem eR:iz mi g b Z h=(mi Z h).go Z λit=>wM it g b it.xs:=rfl
@[simp]theorem qg:cS m Z h=(m Z h).bind uq:=rfl
@[simp]theorem K6:dJ m Z h=(m Z h).bind λvs h1=>match vs with
 |[.int j]=>if -(2^62)<=j/\j<2^62 then .ok ⟨bD 0 j.toNat,[]⟩ h1 else .bad
 |_=>.bad:=rfl
@[simp]theorem Hk:G7 mo mi v Z h=(mo Z h).go Z λo=>Ap mi λi Z h=>match ud o i v h with
 |some h2=>.nx Z h2
 |none=>.bad:=rfl
def SOut.fin(o:SOut):SH:=match o with
 |.nx _ a=>.ok .non a
 |.rt v a=>.ok v a
 |.exc x _ a=>.exc x a
 |.rse x _ a=>.exc x a
 |_=>.bad
@[simp]theorem fin_exc:(SOut.exc x Z h).fin=.exc x h:=rfl
@[simp]theorem fin_rse:(SOut.rse x Z h).fin=.exc x h:=rfl
@[simp]theorem bq:(SOut.rt v h).fin=.ok v h:=rfl
@[simp]theorem zd:(SOut.nx Z h).fin=.ok .non h:=rfl
theorem eV(e:ps.length=np):cE n np m ps h=(m (bv n ps) h).fin:=by unfold cE;rw[e_ e];rfl
end
section
variable{h:MH}{i j:Int}
@[simp]theorem K7:jj (.int i) (.int j) h=.ok (.int (i+j)) h:=rfl
@[simp]theorem K8:Cs (.int i) (.int j) h=.ok (.int (i-j)) h:=rfl
@[simp]theorem Nx:Ct (.int i) h=.ok (.int (-i)) h:=rfl
@[simp]theorem Ny:Cq (.int i) (.int j) h=.ok (.bl (decide (i<j))) h:=rfl
@[simp]theorem Nz:G_ (.int i) (.int j) h=.ok (.bl (decide (i<=j))) h:=rfl
@[simp]theorem NA:Cr (.int i) (.int j) h=.ok (.bl (decide (j<i))) h:=rfl
@[simp]theorem NB:B7 (.int i) (.int j) h=.ok (.bl (decide (j<=i))) h:=rfl
@[simp]theorem NC:xv (.int i) (.int j) h=.ok (.bl (decide (i=j))) h:=rfl
@[simp]theorem ND:BU (.int i) (.int j) h=.ok (.bl (!decide (i=j))) h:=rfl
@[simp]theorem NE:xv (.bl a) (.bl b) h=.ok (.bl (a==b)) h:=by simp[xv,rd,SeqAt.shaped,PyData.canLay0,PyData.depth,PyData.eqv]
@[simp]theorem NF:BU (.bl a) (.bl b) h=.ok (.bl (!(a==b))) h:=by simp[BU,rd,SeqAt.shaped,PyData.canLay0,PyData.depth,PyData.eqv]
theorem gQ(a:j≠0):nz (.int i) (.int j) h=.ok (.int (i.fmod j)) h:=by simp[nz,a]
def uY(a:j≠0):BV (.int i) (.int j) h=.ok (.int (i.fdiv j)) h:=by simp[BV,a]
def iW(hl:-(2^64)<i/\i<2^64):lx (.int i) (.int j) h=.ok (.int (i*j)) h:=by simp[lx,IntMulOk.of_left (intBits_le_64 hl.1 hl.2)]
def Dq(hl:-(2^64)<j/\j<2^64):lx (.int i) (.int j) h=.ok (.int (i*j)) h:=by simp[lx,IntMulOk.of_right (intBits_le_64 hl.1 hl.2)]
def uC(a:0<=j/\j<=1000000/\i.natAbs<2^64):t_ (.int i) (.int j) h=.ok (.int (i^j.toNat)) h:=by simp[t_,gC,a]
@[simp]theorem Pk:BC [.int i] h=.ok (.int (if i<0 then -i else i)) h:=rfl
@[simp]theorem NG:Bn [.int i,.int j] h=.ok (.int (if j<i then j else i)) h:=rfl
@[simp]theorem NH:BW [.int i,.int j] h=.ok (.int (if j>i then j else i)) h:=rfl
@[simp]theorem Pm:Dl [.int i] h=.ok (.int i) h:=rfl
@[simp]theorem Po:Dl [.bl b] h=.ok (.int (if b then 1 else 0)) h:=rfl
@[simp]theorem K9:sw [.frl xs] h=.ok (.int xs.length) h:=rfl
@[simp]theorem K_:sw [.tup xs] h=.ok (.int xs.length) h:=rfl
theorem iQ(hl:xs.length<=1000):lw xs h=.ok (.tup xs) h:=by unfold lw;rw[e_ (n_ hl (by decide))]
def lz(hl:xs.length<=1000):vR xs h=.ok (.loc h.length) (h++[.lst xs]):=by unfold vR;rw[e_ (n_ hl (by decide))]
@[simp]theorem Pp:lw [] h=.ok (.tup []) h:=iQ (by decide)
@[simp]theorem Pq:lw [a] h=.ok (.tup [a]) h:=iQ (by simp)
@[simp]theorem Pr:lw [a,b] h=.ok (.tup [a,b]) h:=iQ (by simp)
@[simp]theorem Ps:lw [a,b,c] h=.ok (.tup [a,b,c]) h:=iQ (by simp)
theorem i5(hl:m<n):wG n (m:Int)=J m:=by unfold wG;rw[e_ ⋯,e_ ⋯];simp
@[simp]theorem Q0:nw (a::r) 0=J a:=cK (j:=0) rfl
@[simp]theorem Q1:nw (a::b::r) 1=J b:=cK (j:=1) rfl
@[simp]theorem Q2:nw (a::b::c::r) 2=J c:=cK (j:=2) rfl
@[simp]theorem Q3:nw (a::b::c::d::r) 3=J d:=cK (j:=3) rfl
def Out.ofO(o:Ss)(h:MH):SH:=match o with
 |some v=>.ok v h
 |none=>.bad
@[simp]theorem La:Out.ofO (J v) h=.ok v h:=rfl
@[simp]theorem Lb:be (.tup xs) (.int i) h=Out.ofO (nw xs i) h:=rfl
@[simp]theorem Lc:be (.frl xs) (.int i) h=Out.ofO (nw xs i) h:=rfl
theorem fE(e:h[n]?=J (.lst xs)):be (.loc n) (.int i) h=Out.ofO (nw xs i) h:=by simp only[be,e];rfl
def kX(e:h[n]?=J (.lst xs)):ud (.loc n) (.int i) v h=(wG xs.length i).map λp=>h.set n (.lst (xs.set p v)):=by simp only[ud,e]
def qX(e:h[n]?=J (.lst xs)):uq (.loc n) h=.ok ⟨xs,[(n,xs)]⟩ h:=by simp only[uq,e]
@[simp]theorem JE:uq (.tup xs) h=.ok ⟨xs,[]⟩ h:=rfl
@[simp]theorem JF:uq (.frl xs) h=.ok ⟨xs,[]⟩ h:=rfl
@[simp]theorem dD:(⟨xs,[]⟩:MIt).ok h↔True:=⟨λ_=>trivial,λ_ p hp=>nomatch hp⟩
@[simp]theorem NJ:(⟨xs,[(n,zs)]⟩:MIt).ok h↔h[n]?=J (.lst zs):=by
 constructor
 .intro q;exact q (n,zs) (by simp)
 .intro q p hp;have e:=List.mem_singleton.mp hp;subst e;exact q
end
def SOut.turn(o:SOut)(k:nr):SOut:=match o with
 |.nx i a=>k i a
 |.ct i a=>k i a
 |.bk i a=>.nx i a
 |.rt v a=>.rt v a
 |.exc e i a=>.exc e i a
 |.rse e i a=>.rse e i a
 |.bad=>.bad
@[simp]theorem A6:(SOut.rse x Z h).turn k=.rse x Z h:=rfl
@[simp]theorem AR:(SOut.exc x Z h).turn k=.exc x Z h:=rfl
@[simp]theorem turn_nx:(SOut.nx Z h).turn k=k Z h:=rfl
@[simp]theorem turn_ct:(SOut.ct Z h).turn k=k Z h:=rfl
@[simp]theorem turn_bk:(SOut.bk Z h).turn k=.nx Z h:=rfl
@[simp]theorem turn_rt:(SOut.rt v h).turn k=.rt v h:=rfl
theorem gH(e:it.ok h):wM it g b [] Z h=.nx Z h:=by rw[wM];dsimp only;rw[e_ e]
def eM(e:it.ok h)(a:g x Z h=.nx Z1 h1):wM it g b (x::r) Z h=(b Z1 h1).turn (wM it g b r):=by rw[wM];dsimp only;rw[e_ e,a];rfl
def tF(u:Nat->Shared->Prop)(turn:∀n s,u n s->wpAny (model prog w) A (pyNext it) (λr i=>match r with
   |none=>R (.ok .next) i
   |some v=>wpAny (model prog w) A (letOwnedTupleGo target it v) (λ_ l=>wpAny (model prog w) A (assign target env v) (λ_ B =>
     wpAny (model prog w) A (forIn ifs I λc r=>if r=I then do let ok <-isTrue c env (eval c env);pure (ForInStep.yield ok)else pure (ForInStep.yield r)) (λok a =>
      if ok=I then wpAny (model prog w) A (eval elt env) (λx C =>
       wpAny (model prog w) A (call (.builtin "list.append") [acc,x]) (λ_ y=>∃m,m<n/\u m y) (λ_ _=>False) C) (λ_ _=>False) a
      else ∃m,m<n/\u m a) (λ_ _=>False) B) (λ_ _=>False) l) (λ_ _=>False) i) (λ_ _=>False) s)(n:Nat)(h:u n s):
  codeAny (model prog w) A (.compLoop (.ListComp elt [⟨target,iter,ifs,0⟩] scope pos) 0 it acc env) R s:=by
 refine codeAny_loop rfl u (λn s M=>?_) n h;refine wpAny_noted ?_;rw[compTurn_list];refine hG (wpAny_standAt (hG (wpAny_mono (turn n s M) (λr i E=>?_) λ_ _ j=>j.elim)))
 cases r with
 |none=>exact o_ E
 |some v =>
  refine hG (wpAny_mono E (λ_ l F=>?_) λ_ _ j=>j.elim);refine hG (wpAny_mono F (λ_ B H=>hG (wpAny_mono H (λok a z=>?_) λ_ _ j=>j.elim)) λ_ _ j=>j.elim)
  cases ok with
  |false=>exact o_ ⟨rfl,z⟩
  |true =>
   exact hG (hG (wpAny_mono z (λx C L=>hG (wpAny_mono L (λ_ y G=>o_ (o_ ⟨rfl,G⟩)) λ_ _ j=>j.elim)) λ_ _ j=>j.elim))
def lI(env:Env):List (Str×NameKind)->List (Str×Addr)->List (Str×Addr)
 |[],a=>a
 |(n,k)::r,a=>lI env r (if(k==NameKind.free)=I then(n,(env.cells.lookup n).getD 0)::a else a)
def sv(h:∀y∈scope.names,y.2=.free->∃c,env.cells.lookup y.1=J c):closureFor scope env=pure (lI env scope.names []):=by
 have B:∀(l:List (Str×NameKind))(i:List (Str×Addr)),(∀y∈l,y.2=.free->∃c,env.cells.lookup y.1=J c) ->
   (forIn l i λ(x:Str×NameKind)(r:List (Str×Addr))=>if(x.2==NameKind.free)=I then(do let a <-cellOf env x.1;pure (ForInStep.yield ((x.1,a)::r)):Sem _)else pure (ForInStep.yield r))=(pure (lI env l i):Sem _):=by
  intro l
  induction l with
  |nil=>intro i _;rfl
  |cons y l E =>
   intro i F;obtain⟨n,k⟩:=y;rw[List.forIn_cons];have hl:=λz G=>F z (pj _ G);by_cases j:(k==NameKind.free)=I
   .obtain⟨c,C⟩:=F (n,k) CP (by simpa using j);rw[e_ j];have u:cellOf env n=pure c:=by unfold cellOf;rw[C]
    rw[u];refine(E ((n,c)::i) hl).trans ?_;simp only[lI,j,if_true,C,Jt]
   .rw[h8 j];refine(E i hl).trans ?_;simp[lI,j]
 exact(congrArg (λz=>z >>= λr=>pure r) (B scope.names [] h)).trans rfl
def nS:∀(l:List (Str×NameKind))(i:List (Str×Addr)),(∀a,i.lookup x=J a->a=(env.cells.lookup x).getD 0)->(∀a,(lI env l i).lookup x=J a->a=(env.cells.lookup x).getD 0)/\((∃k,(x,k)∈l/\k=.free)\/(∃a,i.lookup x=J a)->∃a,(lI env l i).lookup x=J a):=by
 intro l
 induction l with
 |nil =>
  intro i h;refine⟨h,λz=>?_⟩;rcases z with⟨k,z,_⟩|z
  .cases z
  .exact z
 |cons y r C =>
  intro i h;obtain⟨n,k⟩:=y;have B:∀a,(if(k==NameKind.free)=I then(n,(env.cells.lookup n).getD 0)::i else i).lookup x=J a->a=(env.cells.lookup x).getD 0:=λa j=>by
   split at j
   .rw[CQ]at j
    split at j
    .rename_i e
     have:x=n:=by simpa using e
     subst this;exact(Option.some.inj j).symm
    .exact h a j
   .exact h a j
  obtain⟨G,F⟩:=C _ B;refine⟨G,λz=>F ?_⟩;rcases z with⟨E,z,u⟩|⟨a,z⟩
  .rcases qd.mp z with e|e
   .cases e;right;subst u;exact⟨(env.cells.lookup x).getD 0,by simp⟩
   .exact .inl ⟨E,e,u⟩
  .right;split
   .rw[CQ];split
    .exact⟨_,rfl⟩
    .exact⟨a,z⟩
   .exact⟨a,z⟩
def cM{env:Env}(B:env.scope.kind=.function):∀{names:List (Str×NameKind)}{x:Str}{k:NameKind},names.lookup x=J k ->
  (names.map λ(n,k)=>if(k==NameKind.free&&env.scope.kind == .function&&env.kindOf n==J .cell)then(n,NameKind.cell)else(n,k)).lookup x=J (if k=.free/\env.kindOf x=J .cell then .cell else k):=by
 intro names
 induction names with
 |nil=>intro x k h;simp at h
 |cons y r i =>
  intro x k h;obtain⟨n,j⟩:=y;have u:=@i x k;show List.lookup x ((if(j==NameKind.free&&env.scope.kind == .function&&env.kindOf n==J .cell)=I then(n,NameKind.cell)else(n,j))::_)=_
  cases a:x==n with
  |true =>
   have e:x=n:=by simpa using a
   subst e;simp only[CQ,a]at h;cases h;by_cases z:k=.free/\env.kindOf x=J .cell
   .rw[e_ (by simp[z.1,z.2,B]),e_ z];simp
   .rw[h8 (by simp[B];intro C E;exact z ⟨C,E⟩),h8 z];simp
  |false =>
   simp only[CQ,a]at h;by_cases l:(j==NameKind.free&&env.scope.kind == .function&&env.kindOf n==J .cell)=I
   .rw[e_ l];simp only[CQ,a];exact u h
   .rw[h8 l];simp only[CQ,a];exact u h
def eK(X:Cx)(a:Scope)(cl:List (Str×Addr))(i:Shared)(j:Hp)(l:SW)(u:SQ):Cx :=
 { X with N:=u,s₀:=i,H₀:=j,env:=compEnvC a cl i.heap.objs.size X.env,outer:=X.stack,ex:=l,fn:=λx=>decide (a.names.lookup x=J .cell),pn:=[],xe:=λ_ _=>False}
structure Bo(X:Cx)(N:SQ)(scope:Scope)(vars frees:SQ)(fm:SU):Prop where
 kind:scope.kind=.function
 cell:∀y∈scope.names,y.2=.cell->scope.names.lookup y.1=J .cell
 names:∀y∈scope.names,y.2=.local->scope.names.lookup y.1=J .local
 hv:∀x∈vars,scope.names.lookup x=J .local\/scope.names.lookup x=J .cell
 hf:∀x∈frees,scope.names.lookup x=J .free
 all:∀y∈scope.names,y.2=.free->y.1∈frees
 fm:fm.map (λi=>N[i]?)=frees.map J
 cl:∀x∈frees,X.env.kindOf x=J .cell
def Cv(a:Nat)(fm:SU)(Z:p_):p_:=List.replicate a Y++fm.map λi=>(Z[i]?).getD Y
def A_(a:MIt)(n:Nat)(gt:Mg)(mt:Mx Bool)(j:Mx PV):SM->p_->MH->Out Unit
 |[],_,h=>if a.ok h then .ok () h else .bad
 |x::r,Z,h=>if a.ok h then (match gt x Z h with
  |.nx i y=>(mt i y).ne.bind λb u=>if b=I then (j i u).ne.bind λv l=>(match l[n]? with
    |some (.lst ys)=>if ys.length<sizeLine then A_ a n gt mt j r i (l.set n (.lst (ys++[v])))else .bad
    |_=>.bad)else A_ a n gt mt j r i u
  |_=>.bad)else .bad
def bO(j:Nat)(fm:SU)(y:Mx MIt)(gt:Mg)(mt:Mx Bool)(l:Mx PV):Mx PV:=λZ h =>
 (y Z h).bind λi a=>(A_ i a.length gt mt l i.xs (Cv j fm Z) (a++[.lst []])).bind λ_ u=>.ok (.loc a.length) u
def CH(X:Cx)(a:SG)(m:Mx Bool):Prop :=
 ∀(i:SA)(s:Shared)(Z:L2.St)(H:Hp)(Q:Bool->Hp->Prop),Inv X i Z H s->tM X KL m Z H Q ->
  wpAny (model X.prog X.w) X.A (forIn a I λc r=>if r=I then do let ok <-isTrue c X.env (eval c X.env);pure (ForInStep.yield ok)else pure (ForInStep.yield r)) (TP X i Z Q) X.xe s
def m_:Mx Bool:=λ_ h=>.ok I h
def fQ:CH X [] m_:=λl s Z H Q a ⟨U,j,h,u,i,q⟩=>wpAny_tests_nil ⟨H,a,q U H I (Le.refl _ _) i rfl⟩
def v7(h:MT X c m):CH X [c] m:=λi s Z H Q a q=>wpAny_tests_one (h i s Z H Q a q)
inductive CS(X:Cx)(U:SW)(H:Hp)(σp:p_)(gt:Mg)(mt:Mx Bool)(me:Mx PV)(Z0:p_)(Q:VK)(J:It)(H1:Hp):Prop
 |mk(U1:SW)(it:MIt)(h1:MH)(l:Le U H U1 H1)(rh:RH X.K X.mg U1 H1 h1)(j:qH X U1 H1 it J)(q:Ful X (RV' X) σp U1 H1 ((A_ it h1.length gt mt me it.xs Z0 (h1++[.lst []])).bind λ_ h3=>.ok (.loc h1.length) h3) Q):CS X U H σp gt mt me Z0 Q J H1
inductive CI(X Y:Cx)(it:MIt)(tn:Nat->Heap->Prop)(fp U0:SW)(H0:Hp)(σp:p_)(n1:Nat)(gt:Mg)(mt:Mx Bool)(me:Mx PV)(Q:VK)(n:Nat)(s6:Shared):Prop
 |mk(i:Nat)(Z6:L2.St)(H6:Hp)(U6:SW)(σp6:p_)(h6:MH)(e:n=it.xs.length-i)(l:i<=it.xs.length)(v:Inv Y [] Z6 H6 s6)(t:tn i s6.heap)(f:∀b∈fp,H6 b=none)(le:Le U0 H0 U6 H6)(rs:RS X.K U6 H6 σp6 Z6)(rh:RH X.K X.mg U6 H6 h6)
   (q:Ful X (RV' X) σp U6 H6 ((A_ it n1 gt mt me (it.xs.drop i) σp6 h6).bind λ_ h3=>.ok (.loc n1) h3) Q):CI X Y it tn fp U0 H0 σp n1 gt mt me Q n s6
def rW(l:Q (newEnv scope s.heap.objs.size globals (cellsFrom (s.heap.objs.size+1) scope.names closure) qual Y .none (J env) builtinsNs) { s with heap:=pushCells (s.heap.push { cls:=.type "dict",data:=.dict #[]}) scope.names}):
  wpAny M A (newFunctionEnv scope globals closure [] qual Y .none (J env)) Q E s:=by
 simp only[newFunctionEnv,Option.isSome_some,if_true];refine hG (wpAny_alloc ?_);refine hG (wpAny_layCells _ (λi kind a=>by cases j:kind==NameKind.cell<;>simp) _ _ _ _ ?_);rw[show({ s with heap:=s.heap.push { cls:=.type "dict",data:=.dict #[]}}:Shared).heap.objs.size=s.heap.objs.size+1 from Cc ..];exact hG (o_ (o_ l))
def dW:∀(names:List (Str×NameKind))(n:Nat)(a:List (Str×Addr)),cellsFrom n names a=cellsFrom n names []++a
 |[],n,a=>rfl
 |(x,k)::r,n,a=>by
  unfold cellsFrom;split
  .rw[dW r (n+1) ((x,n)::a),dW r (n+1) [(x,n)]];simp
  .exact dW r n a
def gc:∀(names:List (Str×NameKind))(n:Nat)(x:Str),(∃c,(x,c)∈cellsFrom n names [])↔(x,NameKind.cell)∈names
 |[],n,x=>by simp[cellsFrom]
 |(y,k)::r,n,x=>by
  unfold cellsFrom;split
  .rename_i j
   have i:k=NameKind.cell:=by simpa using j
   subst i;rw[dW];constructor
   .rintro⟨c,a⟩;rcases Ci.mp a with a|a
    .exact pj _ ((gc r (n+1) x).mp ⟨c,a⟩)
    .have:x=y:=by simp at a;exact a.1
     rw[this];exact CP
   .intro h;rcases qd.mp h with e|h
    .have:x=y:=by simpa using e
     subst this;exact⟨n,xf _ (by simp)⟩
    .obtain⟨c,a⟩:=(gc r (n+1) x).mpr h;exact⟨c,F1 _ a⟩
  .rw[gc r n x];constructor
   .exact pj _
   .intro h;rcases qd.mp h with e|h
    .exfalso
     grind
    .exact h
def oC{α:Type}:∀(a b:List (Str×α))(x:Str),(a++b).lookup x=(a.lookup x).or (b.lookup x):= by grind
def Ad{α:Type}:∀(a:List (Str×α))(x:Str),a.lookup x=Y->∀c,(x,c)∉a:= by grind
section
variable{X:Cx}{N W G:SQ}{k:Nat}
def rE(g:Good X N W G k){tg al cf:Expr}{ci:SG}{B:Scope}{c7:Pos}{E frees G':SQ}{fm:SU}{mi:Mx MIt}{gt:Mg}{mt:Mx Bool}{me:Mx PV}(C:Bo X N B E frees fm)(nd:(E++frees).Nodup)(f3:∀x∈G',B.names.lookup x=J .globalImplicit)(dbg:∀x∈(E++frees)++G',(x==("__debug__":Str))=T/\(x==("__classdict__":Str))=T/\x≠"__name__")(hi:MI X tg al mi)(hY:∀ak:Cx,ak.prog=X.prog->ak.w=X.w->ak.K=X.K->ak.mg=X.mg->ak.base=X.base->ak.env.scope=relabel B X.env->Good ak (E++frees) E G' k->MG ak tg gt/\CH ak ci mt/\ME ak cf me)(hs:∀x,foldedSetIterable al X.env x=pure x){use:Option (Value->Sem Unit)}{Qv:SK}{pp:Pos}{K4:SA}{s:Shared}{Z:L2.St}{H:Hp}{Q:VK}(dc:Inv X K4 Z H s)(tm:tM X (RV' X) (bO E.length fm mi gt mt me) Z H Q)(fin:∀(en C:Addr) (H6:Hp) (s7:Shared) (m7:Sn),Inv X K4 Z H6 s7->H6 C=Y->s7.heap.Ns C m7->C≠X.env.locals->X.s₀.heap.objs.size<=C->C∉X.fs->(∀x c,X.env.cells.lookup x=J c->c≠C)->(∀p∈X.pn++K4,p.1≠C)->Q (.ref en) H6 ->
   compPost (model X.prog X.w) X.A X.xe use Qv (.ref en) C (.ok .next) s7):
  wpAny (model X.prog X.w) X.A (comprehension (.ListComp cf [⟨tg,al,ci,0⟩] B c7) B X.env pp (newList []) T (eval al X.env) use) Qv X.xe s:=by
 obtain⟨U,ab,h,rs,rh,q⟩:=tm;have bm:∀y∈B.names,y.2=.free->∃c,X.env.cells.lookup y.1=J c:=λy hy e=>dc.ok.has y.1 (.inl (C.cl _ (C.all y hy e)));refine wpAny_comprehension_free (use:=use) rfl hs (sv bm) C.kind C.names ?_;generalize c2:lI X.env B.names []=cl;have eh:∀x a,cl.lookup x=J a->X.env.cells.lookup x=J a\/((X.env.cells.lookup x)=Y/\a=0):=λx a e=>by
  rw[<-c2]at e
  have:=(nS (env:=X.env) (x:=x) B.names [] (λa z=>by simp at z)).1 a e
  cases z:X.env.cells.lookup x with
  |none=>right;rw[z]at this;exact⟨rfl,this⟩
  |some c=>left;rw[z]at this;rw[this];rfl
 have eC:∀x∈frees,∃c,cl.lookup x=J c/\X.env.cells.lookup x=J c:=λx hx=>by
  obtain⟨c,hc⟩:=dc.ok.has x (.inl (C.cl x hx));have hm:(∃kk,(x,kk)∈B.names/\kk=.free):=⟨.free,PySem.mem_of_lookup (C.hf x hx),rfl⟩;obtain⟨a,ha⟩:=(nS (env:=X.env) (x:=x) B.names [] (λa z=>by simp at z)).2 (.inl hm);rw[c2]at ha;rcases eh x a ha with z|⟨z,_⟩
  .rw[hc]at z;cases z;exact⟨c,ha,hc⟩
  .rw[hc]at z;cases z
 have ds:∀x a,cl.lookup x=J a->X.env.cells.lookup x=J a/\x∈frees:=λx a e=>by
   have only:∀(l:List (Str×NameKind))(cs:List (Str×Addr))(x:Str)(a:Addr),(lI X.env l cs).lookup x=J a->(x,NameKind.free)∈l\/cs.lookup x=J a:=by
    intro l
    induction l with
    |nil=>intro cs x a e;exact .inr e
    |cons y l ih =>
     intro cs x a e;obtain⟨n,kk⟩:=y;rcases ih _ x a e with z|z
     .exact .inl (pj _ z)
     .split at z
      .rename_i hk
       have eU:kk=NameKind.free:=by simpa using hk
       rw[CQ]at z
       split at z
       .rename_i e'
        have:x=n:=by simpa using e'
        subst this;subst eU;exact .inl CP
       .exact .inr z
      .exact .inr z
   have e':=e;rw[<-c2]at e';rcases only _ _ x a e' with z'|z'
   .refine⟨?_,C.all _ z' rfl⟩;rcases eh x a e with z|⟨z,_⟩
    .exact z
    .obtain⟨c,hc⟩:=bm _ z' rfl;rw[z]at hc;cases hc
   .simp at z'
 have start:=hi K4 s Z H (CS X U H ab gt mt me (Cv E.length fm ab) Q) dc
  ⟨U,ab,h,rs,rh,Ful.bind q λU1 H1 it gn h1 _ l1 cp jr q1=>⟨U1,it,h1,l1,cp,jr,q1⟩⟩
 refine wpAny_mono start (λx gv ei=>wpAny_mono ei (λg2 L eu=>?_) λ_ _ e=>e) λ_ _ e=>e;obtain⟨dx,fp,tn,gn,H2,rfl,I2,S,ez,f2,U1,it,h1,l1,cp,jr,q1⟩:=eu;refine wpAny_newObj_type ?_;have f6:H2 L.heap.objs.size=Y:=I2.hok.fresh (l_ _);have O:=I2.lnew (ys:=[]) (its:=[]) (t':=L.toks) .nil (CT _);obtain⟨d0,l3⟩:=cp.new f6 (o:=.lst []) (ho:=.lst []) ⟨[],rfl,.nil⟩;generalize f4:({ L with heap:=L.heap.push { cls:=.type "list",data:=.seq ([]:SX).toArray},toks:=L.toks}:Shared)=F at O;generalize ec:upd H2 L.heap.objs.size (.lst [])=M at O d0 l3;have g0:M L.heap.objs.size=J (.lst []):=by rw[<-ec];exact aK
 have gk:F.heap=L.heap.push { cls:=.type "list",data:=.seq ([]:SX).toArray}:=by rw[<-f4]
 have ck:tn 0 F.heap:=S.keep _ _ _ ez λb _ o e=>by rw[gk];exact n3 _ e
 have b9:∀b∈fp,jd X K4 M b:=λb hb=>by
  obtain⟨a0,a1⟩:=f2 b hb;refine⟨?_,a1⟩;obtain⟨o,eo,_⟩:=S.obj _ _ ez b hb;rw[<-ec,az (x5 (pk eo))];exact a0
 have c6:wpAny (model X.prog X.w) X.A (newFunctionEnv B X.env.globals cl [] X.env.qual Y .none (J X.env)) (λwv eL =>
    codeAny (model X.prog X.w) X.A (.compStart (.ListComp cf [⟨tg,al,ci,0⟩] B c7) 0 (.ref dx) (.ref L.heap.objs.size) { wv with scope:=relabel B X.env}) (compPost (model X.prog X.w) X.A X.xe use Qv (.ref L.heap.objs.size) wv.locals) eL) X.xe F:=by
  refine rW ?_;have P:∀b o,F.heap.get? b=J o->(pushCells (F.heap.push { cls:=.type "dict",data:=.dict #[]}) B.names).get? b=J o:=λb o e=>pushCells_keeps _ _ b o (n3 _ e);have ew:=(Heap.Ns.new F.heap (.type "dict")).keeps (pushCells_keeps B.names _);have b6:=cellsFrom_ok B.names (F.heap.push { cls:=.type "dict",data:=.dict #[]}) (F.heap.objs.size+1) [] ⟨λ_ _ hm=>(nomatch hm),List.Pairwise.nil⟩ (by rw[Cc];exact l_ _);rw[Cc]at b6;rw[dW];have cv:=gc B.names (F.heap.objs.size+1);generalize cellsFrom (F.heap.objs.size+1) B.names []=cn at b6 cv ⊢;generalize pushCells (F.heap.push { cls:=.type "dict",data:=.dict #[]}) B.names=h' at P ew b6 ⊢;dsimp only[newEnv];have a8:∀x c,(cn++cl).lookup x=J c->((x,c)∈cn/\B.names.lookup x=J .cell/\F.heap.objs.size<c/\h'.IsCell c Y)\/(X.env.cells.lookup x=J c/\B.names.lookup x=J .free):=λx c e=>by
   rw[oC]at e
   cases z:cn.lookup x with
   |some c' =>
    rw[z]at e
    have:c'=c:=by simpa using e
    subst this;have m:=PySem.mem_of_lookup z;obtain⟨q1,q2⟩:=b6.empty x c' m;exact .inl ⟨m,C.cell _ ((cv x).mp ⟨c',m⟩) rfl,q2,q1⟩
   |none =>
    rw[z]at e;obtain⟨q1,q2⟩:=ds x c (by simpa using e);exact .inr ⟨q1,C.hf x q2⟩
  have dq:∀x c,x∈frees->cl.lookup x=J c->(cn++cl).lookup x=J c:=λx c hx e=>by
   rw[oC]
   cases z:cn.lookup x with
   |none=>simpa using e
   |some c' =>
    have:=C.cell _ ((cv x).mp ⟨c',PySem.mem_of_lookup z⟩) rfl
    rw[C.hf x hx]at this;cases this
  have old:∀x c,X.env.cells.lookup x=J c->c<F.heap.objs.size:=λx c e=>by
   obtain⟨v,qc⟩:=O.cell x c e;exact qc.lt
  have ok:(eK X B (cn++cl) F M fp (E++frees)).Ok:=by
   refine⟨O.ok.mod,C.kind,O.ok.glob,O.ok.blt,l_ _,λx y c h1 h2=>?_,λx hx=>?_,λx c hx e=>?_,O.ok.hd,O.ok.frames,.inl rfl,
    λb hb=>⟨?_,λx c e z=>?_⟩,O.bs,n_ O.ok.bsz O.sz,λb o e hb=>?_,λb hb z=>?_,O.stack,O.stkFree,O.ok.tree,O.ok.top⟩
   .rcases a8 x c h1 with⟨a1,_,a2,_⟩|⟨a1,_⟩<;>rcases a8 y c h2 with⟨b1,_,b2,_⟩|⟨b1,_⟩
    .exact PySem.name_of_addr b6.apart a1 b1
    .exact absurd (Ng a2 (old y c b1)) (BQ _)
    .exact absurd (Ng b2 (old x c a1)) (BQ _)
    .exact O.ok.inj x y c a1 b1
   .
    have a9:(relabel B X.env).names.lookup x=J .cell\/(relabel B X.env).names.lookup x=J .free:=hx
    cases e:B.names.lookup x with
    |none =>
     exfalso;have nn:∀(l:List (Str×NameKind)),l.lookup x=Y->(l.map λ(n,k)=>if(k==NameKind.free&&X.env.scope.kind == .function&&X.env.kindOf n==J .cell)then(n,NameKind.cell)else(n,k)).lookup x=Y:=by
      intro l
      induction l with
      |nil=>intro _;rfl
      |cons y l ih =>
       intro hl;obtain⟨n,kk⟩:=y;rw[CQ]at hl
       split at hl
       .cases hl
       .rename_i fw
        rw[nc];dsimp only
        split<;>(rw[CQ];simp only[fw];exact ih hl)
     have e2:=nn B.names e;rcases a9 with z|z
     .rw[show(relabel B X.env).names.lookup x=Y from e2]at z;cases z
     .rw[show(relabel B X.env).names.lookup x=Y from e2]at z;cases z
    |some kk =>
     have e2:=cM (env:=X.env) O.ok.kind e;have hk:kk=.free\/kk=.cell:=by
      rcases a9 with z|z
      .rw[show(relabel B X.env).names.lookup x=_ from e2]at z;have z':=Option.some.inj z;by_cases zz:kk=.free/\X.env.kindOf x=J .cell
       .exact .inl zz.1
       .rw[h8 zz]at z';exact .inr z'
      .rw[show(relabel B X.env).names.lookup x=_ from e2]at z;have z':=Option.some.inj z;by_cases zz:kk=.free/\X.env.kindOf x=J .cell
       .exact .inl zz.1
       .rw[h8 zz]at z';exact .inl z'
     rcases hk with hk|hk
     .subst hk;have hf:=C.all _ (PySem.mem_of_lookup e) rfl;obtain⟨c,h1,_⟩:=eC x hf;exact⟨c,dq x c hf h1⟩
     .subst hk;obtain⟨c,hc⟩:=(cv x).mpr (PySem.mem_of_lookup e);show ∃c,(cn++cl).lookup x=J c;rw[oC]
      cases z:cn.lookup x with
      |some c'=>exact⟨c',rfl⟩
      |none=>exact absurd hc (Ad cn x z c)
   .have a9:=of_decide_eq_true hx;rcases a8 x c e with⟨_,_,q,_⟩|⟨_,q⟩
    .exact Jy q
    .rw[q]at a9;cases a9
   .obtain⟨o,eo,_⟩:=S.obj _ _ ck b hb;exact x5 (pk eo)
   .rcases a8 x c e with⟨_,_,q,_⟩|⟨q,_⟩
    .obtain⟨o,eo,_⟩:=S.obj _ _ ck b hb;exact absurd (Ng q (z▸pk eo)) (BQ _)
    .exact (b9 b hb).2.2.2.2.1 x c q z
   .obtain⟨_,_,_,h4,_⟩:=b9 b hb;rcases h4 with h4|h4
    .exact O.ok.noex b o e h4
    .exact absurd (vv (pk e) (n_ O.ok.bsz h4)) (BQ _)
   .obtain⟨_,h2,h3,_⟩:=b9 b hb;rcases qd.mp (O.stkSub b z)with e|e
    .exact h2 e
    .exact h3 e
  obtain⟨mX,g3,lX⟩:=O.loc;have e9:Le U H (U1++[L.heap.objs.size]) M:=l1.trans l3
  let ar:L2.St:=List.replicate E.length Y++fm.map λi=>(Z[i]?).getD Y
  have f0:fm.length=frees.length:=by have:=congrArg List.length C.fm;simpa using this
  have eF:Inv (eK X B (cn++cl) F M fp (E++frees)) [] ar M { F with heap:=h',toks:=F.toks}:=by
   refine⟨ok,rfl,O.bare,Un.kept P,⟨_,ew,λi x v hN hv g1=>?_⟩,λx c e=>?_,?_,λx c e=>?_,λp hp=>absurd (show p∈([]:SA)from hp) (by simp),O.hok.kept P,?_⟩
   .have c4:(E++frees)[i]?=J x:=hN;have d5:E.length<=i:=by
     by_cases z:E.length<=i
     .exact z
     .exfalso;have an:ar[i]?=J (J v):=hv;rw[qs (by simp;ext),F0]at an
      split at an<;>cases an
    have an:ar[i]?=J (J v):=hv;rw[BL (by simpa using d5),JV,r6]at an;rw[BL d5]at c4
    cases ej:fm[i-E.length]? with
    |none=>rw[ej]at an;cases an
    |some j =>
     rw[ej]at an;have ef:=congrArg (λl=>l[i-E.length]?) C.fm;simp only[r6,ej,c4,CG]at ef;have f5:N[j]?=J x:=by simpa using ef
     have ev:Z[j]?=J (J v):=by
      have:(Z[j]?).getD Y=J v:=by simpa using an
      cases z:Z[j]? with
      |none=>rw[z]at this;cases this
      |some o=>rw[z]at this;simp at this;rw[this]
     have hx:x∈frees:=BA c4;have f7:JA X.env.scope x:=.inr (.inl (C.cl x hx));obtain⟨u,ru,et⟩:=lX j x v (by rw[g.hN];exact f5) ev f7;refine⟨u,ru,.inr ⟨?_,?_⟩⟩
     .left;show(relabel B X.env).names.lookup x=J .cell
      have:=cM (env:=X.env) O.ok.kind (C.hf x hx)
      rw[e_ ⟨rfl,C.cl x hx⟩]at this;exact this
     .rcases et with⟨hk,_⟩|⟨_,c,hc,dk⟩
      .rw[C.cl x hx]at hk;cases hk
      .obtain⟨c',h1,h2⟩:=eC x hx;rw[hc]at h2;cases h2;obtain⟨o,eo,ed⟩:=dk;exact⟨c,dq x c hx h1,o,P _ _ eo,ed⟩
   .rcases a8 x c e with⟨_,_,_,q⟩|⟨q,_⟩
    .exact⟨Y,q⟩
    .obtain⟨v,o,eo,ed⟩:=O.cell x c q;exact⟨v,o,P _ _ eo,ed⟩
   .exact O.hok.fresh (l_ _)
   .rcases a8 x c e with⟨_,_,q,_⟩|⟨q,_⟩
    .exact O.hok.fresh (Jy q)
    .exact O.freeC x c q
   .show ar.length=(E++frees).length;simp[ar,f0]
  have gY:Good (eK X B (cn++cl) F M fp (E++frees)) (E++frees) E G' k:=by
   refine⟨rfl,nd,λx hx=>?_,λx hx=>?_,λx hx=>?_,dbg,g.calm,g.room,PassesOwn.never⟩
   .rcases Ci.mp hx with z|z
    .rcases C.hv x z with z|z
     .left
      have:=cM (env:=X.env) O.ok.kind z
      rw[h8 (λq=>nomatch q.1)]at this;exact this
     .right
      have:=cM (env:=X.env) O.ok.kind z
      rw[h8 (λq=>nomatch q.1)]at this;exact this
    .right
     have:=cM (env:=X.env) O.ok.kind (C.hf x z)
     rw[e_ ⟨rfl,C.cl x z⟩]at this;exact this
   .rcases C.hv x hx with z|z
    .right
     have:=cM (env:=X.env) O.ok.kind z
     rw[h8 (λq=>nomatch q.1)]at this;exact this
    .exact .inl (decide_eq_true z)
   .have:=cM (env:=X.env) O.ok.kind (f3 x hx)
    rw[h8 (λq=>nomatch q.1)]at this;exact this
  obtain⟨hg,ht,he⟩:=hY (eK X B (cn++cl) F M fp (E++frees)) rfl rfl rfl rfl rfl rfl gY;have e7:RS X.K (U1++[L.heap.objs.size]) M (Cv E.length fm ab) ar:=by
   refine⟨by simp[ar,Cv],λi v e=>?_⟩;unfold Cv at e;by_cases z:E.length<=i
   .rw[BL (by simpa using z),JV,r6]at e
    cases ej:fm[i-E.length]? with
    |none=>rw[ej]at e;cases e
    |some j =>
     rw[ej]at e;have ev:ab[j]?=J (J v):=by
      have:(ab[j]?).getD Y=J v:=by simpa using e
      cases z:ab[j]? with
      |none=>rw[z]at this;cases this
      |some o=>rw[z]at this;simp at this;rw[this]
     obtain⟨v',e',rv⟩:=rs.2 j v ev;refine⟨v',?_,rv.le e9⟩;show ar[i]?=_;rw[BL (by simpa using z),JV,r6,ej];simp[e']
   .rw[qs (by simp;ext),F0]at e
    split at e<;>cases e
  have q3:Ful X (RV' X) ab (U1++[L.heap.objs.size]) M ((A_ it h1.length gt mt me it.xs (Cv E.length fm ab) (h1++[.lst []])).bind λ_ h3=>.ok (.loc h1.length) h3) Q:=Ful.le l3 q1;have b4:(U1++[L.heap.objs.size])[h1.length]?=J L.heap.objs.size:=by rw[<-cp.len];simp
  have cx:∀b3:Shared,b3={ F with heap:=h',toks:=F.toks}->codeAny (model X.prog X.w) X.A (.compLoop (.ListComp cf [⟨tg,al,ci,0⟩] B c7) 0 (.ref dx) (.ref L.heap.objs.size) (compEnvC B (cn++cl) F.heap.objs.size X.env))
    (compPost (model X.prog X.w) X.A X.xe use Qv (.ref L.heap.objs.size) F.heap.objs.size) b3:=by
   rintro b3 rfl;refine tF (CI X (eK X B (cn++cl) F M fp (E++frees)) it tn fp (U1++[L.heap.objs.size]) M ab h1.length gt mt me Q) ?_ it.xs.length
    ⟨0,ar,M,_,_,_,rfl,CT _,eF,S.keep _ _ _ ck (λb _ o e=>P b o e),λb hb=>(b9 b hb).1,Le.refl _ _,e7,d0,by simpa using q3⟩
   rintro n s6 ⟨i,Z6,H6,U6,b5,h6,rfl,g5,I6,dr,ea,l6,f8,db,q6⟩;have cc:∀{H':Hp},(∀b∈fp,H' b=Y)->∀b∈fp,jd (eK X B (cn++cl) F M fp (E++frees)) [] H' b:=λ{H'} hn b hb =>
    ⟨hn b hb,(ok.exf b hb).1,ok.exfs b hb,.inl hb,(ok.exf b hb).2,λp hp=>absurd (show p∈([]:SA)from hp) (by simp)⟩
   by_cases cd:i<it.xs.length
   .have ed:it.xs.drop i=it.xs[i]::it.xs.drop (i+1):=Jn cd;rw[ed]at q6;simp only[A_]at q6;by_cases hok:it.ok h6
    .rw[e_ hok]at q6;obtain⟨j1,_⟩:=jr U6 H6 h6 i (l3.trans l6) db hok;obtain⟨go,yl⟩:=j1 cd;refine ln (S.item (eK X B (cn++cl) F M fp (E++frees)) rfl rfl rfl g.calm i [] s6 Z6 H6 (λ_ _=>False) I6 (cc ea) dr go) λr s7 ⟨u,hr,h7⟩=>?_;subst hr;refine ln h7 λ_ s8 ⟨x8,H8,I8,r8,y8,di,fo⟩=>?_;obtain⟨U8,x,l8,e8,ex,rx⟩:=yl x8 H8 y8;have gs:x=it.xs[i]:=by rw[zL cd]at ex;exact(Option.some.inj ex).symm
     subst gs;have fg:=I8.pinned (cc fo) (S.obj _ _ di);have q8:=Ful.le l8 q6;have back:∀{Z9:L2.St}{H9:Hp}{s9:Shared},Inv (eK X B (cn++cl) F M fp (E++frees)) ([]++mw fp s8.heap) Z9 H9 s9->Inv (eK X B (cn++cl) F M fp (E++frees)) [] Z9 H9 s9/\tn (i+1) s9.heap/\∀b∈fp,H9 b=Y:=λ{Z9 H9 s9} I9=>by
      refine⟨I9.unpinned,S.keep _ _ _ di λb hb o e=>(I9.pin (b,o) (xf _ (xf _ (iR hb e)))).1,λb hb=>?_⟩;obtain⟨o,e,d⟩:=S.obj _ _ di b hb;exact(I9.pin (b,o) (xf _ (xf _ (iR hb e)))).2.1
     cases eg:gt it.xs[i] b5 h6 with
     |nx R h9 =>
      rw[eg]at q8;dsimp only at q8
      refine ln (hg _ s8 Z6 H8 x8 u (λZ' H'=>∃U',Le U8 H8 U' H'/\RH X.K X.mg U' H' h9/\RS X.K U' H' R Z') fg r8 ⟨U8,b5,h6,_,f8.le l8,e8,rx,by
       show oz _ _ _ (gt it.xs[i] b5 h6) _
       rw[eg];exact λU' H' Z' l r s=>⟨U',l,r,s⟩⟩) λ_ s9 ⟨Z9,H9,I9,U9,l9,fx,cm⟩=>?_
      have q9:=Ful.le l9 q8
      cases em:mt R h9 with
      |ok b a7 =>
       rw[em,Out.ne_ok]at q9;rw[Out.bind_ok]at q9
       refine ln (ht _ s9 Z9 H9 (λb' H'=>b'=b/\∃U',Le U9 H9 U' H'/\RH X.K X.mg U' H' a7) I9 ⟨U9,R,h9,cm,fx,by
        show Ful _ _ _ _ _ (mt R h9) _
        rw[em];exact λU' H' v' l r e=>⟨e.symm,U',l,r⟩⟩) λb' gg ⟨de,ep,eb,c3,a3,cB⟩=>?_
       subst eb;have ai:=Ful.le a3 q9
       cases b' with
       |false =>
        rw[h8 Ol]at ai ⊢;obtain⟨ey,dF,ek⟩:=back ep;exact⟨_,by ext,i+1,Z9,de,c3,R,a7,rfl,cd,ey,dF,ek,l6.trans (l8.trans (l9.trans a3)),cm.le a3,cB,ai⟩
       |true =>
        rw[e_ rfl]at ai ⊢
        cases ee:me R a7 with
        |ok v er =>
         rw[ee,Out.ne_ok]at ai;rw[Out.bind_ok]at ai
         refine ln (he _ gg Z9 de (λv' H'=>∃U',Le c3 de U' H'/\RH X.K X.mg U' H' er/\RP X.K U' H' v v') ep ⟨c3,R,a7,cm.le a3,cB,by
          show Ful _ _ _ _ _ (me R a7) _
          rw[ee];exact λU' H' v' l r e=>⟨U',l,r,e⟩⟩) λfv e6 ⟨v',dj,fl,d1,dV,da,c1,dn⟩=>?_
         have as:=Ful.le da ai;have ca:Le (U1++[L.heap.objs.size]) M dV dj:=l6.trans (l8.trans (l9.trans (a3.trans da)));obtain⟨oa,ft,gi⟩:=c1.obj (ca.get b4);rw[ft]at as
         cases oa with
         |dic fz ks xs=>exact as.elim
         |exc x=>exact as.elim
         |lst ys =>
          dsimp only at as;by_cases b0:ys.length<sizeLine
          .rw[e_ b0]at as;obtain⟨df,fk,ry⟩:=gi;obtain⟨es,c5⟩:=c1.put (ca.get b4) (o:=.lst (ys++[v])) (ho:=.lst (df++[v'])) ⟨_,rfl,ry.append (.cons dn .nil)⟩;have ap:=rQ (X:=eK X B (cn++cl) F M fp (E++frees)) _ e6 Z9 dj (.ref L.heap.objs.size) [v'] (.ref L.heap.objs.size) [fv] (λ_ H'=>H'=upd dj L.heap.objs.size (.lst (df++[v']))) fl rfl (.cons d1 .nil) ⟨L.heap.objs.size,df,v',rfl,rfl,fk,by rw[<-ry.length];exact b0,rfl⟩;refine ln ap λ_ hh ⟨_,g4,f1,_,eH⟩=>?_;subst eH;obtain⟨dt,dv,d2⟩:=back f1;exact⟨_,by ext,i+1,Z9,_,dV,R,_,rfl,cd,dt,dv,d2,ca.trans c5,(cm.le a3).le (da.trans c5),es,Ful.le c5 as⟩
          .rw[h8 b0]at as;exact as.elim
        |exc x er=>rw[ee]at ai;exact ai.elim
        |bad=>rw[ee]at ai;exact ai.elim
      |exc x a7=>rw[em]at q9;exact q9.elim
      |bad=>rw[em]at q9;exact q9.elim
     |_=>rw[eg]at q8;exact q8.elim
    .rw[h8 hok]at q6;exact q6.elim
   .have e:i=it.xs.length:=by ext
    rw[e,List.drop_length]at q6;simp only[A_]at q6;by_cases hok:it.ok h6
    .rw[e_ hok]at q6;obtain⟨_,j2⟩:=jr U6 H6 h6 i (l3.trans l6) db hok;refine ln (S.done (eK X B (cn++cl) F M fp (E++frees)) rfl rfl rfl g.calm i [] s6 Z6 H6 (λ_ _=>False) I6 (cc ea) dr (j2 (by ext))) λr s7 ⟨hr,I7⟩=>?_;subst hr;obtain⟨m7,fa,_⟩:=I7.loc;have IX:=O.call' (s':=s7) (ch:=fp) I7.os I7.base I7.hok I7.bare λb hb=>by
      obtain⟨_,a2,_,a4,a5,a6⟩:=b9 b hb;exact⟨a4,a2,a5,a6⟩
     exact fin _ _ H6 s7 m7 IX I7.free fa (BP O.lt) O.sz (O.nofs (l_ _)) (λx c e z=>by
      obtain⟨v,qc⟩:=O.cell x c e
      exact absurd qc.lt (by rw[z];exact BQ _)) (λp hp z=>absurd (pk (O.pin p hp).1) (by rw[z];exact BQ _)) (q6 U6 H6 _ (Le.refl _ _) db (.loc (l6.get b4)))
    .rw[h8 hok]at q6;exact q6.elim
  exact codeAny_compStart_list (cx _ rfl) (S.self X.A 0 _ _ _ (S.keep _ _ _ ck (λb _ o e=>P b o e)) (cx _ rfl))
 exact c6
def qq(g:Good X N W G k){z l y:Expr}{u:SG}{j:Scope}{F:Pos}{i frees P:SQ}{fm:SU}{R:Mx MIt}{gt:Mg}{mt:Mx Bool}{S:Mx PV}(C:Bo X N j i frees fm)(nd:(i++frees).Nodup)(O:∀x∈P,j.names.lookup x=J .globalImplicit)(dbg:∀x∈(i++frees)++P,(x==("__debug__":Str))=T/\(x==("__classdict__":Str))=T/\x≠"__name__")(hi:MI X z l R)(hY:∀a:Cx,a.prog=X.prog->a.w=X.w->a.K=X.K->a.mg=X.mg->a.base=X.base->a.env.scope=relabel j X.env->Good a (i++frees) i P k->MG a z gt/\CH a u mt/\ME a y S)(hs:∀x,foldedSetIterable l X.env x=pure x:=by intro _;rfl):ME X (.ListComp y [⟨z,l,u,0⟩] j F) (bO i.length fm R gt mt S):=by
 intro K4 s Z H Q M tm;refine rE g C nd O dbg hi hY hs M tm λB D H6 s7 U IX hC ns hL hz ab L hp q=>?_;refine⟨U,ns,λai E=>⟨.ref B,H6,?_,rfl,q⟩⟩;exact IX.turned (t':=s7.toks) (λb o hb e=>E.extBut b o hb e) hC hL (.inr hz) L hp
def qm(g:Good X N W G k)(i:Nat){y:Str}{py E:Pos}{R B F:Expr}{L:SG}{a:Scope}{P:Pos}{u frees G':SQ}{fm:SU}{mi:Mx MIt}{gt:Mg}{mt:Mx Bool}{me:Mx PV}(O:N[i]?=J y)(hw:W[i]?=J y)(ap:swapsWith (.ListComp F [⟨R,B,L,0⟩] a P) (J (.Name y py)) E.line X.env=pure I)(C:Bo X N a u frees fm)(nd:(u++frees).Nodup)(an:∀x∈G',a.names.lookup x=J .globalImplicit)(dbg:∀x∈(u++frees)++G',(x==("__debug__":Str))=T/\(x==("__classdict__":Str))=T/\x≠"__name__")(hi:MI X R B mi)(hY:∀j:Cx,j.prog=X.prog->j.w=X.w->j.K=X.K->j.mg=X.mg->j.base=X.base->j.env.scope=relabel a X.env->Good j (u++frees) u G' k->MG j R gt/\CH j L mt/\ME j F me)(hs:∀x,foldedSetIterable B X.env x=pure x:=by intro _;rfl):MS X (.Assign [.Name y py] (.ListComp F [⟨R,B,L,0⟩] a P) E) (bM i (bO u.length fm mi gt mt me)):=by
 intro K4 s Z H D al tm;obtain⟨U,ab,h,rs,rh,q⟩:=tm;rw[exec_Assign_Name_used _ _ _ _ ap];refine hG (wpAny_standAt (hG ?_))
 refine hG (wpAny_mono (rE g C nd an dbg hi hY hs al
  ⟨U,ab,h,rs,rh,bt.ex q λU1 H1 v v' h1 l r z w=>w U1 H1 _ (Le.refl _ _) r ((rs.le l).set i z)⟩ λM Q S s7 m7 IX hC ns hL hz ar ai hp q6=>?_) (λ_ s' hq=>o_ (o_ hq)) λ_ _ e=>e)
 .obtain⟨o,es,ep,ho,hd,hr⟩:=id ns;have IP:Inv X (K4++[(Q,o)]) Z S s7:=IX.pins_of λp ak=>(Ci.mp ak).elim (λz=>IX.pin p (xf _ z)) λz=>by
   have e:p=(Q,o):=by simpa using z
   subst e;exact⟨ho,hC,hL,ar,λv z=>by rw[hd]at z;cases z⟩
  have st:=vg (pos:=py) (by rw[g.hN];exact g.nd) (g.x O) (g.loc y (aM O)) (g.fn y (aM hw)) (K4++[(Q,o)]) s7 Z S (.ref M) (.ref M) (λZ' H'=>Z'=Z.set i (J (.ref M))/\H'=S) IP rfl ⟨rfl,rfl⟩;refine ln st λ_ s8 ⟨Z8,H8,I8,e1,e2⟩=>?_;subst e1;subst e2;have pn:=I8.pin (Q,o) (xf _ (xf _ (by simp)));refine⟨m7,⟨o,es,ep,pn.1,hd,hr⟩,λa0 as=>⟨_,_,?_,q6⟩⟩;exact(I8.unpinned).turned (t':=s8.toks) (λb o hb e=>as.extBut b o hb e) hC hL (.inr hz) ai hp
end
@[inline]abbrev ij:SX:=[.type "ValueError",.type "Exception",.type "BaseException",.type "object"]
structure Ld(K:g_)(mg:BS)(x:Str)(C:Addr):Prop where
 bd:mg x=J (.ref C)
 ok:PySem.W.excIn K C ij "ValueError.__new__"=I
section
variable{X:Cx}{N W G:SQ}{k:Nat}
def qC{M:Model}{A:Around}{E:SK}{h:Heap}{gn:Array GenState}{d:Drawn}{t:Nat}{os:OsState}{ea C D N1 N2:Addr}{oe:Obj}{H q1 L q2:Str}{ak l ai a:SX}{R P:Bool}{Z S:SQ}{z j:SX}{al F:Bool}{B i:Option Bool}{ab U:Sr}{a0 a1 a2 a3 a5 b0 b1 b2 b3 b5:SD}{n1 n2:String}{Q:Bool->Shared->Prop}(hC:h.get? C=J (excClassObj H q1 C N1 ak l R Z z al B ab a0 a1 a2 a3 a5 n1))(hD:h.get? D=J (excClassObj L q2 D N2 ai a P S j F i U b0 b1 b2 b3 b5 n2))(he:h.get? ea=J oe)(y:oe.cls=.ref C)(hB:a.contains (.type "BaseException")=I)(u:(Value.ref C::l).contains (.ref D)=I)(hq:Q I ⟨h,gn,d,t,os⟩):wpAny M A (excMatches (.ref ea) (.ref D)) Q E ⟨h,gn,d,t,os⟩:=by
 have O:(Value.ref D::a).contains (.type "BaseException")=I:=by rw[Om,hB,Bool.or_true]
 have f:=tc_notTuple
 repeat (first | (rw[y]) | with_reducible refine wpAny_loadPart_at hD ?_ | (with_reducible refine wpAny_isSubtype_exc hD ?_;rw[O]) | (with_reducible refine wpAny_isSubtype_exc hC ?_;rw[u]) | wp_step)
 exact hq
end
section
variable{X:Cx}{N W G:SQ}{k:Nat}{Z:L2.St}{H:Hp}{s:Shared}
abbrev qP(X:Cx)(K4:SA)(E:SK):Cx:={ X with pn:=X.pn++K4,xe:=E}
def Hl(ok:X.Ok):(qP X K4 E).Ok :=
 ⟨ok.mod,ok.kind,ok.glob,ok.blt,ok.above,ok.inj,ok.has,ok.cab,ok.hd,ok.frames,ok.stk,ok.exf,ok.bs,ok.bsz,ok.noex,ok.exfs,ok.funs,ok.frf,ok.tree,ok.top⟩
def Ao(ok:(qP X K4 E).Ok):X.Ok :=
 ⟨ok.mod,ok.kind,ok.glob,ok.blt,ok.above,ok.inj,ok.has,ok.cab,ok.hd,ok.frames,ok.stk,ok.exf,ok.bs,ok.bsz,ok.noex,ok.exfs,ok.funs,ok.frf,ok.tree,ok.top⟩
def Inv.toPin(a:Inv X K4 Z H s):Inv (qP X K4 E) [] Z H s :=
 ⟨Hl a.ok,a.os,a.bare,a.base,a.loc,a.cell,a.free,a.freeC,λp i=>a.pin p (by simpa using i),a.hok,a.len⟩
def Inv.ofPin(a:Inv (qP X K4 E) [] Z H s):Inv X K4 Z H s :=
 ⟨Ao a.ok,a.os,a.bare,a.base,a.loc,a.cell,a.free,a.freeC,λp i=>a.pin p (by simpa using i),a.hok,a.len⟩
def pR{h a:Heap}{c:Addr}{v:SD}(sm:h.UpToSlots a)(q:h.IsCell c v):a.IsCell c v:=by obtain⟨o,e,d⟩:=q;obtain⟨l,i⟩:=sm c o e (λj z=>by rw[d]at z;cases z);exact⟨_,i,d⟩
def Inv.flown(j:Inv X [] Z H s){B h' P:Heap}(hB:B.StaysIn s.heap)(F:B.StaysIn h')(sm:s.heap.UpToSlots h')(S:Cp X P)(Q:QU B (Al X.stack) P)(M:∀b o,H b=J o->∃l,B.get? b=J l):Inv X [] Z H { s with heap:=h'}:=by
 have kp:∀b o l,B.get? b=J l->s.heap.get? b=J o->h'.get? b=J o:=λb o l e1 e2=>by
  have:=td hB e1 e2
  subst this;exact F b l e1
 have nl:∀b o,X.s₀.heap.get? b=J o->b≠X.env.locals:=λb o e z=>absurd (vv (pk e) j.ok.above) (by rw[z];exact BQ _);have R:∀b o,X.s₀.heap.get? b=J o->b∉X.fs->b∉X.ex->∃l,B.get? b=J l:=λb o e hf C=>by
  obtain⟨o',e'⟩:=S.old b o e C;refine Q b o' e' λhm=>?_;rcases qd.mp (j.stkSub b hm)with z|z
  .exact nl b o e z
  .exact hf z
 obtain⟨m,hn,hl⟩:=j.loc;have U:∀b o,X.s₀.heap.get? b=J o->b∈X.fs->∀E,o.data≠.fields E:=λb o e hf E z=>by
  obtain⟨_,oF,eF,dF⟩:=j.ok.funs.mem hf;rw[e]at eF;cases eF;exact dF E z
 refine⟨j.ok,j.os,j.bare,⟨λb o e n hf C=>?_,λb o e n hf C=>?_,j.base.free,λb o e C=>?_,j.base.tups,j.base.frzs,j.base.tbls⟩,⟨m,sm.ns hn,λi x v e1 e2 e3=>?_⟩,λx c e=>?_,j.free,j.freeC,λp hp=>?_,λa o e=>?_,j.len⟩
 .obtain⟨l,y⟩:=R b o e hf C;exact kp b o l y (j.base.keep b o e n hf C)
 .obtain⟨sl,e1⟩:=j.base.slot b o e n hf C;obtain⟨L,e2⟩:=sm b _ e1 (λE z=>U b o e hf E z);exact⟨L,e2⟩
 .by_cases hf:b∈X.fs
  .obtain⟨sl,e1⟩:=j.base.slot b o e (j.ok.frf b hf) hf C;obtain⟨L,e2⟩:=sm b _ e1 (λE z=>U b o e hf E z);exact⟨_,e2⟩
  .obtain⟨l,y⟩:=R b o e hf C;exact⟨l,F b l y⟩
 .obtain⟨u,ru,O⟩:=hl i x v e1 e2 e3;refine⟨u,ru,?_⟩;rcases O with z|⟨z1,c,z2,z3⟩
  .exact .inl z
  .exact .inr ⟨z1,c,z2,pR sm z3⟩
 .obtain⟨v,q⟩:=j.cell x c e;exact⟨v,pR sm q⟩
 .obtain⟨e,n,ne,nf,d⟩:=j.pin p hp;refine⟨?_,n,ne,nf,d⟩;have ab:p∈X.pn:=by simpa using hp
  obtain⟨o',e'⟩:=S.pin p ab;obtain⟨l,y⟩:=Q p.1 o' e' λhm=>by
   rcases qd.mp (j.stkSub p.1 hm)with z|z
   .exact ne z
   .exact nf z
  exact kp p.1 p.2 l y e
 .refine (j.hok a o e).stay (λb u hb z=>?_) (λ_ z=>z) λ_ _ z=>z;rcases hb with rfl|hb
  .obtain⟨l,y⟩:=M _ _ e;exact kp _ u l y z
  .obtain⟨l,y⟩:=M _ _ hb;exact kp _ u l y z
def Inv.track(i:Inv X E Z H s)(S:H a=Y)(F:X.s₀.heap.get? a=Y)(hL:a≠X.env.locals)(Q:∀x c,X.env.cells.lookup x=J c->c≠a)(U:∀p∈X.pn++E,p.1≠a)(y:ObjOk X.prog X.w (upd H a (.ext φ)) s.heap a (.ext φ)):Inv X E Z (upd H a (.ext φ)) s:=by
 have B:∀b o,X.s₀.heap.get? b=J o->b≠a:=λb o e z=>by rw[z,F]at e;cases e
 have t:∀b u,H b=J u->upd H a (.ext φ) b=J u:=λb u e=>by rw[az (bu e S)];exact e
 refine⟨i.ok,i.os,i.bare,⟨i.base.keep,i.base.slot,λb o e n hx=>by rw[az (B b o e)];exact i.base.free b o e n hx,i.base.there,λb xs e=>t b _ (i.base.tups b xs e),λb o u e=>t b _ (i.base.frzs b o u e),λb P e=>?_⟩,
  i.loc,i.cell,by rw[az (Ne.symm hL)];exact i.free,λx c e=>by rw[az (Q x c e)];exact i.freeC x c e,λp j=>?_,λb u e=>?_,i.len⟩
 .obtain⟨l,R⟩:=i.base.tbls b P e;exact⟨l,t b _ R⟩
 .obtain⟨L,M,O⟩:=i.pin p j;exact⟨L,by rw[az (U p j)];exact M,O⟩
 .by_cases C:b=a
  .subst C;rw[aK]at e;cases e;exact y
  .rw[az C]at e;exact(i.hok b u e).stay (λc v _ q=>q) (λc q=>t c _ q) λc xs q=>t c _ q
def Hm{h:Heap}{a:Addr}{m i:Sn}(x:h.Ns a m)(y:h.Ns a i):m=i:=by obtain⟨o,E,L,e,d,_,f⟩:=x;obtain⟨F,C,B,j,l,_,u⟩:=y;rw[e]at j;cases j;rw[d]at l;cases l;funext z;rw[<-f z,<-u z]
def Inv.unbound(l:Inv X K4 Z H s)(hN:X.N.Nodup)(Q:X.N[i]?=J n)(S:s.heap.Ns X.env.locals m)(O:h'.Ns X.env.locals (λx=>if x=n then v else m x))(C:Heap.SameBut X.env.locals s.heap h'):
  Inv X K4 (Z.set i Y) H { s with heap:=h',toks:=t'}:=by
 obtain⟨m0,M,hl⟩:=l.loc;have em:m=m0:=Hm S M;subst em;have lt:∀b o,X.s₀.heap.get? b=J o->b≠X.env.locals:=λb o e=>x5 (vv (pk e) l.ok.above);refine⟨l.ok,l.os,l.bare,⟨λb o e n B E=>?_,λb o e n B E=>?_,l.base.free,λb o e E=>?_,l.base.tups,l.base.frzs,l.base.tbls⟩,⟨_,O,λj y R e1 e2 e3=>?_⟩,λy c e=>?_,l.free,l.freeC,λp hp=>?_,λa o e=>?_,by simpa using l.len⟩
 .exact (C.2 b (lt b o e)).trans (l.base.keep b o e n B E)
 .obtain⟨sl,e1⟩:=l.base.slot b o e n B E;exact⟨sl,(C.2 b (lt b o e)).trans e1⟩
 .obtain⟨U,e1⟩:=l.base.there b o e E;exact⟨U,(C.2 b (lt b o e)).trans e1⟩
 .by_cases F:j=i
  .subst F;exfalso;by_cases L:j<Z.length
   .rw[x4 L]at e2;cases e2
   .rw[BM (by simp;lia)]at e2;cases e2
  .rw[n8 (Ne.symm F)]at e2;obtain⟨u',P,q⟩:=hl j y R e1 e2 e3;refine⟨u',P,?_⟩;rcases q with⟨k,e⟩|⟨k,c,e,z⟩
   .refine .inl ⟨k,?_⟩
    have:y≠n:=λe=>F (oB hN e1 (e▸Q))
    simp[this,e]
   .exact .inr ⟨k,c,e,z.sameBut C (l.cne y c e)⟩
 .obtain⟨w',z⟩:=l.cell y c e;exact⟨w',z.sameBut C (l.cne y c e)⟩
 .obtain⟨e,n,ne,nf,d⟩:=l.pin p hp;exact⟨(C.2 p.1 ne).trans e,n,ne,nf,d⟩
 .have na:a≠X.env.locals:=λz=>by rw[z,l.free]at e;cases e
  refine(l.hok a o e).stay (λb u B z=>(C.2 b ?_).trans z) (λ_ z=>z) λ_ _ z=>z;rcases B with rfl|B
  .exact na
  .intro z;rw[z,l.free]at B;cases B
def RS.unset{K:g_}{U:SW}{H:Hp}{a:p_}{Z:L2.St}(r:RS K U H a Z)(i:Nat):RS K U H (a.set i Y) (Z.set i Y):=by
 refine⟨by simp[r.1],λj u e=>?_⟩;by_cases y:j=i
 .subst y;exfalso;by_cases l:j<a.length
  .rw[x4 l]at e;cases e
  .rw[BM (by simp;lia)]at e;cases e
 .rw[n8 (λz=>y z.symm)]at e ⊢;exact r.2 j u e
end
structure Cw(K:g_)(C:Addr):Prop where
 ga:PySem.W.findIn K (.ref C) "__getattribute__"=J (J (.builtin "BaseException.__getattribute__"))
 cl:PySem.W.findIn K (.ref C) "__class__"=J (J (.builtin "object.__class__"))
 gt:PySem.W.findIn K (.ref C) "__getattr__"=J Y
 mo:PySem.W.mroIn K C (.type "object")=J I
 mb:PySem.W.mroIn K C (.type "BaseException")=J I
def nW(hf:∀v d,f v=J d->d.depth<=n/\d.hasDict=T):∀{xs:SM}{a:List PyData},cP f xs=J a->PyData.depthAll a<=n/\PyData.hasDictAll a=T
 |[],a,e=>by cases e;simp[PyData.depthAll,PyData.hasDictAll]
 |x::r,a,e=>by
  simp only[cP]at e
  split at e
  .rename_i d l e1 e2
   cases e;obtain⟨u,j⟩:=hf _ _ e1;obtain⟨y,i⟩:=nW hf e2;simp only[PyData.depthAll,PyData.hasDictAll,j,i];exact⟨⋯,rfl⟩
  .cases e
def sK:∀(n:Nat)(v:PV)(d:PyData),rd n h v=J d->d.depth<=n/\d.hasDict=T
 |0,v,d,e=>by
  cases v<;>simp only[rd]at e<;>cases e<;>simp[PyData.depth,PyData.hasDict]
 |n+1,v,d,e=>by
  have j:∀xs,(∀i,cP (rd n h) xs=J i->PyData.depthAll i<=n/\PyData.hasDictAll i=T):=λxs i=>nW (sK n)
  cases v with
  |non=>cases e;simp[PyData.depth,PyData.hasDict]
  |bl b=>cases e;simp[PyData.depth,PyData.hasDict]
  |int b=>cases e;simp[PyData.depth,PyData.hasDict]
  |str b=>cases e;simp[PyData.depth,PyData.hasDict]
  |tup xs =>
   simp only[rd,Bt]at e;obtain⟨i,e1,rfl⟩:=e;obtain⟨a,b⟩:=j xs i e1;exact⟨by simp only[PyData.depth];lia,by simp only[PyData.hasDict,b]⟩
  |frl xs =>
   simp only[rd,Bt]at e;obtain⟨i,e1,rfl⟩:=e;obtain⟨a,b⟩:=j xs i e1;exact⟨by simp only[PyData.depth];lia,by simp only[PyData.hasDict,b]⟩
  |loc m =>
   simp only[rd]at e
   split at e
   .rename_i xs _
    simp only[Bt]at e;obtain⟨i,e1,rfl⟩:=e;obtain⟨a,b⟩:=j xs i e1;exact⟨by simp only[PyData.depth];lia,by simp only[PyData.hasDict,b]⟩
   .cases e
def Dr{p:Str->Prop}:∀x∈([]:SQ),p x:=λ_ h=>nomatch h
def tt{p:Str->Prop}{a:Str}{l:SQ}(h:p a)(t:∀x∈l,p x):∀x∈a::l,p x:=λx i=>by
 rcases qd.mp i with rfl|z
 .exact h
 .exact t x z
section
variable{X:Cx}{N W G:SQ}{k:Nat}
def Cal.at(e1:a.prog=X.prog)(e2:a.w=X.w)(e3:a.K=X.K)(e4:a.mg=X.mg)(e5:a.base=X.base)(c:Cal X x ps F i):Cal a x ps F i:=c.to e1 e2 e3 e4 e5
end
def Hn(j:X.env.scope=sc)(B:scope.kind=.function)(E:∀y∈scope.names,y.2=.cell->scope.names.lookup y.1=J .cell)(C:∀y∈scope.names,y.2=.local->scope.names.lookup y.1=J .local)(u:∀x∈a,scope.names.lookup x=J .local\/scope.names.lookup x=J .cell)(z:∀x∈frees,scope.names.lookup x=J .free)(G:∀y∈scope.names,y.2=.free->y.1∈frees)(H:fm.map (λi=>N[i]?)=frees.map J)(l:∀x∈frees,sc.names.lookup x=J .cell):Bo X N scope a frees fm :=
 ⟨B,E,C,u,z,G,H,λx F=>by rw[<-j]at l;exact l x F⟩
section
variable{Z:p_}{h:MH}
@[simp]theorem gN{nv:Nat}{fm:SU}{mi:Mx MIt}{gt:Mg}{mt:Mx Bool}{me:Mx PV}:bO nv fm mi gt mt me Z h =
 (mi Z h).bind λit h1=>(A_ it h1.length gt mt me it.xs (Cv nv fm Z) (h1++[.lst []])).bind λ_ h3=>.ok (.loc h1.length) h3:=rfl
def ku{a:MIt}{n:Nat}{gt:Mg}{mt:Mx Bool}{i:Mx PV}(e:a.ok h):A_ a n gt mt i [] Z h=.ok () h:=by rw[A_,e_ e]
def kI{a:MIt}{n:Nat}{gt:Mg}{mt:Mx Bool}{i:Mx PV}{x v:PV}{r ys:SM}{Z1:p_}{h1 h2 h3:MH}(e:a.ok h)(j:gt x Z h=.nx Z1 h1)(l:mt Z1 h1=.ok I h2)(u:i Z1 h2=.ok v h3)(el:h3[n]?=J (.lst ys))(hl:ys.length<1000):
  A_ a n gt mt i (x::r) Z h=A_ a n gt mt i r Z1 (h3.set n (.lst (ys++[v]))):=by
 rw[A_,e_ e,j];simp only[l,Out.ne_ok,Out.bind_ok,if_true,u,el];rw[e_ (vv hl (by decide))]
def Fj{o:MO}{g:MH}:(h++o::g)[h.length]?=J o:=by simp
def Lf{g:MH}{n:Nat}{o:MO}(e:h[n]?=J o):(h++g)[n]?=J o:=by rw[qs (qi.mp e).1];exact e
end
def Fk(f:Nat->SM->MH->SH)(m:Mx PV)(j:Mx (SM)):Mx PV:=λZ h=>(m Z h).bind λo a=>match o with
 |.loc n=>(match a[n]? with
  |some (.lst _)=>(j Z a).bind λi l=>(f n i l).ne
  |_=>.bad)
 |_=>.bad
def gI(n:Nat)(a:SM)(h:MH):SH:=match a,h[n]? with
 |[v],J (.lst xs)=>if xs.length<sizeLine then .ok .non (h.set n (.lst (xs++[v])))else .bad
 |_,_=>.bad
section
variable{X:Cx}{N W G:SQ}{k:Nat}
def Lg(X:Cx)(f:Nat->SM->MH->SH):V->List V->Hp->VK->Prop:=λx j H Q=>∃U h n a i,x=.ref a/\U[n]?=J a/\RH X.K X.mg U H h/\RPs X.K U H i j/\j5 X (RV' X) U H (f n i h) Q
def rN:Kz X "list.append" (Lg X gI):=by
 intro M s Z H x vs v R Q j E F ⟨U,h,n,a,S,e,u,y,rp,q⟩;subst e;obtain⟨o,L,O⟩:=y.obj u;unfold gI at q
 cases rp with
 |nil=>exact q.elim
 |cons P B =>
  cases B with
  |cons _ _=>exact q.elim
  |nil =>
   rw[L]at q
   cases o with
   |lst xs =>
    dsimp only at q;by_cases hl:xs.length<sizeLine
    .rw[e_ hl]at q;obtain⟨ys,z,l⟩:=O;obtain⟨i,C⟩:=y.put u (o:=.lst (xs++[_])) ⟨_,rfl,l.append (.cons P .nil)⟩;exact rQ M s Z H _ _ v R Q j E F ⟨a,ys,_,rfl,rfl,z,by rw[<-l.length];exact hl,q U _ .non C i .non⟩
    .rw[h8 hl]at q;exact q.elim
   |_=>exact q.elim
variable{o e:Expr}{es:SG}{name:Str}{apos cpos:Pos}{id:String}{f:Nat->SM->MH->SH}{m:Mx PV}{ma:Mx (SM)}
def Lh{L:TA}(B:∀Z H Q,tM X (RVs' X) ma Z H Q->L Z H Q){Z:L2.St}{H:Hp}{Q:VK}(tm:tM X (RV' X) (Fk f m ma) Z H Q):tM X (RV' X) m Z H (λx u=>OY X.K "list" x u/\L Z u λxs E=>Lg X f x xs E Q):=by
 obtain⟨U,i,h,C,rh,q⟩:=tm;refine⟨U,i,h,C,rh,?_⟩;refine Ful.bind q λP u x x' h1 _ l1 l R j=>?_
 cases R with
 |@loc n a F =>
  obtain⟨ob,eo,ro⟩:=l.obj F;dsimp only at j;rw[eo]at j
  cases ob with
  |lst xs =>
   obtain⟨ys,M,ry⟩:=ro;refine⟨.inl ⟨rfl,ys,SqL.of M⟩,B Z u _ ⟨P,i,h1,C.le l1,l,?_⟩⟩;exact Ful.bind j λS E vs O h2 _ l2 z y q2=>⟨S,h2,n,a,vs,rfl,l2.get F,z,y,q2.zero⟩
  |_=>exact j.elim
 |_=>exact j.elim
def Fl(slot:Slot "list" name id)(u:typeOf (.builtin id)=pure (.type "method_descriptor"))(C:Kz X id (Lg X f))(y:ME X o m)(E:MA X (e::es) ma)(i:attributeBase o name X.env (eval o X.env)=eval o X.env:=by rfl)(l:((backTo cpos (starEach (e::es) X.env)).all (λx=>!x.1)&&(backToKw cpos (keywordEach [] X.env)).all (λx=>x.1.isSome)
   && decide ((e::es).length+([]:List Keyword).length+(if([]:List Keyword).isEmpty then 0 else 1)<30))=I:=by rfl)(j:(apos.endLine==cpos.line)=I:=by rfl)(B:starEach (e::es) X.env=(T,eval e X.env)::starEach es X.env:=by rfl)(a:(backTo cpos (starEach es X.env)).any (·.1)=T:=by rfl):
  ME X (.Call (.Attribute o name apos) (e::es) [] cpos) (Fk f m ma) :=
 PE.imp (KJ PySem.F.plainAttrs_list slot u C y E i l j B a) λZ H Q q=>Lh (λ_ _ _ z=>z) q
@[simp]theorem yS:Fk f m ma Z h=(m Z h).bind λo h1=>match o with
 |.loc n=>(match h1[n]? with
  |some (.lst _)=>(ma Z h1).bind λvs h2=>(f n vs h2).ne
  |_=>.bad)
 |_=>.bad:=rfl
end
structure Sh(L:Nat)(d:PyData):Prop where
 able:d.showable=I
 ok:PyData.strOk d.shown=I
 len:d.shown.length<=L
def cy(h:MH):PV->Option (SM)
 |.tup xs=>J xs
 |.frl xs=>J xs
 |.loc n=>(match h[n]? with
  |some (.lst xs)=>J xs
  |_=>Y)
 |_=>Y
section
variable{X:Cx}{N W G:SQ}{k:Nat}
def nJ(C:RH X.K X.mg U H h)(j:RP X.K U H x x')(e:cy h x=J xs):∃a ys,x'=.ref a/\(SqL X.K H a ys\/SqT X.K H a ys)/\RPs X.K U H xs ys:=by
 cases j with
 |tup s r=>cases e;exact⟨_,_,rfl,.inr s,r⟩
 |frl s r=>cases e;exact⟨_,_,rfl,.inl s.sq,r⟩
 |@loc n a y =>
  obtain⟨o,l,B⟩:=C.obj y;simp only[cy,l]at e
  cases o with
  |lst ys =>
   cases e;obtain⟨i,u,z⟩:=B;exact⟨a,i,rfl,.inl (SqL.of u),z⟩
  |_=>cases e
 |_=>cases e
def oR(f g:PV->PV->MH->SH)(a b c:Mx PV):Mx PV:=λZ h=>(a Z h).bind λx l=>(b Z l).bind λy u=>(f x y u).ne.bind λz i=>match z with
 |.bl t=>if t=I then(c Z i).bind λw j=>(g y w j).ne else .ok (.bl T) i
 |_=>.bad
variable{a b c:Expr}{ma mb mc:Mx PV}{f g':PV->PV->MH->SH}{op op':CmpOp}{pos:Pos}
def zX{Z:L2.St}{H:Hp}{Q:VK}(q:tM X (RV' X) (oR f g' ma mb mc) Z H Q):zG (rJ X f) (rJ X g') (tM X (RV' X) ma) (tM X (RV' X) mb) (tM X (RV' X) mc) Z H Q:=by
 obtain⟨U,i,h,u,rh,q⟩:=q;refine⟨U,i,h,u,rh,Ful.bind q λU1 H1 x x' h1 _ S L rx q1=>?_⟩;refine⟨U1,i,h1,u.le S,L,Ful.bind q1 λU2 H2 y y' R _ l2 B P q2=>?_⟩;refine⟨U2,R,x,y,B,rx.le l2,P,?_⟩;have C:Ful X (RV' X) i U2 H2 (f x y R).ne (λz l=>∃k,z=.bl k/\(if k=I then tM X (RV' X) mc Z l λw' M=>rJ X g' y' w' M Q else Q (.bl T) l)):=Ful.bind q2 λU3 l z z' h3 _ O j rz E=>by
  cases rz with
  |bl t =>
   refine⟨t,rfl,?_⟩
   cases t with
   |true =>
    exact⟨U3,i,h3,u.le (S.trans (l2.trans O)),j,Ful.bind E λU4 M w w' h4 _ l4 F rw' q4=>⟨U4,h4,y,w,F,(P.le O).le l4,rw',q4.zero⟩⟩
   |false =>
    exact E U3 l _ (Le.refl _ _) j (.bl _)
  |_=>exact E.elim
 exact C.zero
def Ak(j:A4 X (compareOp op) f)(i:A4 X (compareOp op') g')(z:ME X a ma)(u:ME X b mb)(l:ME X c mc)(y:lastMarks [op,op'] [b,c]=T:=by with_unfolding_all rfl):ME X (.Compare a [op,op'] [b,c] pos) (oR f g' ma mb mc) :=
 PE.imp (zU j i z u l y) λ_ _ _ q=>zX q
@[simp]theorem JG:oR f g' ma mb mc Z h=(ma Z h).bind λx h1=>(mb Z h1).bind λy h2=>(f x y h2).ne.bind λz h3=>match z with
 |.bl t=>if t=I then(mc Z h3).bind λw h4=>(g' y w h4).ne else .ok (.bl T) h3
 |_=>.bad:=rfl
def Ds(i:Bool)(x y:PV)(h:MH):SH:=match cy h y with
 |some ys=>(match rd 60 h x,cP (rd 60 h) ys with
  |some d,J j=>if d.canLay0=I/\PyData.canLayAll0 j=I then .ok (.bl (if i then !j.any (λe=>PyData.eqv e d)else j.any (λe=>PyData.eqv e d))) h else .bad
  |_,_=>.bad)
 |none=>.bad
def pC:∀{i:List PyData},PyData.canLayAll0 i=I->∀d∈i,d.canLay0=I
 |e::i,h,d,hd=>by
  simp only[PyData.canLayAll0,Bw]at h;rcases qd.mp hd with rfl|hd
  .exact h.1
  .exact pC h.2 d hd
def qY(hf:∀u d i,Reads hp u d i->fq u=PyData.eqv d dx):∀{l:SX}{j:List PyData}{i:SW},ReadsAll hp l j i->l.any fq=j.any λe=>PyData.eqv e dx
 |_,_,_,.nil=>rfl
 |_,_,_,.cons r t=>by rw[OA,OA,hf _ _ _ r,qY hf t]
def rF:∀{l:SX}{j:List PyData}{y:SW},ReadsAll hp l j y->∀u∈l,∃d i,d∈j/\Reads hp u d i
 |_,_,_,.nil,u,h=>nomatch h
 |_,_,_,.cons r t,u,h=>by
  rcases qd.mp h with rfl|h
  .exact⟨_,_,CP,r⟩
  .obtain⟨d,i,hd,hr⟩:=rF t u h;exact⟨d,i,pj _ hd,hr⟩
def fq(j:Heap)(i:PyData)(u:Value):Bool:=if z:∃d l,Reads j u d l then PyData.eqv z.choose i else T
def Fm(r:Reads hp u d i):fq hp dx u=PyData.eqv d dx:=by have z:∃d i,Reads hp u d i:=⟨d,i,r⟩;unfold fq;rw[dif_pos z];obtain⟨j,l⟩:=z.choose_spec;rw[<-(Reads.unique r _ _ l).1]
def Li(hr:Room k X.A)(E:Bool):A4 X (compareOp (if E then .NotIn else .In)) (Ds E):=by
 intro K4 s Z H x' y' u v Q j ai ab ⟨U,h,x,y,M,rx,ry,q⟩;unfold Ds at q
 cases S:cy h y with
 |none=>rw[S]at q;exact q.elim
 |some ys =>
  rw[S]at q;dsimp only at q;obtain⟨a,zs,rfl,R,ak⟩:=nJ M ry S
  cases ex:rd 60 h x with
  |none=>rw[ex]at q;exact q.elim
  |some l =>
   rw[ex]at q
   cases ed:cP (rd 60 h) ys with
   |none=>rw[ed]at q;exact q.elim
   |some ds =>
    rw[ed]at q;dsimp only at q;by_cases hl:l.canLay0=I/\PyData.canLayAll0 ds=I
    .rw[e_ hl]at q;cases ab;obtain⟨_,rX⟩:=gB j M 60 x x' u l rx ai ex;have an:=(sK 60 x l ex).1;have B:∀(i:SX),aL zs i->(∀w∈i,SeqAt.EqAt X.A.in1 s w u (fq s.heap l w))/\i.any (fq s.heap l)=ds.any λe=>PyData.eqv e l:=λi z=>by
      obtain⟨as,RA⟩:=gS (λv v' u d r1 r2 e=>gB j M 60 v v' u d r1 r2 e) ak z ed;refine⟨λw hw=>?_,qY (λu d as r=>Fm r) RA⟩;obtain⟨d,al,hd,P⟩:=rF RA w hw;rw[Fm P];refine SeqAt.eqAt_reads d l X.A.in1 s w u _ _ P rX (pC hl.2 d hd) hl.1 ?_
      have:=hr.un
      lia
     cases E with
     |false =>
      rcases R with O|O
      .obtain⟨i,z,C,hz⟩:=j.list O;obtain⟨L,F⟩:=B i z;refine SeqAt.in_listAt (fq s.heap l) C.isList (λw hw=>L w (by simpa using hw)) ⟨.bl _,H,j,rfl,?_⟩;rw[show i.toArray.any (fq s.heap l)=i.any (fq s.heap l) by simp,F];exact q U H _ (Le.refl _ _) M (.bl _)
      .obtain⟨i,z,C,hz⟩:=j.tuple O;obtain⟨L,F⟩:=B i z;refine SeqAt.in_tupleAt (fq s.heap l) C (λw hw=>L w (by simpa using hw)) ⟨.bl _,H,j,rfl,?_⟩;rw[show i.toArray.any (fq s.heap l)=i.any (fq s.heap l) by simp,F];exact q U H _ (Le.refl _ _) M (.bl _)
     |true =>
      rcases R with O|O
      .obtain⟨i,z,C,hz⟩:=j.list O;obtain⟨L,F⟩:=B i z;refine SeqAt.notIn_listAt (fq s.heap l) C.isList (λw hw=>L w (by simpa using hw)) ⟨.bl _,H,j,rfl,?_⟩;rw[show i.toArray.any (fq s.heap l)=i.any (fq s.heap l) by simp,F];exact q U H _ (Le.refl _ _) M (.bl _)
      .obtain⟨i,z,C,hz⟩:=j.tuple O;obtain⟨L,F⟩:=B i z;refine SeqAt.notIn_tupleAt (fq s.heap l) C (λw hw=>L w (by simpa using hw)) ⟨.bl _,H,j,rfl,?_⟩;rw[show i.toArray.any (fq s.heap l)=i.any (fq s.heap l) by simp,F];exact q U H _ (Le.refl _ _) M (.bl _)
    .rw[h8 hl]at q;exact q.elim
def B3(xs:SM)(h:MH):SH:=match xs with
 |[x]=>(match cy h x with
  |some ys=>vR ys h
  |none=>.bad)
 |_=>.bad
def BD(xs:SM)(h:MH):SH:=match xs with
 |[x]=>(match cy h x with
  |some ys=>.ok (.tup ys) h
  |none=>.bad)
 |_=>.bad
def Dt:cX X (.type "list") B3:=by
 intro E s Z H xs M Q u r ⟨U,h,O,z,rp,q⟩
 cases rp with
 |nil=>exact q.elim
 |cons L B =>
  cases B with
  |cons _ _=>exact q.elim
  |nil =>
   rename_i x y
   unfold B3 at q
   cases i:cy h x with
   |none=>simp only[i]at q;exact q.elim
   |some ys =>
    simp only[i]at q;obtain⟨a,C,rfl,l,j⟩:=nJ z L i;obtain⟨_,F⟩:=ny z j q;exact uG E s Z H _ M Q u r ⟨a,C,rfl,l,F⟩
def lp:cX X (.type "tuple") BD:=by
 intro L s Z H xs M Q j r ⟨U,h,S,E,rp,q⟩
 cases rp with
 |nil=>exact q.elim
 |cons R P =>
  cases P with
  |cons _ _=>exact q.elim
  |nil =>
   rename_i x y
   unfold BD at q
   cases z:cy h x with
   |none=>simp only[z]at q;exact q.elim
   |some ys =>
    simp only[z]at q;obtain⟨a,B,rfl,C,i⟩:=nJ E R z;rcases C with u|u
    .refine lP L s Z H _ M Q j r ⟨a,B,rfl,.inl ⟨u,λl hl=>?_⟩⟩;obtain⟨O,F⟩:=E.tup hl B;exact q U _ _ F O (.tup (SqT.of aK) (i.le F))
    .exact lP L s Z H _ M Q j r ⟨a,B,rfl,.inr ⟨u,q U H _ (Le.refl _ _) E (.tup u i)⟩⟩
def gK(xs:SM)(lo i:SF):SM:=(xs.drop (HT.mA xs.length 0 lo)).take (HT.mA xs.length xs.length i-HT.mA xs.length 0 lo)
def Ho(x:PV)(lo i:SF)(h:MH):SH:=match x with
 |.tup xs=>if HT.mA xs.length 0 lo=0/\HT.mA xs.length xs.length i=xs.length then .bad else .ok (.tup (gK xs lo i)) h
 |.frl xs=>.ok (.loc h.length) (h++[.lst (gK xs lo i)])
 |.loc n=>(match h[n]? with
  |some (.lst xs)=>.ok (.loc h.length) (h++[.lst (gK xs lo i)])
  |_=>.bad)
 |_=>.bad
def R3(X:Cx)(f:PV->SF->SF->MH->SH):V->SF->SF->Hp->VK->Prop:=λi lo j H Q=>∃U h x,RH X.K X.mg U H h/\RP X.K U H x i/\j5 X (RV' X) U H (f x lo j h) Q
def qv{K:g_}{U:SW}{H:Hp}{xs:SM}{ys:List V}(r:RPs K U H xs ys)(lo i:SF):RPs K U H (gK xs lo i) (oq ys lo i):=by unfold gK oq;rw[r.length];exact(r.drop _).take _
def Lj:Nl X (R3 X Ho):=by
 intro M s Z H x' v vl S lo i R Q j F P L pu ⟨U,h,x,u,O,q⟩
 cases O with
 |tup E C =>
  unfold Ho at q;dsimp only at q
  rename_i xs a ys
  by_cases z:HT.mA xs.length 0 lo=0/\HT.mA xs.length xs.length i=xs.length
  .rw[e_ z]at q;exact q.elim
  .rw[h8 z]at q;refine GD M s Z H _ v vl S lo i R Q j F P L pu ⟨a,ys,rfl,E,by rw[<-C.length];exact z,λp B=>?_⟩;obtain⟨y,l⟩:=u.tup B (oq ys lo i);exact q U _ _ l y (.tup (SqT.of aK) ((qv C lo i).le l))
 |frl E C =>
  rename_i xs a ys
  refine u9 M s Z H _ v vl S lo i R Q j F P L pu ⟨a,ys,rfl,E.sq,λp B=>?_⟩;obtain⟨y,l⟩:=u.new B (o:=.lst (gK xs lo i)) ⟨_,rfl,qv C lo i⟩;exact q _ _ _ l y (.loc (by rw[<-u.len];simp))
 |@loc n a en =>
  obtain⟨o,eo,ro⟩:=u.obj en;unfold Ho at q;dsimp only at q;rw[eo]at q
  cases o with
  |lst xs =>
   obtain⟨ys,ey,ry⟩:=ro;refine u9 M s Z H _ v vl S lo i R Q j F P L pu ⟨a,ys,rfl,SqL.of ey,λp B=>?_⟩;obtain⟨y,l⟩:=u.new B (o:=.lst (gK xs lo i)) ⟨_,rfl,qv ry lo i⟩;exact q _ _ _ l y (.loc (by rw[<-u.len];simp))
  |_=>exact q.elim
 |_=>exact q.elim
def MO'(X:Cx)(e:Option Expr)(m:Mx (SF)):Prop:=PO X e (tM X KL m)
def Q4:Mx (SF):=λ_ h=>.ok Y h
def Q5(m:Mx PV):Mx (SF):=λZ h=>(m Z h).bind λv j=>match v with
 |.int i=>.ok (J i) j
 |_=>.bad
def vO:MO' X Y Q4:=λl s Z H Q i ⟨U,u,h,y,j,q⟩=>C9 l s Z H Q i (q U H Y (Le.refl _ _) j rfl)
def vo(h:ME X e m):MO' X (J e) (Q5 m):=λE s Z H Q u ⟨U,j,L,B,F,q⟩=>C_ h E s Z H Q u ⟨U,j,L,B,F,Ful.bind q λz M v O R _ P l C y=>by
 cases C with
 |int i=>exact⟨i,rfl,y z M (J i) (Le.refl _ _) l rfl⟩
 |_=>exact y.elim⟩
def Q6(m:Mx PV)(j i:Mx (SF)):Mx PV:=λZ h=>(m Z h).bind λx l=>(j Z l).bind λlo z=>(i Z z).bind λu y=>(Ho x lo u y).ne
def Fo{e:Expr}{lo j:Option Expr}{m:Mx PV}{C B:Mx (SF)}{p2:Pos}(he:ME X e m)(hl:MO' X lo C)(hu:MO' X j B):ME X (.Subscript e (.Slice lo j Y p2) pos) (Q6 m C B) :=
 PE.imp (Au Lj he hl hu) λZ H Q ⟨U,i,h,l,rh,q⟩=>⟨U,i,h,l,rh,Ful.bind q λL H1 x x' h1 _ E z M R=>⟨L,i,h1,l.le E,z,Ful.bind R λO H2 lo ab h2 _ F y el q2=>by
  subst el
  exact⟨O,i,h2,l.le (E.trans F),y,Ful.bind q2 λU3 H3 j P S _ l3 u eh q3=>by
   subst eh
   exact⟨U3,S,x,u,(M.le F).le l3,q3.zero⟩⟩⟩⟩
end
section
variable{X:Cx}{N W G:SQ}{k:Nat}
def Ar{A:Around}{E:SK}{M:SA}{Z:L2.St}{H:Hp}{s:Shared}{a:Addr}{ys:List V}{Q:SK}(F:A.handled=Y)(y:Inv X M Z H s)(z:SqL X.K H a ys\/SqT X.K H a ys)(h:∀(j:SX)(B:Heap)(It:Addr)(St:Nat->Heap->Prop),aL ys j->Walks X.prog X.w A It [It,a] [It] j.toArray.size (λi v=>j.toArray[i]?=J v) St->St 0 B->(∀b∈[It,a],b<B.objs.size)->(∀b o,s.heap.get? b=J o->B.get? b=J o)->s.heap.objs.size=It->Q (.ref It) { s with heap:=B}):
  wpAny (model X.prog X.w) A (pyIter (.ref a)) Q E s:=by
 have sz:∀(o:Obj),a<s.heap.objs.size->∀b∈[s.heap.objs.size,a],b<(s.heap.push o).objs.size:=λo l b u=>by
  rw[Cc];rcases qd.mp u with rfl|u
  .exact Ow _
  .rcases qd.mp u with rfl|u
   .exact Oq l
   .cases u
 rcases z with z|z
 .obtain⟨j,C,L,_⟩:=y.list z;have hl:=L.isList;have l:a<s.heap.objs.size:=by obtain⟨_,e,_⟩:=hl;exact pk e
  exact wpAny_pyIter_list hl (h j _ _ _ C (Walks.list F _ a (x5 l) j.toArray) ⟨⟨_,A0 _ rfl,rfl,rfl⟩,hl.push _⟩ (sz _ l) (λb o e=>n3 _ e) rfl)
 .obtain⟨j,C,hl,_⟩:=y.tuple z;have l:a<s.heap.objs.size:=by obtain⟨_,e,_⟩:=hl;exact pk e
  exact wpAny_pyIter_tuple hl (h j _ _ _ C (Walks.tuple F _ a (x5 l) j.toArray) ⟨⟨_,A0 _ rfl,rfl,rfl⟩,hl.push _⟩ (sz _ l) (λb o e=>n3 _ e) rfl)
def Lk{s:Shared}{i a:Heap}{It:Addr}(j:∀b o,s.heap.get? b=J o->i.get? b=J o)(e:s.heap.objs.size=It)(u:∀b o,b∉[It]->i.get? b=J o->a.get? b=J o):∀b o,s.heap.get? b=J o->a.get? b=J o:=λb o q=>by
 refine u b o (λl=>?_) (j b o q)
 have:b=It:=by simpa using l
 exact absurd (pk q) (by rw[this,e];exact BQ _)
def ly:SM->Option (List Bool)
 |[]=>J []
 |.bl b::r=>(ly r).map (b::·)
 |_=>Y
def Du{K:g_}{U:SW}{H:Hp}:∀{xs:SM}{ys:List V}{bs:List Bool}{a:SX},RPs K U H xs ys->aL ys a->ly xs=J bs->a=bs.map Value.bool:=by
 intro xs
 induction xs with
 |nil=>intro ys bs a r v e;cases r;cases v;cases e;rfl
 |cons x xs l =>
  intro ys bs a r v e
  cases r with
  |cons z B =>
   cases v with
   |cons j y =>
    cases z with
    |bl b =>
     simp only[ly,Bt]at e;obtain⟨i,u,rfl⟩:=e;rw[l B y u,show _=Value.bool b from j];rfl
    |_=>cases e
def uO(bs:List Bool):TruthOf X.prog X.w A (λi v=>(bs.map Value.bool).toArray[i]?=J v) (λi=>bs.getD i T):=λi v s Q E a j=>by
 have:v=.bool (bs.getD i T):=by
  have a:(List.map Value.bool bs).toArray[i]?=J v:=a;rw[List.getElem?_toArray,r6,Bt]at a;obtain⟨b,e,rfl⟩:=a
  simp_all
 subst this;exact wpAny_truthy_bool j
def yg(bs:List Bool):(List.range bs.length).all (λi=>bs.getD i T)=bs.all id:=by
 induction bs with
 |nil=>rfl
 |cons b r a =>
  rw[BN,QN,List.all_cons,List.all_map,List.all_cons,<-a];rfl
def BX(xs:SM)(h:MH):SH:=match xs with
 |[x]=>(match (cy h x).bind ly with
  |some bs=>.ok (.bl (bs.all id)) h
  |none=>.bad)
 |_=>.bad
def yT(g:Good X N W G k):cX X (.builtin "all") BX:=by
 intro K4 s Z H xs us Q i r ⟨U,h,ps,E,rp,q⟩
 cases rp with
 |nil=>exact q.elim
 |cons O F =>
  cases F with
  |cons _ _=>exact q.elim
  |nil =>
   rename_i x y
   unfold BX at q
   cases j:(cy h x).bind ly with
   |none=>simp only[j]at q;exact q.elim
   |some bs =>
    simp only[j]at q;obtain⟨ys,e1,e2⟩:=JU.mp j;obtain⟨a,S,rfl,u,l⟩:=nJ E O e1
    cases r with
    |cons R P =>
     cases P;cases R;refine call_all_walk (Ar g.room.hd i u λz h2 It St L Wk st fp kp B=>?_);have C:=Du l L e2;refine⟨It,_,_,_,_,St,_,rfl,Wk,st,by rw[C];exact uO bs,λh' tk M=>?_⟩;have el:z.toArray.size=bs.length:=by rw[C];simp
     rw[el,yg];exact⟨.bl _,H,i.kept (Lk kp B M),rfl,q U H _ (Le.refl _ _) E (.bl _)⟩
end
def RH.loose{K:g_}{mg:BS}{U:SW}{H:Hp}{h:MH}(r:RH K mg U H h){p:Addr}(y:H p=Y)(j:HO):RH K mg U (upd H p j) h/\Le U H U (upd H p j):=by
 have i:∀n a,U[n]?=J a->a≠p:=λn a e z=>by
  obtain⟨C,_,q⟩:=r.obj e;rw[z,y]at q;exact q.some rfl
 have l:Le U H U (upd H p j):=⟨⟨[],by simp⟩,λa xs e=>by rw[az (bu e y)];exact e,λa B u e=>by rw[az (bu e y)];exact e⟩;exact⟨⟨r.len,r.nd,λn a o e1 e2=>by rw[az (i n a e1)];exact(r.at' n a o e1 e2).le l⟩,l⟩
section
variable{X:Cx}{N W G:SQ}{k:Nat}
def lW(xs:SM)(i:Int)(v:PV):SM :=
 let k:=if i<0 then(i+(xs.length:Int)).toNat else min i.toNat xs.length
 xs.take k++v::xs.drop k
def m6(n:Nat)(a:SM)(h:MH):SH:=match a with
 |[.int i,v]=>(match h[n]? with
  |some (.lst xs)=>if(-(2^63)<=i/\i<2^63)/\xs.length<sizeLine then .ok .non (h.set n (.lst (lW xs i v)))else .bad
  |_=>.bad)
 |_=>.bad
def xL:Kz X "list.insert" (Lg X m6):=by
 intro K4 s Z H x vs v us Q C rx rv ⟨U,h,n,a,ps,e,en,rh,rp,q⟩;subst e;obtain⟨o,eo,ro⟩:=rh.obj en;unfold m6 at q
 split at q
 .rename_i i P
  cases rp with
  |cons r1 t1 =>
   cases t1 with
   |cons r2 t2 =>
    cases t2;cases r1;rw[eo]at q
    cases o with
    |lst xs =>
     dsimp only at q;by_cases hl:(-(2^63)<=i/\i<2^63)/\xs.length<sizeLine
     .rw[e_ hl]at q;obtain⟨ys,ey,L⟩:=ro;cases rx
      cases rv with
      |cons F O=>cases O with
       |cons R S =>
        cases S
        rename_i v' u1 u2
        obtain⟨t,rfl⟩:=F;obtain⟨z,l,nn,r,y,e⟩:=C.lstM ey
        let j:=if i<0 then(i+(l.length:Int)).toNat else min i.toNat l.length
        have u:RPs X.K U H (lW xs i P) (ys.take j++v'::ys.drop j):=by
         have:(if i<0 then(i+(xs.length:Int)).toNat else min i.toNat xs.length)=j:=by rw[L.length,y]
         unfold lW;rw[this];exact(L.take j).append (.cons r2 (L.drop j))
        obtain⟨M,l'⟩:=rh.put en (o:=.lst (lW xs i P)) ⟨_,rfl,u⟩;refine call_meets PySem.F.slot_list_insert ⟨_,e,rfl⟩ PySem.F.entry_list_insert (PySem.F.args_list_insert_3 _ _ _) (AutoListH.list_insert_list_int_val_1 a l.toArray nn i t u2 (by rw[fitsIndex_both hl.1.1 hl.1.2];simp) (by rw[z_];ext)) ⟨e,?_⟩;have B:=(r.take j).append (.cons R (r.drop j));have E:(ys.take j++v'::ys.drop j).length<=sizeLine:=by
         rw[<-u.length];have e1:(lW xs i P).length=xs.length+1:=by unfold lW;simp only[F3,BN,J2,M8];ext
         ext
        refine⟨.non,_,C.lset (its':=l.take j++u2::l.drop j) ey e ?_ B E,rfl,q U _ .non l' M .non⟩;simp[j,List.extract];refine M2 ?_;rw[M8];exact l_ _
     .rw[h8 hl]at q;exact q.elim
    |_=>exact q.elim
 .exact q.elim
def Dv(g:Good X N W G k){a:Expr}{m:Mx PV}{l z:String}{c y:Str}{i j j':Nat}{p q B O pt:Pos}{kt}(hi:G[i]?=J "isinstance")(hm:X.mg "isinstance"=Y)(hj:G[j]?=J c)(hc:X.mg c=Y)(hv:bootBuiltins c=J (.type l))(hT:Dn l)(P:G[j']?=J y)(as:X.mg y=Y)(an:bootBuiltins y=J (.type z))(a4:Dn z)(ha:ME X a m)(he:starEach [a,.Tuple [.Name c q,.Name y B] kt pt] X.env=(T,eval a X.env)::starEach [.Tuple [.Name c q,.Name y B] kt pt] X.env:=by rfl)(a0:starEach [.Tuple [.Name c q,.Name y B] kt pt] X.env=[(T,eval (.Tuple [.Name c q,.Name y B] kt pt) X.env)]:=by rfl)(a1:(backTo O (starEach [.Tuple [.Name c q,.Name y B] kt pt] X.env)).any (·.1)=T:=by rfl)(ar:starEach [.Name c q,.Name y B] X.env=(T,eval (.Name c q) X.env)::starEach [.Name y B] X.env:=by rfl)(a3:starEach [.Name y B] X.env=[(T,eval (.Name y B) X.env)]:=by rfl):
  ME X (.Call (.Name "isinstance" p) [a,.Tuple [.Name c q,.Name y B] kt pt] [] O) (KO (lV [l,z]) m):=by
 have d1:=g.dbg _ (xf _ (aM hi));have d:=g.dbg c (xf _ (aM hj));have d':=g.dbg y (xf _ (aM P));have E:dy X (.builtin "isinstance") (λxs H Q=>∃M L,xs=[M,.ref L]/\SqT X.K H L [.ty l,.ty z]/\uJ X (lV [l,z]) M H Q):=by
  intro K4 s Z H xs us Q C r ⟨M,L,e,a7,U,h,x,S,rx,q⟩;subst e
  cases r with
  |cons r1 t1=>cases t1 with
   |cons r2 t2 =>
    cases t2;cases r2;obtain⟨al,rv,ht,_⟩:=C.tuple a7;have ei:al=[.type l,.type z]:=by
     cases rv with
     |cons v1 w1=>cases w1 with
      |cons v2 w2 =>
       cases w2;rw[show _=Value.type l from v1,show _=Value.type z from v2]
    subst ei;obtain⟨⟨oc,od,a9,a8⟩,ho,ak,nn,a5⟩:=ht;subst ak;subst a5;unfold lV at q
    cases et:Dm h x with
    |none=>rw[et]at q;exact q.elim
    |some t =>
     rw[et]at q;obtain⟨R,ai,Hq,Za,hz⟩:=uZ C S rx r1 et;have F:PySem.W.kitAny X.K (.type t) [.type l,.type z]=J (dG t l||dG t z):=by
      unfold PySem.W.kitAny;rw[hT X.K t R]
      cases dG t l with
      |true=>rfl
      |false =>
       unfold PySem.W.kitAny;rw[a4 X.K t R];cases dG t z<;>rfl
     exact PySem.W.kia_tup Za C.kIn hz ho F ai λtk=>⟨.bl _,H,C.tok _,rfl,by
      have B:=q U H _ (Le.refl _ _) S (.bl _)
      simpa using B⟩
 refine PE.imp (ox E (g.gl _ (aM hi)) hm PyProof.Rows.Boot.«isinstance» (cV ha (cV (uv (cV (qt (v:=.ty l) (u:=.type l) (g.gl c (aM hj)) hc hv rfl d.2.2 d.1) (cV (qt (v:=.ty z) (u:=.type z) (g.gl y (aM P)) as an rfl d'.2.2 d'.1) jq a3) ar)) jq a0) he) d1.2.2 d1.1 he a1) λZ H Q ⟨U,ab,h,rs,S,q⟩=>?_;refine⟨U,ab,h,rs,S,Ful.bind q λU1 H1 x M h1 _ l1 a6 rx q1=>?_⟩;refine⟨by show 2<=sizeLine;decide,λL ap=>?_⟩;obtain⟨a2,l2⟩:=a6.tup ap [.ty l,.ty z];exact⟨M,L,rfl,SqT.of aK,U1,h1,x,a2,rx.le l2,(Ful.le l2 q1).zero⟩
def Ll(l:TA):TE:=λZ H Q=>l Z H λi a=>∃j:Int,i=[.int j] /\ -(2^62)<=j/\j<2^62/\∀p,a p=Y->Q (.ref p) (upd a p (.rng 0 j))
def zc(hg:Gl X "range")(B:X.mg "range"=Y)(F:PA X [a] ta)(E:starEach [a] X.env=[(T,eval a X.env)]:=by rfl):PE X (.Call (.Name "range" p) [a] [] pos) (Ll ta):=by
 intro C s Z H R i h;refine Call_ (jv i hg B boot_range (PyProof.Rows.callWith_type1 (ln (F pos C s Z H _ i h) λM y ⟨O,Q,u,L,l⟩=>?_) E rfl));obtain⟨j,e,l,P,q⟩:=l;subst e
 cases L with
 |cons r z =>
  cases z;obtain⟨t,rfl⟩:=r;refine call_range_1 ⟨.ref y.heap.objs.size,_,u.laid (λb o e=>n3 _ e) (l_ _) ?_,rfl,q _ (u.hok.fresh (l_ _))⟩;exact⟨_,_,_,A0 _ rfl⟩
def oP:∀(n:Nat)(lo:Int)(a:SX),a.length=n->(∀(i:Nat)(v:Value),a[i]?=J v->∃t,v=.int (lo+i) t)->aL ((List.range n).map λi=>V.int (lo+(i:Nat))) a
 |0,lo,a,hl,_=>by cases a with|nil=>exact .nil|cons _ _=>simp at hl
 |n+1,lo,a,hl,h=>by
  cases a with
  |nil=>simp at hl
  |cons u a =>
   rw[QN,nc,wu];obtain⟨t,e⟩:=h 0 u rfl;refine .cons ⟨t,e⟩ ?_;have j:=oP n (lo+1) a (by simpa using hl) λi v hv=>by
    obtain⟨t,e⟩:=h (i+1) v (by simpa using hv);exact⟨t,by rw[e];congr 1;push_cast;ext⟩
   have e2:((λi=>V.int (lo+((i:Nat):Int)))∘Nat.succ)=λi=>V.int (lo+1+((i:Nat):Int)):=by funext i;simp only[Function.comp];congr 1;push_cast;ext
   rw[e2];exact j
def rZ(L:X.calm=I):dy X (.type "list") (λxs H Q=>∃r j,xs=[.ref r]/\H r=J (.rng 0 j) /\ -(2^62)<=j/\j<2^62/\j.toNat<=sizeLine/\∀l,H l=Y->Q (.ref l) (upd H l (.lst ((List.range j.toNat).map λi=>V.int (0+(i:Nat)))))):=by
 intro U s Z H xs us Q a r ⟨C,j,e,hr,O,M,B,q⟩;subst e
 cases r with
 |cons S E =>
  cases E;cases S;obtain⟨t,u,v,R⟩:=(a.hok C _ hr);refine call_list_range (a.ok.hd L) R (small_one (by ext) (by ext) O M) (by rw[rangeSize_one];split<;>ext) B λh' tk y P kp e z=>?_;have F:=oP _ 0 _ (by exact z.1) λi v hv=>by
   obtain⟨t,e⟩:=z.2 i v (by rw[<-Array.getElem?_toList];exact hv)
   grind
  refine⟨.ref s.heap.objs.size,_,a.laid (o:=.lst _) kp (l_ _) (⟨by simpa using B,y.toList,P,F,by simpa using e⟩),rfl,q _ (a.hok.fresh (l_ _))⟩
def R4(m:Mx (SM)):Mx PV:=λZ h=>(m Z h).bind λi a=>match i with
 |[.int j]=>if -(2^62)<=j/\j<2^62/\j.toNat<=sizeLine then .ok (.loc a.length) (a++[.lst (bD 0 j.toNat)])else .bad
 |_=>.bad
def rc{K:g_}{U:SW}{H:Hp}{lo:Int}:∀(l:SU),RPs K U H (l.map λ(i:Nat)=>PV.int (lo+(i:Int))) (l.map λ(i:Nat)=>V.int (lo+(i:Int)))
 |[]=>.nil
 |i::l=>.cons (.int _) (rc l)
def sV(g:Good X N W G k){a:Expr}{m:Mx (SM)}{i j:Nat}{p F O u:Pos}(R:G[i]?=J "list")(hm:X.mg "list"=Y)(hj:G[j]?=J "range")(P:X.mg "range"=Y)(ha:MA X [a] m)(hs:starEach [a] X.env=[(T,eval a X.env)]:=by rfl)(he:starEach [.Call (.Name "range" F) [a] [] u] X.env=[(T,eval (.Call (.Name "range" F) [a] [] u) X.env)]:=by rfl):ME X (.Call (.Name "list" p) [.Call (.Name "range" F) [a] [] u] [] O) (R4 m):=by
 have d:=g.dbg _ (xf _ (aM R));refine PE.imp (rO (rZ g.calm) (g.gl _ (aM R)) hm PyProof.Rows.Boot.«list» (cV (zc (g.gl _ (aM hj)) P ha hs) jq he) d.2.2 d.1 he rfl) λZ H Q ⟨U,E,h,rs,rh,q⟩=>?_;refine⟨U,E,h,rs,rh,Ful.bind q λU1 H1 x x' h1 _ l1 C rx y=>?_⟩
 cases rx with
 |nil=>exact y.elim
 |cons S t1 =>
  cases t1 with
  |cons _ _=>cases S<;>exact y.elim
  |nil =>
   cases S with
   |int B =>
    dsimp only at y;by_cases z:-(2^62)<=B/\B<2^62/\B.toNat<=sizeLine
    .rw[e_ z]at y;refine⟨B,rfl,z.1,z.2.1,λr hr=>?_⟩;obtain⟨M,l2⟩:=C.loose hr (.rng 0 B);refine⟨r,B,rfl,aK,z.1,z.2.1,z.2.2,λl hl=>?_⟩;obtain⟨L,l3⟩:=M.new hl (o:=.lst (bD 0 B.toNat)) ⟨_,rfl,rc _⟩;exact y _ _ _ (l2.trans l3) L (.loc (by rw[<-C.len];simp))
    .rw[h8 z]at y;exact y.elim
   |_=>exact y.elim
end
end MM
namespace SetT
open PySem.SetTable
def base(M:Nat)(h:Int):Nat->Nat×Nat
 |0=>(bits h % (M+1),bits h)
 |b+1=>leap M (base M h b).1 (base M h b).2
end SetT
namespace SortT
open PyProof.Rows
end SortT
namespace SortT
open PyProof.Rows SetT PySem.W
section
variable{prog:Program}{w:World}{A:Around}{E:SK}{s:Shared}
def pB(l:h.get? a=J (seqObj "list" vs.toArray n))(i:Array Value):∃c,(sortedHeap h a vs i).get? a=J (seqObj "list" i c):=by obtain⟨e1,j⟩:∃e1,(h.update a (Obj.mapSeq λ_=>(#[]:Array Value))).get? a=J (seqObj "list" #[] e1):=⟨_,get?_update_seq l λ_=>#[]⟩;exact⟨_,get?_update_seq (n3 _ (n3 _ j)) λ_=>i⟩
def ou(j:b≠a)(l:h.get? b=J o)(i:Array Value):(sortedHeap h a vs i).get? b=J o:=by unfold sortedHeap;rw[JX _ _ _ _ j];exact n3 _ (n3 _ ((JX _ _ _ _ j).trans l))
end
end SortT
namespace MM
open PySem.Spec PyProof.Rows L2 SetT SortT
def Fp{K:g_}{U:SW}{H:Hp}:∀{k:SS}{ys:List V},RPs K U H (k.map PV.int) ys->ys=k.map V.int
 |[],ys,h=>by cases h;rfl
 |i::k,ys,h=>by
  cases h with
  |cons r t =>
   cases r;rw[Fp t];rfl
section
variable{X:Cx}{N W G:SQ}{k:Nat}
def jF(h:MH):PV->Option (SM)
 |.frl xs=>J xs
 |.loc n=>(match h[n]? with
  |some (.lst xs)=>J xs
  |_=>Y)
 |_=>Y
def Dw{U:SW}{H:Hp}{h:MH}{x:PV}{y:V}{xs:SM}{K:g_}{mg:BS}(C:RH K mg U H h)(r:RP K U H x y)(e:jF h x=J xs):∃a i,y=.ref a/\SqL K H a i/\RPs K U H xs i:=by
 cases r with
 |frl s r=>cases e;exact⟨_,_,rfl,s.sq,r⟩
 |@loc n a z =>
  obtain⟨o,l,B⟩:=C.obj z;unfold jF at e;dsimp only at e;rw[l]at e
  cases o with
  |lst i =>
   cases e;obtain⟨ys,j,u⟩:=B;exact⟨a,ys,rfl,SqL.of j,u⟩
  |_=>cases e
 |_=>cases e
end
end MM
namespace SeqT
abbrev CJ(tp:Bool):String:=if tp then "tuple_iterator" else "list_iterator"
abbrev Q7(tp:Bool):String:=if tp then "tuple" else "list"
def SqI(j:Bool)(h:Heap)(l a:Addr)(i:Nat):Prop:=∃o,h.get? l=J o/\o.cls=.type (CJ j)/\o.data=.fields #[.ref a,.int i 0]
def SqO(i:Bool)(h:Heap)(a:Addr)(xs:Array Value):Prop:=∃o,h.get? a=J o/\o.cls=.type (Q7 i)/\∃n,o.data=.seq xs n
def SqI.at'(x:SqI tp h it a i)(k:∀o,h.get? it=J o->h'.get? it=J o):SqI tp h' it a i:=let⟨o,e,r⟩:=x;⟨o,k o e,r⟩
def SqO.at'(x:SqO tp h a xs)(k:∀o,h.get? a=J o->h'.get? a=J o):SqO tp h' a xs:=let⟨o,e,r⟩:=x;⟨o,k o e,r⟩
def SqI.lt(x:SqI tp h it a i):it<h.objs.size:=let⟨_,e,_⟩:=x;pk e
section
variable{prog:Program}{w:World}{A:Around}{E:SK}{s:Shared}
def jG(G:SqI tp s.heap it a i)(y:SqO tp s.heap a xs)(H:xs[i]?=J x)(B:∀u,SqI tp u it a (i+1)->Heap.SameBut it s.heap u->Q x { s with heap:=u}):wpAny (model prog w) A (Builtin.SmallTypes.nextOf (.ref it)) Q E s:=by
 cases tp with
 |false=>exact wpAny_nextOf_list_item (G) (y) H B
 |true =>
  obtain⟨o,e,z,hd⟩:=id G;obtain⟨L,j,_,M,l⟩:=y;have C:s.TypeIs (.ref it) "tuple_iterator":=⟨o,e,z⟩;refine hG (wpAny_callSpecial?_slot C F.slot_tuple_iterator_next (wpAny_call_entry F.slot_tuple_iterator_next C F.entry_tuple_iterator_next ?_ (F.args_tuple_iterator_next_1 _)));show wpAny _ _ (field (.ref it) 0 >>= _) _ _ s;refine hG (wpAny_field e hd rfl ?_);refine hG (wpAny_field e hd rfl ?_);refine hG (wpAny_seqItems j l ?_);simp only[B2,H];refine hG (wpAny_setField e hd (by simp) (o_ ⟨x,rfl,o_ (B _ ?_ (Heap.SameBut.update ..))⟩));exact⟨_,M3 _ e (Obj.isFreed_of_fields (Obj.data_mapFields hd _)),(Obj.cls_mapFields ..).trans z,by rw[Obj.data_mapFields hd];simp[rawInt]⟩
def kY(H:A.handled=Y)(B:SqI tp s.heap it a i)(y:SqO tp s.heap a xs)(C:xs[i]?=Y)(G:∀u e,Heap.ExtBut it s.heap u->(∃o,u.get? e=J o/\o.cls=.type "StopIteration")->E (.ref e) { s with heap:=u}):wpAny (model prog w) A (Builtin.SmallTypes.nextOf (.ref it)) Q E s:=by
 cases tp with
 |false=>exact wpAny_nextOf_list_end H (B) (y) C G
 |true =>
  obtain⟨o,e,L,hd⟩:=id B;obtain⟨M,j,_,O,l⟩:=y;have z:s.TypeIs (.ref it) "tuple_iterator":=⟨o,e,L⟩;refine hG (wpAny_callSpecial?_slot z F.slot_tuple_iterator_next (wpAny_call_entry F.slot_tuple_iterator_next z F.entry_tuple_iterator_next ?_ (F.args_tuple_iterator_next_1 _)));show wpAny _ _ (field (.ref it) 0 >>= _) _ _ s;refine hG (wpAny_field e hd rfl ?_);refine hG (wpAny_field e hd rfl ?_);refine hG (wpAny_seqItems j l ?_);simp only[B2,C];refine hG (wpAny_rule (hG (wpAny_setField e hd (by simp) ?_)));refine hG ?_;refine hG (m:=firstArgMember _ _) (wpAny_of_eq (by first | rfl | (simp only)) ?_);refine wpAny_newObj_type ?_ (by size_fits);refine hG (wpAny_handled ?_);rw[show A.in1.handled=Y from H];refine hG (o_ (wpAny_throw ?_));exact G _ _ (((Heap.SameBut.update ..).extBut.push _).push _) ⟨_,A0 _ rfl,rfl⟩
def kK(i:SqO tp s.heap a xs)(j:Q (.ref s.heap.objs.size) { s with heap:=s.heap.push { cls:=.type (CJ tp),data:=.fields #[.ref a,.int 0 0]}}):wpAny (model prog w) A (pyIter (.ref a)) Q E s:=by
 cases tp with
 |false=>exact wpAny_pyIter_list (i) j
 |true=>exact wpAny_pyIter_tuple (i) j
end
def Lm(L:A.handled=Y)(z:Bool)(l a:Addr)(y:a≠l)(xs:Array Value):
  Draws prog w A l [l,a] xs.size (λi v=>xs[i]?=J v) (λi h=>SqI z h l a i/\SqO z h a xs) where
 live:=λ_ _ st=>let⟨o,G,_⟩:=st.1;⟨o,G⟩
 frame:=λ_ _ _ st B=>⟨st.1.at' λo e=>B l (by simp) o e,st.2.at' λo e=>B a (by simp) o e⟩
 item:=λi s Q E M st C=>by
  refine jG st.1 st.2 (x:=xs[i]) (by simp) λF u j=>?_;exact C _ F s.toks (by simp) ⟨u,st.2.at' λo e=>(j.2 a y).trans e⟩ j
 done:=λs Q E st H=>kY L st.1 st.2 (by simp) H
def A1(i:Bool)(a:Addr)(xs:Array Value)(n:Nat)(j:Sr)(u:Array (SD)):
  Meets (Builtin.«enumerate.__new__» ⟨[.type "enumerate",.ref a],[]⟩) (λ_ R s=>s.heap.get? a=J { cls:=.type (Q7 i),dict:=j,data:=.seq xs n,slots:=u} /\
   R (.ok (.ret (.ref (s.heap.push { cls:=.type (CJ i),data:=.fields #[.ref a,.int 0 0]}).objs.size)))
    { s with heap:=(s.heap.push { cls:=.type (CJ i),data:=.fields #[.ref a,.int 0 0]}).push { cls:=.type "enumerate",data:=.fields #[.none,.bool T,.ref s.heap.objs.size,rawInt 0,.none,.none]}}) :=
 .of_wp λprog w A R s h=>by
  obtain⟨y,g,d,tk,os⟩:=s;obtain⟨hl,h⟩:=h;have l:=sub_enumerate;have hL:SqO i (Shared.heap ⟨y,g,d,tk,os⟩) a xs:=⟨_,hl,rfl,n,rfl⟩
  wp_walk using AutoSeq1.wpAny_loadPart' hl
  refine wpAny_stack_any λst=>o_ ?_;split
  .rename_i c _ _ _ _ _
   cases(c==Value.type "enumerate")
   .wp_walk using AutoSeq1.wpAny_loadPart' hl,kK hL
    exact⟨_,rfl,h⟩
   .wp_walk using AutoSeq1.wpAny_loadPart' hl,kK hL
    exact⟨_,rfl,h⟩
  .wp_walk using AutoSeq1.wpAny_loadPart' hl,kK hL
   exact⟨_,rfl,h⟩
section
variable{prog:Program}{w:World}{A:Around}{E:SK}{s:Shared}
def yI(hL:SqO tp s.heap a xs)(h:∀i,IsEnum i (s.heap.objs.size+1) s.heap.objs.size 0 .none->SqI tp i s.heap.objs.size a 0->i.objs.size=s.heap.objs.size+2 ->
   (∀b o,s.heap.get? b=J o->i.get? b=J o)->Q (.ref (s.heap.objs.size+1)) { s with heap:=i}):
  wpAny (model prog w) A (call (.type "enumerate") [.ref a]) Q E s:=by
 obtain⟨⟨c,j,B,z⟩,hl,y,n,hd⟩:=hL;subst y hd;refine callType_new F.called_enumerate (by decide) (F.typeCall_enumerate_1 _) (F.newCall_enumerate_1 _) (λobj=>F.args_object_init_2 obj _) F.entry_enumerate_new (A1 tp a xs n j z) ⟨hl,?_⟩;have l:(s.heap.push { cls:=.type (CJ tp),data:=.fields #[.ref a,.int 0 0]}).objs.size=s.heap.objs.size+1:=Cc ..;rw[l]
 have u:IsEnum ((s.heap.push { cls:=.type (CJ tp),data:=.fields #[.ref a,.int 0 0]}).push
   { cls:=.type "enumerate",data:=.fields #[.none,.bool T,.ref s.heap.objs.size,rawInt 0,.none,.none]}) (s.heap.objs.size+1) s.heap.objs.size 0 .none:=by
  have:=A0 (s.heap.push { cls:=.type (CJ tp),data:=.fields #[.ref a,.int 0 0]})
   (o:={ cls:=.type "enumerate",data:=.fields #[.none,.bool T,.ref s.heap.objs.size,rawInt 0,.none,.none]}) rfl
  rw[l]at this;exact this
 exact⟨⟨_,u,rfl⟩,h _ u ⟨_,n3 _ (A0 _ rfl),rfl,rfl⟩ (by rw[Cc,l]) λb o x=>n3 _ (n3 _ x)⟩
end
section
variable{prog:Program}{w:World}{A:Around}{E:SK}{s:Shared}{z TI TO i1 i2 l1 l2:Addr}{t1 t2:Bool}{k1 k2:Nat}{xs ys:Array Value}
def zy{x y a b:Value}{Q:SK}(D:ZipApart z TI TO i1 i2 l1 l2)(X:IsZip s.heap z TI TO .none)(a0:IsPair s.heap TI (.ref i1) (.ref i2))(a1:IsPair s.heap TO a b)(h1:SqI t1 s.heap i1 l1 k1)(h2:SqI t2 s.heap i2 l2 k2)(ap:SqO t1 s.heap l1 xs)(ak:SqO t2 s.heap l2 ys)(hx:xs[k1]?=J x)(hy:ys[k2]?=J y)(hQ:∀C,IsZip C z TI TO (rawInt s.heap.objs.size)->IsPair C TO x y->SqI t1 C i1 l1 (k1+1)->SqI t2 C i2 l2 (k2+1)->IsPair C s.heap.objs.size x y->C.objs.size=s.heap.objs.size+1 ->
   (∀c o,c≠z->c≠TO->c≠i1->c≠i2->s.heap.get? c=J o->C.get? c=J o)->Q (.ref s.heap.objs.size) { s with heap:=C}):
  wpAny (model prog w) A (Builtin.«zip.__next__» ⟨[.ref z],[]⟩) (λfin s'=>∃v,fin=.done (.ret v)/\Q v s') E s:=by
 show wpAny _ _ (field (.ref z) 2 >>= _) _ _ _;refine hG (wpAny_field X rfl (x:=.bool T) rfl ?_);refine hG (wpAny_field X rfl (x:=.ref TI) rfl ?_);refine hG (wpAny_seqItems a0 rfl ?_);refine hG ?_;refine hG (wpAny_field X rfl (x:=.none) rfl (o_ ?_));refine hG (wpAny_rule ?_);refine hG (wpAny_field X rfl (x:=.ref TO) rfl ?_);refine hG (wpAny_setField_rec X (by simp) λha a2 sa=>?_);refine hG ?_;refine hG (hG (wpAny_onRaise ?_));refine hG (jG (s:={ s with heap:=ha}) (h1.at' λo e=>(sa.2 _ D.i1z).trans e) (ap.at' λo e=>(sa.2 _ D.l1z).trans e) hx λhb ab u=>o_ ?_);replace u:Heap.SameBut i1 ha hb:=u;have R:IsPair hb TO a b:=(u.2 _ D.TOi1).trans ((sa.2 _ D.TOz).trans a1);refine hG (wpAny_seqItems R rfl ?_);refine hG (wpAny_updateSeq_pair R λhc O B=>?_);replace O:IsPair hc TO x b:=O;replace B:Heap.SameBut TO hb hc:=B;refine hG (wpAny_letGo (o_ ?_));refine hG (hG (wpAny_onRaise ?_));show wpAny _ _ (Builtin.SmallTypes.nextOf (.ref i2) >>= _) _ _ _
 refine hG (jG (s:={ s with heap:=hc}) (h2.at' λo e=>(B.2 _ D.TOi2.symm).trans ((u.2 _ D.i12.symm).trans ((sa.2 _ D.i2z).trans e)))
  (ak.at' λo e=>(B.2 _ D.l2TO).trans ((u.2 _ D.l2i1).trans ((sa.2 _ D.l2z).trans e))) hy λhd ar H=>o_ ?_)
 replace H:Heap.SameBut i2 hc hd:=H;have P:IsPair hd TO x b:=(H.2 _ D.TOi2).trans O;refine hG (wpAny_seqItems P rfl ?_);refine hG (wpAny_updateSeq_pair P λi l G=>?_);replace l:IsPair i TO x y:=l;replace G:Heap.SameBut TO hd i:=G;refine hG (wpAny_letGo (o_ (o_ ?_)));refine hG (wpAny_seqItems l rfl ?_);refine hG (wpAny_newTuple ?_);have U:i.objs.size=s.heap.objs.size:=by rw[G.1,H.1,B.1,u.1,sa.1]
 have W:IsZip i z TI TO .ellipsis:=(G.2 _ D.TOz.symm).trans ((H.2 _ D.i2z.symm).trans ((B.2 _ D.TOz.symm).trans ((u.2 _ D.i1z.symm).trans a2)));have an:∀c o,c≠z->c≠TO->c≠i1->c≠i2->s.heap.get? c=J o->i.get? c=J o:=λc o M c2 c3 c4 e =>
  (G.2 _ c2).trans ((H.2 _ c4).trans ((B.2 _ c2).trans ((u.2 _ c3).trans ((sa.2 _ M).trans e))))
 have as:SqI t1 i i1 l1 (k1+1):=ab.at' λo e=>(G.2 _ D.TOi1.symm).trans ((H.2 _ D.i12).trans ((B.2 _ D.TOi1.symm).trans e));have al:SqI t2 i i2 l2 (k2+1):=ar.at' λo e=>(G.2 _ D.TOi2.symm).trans e;have F:z<i.objs.size:=pk W;show wpAny _ _ (Builtin.SmallTypes.ownedTupleHandOut (.ref z) (.ref i.objs.size) >>= _) _ _ _;refine hG ?_;unfold Builtin.SmallTypes.ownedTupleHandOut;have ai:IsZip (i.push { cls:=.type "tuple",data:=.seq #[x,y]}) z TI TO .ellipsis:=n3 _ W;refine hG (wpAny_setField_rec ai (by simp) λhg L sg=>?_);replace L:IsZip hg z TI TO (rawInt i.objs.size):=L;refine wpAny_setField_rec L (by simp) λhh j sh=>?_;replace j:IsZip hh z TI TO (rawInt i.objs.size):=j;have up:∀c o,c≠z->i.get? c=J o->hh.get? c=J o:=λc o M e=>(sh.2 _ M).trans ((sg.2 _ M).trans (n3 _ e));have S:IsPair hh i.objs.size x y:=(sh.2 _ (BP F)).trans ((sg.2 _ (BP F)).trans (A0 _ rfl));have Z:hh.objs.size=i.objs.size+1:=by rw[sh.1,sg.1,Cc]
 rw[U]at j S Z;refine o_ ⟨_,rfl,?_⟩;show Q (.ref i.objs.size) _;rw[U];exact hQ hh j (up _ _ D.TOz l) (as.at' λo e=>up _ o D.i1z e) (al.at' λo e=>up _ o D.i2z e) S Z λc o M c2 c3 c4 e=>up c o M (an c o M c2 c3 c4 e)
def zR(hh:A.handled=Y)(D:ZipApart z TI TO i1 i2 l1 l2)(M:IsZip s.heap z TI TO .none)(ab:IsPair s.heap TI (.ref i1) (.ref i2))(ai:IsPair s.heap TO a b)(h1:SqI t1 s.heap i1 l1 k1)(h2:SqI t2 s.heap i2 l2 k2)(G:SqO t1 s.heap l1 xs)(S:SqO t2 s.heap l2 ys)(O:xs[k1]?=Y\/ys[k2]?=Y)(hE:∀W e,(∀c o,c≠z->c≠TO->c≠i1->c≠i2->s.heap.get? c=J o->W.get? c=J o)->(∃o,W.get? e=J o/\o.cls=.type "StopIteration")->E (.ref e) { s with heap:=W}):
  wpAny (model prog w) A (Builtin.«zip.__next__» ⟨[.ref z],[]⟩) Q E s:=by
 show wpAny _ _ (field (.ref z) 2 >>= _) _ _ _;refine hG (wpAny_field M rfl (x:=.bool T) rfl ?_);refine hG (wpAny_field M rfl (x:=.ref TI) rfl ?_);refine hG (wpAny_seqItems ab rfl ?_);refine hG ?_;refine hG (wpAny_field M rfl (x:=.none) rfl (o_ ?_));refine hG (wpAny_rule ?_);refine hG (wpAny_field M rfl (x:=.ref TO) rfl ?_);refine hG (wpAny_setField_rec M (by simp) λX P sa=>?_);refine hG ?_;refine hG (hG (wpAny_onRaise ?_));show wpAny _ _ (Builtin.SmallTypes.nextOf (.ref i1) >>= _) _ _ _
 cases hx:xs[k1]? with
 |none =>
  refine hG (kY (s:={ s with heap:=X}) hh (h1.at' λo e=>(sa.2 _ D.i1z).trans e) (G.at' λo e=>(sa.2 _ D.l1z).trans e) hx λC e l he=>?_);obtain⟨Z,i,j⟩:=he;have F:IsZip C z TI TO .ellipsis:=l _ _ D.i1z.symm P;have y:e≠z:=λq=>by subst q;rw[F]at i;cases i;simp at j
  exact wpAny_setField_rec F (by simp) λR _ u=>hE R e (λc o L _ U _ q=>(u.2 _ L).trans (l _ _ U ((sa.2 _ L).trans q))) ⟨Z,(u.2 _ y).trans i,j⟩
 |some x =>
  have hy:ys[k2]?=Y:=by
   rcases O with q|q
   .rw[hx]at q;cases q
   .exact q
  refine hG (jG (s:={ s with heap:=X}) (h1.at' λo e=>(sa.2 _ D.i1z).trans e) (G.at' λo e=>(sa.2 _ D.l1z).trans e) hx λC ak l=>o_ ?_);replace l:Heap.SameBut i1 X C:=l;have H:IsPair C TO a b:=(l.2 _ D.TOi1).trans ((sa.2 _ D.TOz).trans ai);refine hG (wpAny_seqItems H rfl ?_);refine hG (wpAny_updateSeq_pair H λR al u=>?_);replace u:Heap.SameBut TO C R:=u;refine hG (wpAny_letGo (o_ ?_));refine hG (hG (wpAny_onRaise ?_));show wpAny _ _ (Builtin.SmallTypes.nextOf (.ref i2) >>= _) _ _ _
  refine hG (kY (s:={ s with heap:=R}) hh (h2.at' λo e=>(u.2 _ D.TOi2.symm).trans ((l.2 _ D.i12.symm).trans ((sa.2 _ D.i2z).trans e)))
   (S.at' λo e=>(u.2 _ D.l2TO).trans ((l.2 _ D.l2i1).trans ((sa.2 _ D.l2z).trans e))) hy λhd e sd he=>?_)
  obtain⟨Z,i,j⟩:=he;have B:IsZip hd z TI TO .ellipsis:=sd _ _ D.i2z.symm ((u.2 _ D.TOz.symm).trans ((l.2 _ D.i1z.symm).trans P));have y:e≠z:=λq=>by subst q;rw[B]at i;cases i;simp at j
  exact wpAny_setField_rec B (by simp) λhf _ sf=>hE hf e (λc o L c2 U c4 q=>(sf.2 _ L).trans (sd _ _ c4 ((u.2 _ c2).trans ((l.2 _ U).trans ((sa.2 _ L).trans q))))) ⟨Z,(sf.2 _ y).trans i,j⟩
def AK(D:ZipApart z TI TO i1 i2 l1 l2)(G:IsZip s.heap z TI TO .none)(u:IsPair s.heap TI (.ref i1) (.ref i2))(B:IsPair s.heap TO a b)(S:SqI t1 s.heap i1 l1 k1)(P:SqI t2 s.heap i2 l2 k2)(l:SqO t1 s.heap l1 xs)(j:SqO t2 s.heap l2 ys)(W:xs[k1]?=J x)(hy:ys[k2]?=J y)(M:∀i,IsZip i z TI TO (rawInt s.heap.objs.size)->IsPair i TO x y->SqI t1 i i1 l1 (k1+1)->SqI t2 i i2 l2 (k2+1)->IsPair i s.heap.objs.size x y->i.objs.size=s.heap.objs.size+1 ->
   (∀c o,c≠z->c≠TO->c≠i1->c≠i2->s.heap.get? c=J o->i.get? c=J o)->Q (J (.ref s.heap.objs.size)) { s with heap:=i}):
  wpAny (model prog w) A (pyNext (.ref z)) Q E s:=by
 have C:s.TypeIs (.ref z) "zip":=⟨_,G,rfl⟩
 exact hG (wpAny_attempt (wpAny_callSpecial?_slot C F.slot_zip_next
  (wpAny_call_entry F.slot_zip_next C F.entry_zip_next (zy D G u B S P l j W hy λi O U R H Z L X=>o_ (M i O U R H Z L X)) (F.args_zip_next_1 _))))
def Dx(U:A.handled=Y)(D:ZipApart z TI TO i1 i2 l1 l2)(G:IsZip s.heap z TI TO .none)(y:IsPair s.heap TI (.ref i1) (.ref i2))(B:IsPair s.heap TO a b)(P:SqI t1 s.heap i1 l1 k1)(M:SqI t2 s.heap i2 l2 k2)(l:SqO t1 s.heap l1 xs)(j:SqO t2 s.heap l2 ys)(i:xs[k1]?=Y\/ys[k2]?=Y)(L:∀u,(∀c o,c≠z->c≠TO->c≠i1->c≠i2->s.heap.get? c=J o->u.get? c=J o)->Q Y { s with heap:=u}):wpAny (model prog w) A (pyNext (.ref z)) Q E s:=by
 have C:s.TypeIs (.ref z) "zip":=⟨_,G,rfl⟩
 refine hG (wpAny_attempt (wpAny_callSpecial?_slot C F.slot_zip_next
  (wpAny_call_entry F.slot_zip_next C F.entry_zip_next (zR U D G y B P M l j i λu e O S=>?_) (F.args_zip_next_1 _))))
 obtain⟨o,R,H⟩:=S;refine hG (wpAny_isInstance ⟨o,R,H⟩ isSubtype_stop ?_);exact o_ (L _ O)
end
abbrev zA(t1:Bool)(h:Heap)(l1:Addr):Heap:=h.push { cls:=.type (CJ t1),data:=.fields #[.ref l1,.int 0 0]}
abbrev zB(t1 t2:Bool)(h:Heap)(l1 l2:Addr):Heap:=(zA t1 h l1).push { cls:=.type (CJ t2),data:=.fields #[.ref l2,.int 0 0]}
abbrev zC(t1 t2:Bool)(h:Heap)(l1 l2:Addr):Heap:=(zB t1 t2 h l1 l2).push { cls:=.type "tuple",data:=.seq #[.ref h.objs.size,.ref (zA t1 h l1).objs.size]}
abbrev zD(t1 t2:Bool)(h:Heap)(l1 l2:Addr):Heap:=(zC t1 t2 h l1 l2).push { cls:=.type "tuple",data:=.seq #[.none,.none]}
abbrev zE(t1 t2:Bool)(h:Heap)(l1 l2:Addr):Heap:=(zD t1 t2 h l1 l2).push { cls:=.type "zip",data:=.fields #[.none,.bool T,.bool T,.ref (zB t1 t2 h l1 l2).objs.size,.ref (zC t1 t2 h l1 l2).objs.size]}
def Dy(i t2:Bool)(a j:Addr)(xs ys:Array Value):
  Meets (Builtin.«zip.__new__» ⟨[.type "zip",.ref a,.ref j],[]⟩) (λ_ R s=>SqO i s.heap a xs/\SqO t2 s.heap j ys/\R (.ok (.ret (.ref (zD i t2 s.heap a j).objs.size))) { s with heap:=zE i t2 s.heap a j}) :=
 .of_wp λprog w A R s h=>by
  obtain⟨C,g,d,tk,os⟩:=s;obtain⟨u,l,h⟩:=h;have B:=sub_zip;have y:SqO i (Shared.heap ⟨C,g,d,tk,os⟩) a xs:=u;have z:SqO t2 (Shared.heap ⟨C.push { cls:=.type (CJ i),data:=.fields #[.ref a,.int 0 0]},g,d,tk,os⟩) j ys:=l.at' λo e=>n3 _ e
  wp_walk using kK y,kK z
  exact⟨_,rfl,h⟩
section
variable{prog:Program}{w:World}{A:Around}{E:SK}{s:Shared}
def Bb(z:SqO t1 s.heap l1 xs)(u:SqO t2 s.heap l2 ys)(h:∀a,IsZip a (s.heap.objs.size+4) (s.heap.objs.size+2) (s.heap.objs.size+3) .none->IsPair a (s.heap.objs.size+2) (.ref s.heap.objs.size) (.ref (s.heap.objs.size+1)) ->
   IsPair a (s.heap.objs.size+3) .none .none->SqI t1 a s.heap.objs.size l1 0->SqI t2 a (s.heap.objs.size+1) l2 0->a.objs.size=s.heap.objs.size+5 ->
   (∀c o,s.heap.get? c=J o->a.get? c=J o)->Q (.ref (s.heap.objs.size+4)) { s with heap:=a}):
  wpAny (model prog w) A (call (.type "zip") [.ref l1,.ref l2]) Q E s:=by
 refine callType_new F.called_zip (by decide) (F.typeCall_zip_2 _ _) (F.newCall_zip_2 _ _) (λobj=>F.args_object_init_3 obj _ _) F.entry_zip_new (Dy t1 t2 l1 l2 xs ys) ⟨z,u,?_⟩;have z1:(zA t1 s.heap l1).objs.size=s.heap.objs.size+1:=Cc ..;have y:(zB t1 t2 s.heap l1 l2).objs.size=s.heap.objs.size+2:=by rw[Cc,z1]
 have l:(zC t1 t2 s.heap l1 l2).objs.size=s.heap.objs.size+3:=by rw[Cc,y]
 have i:(zD t1 t2 s.heap l1 l2).objs.size=s.heap.objs.size+4:=by rw[Cc,l]
 have H:(zE t1 t2 s.heap l1 l2).objs.size=s.heap.objs.size+5:=by rw[Cc,i]
 have j:(zE t1 t2 s.heap l1 l2).get? (zD t1 t2 s.heap l1 l2).objs.size=J _:=A0 _ rfl;have C:(zE t1 t2 s.heap l1 l2).get? (zC t1 t2 s.heap l1 l2).objs.size=J _:=n3 _ (A0 _ rfl);have B:(zE t1 t2 s.heap l1 l2).get? (zB t1 t2 s.heap l1 l2).objs.size=J _:=n3 _ (n3 _ (A0 _ rfl));have G:(zE t1 t2 s.heap l1 l2).get? (zA t1 s.heap l1).objs.size=J _:=n3 _ (n3 _ (n3 _ (A0 _ rfl)));have L:(zE t1 t2 s.heap l1 l2).get? s.heap.objs.size=J _:=n3 _ (n3 _ (n3 _ (n3 _ (A0 _ rfl))));rw[y,l,i]at j;rw[z1,y]at B;rw[l]at C;rw[z1]at G;rw[i]
 exact⟨⟨_,j,rfl⟩,h _ j B C ⟨_,L,rfl,rfl⟩ ⟨_,G,rfl,rfl⟩ H λc o x =>
  n3 _ (n3 _ (n3 _ (n3 _ (n3 _ x))))⟩
end
end SeqT
namespace MM
open PySem.Spec PyProof.Rows L2 SeqT
def B4(i:Bool)(K:g_)(H:Hp)(a:Addr)(ys:List V):Prop:=match i with
 |true=>SqT K H a ys
 |false=>SqL K H a ys
section
variable{X:Cx}{K4:List (Addr × Obj)}{Z:L2.St}{H:Hp}{s:Shared}
def gz(j:Inv X K4 Z H s)(h:B4 tp X.K H a ys):∃i:SX,aL ys i/\SqO tp s.heap a i.toArray/\ys.length<=sizeLine:=by
 cases tp with
 |true =>
  obtain⟨i,l,y,u⟩:=j.tuple h;exact⟨i,l,y,u⟩
 |false =>
  obtain⟨i,l,y,u⟩:=j.list h;exact⟨i,l,y.isList,u⟩
def pS(i:Inv X K4 Z H s)(h:B4 tp X.K H a xs)(j:B4 tp X.K H a ys):xs=ys:=by
 cases tp with
 |true=>exact i.tuple_inj h j
 |false=>exact i.list_inj h j
def lq(i:Inv X K4 Z H s){y:Heap}{t':Nat}{l:SW}(hf:∀b∈l,jd X K4 H b)(k:∀b o,b∉l->s.heap.get? b=J o->y.get? b=J o):
  Inv X K4 Z H { s with heap:=y,toks:=t'}:=by
 have j:∀b u,H b=J u->b∉l:=λb u e z=>by rw[(hf b z).1]at e;cases e
 refine i.step (g':=s.gens) (d':=s.drawn) (λb E=>?_) (λb o _ _ a e _=>k b o a e) (λb o _ _ a e _=>⟨o.slots,k b o a e⟩) (λ_ _ _ _ n=>n)
  (λb o a e=>⟨o,k b o a e⟩) (λ_ _ e=>e) (λ_ _ _ e=>e) (λb Q e=>⟨#[],by rw[e];simp⟩) (λm F=>?_) (λb u e=>?_) i.bare
 .obtain⟨R,M,S,B,L,O⟩:=hf b E;exact⟨B,M,L,O⟩
 .obtain⟨o,C,G,P,r⟩:=F;exact⟨o,C,G,k _ o (λz=>(hf _ z).2.1 rfl) P,r⟩
 .refine (i.hok b u e).stay (λc v a q=>k c v ?_ q) (λ_ q=>q) λ_ _ q=>q;rcases a with z|z
  .rw[z];exact j b u e
  .exact j c _ z
def wd(j:Inv X K4 Z H s){h':Heap}{t':Nat}{ch:SW}{ys:List V}{its:SX}(hf:∀b∈ch,jd X K4 H b)(E:aL ys its)(F:ys.length<=sizeLine)(B:s.heap.objs.size∉ch)(L:h'.get? s.heap.objs.size=J { cls:=.type "tuple",data:=.seq its.toArray})(k:∀b o,b∉ch->s.heap.get? b=J o->h'.get? b=J o):
  Inv X K4 Z (upd H s.heap.objs.size (.tup ys)) { s with heap:=h',toks:=t'}/\(∀b∈ch,(upd H s.heap.objs.size (.tup ys)) b=Y)/\H s.heap.objs.size=Y:=by
 have C:=j.hok.fresh (l_ s.heap.objs.size);have l:∀b∈ch,b≠s.heap.objs.size:=λb a z=>B (by rw[<-z];exact a);have G:Inv X K4 Z (upd H s.heap.objs.size (.tup ys)) { s with heap:=s.heap.push { cls:=.type "tuple",data:=.seq its.toArray},toks:=s.toks} :=
  j.laid (λb u q=>n3 _ q) (l_ _) ⟨F,its,E,_,A0 _ rfl,rfl,⟨_,rfl⟩,rfl⟩
 have i:∀b∈ch,(upd H s.heap.objs.size (.tup ys)) b=Y:=λb a=>by rw[az (l b a)];exact(hf b a).1
 refine⟨?_,i,C⟩;refine lq (t':=t') G (λb a=>⟨i b a,(hf b a).2⟩) λb o a e=>?_;by_cases z:b=s.heap.objs.size
 .have y:(s.heap.push { cls:=.type "tuple",data:=.seq its.toArray}).get? s.heap.objs.size=J { cls:=.type "tuple",data:=.seq its.toArray}:=A0 _ rfl
  grind
 .have y:=e;rw[Heap.get?_push_ne _ _ _ z]at y;exact k b o a y
end
def R5(K:g_)(j:Bool)(a:Addr):It :=
 ⟨λi H=>∃ys y,B4 j K H a ys/\ys[i]?=J y,λi H x l=>∃p y,H p=Y/\x=.ref p/\l=upd H p (.tup [.int i,y])/\∀ys,B4 j K H a ys->ys[i]?=J y,λi H=>∃ys,B4 j K H a ys/\ys.length<=i⟩
def zv{P:Program}{w:World}{K:g_}{S:SG}{x1:Nat}{a1:Pos}(tp:Bool)(a e l:Addr)(L:e≠l)(an:a≠e)(ak:a≠l):
  B6 P w K (.Tuple S x1 a1) (R5 K tp a) [e,l] e (λi h=>(∃old,IsEnum h e l i old)/\SqI tp h l a i) where
 mem:=by simp
 obj:=λi h st b R=>by
  obtain⟨⟨old,B⟩,F⟩:=st
  have:b=e\/b=l:=by simpa using R
  rcases this with rfl|rfl
  .exact⟨_,B,λv z=>nomatch z⟩
  .obtain⟨o,ho,hc,hd⟩:=F;exact⟨o,ho,λv z=>by rw[hd]at z;cases z⟩
 keep:=λi h h' st k=>let⟨⟨old,B⟩,F⟩:=st;⟨⟨old,k e (by simp) _ B⟩,F.at' λo q=>k l (by simp) o q⟩
 item:=by
  intro X hP hw hK hc i K4 s Z H E j hf st hg;subst hP hw hK;obtain⟨⟨old,B⟩,F⟩:=st;obtain⟨ys,y,hq,hy⟩:=hg;obtain⟨C,rv,so,hz⟩:=gz j hq;obtain⟨u,hu,ru⟩:=rv.get hy;have a7:i<C.toArray.size:=by
   have:=(qi.mp hu).1
   simpa using this
  have O:(X.A.in1).handled=Y:=by have:=j.ok.hd hc;simpa using this
  refine wpAny_pyNext_enum_itemD (Lm O tp l a ak C.toArray) B ⟨F,so⟩ a7 L (by simp[L,Ne.symm an]) λx h1 tk hx a2 ap ai bm a6=>⟨_,rfl,?_⟩;have a5:x=u:=by
   have:C.toArray[i]?=J u:=by simpa using hu
   rw[this]at hx;exact(Option.some.inj hx).symm
  subst a5;refine wpAny_letOwnedTupleGo_enum (s:={ s with heap:=h1,toks:=tk+1}) a2 λh2 ar M=>?_;have G:e<s.heap.objs.size:=pk B;have U:l<s.heap.objs.size:=F.lt;obtain⟨I2,a4,al⟩:=wd (t':=tk+1) (h':=h2) j (ch:=[e,l]) (ys:=[.int i,y]) (its:=[.int i tk,x]) hf (.cons ⟨tk,rfl⟩ (.cons ru .nil)) (by rw[sizeLine_eq];show 2<=_;decide)
   (by simp only[qd,Cb,or_false,not_or];exact⟨BP G,BP U⟩)
   ((M.2 _ (BP G)).trans ai)
   (λb o R q=>by
    have W:b≠e:=λz=>R (by simp[z]);have a3:b≠l:=λz=>R (by simp[z])
    exact(M.2 b W).trans (a6 b o W a3 q))
  refine⟨.ref s.heap.objs.size,_,I2,rfl,⟨_,y,al,rfl,rfl,λzs a8=>by rw[pS j a8 hq];exact hy⟩,⟨⟨x,by simpa using ar⟩,?_⟩,a4⟩;exact ap.1.at' λo q=>(M.2 l (Ne.symm L)).trans q
 done:=by
  intro X hP hw hK hc i K4 s Z H E j hf st hg;subst hP hw hK;obtain⟨⟨old,B⟩,F⟩:=st;obtain⟨ys,hq,hy⟩:=hg;obtain⟨C,rv,so,hz⟩:=gz j hq;have O:(X.A.in1).handled=Y:=by have:=j.ok.hd hc;simpa using this
  have a9:=rv.length;have hT:s.TypeIs (.ref e) "enumerate":=⟨_,B,rfl⟩;unfold pyNext;refine hG (wpAny_attempt (wpAny_callSpecial?_slot (name:=Str.ofString "__next__") hT PySem.F.slot_enumerate_next (wpAny_call_entry PySem.F.slot_enumerate_next hT PySem.F.entry_enumerate_next ?_ (PySem.F.args_enumerate_next_1 _))));show wpAny _ _ (field (.ref e) 2 >>= _) _ _ _;refine hG (wpAny_field B rfl (x:=.ref l) rfl ?_);refine hG (kY O F so (by simp;ext) λh1 x a0 ab=>?_);obtain⟨o,ho,as⟩:=ab;refine hG (wpAny_isInstance (T:="StopIteration") (b:=I) ⟨o,ho,as⟩ isSubtype_stop ?_);refine o_ ⟨rfl,lq (t':=s.toks) j hf λb o R q=>a0 b o (λz=>R (by simp[z])) q⟩
 self:=λA i s Q E st h=>let⟨⟨old,B⟩,_⟩:=st;wpAny_pyIter_enum B h
def R6(K:g_)(j t2:Bool)(a b:Addr):It :=
 ⟨λi H=>∃xs ys x y,B4 j K H a xs/\B4 t2 K H b ys/\xs[i]?=J x/\ys[i]?=J y,
   λi H v l=>∃p x y,H p=Y/\v=.ref p/\l=upd H p (.tup [x,y])/\(∀xs,B4 j K H a xs->xs[i]?=J x)/\∀ys,B4 t2 K H b ys->ys[i]?=J y,
   λi H=>∃xs ys,B4 j K H a xs/\B4 t2 K H b ys/\(xs.length<=i\/ys.length<=i)⟩
def Aq{P:Program}{w:World}{K:g_}{ai:SG}{x1:Nat}{a5:Pos}(t1 t2:Bool)(a b z TI TO O M:Addr)(D:ZipApart z TI TO O M a b):
  B6 P w K (.Tuple ai x1 a5) (R6 K t1 t2 a b) [z,TI,TO,O,M] z (λi h=>IsZip h z TI TO .none/\IsPair h TI (.ref O) (.ref M)/\(∃u v,IsPair h TO u v)/\SqI t1 h O a i/\SqI t2 h M b i) where
 mem:=by simp
 obj:=λi h st c B=>by
  obtain⟨L,l,⟨u,v,C⟩,⟨o1,e1,_,d1⟩,⟨o2,e2,_,d2⟩⟩:=st
  have:c=z\/c=TI\/c=TO\/c=O\/c=M:=by simpa using B
  rcases this with rfl|rfl|rfl|rfl|rfl
  .exact⟨_,L,λv z=>nomatch z⟩
  .exact⟨_,l,λv z=>nomatch z⟩
  .exact⟨_,C,λv z=>nomatch z⟩
  .exact⟨o1,e1,λv z=>by rw[d1]at z;cases z⟩
  .exact⟨o2,e2,λv z=>by rw[d2]at z;cases z⟩
 keep:=λi h h' st k=>let⟨L,l,⟨u,v,C⟩,h1,h2⟩:=st
  ⟨k z (by simp) _ L,k TI (by simp) _ l,⟨u,v,k TO (by simp) _ C⟩,h1.at' λo q=>k O (by simp) o q,h2.at' λo q=>k M (by simp) o q⟩
 item:=by
  intro X hP hw hK B i K4 s Z H E j hf st hg;subst hP hw hK;obtain⟨L,l,⟨u,v,C⟩,h1,h2⟩:=st;obtain⟨xs,ys,x,y,G,F,hx,hy⟩:=hg;obtain⟨ak,U,W,a8⟩:=gz j G;obtain⟨al,S,R,a0⟩:=gz j F;obtain⟨u1,a7,a1⟩:=U.get hx;obtain⟨u2,a3,a9⟩:=S.get hy;refine AK D L l C h1 h2 W R (x:=u1) (y:=u2) (by simpa using a7) (by simpa using a3) λha b1 an a2 b0 as b2 ap=>⟨_,rfl,?_⟩;refine wpAny_letOwnedTupleGo_zip (s:={ s with heap:=ha}) b1 λhb bm sb=>?_;have l1:z<s.heap.objs.size:=pk L;have l2:TI<s.heap.objs.size:=pk l;have l3:TO<s.heap.objs.size:=pk C;have l4:O<s.heap.objs.size:=h1.lt;have l5:M<s.heap.objs.size:=h2.lt;have up:∀c o,c≠z->ha.get? c=J o->hb.get? c=J o:=λc o B q=>(sb.2 c B).trans q;obtain⟨I2,a6,a4⟩:=wd (t':=s.toks) (h':=hb) j (ch:=[z,TI,TO,O,M]) (ys:=[x,y]) (its:=[u1,u2]) hf (.cons a1 (.cons a9 .nil)) (by rw[sizeLine_eq];show 2<=_;decide)
   (by simp only[qd,Cb,or_false,not_or];exact⟨BP l1,BP l2,BP l3,BP l4,BP l5⟩)
   (up _ _ (BP l1) as)
   (λc o B q=>up c o (λe=>B (by simp[e])) (ap c o (λe=>B (by simp[e])) (λe=>B (by simp[e])) (λe=>B (by simp[e])) (λe=>B (by simp[e])) q))
  refine⟨.ref s.heap.objs.size,_,I2,rfl,⟨_,x,y,a4,rfl,rfl,λzs ab=>by rw[pS j ab G];exact hx,λzs ab=>by rw[pS j ab F];exact hy⟩,⟨bm,?_,⟨_,_,up _ _ D.TOz an⟩,a2.at' λo q=>up _ o D.i1z q,b0.at' λo q=>up _ o D.i2z q⟩,a6⟩;exact up _ _ D.TIz (ap _ _ D.TIz D.TITO D.TIi1 D.TIi2 l)
 done:=by
  intro X hP hw hK B i K4 s Z H E j hf st hg;subst hP hw hK;obtain⟨L,l,⟨u,v,C⟩,h1,h2⟩:=st;obtain⟨xs,ys,G,F,ar⟩:=hg;obtain⟨ak,U,W,a8⟩:=gz j G;obtain⟨al,S,R,a0⟩:=gz j F;have e1:=U.length;have e2:=S.length;have hT:s.TypeIs (.ref z) "zip":=⟨_,L,rfl⟩;have b3:(X.A.in1).handled=Y:=by have:=j.ok.hd B;simpa using this
  refine Dx (j.ok.hd B) D L l C h1 h2 W R ?_ λh' hk=>⟨rfl,lq (t':=s.toks) j hf λc o B q=>hk c o (λe=>B (by simp[e])) (λe=>B (by simp[e])) (λe=>B (by simp[e])) (λe=>B (by simp[e])) q⟩;rcases ar with q|q
  .exact .inl (by simp;ext)
  .exact .inr (by simp;ext)
 self:=λA i s Q E st h=>wpAny_pyIter_zip st.1 h
def bT(v:PV)(h:MH):Option (Bool×SM×List (Nat×SM)):=match v with
 |.loc n=>(match h[n]? with
  |some (.lst xs)=>J (T,xs,[(n,xs)])
  |_=>Y)
 |.frl xs=>J (T,xs,[])
 |.tup xs=>J (I,xs,[])
 |_=>Y
def tY{X:Cx}{U:SW}{H:Hp}{h:MH}{x:PV}{y:V}{C:Bool}{xs:SM}{gd:List (Nat×SM)}(P:RH X.K X.mg U H h)(r:RP X.K U H x y)(e:bT x h=J (C,xs,gd)):
  ∃a,y=.ref a/\(∃ys,B4 C X.K H a ys)/\∀j i u,Le U H j i->RH X.K X.mg j i u->(∀p∈gd,u[p.1]?=J (.lst p.2))->∃ys,B4 C X.K i a ys/\RPs X.K j i xs ys:=by
 cases r with
 |frl s r=>cases e;exact⟨_,rfl,⟨_,s.sq⟩,λj i u l _ _=>⟨_,(l.sqf s).sq,r.le l⟩⟩
 |tup s r=>cases e;exact⟨_,rfl,⟨_,s⟩,λj i u l _ _=>⟨_,l.sqt s,r.le l⟩⟩
 |@loc n a G =>
  obtain⟨o,M,O⟩:=P.obj G;unfold bT at e;dsimp only at e;rw[M]at e
  cases o with
  |lst Q =>
   cases e;obtain⟨ys,L,R⟩:=O;refine⟨a,rfl,⟨ys,SqL.of L⟩,λj i u l F ok=>?_⟩;obtain⟨B,E,z⟩:=F.at' n a _ (l.get G) (ok (n,xs) (by simp));exact⟨B,SqL.of E,z⟩
  |_=>cases e
 |_=>cases e
def c8(xs:SM):SM:=xs.zipIdx.map λp=>.tup [.int (p.2:Int),p.1]
def jZ(xs ys:SM):SM:=(xs.zip ys).map λp=>.tup [p.1,p.2]
def xO{xs:SM}{i:Nat}{x:PV}(h:xs[i]?=J x):(c8 xs)[i]?=J (.tup [.int (i:Int),x]):=by unfold c8;rw[r6,Jp,h];simp
def qU(xs:SM):(c8 xs).length=xs.length:=by simp[c8]
def um(xs ys:SM):(jZ xs ys).length=min xs.length ys.length:=by simp[jZ]
def Ac{xs ys:SM}{i:Nat}{x y:PV}(a:xs[i]?=J x)(j:ys[i]?=J y):(jZ xs ys)[i]?=J (.tup [x,y]):=by
 unfold jZ;rw[r6]
 have:(xs.zip ys)[i]?=J (x,y):=by rw[List.getElem?_zip_eq_some];exact⟨a,j⟩
 rw[this];rfl
def n5(m:Mx (SM)):Mx MIt:=λZ h=>(m Z h).bind λi a=>match i with
 |[x]=>(match bT x a with
  |some (_,xs,gd)=>.ok ⟨c8 xs,gd⟩ a
  |none=>.bad)
 |_=>.bad
def Pu(m:Mx (SM)):Mx MIt:=λZ h=>(m Z h).bind λi a=>match i with
 |[x,y]=>(match bT x a,bT y a with
  |some (_,xs,l),J (_,ys,j)=>.ok ⟨jZ xs ys,l++j⟩ a
  |_,_=>.bad)
 |_=>.bad
section
variable{X:Cx}{N W G:SQ}{k:Nat}
def vw(g:Good X N W G k){al:SG}{x1:Nat}{tp:Pos}{a:Expr}{m:Mx (SM)}{p as:Pos}{j:Nat}(hj:G[j]?=J "enumerate")(hm:X.mg "enumerate"=Y)(ha:MA X [a] m)(hs:starEach [a] X.env=[(T,eval a X.env)]:=by rfl):MI X (.Tuple al x1 tp) (.Call (.Name "enumerate" p) [a] [] as) (n5 m):=by
 have d:=g.dbg _ (xf _ (aM hj));intro K4 s Z H R a1 ⟨U,ai,h,rs,rh,q⟩;refine wpAny_Call_Name_kw (jv a1 (g.gl _ (aM hj)) hm PyProof.Rows.Boot.«enumerate» ?_ d.2.2 d.1)
 refine PyProof.Rows.callWith_type1 (ln (ha as K4 s Z H (λvs C=>∃P Q xs,Le U H P C/\RH X.K X.mg P C Q/\RPs X.K P C xs vs/\Ful X (qH X) ai P C ((match xs with
   |[x]=>(match bT x Q with|some (_,xs,gd)=>.ok ⟨c8 xs,gd⟩ Q|none=>.bad)
   |_=>.bad:Out MIt)) R) a1 ⟨U,ai,h,rs,rh,Ful.bind q λP C v v' Q _ l1 O rv M=>⟨P,Q,v,l1,O,rv,M⟩⟩) λus L ⟨vs,C,I1,r1,P,Q,xs,l1,O,rv,M⟩=>?_) hs rfl
 cases rv with
 |nil=>exact M.elim
 |@cons y y' ys bm ry t1 =>
  cases t1 with
  |cons _ _=>exact M.elim
  |nil =>
   dsimp only at M
   cases ab:bT y Q with
   |none=>rw[ab]at M;exact M.elim
   |some z =>
    obtain⟨b,zs,gd⟩:=z;rw[ab]at M;obtain⟨ad,rfl,⟨ws,a4⟩,a5⟩:=tY O ry ab;obtain⟨u,rfl,rx⟩:=jx r1;cases rx;obtain⟨a7,a9,so,hz⟩:=gz I1 a4;refine yI so λh' he hi b0 hk=>?_;refine wpAny_pyIter_enum he ?_;have I2:Inv X K4 Z C { L with heap:=h',toks:=L.toks}:=I1.kept hk;obtain⟨oa,a6,a8,_⟩:=id so;have a2:ad<L.heap.objs.size:=pk a6;have ak:=I1.hok.fresh (l_ L.heap.objs.size);have an:=I1.hok.fresh (F7 L.heap.objs.size);refine⟨L.heap.objs.size+1,_,_,_,C,rfl,I2,zv b ad _ L.heap.objs.size (BP (Ow _)) (x5 (Oq a2)) (x5 a2),⟨⟨_,he⟩,hi⟩,λc hc=>?_,?_⟩
    .have:c=L.heap.objs.size+1\/c=L.heap.objs.size:=by simpa using hc
     rcases this with rfl|rfl
     .have F:=Inv.fpOk I1 (H':=C) (b:=L.heap.objs.size+1) (F7 _) an;exact F
     .exact Inv.fpOk I1 (H':=C) (l_ _) ak
    .refine M P C _ (Le.refl _ _) O ?_;intro U' H' h2 i l ap ok;obtain⟨S,E,ar⟩:=a5 U' H' h2 l ap ok;refine⟨λB=>?_,λB=>⟨S,E,by rw[<-ar.length];rw[qU]at B;exact B⟩⟩;rw[qU]at B;have hx:zs[i]?=J (zs[i]'B):=zL B;obtain⟨w',ew,rw'⟩:=ar.get hx;refine⟨⟨S,w',E,ew⟩,λx' H3 ⟨pp,y2,hp,e1,e2,a0⟩=>?_⟩;subst e1;subst e2;have ey:y2=w':=by
      have:=a0 S E
      rw[ew]at this;exact(Option.some.inj this).symm
     subst ey;obtain⟨a3,l3⟩:=ap.tup hp [.int i,y2];exact⟨U',_,l3,a3,xO hx,.tup (SqT.of aK) (.cons (.int _) (.cons (rw'.le l3) .nil))⟩
def Hr(g:Good X N W G k){b0:SG}{x1:Nat}{tp:Pos}{a b:Expr}{m:Mx (SM)}{p a3:Pos}{j:Nat}(hj:G[j]?=J "zip")(hm:X.mg "zip"=Y)(ha:MA X [a,b] m)(hs:starEach [a,b] X.env=(T,eval a X.env)::starEach [b] X.env:=by rfl)(c5:(backTo a3 (starEach [b] X.env)).any (·.1)=T:=by rfl):MI X (.Tuple b0 x1 tp) (.Call (.Name "zip" p) [a,b] [] a3) (Pu m):=by
 have d:=g.dbg _ (xf _ (aM hj));intro K4 s Z H R cf ⟨U,a8,h,rs,rh,q⟩;refine wpAny_Call_Name_kw (jv cf (g.gl _ (aM hj)) hm PyProof.Rows.Boot.«zip» ?_ d.2.2 d.1)
 refine PyProof.Rows.callWith_type1 (ln (ha a3 K4 s Z H (λvs P=>∃U1 h1 xs,Le U H U1 P/\RH X.K X.mg U1 P h1/\RPs X.K U1 P xs vs/\Ful X (qH X) a8 U1 P ((match xs with
   |[x,y]=>(match bT x h1,bT y h1 with|some (_,xs,g1),J (_,ys,g2)=>.ok ⟨jZ xs ys,g1++g2⟩ h1|_,_=>.bad)
   |_=>.bad:Out MIt)) R) cf ⟨U,a8,h,rs,rh,Ful.bind q λU1 P v v' h1 _ l1 ai rv O=>⟨U1,h1,v,l1,ai,rv,O⟩⟩) λus u ⟨vs,P,I1,r1,U1,h1,xs,l1,ai,rv,O⟩=>?_) hs c5
 cases rv with
 |nil=>exact O.elim
 |@cons y y' ys dV ry t1 =>
  cases t1 with
  |nil=>exact O.elim
  |@cons v v' ds di rv t2 =>
   cases t2 with
   |cons _ _=>exact O.elim
   |nil =>
    dsimp only at O
    cases an:bT y h1 with
    |none=>rw[an]at O;exact O.elim
    |some z =>
     obtain⟨b1,b3,dn⟩:=z
     cases S:bT v h1 with
     |none=>rw[an,S]at O;exact O.elim
     |some z2 =>
      obtain⟨b2,b9,dF⟩:=z2;rw[an,S]at O;obtain⟨M,rfl,⟨d0,ca⟩,b4⟩:=tY ai ry an;obtain⟨L,rfl,⟨dr,a7⟩,b6⟩:=tY ai rv S
      cases r1 with
      |@cons _ u1 _ dk cn cx =>
       cases cx with
       |@cons _ u2 _ dt c7 da =>
        cases da;cases cn;cases c7;obtain⟨dc,de,ci,dx⟩:=gz I1 ca;obtain⟨df,db,a9,dj⟩:=gz I1 a7;refine Bb ci a9 λh' hz c2 c3 c6 cs d1 hk=>?_;refine wpAny_pyIter_zip hz ?_;have I2:Inv X K4 Z P { u with heap:=h',toks:=u.toks}:=I1.kept hk;obtain⟨dq,bm,_,_⟩:=id ci;obtain⟨dv,ch,_,_⟩:=id a9;have ak:M<u.heap.objs.size:=pk bm;have al:L<u.heap.objs.size:=pk ch;have sN:∀(n:Nat),u.heap.objs.size<=u.heap.objs.size+n:=λn=>Nat.le_add_right _ _;have ap:∀(c:Addr)(n:Nat),c<u.heap.objs.size->c≠u.heap.objs.size+n:=λc n hc=>x5 (vv hc (sN n));have B:∀(m n:Nat),m≠n->u.heap.objs.size+m≠u.heap.objs.size+n:=λm n c4 e=>c4 (Nat.add_left_cancel e);have D:ZipApart (u.heap.objs.size+4) (u.heap.objs.size+2) (u.heap.objs.size+3) u.heap.objs.size (u.heap.objs.size+1) M L :=
         ⟨B 2 4 (by decide),B 3 4 (by decide),B 0 4 (by decide),B 1 4 (by decide),B 2 3 (by decide),B 2 0 (by decide),B 2 1 (by decide),B 3 0 (by decide),B 3 1 (by decide),B 0 1 (by decide),
          ap M 4 ak,ap M 3 ak,ap M 0 ak,ap M 1 ak,ap L 4 al,ap L 3 al,ap L 0 al,ap L 1 al⟩
        refine⟨u.heap.objs.size+4,_,_,_,P,rfl,I2,Aq b1 b2 M L _ _ _ _ _ D,⟨hz,c2,⟨_,_,c3⟩,c6,cs⟩,λc hc=>?_,?_⟩
        .have F:∀n:Nat,jd X K4 P (u.heap.objs.size+n):=λn=>Inv.fpOk I1 (H':=P) (sN n) (I1.hok.fresh (sN n))
         have:c=u.heap.objs.size+4\/c=u.heap.objs.size+2\/c=u.heap.objs.size+3\/c=u.heap.objs.size\/c=u.heap.objs.size+1:=by simpa using hc
         rcases this with rfl|rfl|rfl|rfl|rfl
         .exact F 4
         .exact F 2
         .exact F 3
         .exact F 0
         .exact F 1
        .refine O U1 P _ (Le.refl _ _) ai ?_;intro U' H' h2 i l a0 ok;obtain⟨ab,C,as⟩:=b4 U' H' h2 l a0 (λp hp=>ok p (F1 _ hp));obtain⟨Q,E,ar⟩:=b6 U' H' h2 l a0 (λp hp=>ok p (xf _ hp));refine⟨λa6=>?_,λa6=>⟨ab,Q,C,E,?_⟩⟩
         .rw[um]at a6;have ck:b3[i]?=J (b3[i]'(by ext)):=zL (by ext);have cc:b9[i]?=J (b9[i]'(by ext)):=zL (by ext);obtain⟨w1,b5,cp⟩:=as.get ck;obtain⟨w2,cd,cm⟩:=ar.get cc;refine⟨⟨ab,Q,w1,w2,C,E,b5,cd⟩,λx' H3 ⟨pp,y1,y2,hp,e1,e2,a5,a4⟩=>?_⟩;subst e1;subst e2;have cB:y1=w1:=by
           have:=a5 ab C
           rw[b5]at this;exact(Option.some.inj this).symm
          have c1:y2=w2:=by
           have:=a4 Q E
           rw[cd]at this;exact(Option.some.inj this).symm
          subst cB;subst c1;obtain⟨cv,l3⟩:=a0.tup hp [y1,y2];exact⟨U',_,l3,cv,Ac ck cc,.tup (SqT.of aK) (.cons (cp.le l3) (.cons (cm.le l3) .nil))⟩
         .rw[um]at a6;have a1:=as.length;have a2:=ar.length;ext
end
end MM
namespace MM
open PySem.Spec PyProof.Rows L2 SetT SortT
def mf:SM->Option (SS)
 |[]=>J []
 |.int i::r=>(mf r).map (i::·)
 |_=>Y
def ip(l:SS):SS:=l.mergeSort λa b=>decide (a<=b)
def jy(l:SS):(ip l).Perm l:=List.mergeSort_perm _ _
def oE(l:SS):(ip l).Pairwise (·<=·):=by
 have:=List.pairwise_mergeSort (le:=λa b:Int=>decide (a<=b)) (λa b c i j=>by
   simp only[decide_eq_true_eq]at i j ⊢;lia) (λa b=>by
   lia)
 unfold ip
 simp_all
def jO{l m:SS}(i:l.Pairwise (·<=·))(j:m.Pairwise (·<=·))(p:l.Perm m):l=m :=
 List.Perm.eq_of_pairwise (λa b _ _ x y=>by lia) i j p
def vX:∀{xs:SM}{k:SS},mf xs=J k->xs=k.map .int
 |[],k,h=>by cases h;rfl
 |x::r,k,h=>by
  cases x with
  |int i =>
   unfold mf at h
   cases hr:mf r with
   |none=>rw[hr]at h;cases h
   |some a =>
    rw[hr]at h;cases h;rw[vX hr];rfl
  |_=>cases h
def wr(xs:SM)(h:MH):SH:=match xs with
 |[x]=>(match jF h x with
  |some ys=>(match mf ys with
   |some ns=>if ns.length<64 then .ok (.loc h.length) (h++[.lst ((ip ns).map .int)])else .bad
   |none=>.bad)
  |none=>.bad)
 |_=>.bad
def tZ:∀{ns:SS}{a:SX},aL (ns.map V.int) a->IntsAre a ns
 |[],_,h=>by cases h;exact .nil
 |i::k,_,h=>by
  cases h with
  |cons r t =>
   obtain⟨tk,rfl⟩:=r;exact .cons i tk (tZ t)
def sZ:∀{ns:SS}{a:SX},IntsAre a ns->aL (ns.map V.int) a
 |_,_,.nil=>.nil
 |_,_,.cons n t h=>.cons ⟨t,rfl⟩ (sZ h)
section
variable{X:Cx}{N W G:SQ}{k:Nat}
def uj:dy X (.builtin "sorted") (λxs H Q=>∃l ns,xs=[.ref l]/\SqL X.K H l (ns.map V.int)/\ns.length<64/\∀B,H B=Y->Q (.ref B) (upd H B (.lst ((ip ns).map V.int)))):=by
 intro K4 s Z H xs us Q i r ⟨l,ns,e,hq,hz,q⟩;subst e;obtain⟨u,rfl,P⟩:=jx r;cases P;obtain⟨a,L,R,O⟩:=i.list hq;have j:=L.length;rw[xg]at j;refine sorted_ints R.isList (tZ L) ⋯ λy M h1 h2 U=>?_;have e:=jO U (oE ns) (h2.trans (jy ns).symm);subst e;have E:((s.heap.push (seqObj "list" #[] 0)).update s.heap.objs.size (Obj.mapSeq (·++a.toArray))).objs.size=s.heap.objs.size+1:=by rw[Heap.size_update,size_push']
 have C:(((s.heap.push (seqObj "list" #[] 0)).update s.heap.objs.size (Obj.mapSeq (·++a.toArray))).push (seqObj "list" a.toArray 0)).get? (s.heap.objs.size+1)=J (seqObj "list" a.toArray 0):=by rw[<-E];exact A0 _ rfl
 obtain⟨c,S⟩:=pB C y;refine⟨.ref (s.heap.objs.size+1),_,i.laid (o:=.lst ((ip ns).map V.int)) (t':=s.toks) (λb o F=>?_) (F7 _) (⟨?_,y.toList,c,sZ h1,?_⟩),rfl,q _ (i.hok.fresh (F7 _))⟩
 .have z:=pk F;refine ou (x5 (Oq z)) ?_ _;refine n3 _ ?_;rw[JX _ _ _ _ (x5 z)];exact n3 _ F
 .rw[xg,(jy ns).length_eq,sizeLine_eq];lia
 .unfold sortedAll;rw[S]
def rR:cX X (.builtin "sorted") wr:=by
 intro O s Z H xs S Q C r ⟨U,h,ps,E,rp,q⟩
 cases rp with
 |nil=>exact q.elim
 |@cons x y _ _ R F =>
  cases F with
  |cons _ _=>exact q.elim
  |nil =>
   unfold wr at q;dsimp only at q
   cases hl:jF h x with
   |none=>rw[hl]at q;exact q.elim
   |some L =>
    rw[hl]at q;dsimp only at q;obtain⟨P,ys,rfl,i,a⟩:=Dw E R hl
    cases j:mf L with
    |some ns =>
     rw[j]at q;dsimp only at q;by_cases z:ns.length<64
     .rw[e_ z]at q;rw[vX j]at a;rw[Fp a]at i;refine uj O s Z H _ S Q C r ⟨P,ns,rfl,i,z,λl u=>?_⟩;obtain⟨B,M⟩:=E.new u (o:=.lst ((ip ns).map .int)) ⟨_,rfl,RPs.ints _⟩;exact q _ _ _ M B (.loc (by rw[<-E.len];simp))
     .rw[h8 z]at q;exact q.elim
    |none=>rw[j]at q;exact q.elim
end
def Dz:Bx X b (λ_ _=>.bad):=λl s Z H D a ⟨U,i,h,u,j,q⟩=>q.elim
end MM
namespace MM
open PySem.Spec PyProof.Rows L2
end MM
namespace MM
open PySem.Spec PyProof.Rows L2 SetT SortT
section
variable{h:MH}{i:Int}{xs:SM}{n:Nat}
def yc(e:h[n]?=J (.lst xs)):cy h (.loc n)=J xs:=by simp[cy,e]
def ph(e:h[n]?=J (.lst xs))(hl:xs.length<1000):gI n [v] h=.ok .non (h.set n (.lst (xs++[v]))):=by
 have z:1000<=sizeLine:=by decide
 simp only[gI,e];rw[e_ ⋯]
def uD:∀(m:Nat),ly (List.replicate m (.bl I))=J (List.replicate m I)
 |0=>rfl
 |m+1=>by
  rw[F2];unfold ly;rw[uD m];rfl
def xP(e:h[n]?=J (.lst (List.replicate m (.bl I)))):BX [.loc n] h=.ok (.bl I) h:=by simp[BX,yc e,uD]
end
def itR1'(em:m Z h=.ok [.int j] h1)(z:-(2^62)<=j/\j<2^62):dJ m Z h=.ok ⟨bD 0 j.toNat,[]⟩ h1:=by simp_all
def DA(em:m Z h=.ok [.int (n:Int)] h1)(i:n<=100000):dJ m Z h=.ok ⟨bD 0 n,[]⟩ h1:=by
 have z1:-(2^62)<=(n:Int):=Int.le_trans (by decide) (Int.natCast_nonneg n);have a:(n:Int)<2^62:=Int.lt_of_le_of_lt (Int.ofNat_le.mpr i) (by decide)
 have:=itR1' em ⟨z1,a⟩
 rwa [B2]at this
def kW:∀(k:SS),PyData.canLayAll0 (k.map .int)=I/\PyData.depthAll (k.map .int)<=1
 |[]=>⟨rfl,by simp[PyData.depthAll]⟩
 |i::k=>by
  obtain⟨a,b⟩:=kW k;constructor
  .simp[PyData.canLayAll0,PyData.canLay0,a]
  .simp only[nc,PyData.depthAll,PyData.depth];lia
end MM
namespace MM
open PySem.Spec PyProof.Rows L2
def om(h:MH):PV->Option Bool
 |.non=>J T
 |.bl b=>J b
 |.int i=>J (i != 0)
 |.str _=>Y
 |.tup xs=>J (!xs.isEmpty)
 |.frl xs=>J (!xs.isEmpty)
 |.loc n=>match h[n]? with
  |some (.lst xs)=>J (!xs.isEmpty)
  |_=>Y
def Q8(m:Mx PV):Mx Bool:=λZ h=>(m Z h).bind λv a=>match om a v with
 |some b=>.ok b a
 |none=>.bad
section
variable{X:Cx}{N W G:SQ}{k:Nat}
def mW{K:g_}{U:SW}{H:Hp}{xs:SM}{ys:List V}(r:RPs K U H xs ys):(!xs.isEmpty)=!ys.isEmpty:=by cases r<;>rfl
def Hs{e:Expr}{m:Mx PV}(h:ME X e m)(S:∀u,isTrue e X.env u=(do let v <-u;standAt e.pos;holding [v] (truthy v)):=by intro _;rfl):MT X e (Q8 m):=by
 refine PT.imp (A5 h S) λZ H Q ⟨U,C,h,M,R,q⟩=>⟨U,C,h,M,R,Ful.bind q λy B x x' h1 _ l1 j L l=>?_⟩
 cases L with
 |non=>exact⟨T,rfl,l y B _ (Le.refl _ _) j rfl⟩
 |bl b=>exact⟨b,rfl,l y B _ (Le.refl _ _) j rfl⟩
 |int i=>exact⟨_,rfl,l y B _ (Le.refl _ _) j rfl⟩
 |str i=>exact l.elim
 |@tup xs a ys s r=>exact⟨_,.inr (.inl ⟨ys,s,rfl⟩),by rw[<-mW r];exact l y B _ (Le.refl _ _) j rfl⟩
 |@frl xs a ys s r=>exact⟨_,.inl ⟨ys,s.sq,rfl⟩,by rw[<-mW r];exact l y B _ (Le.refl _ _) j rfl⟩
 |@loc n a e =>
  obtain⟨o,E,P⟩:=j.obj e
  cases o with
  |lst xs =>
   obtain⟨ys,F,O⟩:=P;simp only[om,E]at l;exact⟨_,.inl ⟨ys,.inl (.inl F),rfl⟩,by rw[<-mW O];exact l y B _ (Le.refl _ _) j rfl⟩
  |dic fz ks xs=>simp only[om,E]at l;exact l.elim
  |exc z=>simp only[om,E]at l;exact l.elim
end
end MM
namespace MM
open PySem.Spec PyProof.Rows L2 PySem.W
end MM
namespace DcT
open PyProof.Rows
section
variable{prog:Program}{w:World}{A:Around}{E:SK}{s:Shared}
def wn:typeLookup (.type "tuple") "keys"=pure Y:=by rw[typeLookup_type,builtinLookup_eq_fast];kernel_rfl
def yn(z:s.heap.get? a=J o)(G:o.cls=.type "tuple")(l:o.data=.seq xs k)(hd:o.dict=Y)(H:A.handled=Y)(h:∀u tk e,Heap.NewExcOf s.heap u e "AttributeError"->Q Y { s with heap:=u,toks:=tk}):wpAny (model prog w) A (getAttr? (.ref a) "keys") Q E s:=by
 obtain⟨c,B,C,L⟩:=o;subst G l hd;obtain⟨M,g,d,tk,os⟩:=s;have y:∀i,(⟨M,g,d,i,os⟩:Shared).TypeIs (.ref a) "tuple":=λ_=>⟨_,z,rfl⟩;have R:=sub_AttributeError;have O:=F.slot_tuple_getattribute.lookup;have P:=F.slot_tuple_getattribute.bind (.ref a);have S:=am_tuple_getattr_none;unfold getAttr? getAttrBy? getAttrBy
 repeat (any_goals (first | assumption | exact y _ | ((with_reducible show wpAny _ _ (call (Value.builtin "tuple.__getattribute__") _ _) _ _ _);refine call_meets F.slot_tuple_getattribute (y _) am_entry_tuple_getattribute (F.args_tuple_getattribute_2 _ _) (meets_getattribute_miss_tuple a xs k L "keys" _ wn (by decide +kernel) (by decide)) ⟨z,H,λu i e j=>?_⟩)|wp_step))
 obtain⟨W,U,X⟩:=j.there;show wpAny _ _ (getattributeRaised _ _ _ _ _ _ _) _ _ _;unfold getattributeRaised
 repeat (any_goals (first | assumption | wp_step))
 exact h _ _ _ j.of
def nT:entryFor table "dict.update.loop"=J Builtin.«dict.update.loop»:=entryFor_of_tree (by kernel_rfl)
def gT:plainId "dict.update.loop"=I:=by decide +kernel
def Ht(a h:Heap):Prop:=∀b o,a.get? b=J o->h.get? b=J o
def jC{h j:Heap}{d:Addr}{a:List (Int×Value)}(i:h.DictOf (intKind prog w) d a)(hd:∀o,h.get? d=J o->j.get? d=J o):j.DictOf (intKind prog w) d a:=by obtain⟨o,u,y,l,r⟩:=i;exact⟨o,u,y,hd o l,r⟩
def wX{a:List (Int×Value)}{k:Int}{v:Value}(h:k∉a.map (·.1)):stored a k v=a++[(k,v)]:=by unfold stored;rw[h8];intro z;rw[List.any_eq_true]at z;obtain⟨x,i,e⟩:=z;exact h (se.mpr ⟨x,i,by simpa using e⟩)
def Ln{R:Result->Shared->Prop}{C:Addr}{fp L:SW}{G:Array GenState->Array GenState->Prop}{n:Nat}{P:Nat->Value->Prop}{St:Nat->Shared->Prop}(W:WalksS prog w A.in1 C fp L G n P St)(d:Addr)(ap:d∉fp){H0:Heap}(b2:H0.get? d=Y)(b1:∀b∈L,H0.get? b=Y)(l:List (Int×Value))(hn:l.length=n)(ca:n<=sizeLine)(nd:(l.map (·.1)).Nodup)(ai:∀i v y,P i v->l[i]?=J y->∃a t,v=.ref a/\H0.IsTuple a #[.int y.1 t,y.2]):
  ∀(c i:Nat)(s:Shared)(j:Int)(tj:Tok),n-i=c->i<=n->St i s->Ht H0 s.heap->s.heap.DictOf (intKind prog w) d (l.take i) ->
   (∀u,Moved (d::L) G s u->Ht H0 u.heap->u.heap.DictOf (intKind prog w) d l->R (.ok (.ret .none)) u) ->
   codeAny (model prog w) A (.builtin "dict.update.loop" ⟨[.ref d,.ref C,.int j tj,.none],[]⟩) R s:=by
 have ak:d∉L:=λh=>ap (W.sub _ h);have H:∀b∈L,b∈d::L:=λb O=>pj _ O;have F:∀{s u:Shared},Moved L G s u->Ht H0 s.heap->Ht H0 u.heap:=λ{s u} B x b o e =>
  B.heap b o (λO=>by rw[b1 b O]at e;cases e) (x b o e)
 intro c
 induction c with
 |zero =>
  intro i s j tj hc hi S hx hT M;have e:i=n:=by lia
  subst e;refine codeAny_builtin nT ?_;rw[Around.under_plainId gT _];show wpAny _ A.in1 (pyNext (.ref C) >>= _) _ _ s;refine hG (W.done s _ _ S λu B=>?_);show wpAny _ A.in1 (Builtin.Dict.addKeywords d [] >>= λ_=>ret Value.none) _ _ u;rw[<-hn,List.take_length]at hT;refine hG ?_;show wpAny _ A.in1 (pure ()) _ _ u;exact o_ (o_ (M u (B.mono H) (F B hx) (jC hT λo e=>B.heap d o ak e)))
 |succ c ih =>
  intro i s j tj hc hi S hx hT M;have a1:i<n:=by lia
  refine codeAny_builtin nT ?_;rw[Around.under_plainId gT _];show wpAny _ A.in1 (pyNext (.ref C) >>= _) _ _ s;refine hG (W.item i s _ _ a1 S λv u hP a0 B=>?_);obtain⟨y,hk⟩:∃k,l[i]?=J k:=⟨_,zL ⋯⟩;obtain⟨a,t,rfl,ha⟩:=ai i v y hP hk;have ab:=F B hx;have b0:=jC hT (λo e=>B.heap d o ak e);obtain⟨oa,a9,U,na,al⟩:=ha;have a2:=ab a oa a9;have a3:u.TypeIs (.ref a) "tuple":=⟨oa,a2,U⟩;dsimp only;refine hG (wpAny_holding (hG ?_));have X:∀(Q:SX->Shared->Prop) (E:SK),Q [.int y.1 t,y.2] u->wpAny (model prog w) A.in1 (Builtin.Dict.pairItems (.ref a)) Q E u:=λQ E q=>by
   unfold Builtin.Dict.pairItems;refine hG (wpAny_typeOf a3 ?_);obtain⟨b6,g',d',b9,b4⟩:=u;obtain⟨oc,od,cc,b3⟩:=oa;simp only at U al;subst U al;rw[e_ (by decide)]
   repeat (any_goals (first | assumption | wp_step))
  refine wpAny_tryCatch (X _ _ ?_);dsimp only;have as:(l.take i).length<=sizeLine:=by rw[J2];lia
  have ar:y.1∉(l.take i).map (·.1):=λz=>by
   obtain⟨x,bm,ex⟩:=se.mp z;obtain⟨q,Z⟩:=QR.mp bm;rw[List.getElem?_take]at Z
   split at Z
   .rename_i b5
    have e1:(l.map (·.1))[q]?=J y.1:=by rw[r6,Z];simp[ex]
    have e2:(l.map (·.1))[i]?=J y.1:=by rw[r6,hk];rfl
    have l1:q<(l.map (·.1)).length:=(qi.mp e1).1
    have:=(J1 l1 nd).mp (e1.trans e2.symm)
    lia
   .cases Z
  have a6:l.take (i+1)=l.take i++[y]:=by rw[List.take_succ,hk];rfl
  refine wpAny_holding (wpAny_dictSet_pairs (knd:=intKind prog w) (k:=y.1) (intKind_is prog w y.1 t) b0 (λh' hD sb=>?_) as);rw[wX ar,show l.take i++[(y.1,y.2)]=l.take (i+1)from a6.symm]at hD;have a8:Ht H0 h':=λq o e=>by
   have Z:q≠d:=by rintro rfl;rw[b2]at e;cases e
   exact(sb.2 q Z).trans (ab q o e)
  refine o_ ⟨plainId_quiet gT _,ih (i+1) _ _ _ ⋯ a1 (W.frame _ u _ _ a0 (F7 _) λb O o e=>(sb.2 b (λq:b=d=>ap (by rw[<-q];exact O))).trans e) a8 hD λa7 an a4 a5=>?_⟩;refine M a7 (Moved.trans W.gtrans ((B.mono H).then_heap (F7 _) λb o O e=>?_) an) a4 a5;exact(sb.2 b (λq:b=d=>O (by rw[q];exact CP))).trans e
set_option maxHeartbeats 3200000 in
theorem pD{a:Addr}{items:Array Value}{kvs:List (Int×Value)}{Q:SK}(hh:A.handled=Y)(ha:∃o k,s.heap.get? a=J o/\o.cls=.type "tuple"/\o.data=.seq items k/\o.dict=Y)(hn:kvs.length=items.size)(al:items.size<=sizeLine)(nd:(kvs.map (·.1)).Nodup)(O:∀(i:Nat) v kv,items[i]?=J v->kvs[i]?=J kv->∃b t,v=.ref b/\s.heap.IsTuple b #[.int kv.1 t,kv.2])(h:∀(L:Heap) (tk:Nat),L.DictOf (intKind prog w) s.heap.objs.size kvs->Ht s.heap L->Q (.ref s.heap.objs.size) { s with heap:=L,toks:=tk}):
  wpAny (model prog w) A (call (.type "dict") [.ref a]) Q E s:=by
 refine callType_codes (Q₁:=λobj y=>obj=.ref s.heap.objs.size/\y={ s with heap:=s.heap.push { cls:=.type "dict",data:=.dict #[]}}) F.kt_called_dict (F.kt_typeCall_dict_1 _) F.entry_dict_init (kt_code_dict_new _ ⟨rfl,rfl⟩) ?_;rintro obj y ⟨rfl,rfl⟩;have l:(s.heap.push { cls:=.type "dict",data:=.dict #[]}).DictOf (intKind prog w) s.heap.objs.size []:=Heap.DictOf.new s.heap;refine⟨l.typeIs,F.args_dict_init_2 _ _,?_⟩;unfold Builtin.«dict.__init__»;refine hG ?_;unfold Builtin.Dict.selfAndRest;refine hG (wpAny_notOrdered_dict l.typeIs ?_);show wpAny _ _ (pure (s.heap.objs.size,[Value.ref a])) _ _ _;refine o_ ?_;show wpAny _ _ (Builtin.Dict.updateFrom "dict.__init__" s.heap.objs.size (.ref a) [] .none) _ _ _;unfold Builtin.Dict.updateFrom;obtain⟨P,ka,u,C,S,X⟩:=ha;have z:(s.heap.push { cls:=.type "dict",data:=.dict #[]}).get? a=J P:=n3 _ u;have M:A.in1.in1.handled=Y:=by simp[hh]
 refine hG (wpAny_typeOf (T:="tuple") ⟨P,z,C⟩ ?_);rw[e_ (by decide)];refine hG (yn z C S X M λB an e hx=>?_);rw[e_ (by rfl)];have x1:Ht s.heap B:=λb o eb=>hx.keeps b o (n3 _ eb);have R:B.DictOf (intKind prog w) s.heap.objs.size []:=jC l λo eo=>hx.keeps _ o eo;have G:B.IsTuple a items:=⟨P,x1 a P u,C,ka,S⟩;refine hG (wpAny_rule (hG (wpAny_pyIter_tuple (s:={ s with heap:=B,toks:=an}) G ?_)));have H:s.heap.objs.size<B.objs.size:=by obtain⟨o,_,_,ho,_⟩:=R;exact pk ho
 have ak:a<B.objs.size:=pk (x1 a P u);have has:a<s.heap.objs.size:=pk u;have j:∀b,s.heap.objs.size<=b->s.heap.get? b=Y:=λb U=>by
  cases e:s.heap.get? b with
  |none=>rfl
  |some o=>exact absurd (pk e) (Nat.not_lt.mpr U)
 refine o_ ⟨plainId_quiet gT _,?_⟩
 refine Ln (A:=A.in1) (H0:=s.heap) ((Walks.tuple (A:=A.in1.in1) M B.objs.size a (x5 ak) items).toS) s.heap.objs.size (by simp only[qd,Cb,or_false,not_or];exact⟨x5 H,BP has⟩) (j _ (l_ _)) (λb U=>by
   have:b=B.objs.size:=by simpa using U
   rw[this];exact j _ (Jy H)) kvs hn al nd O items.size 0 _ 0 0 ⋯ (CT _) ⟨⟨_,A0 _ rfl,rfl,rfl⟩,G.push _⟩ (λb o e=>n3 _ (x1 b o e)) (jC R λo e=>n3 _ e) ?_
 intro s' hm ab ai;obtain⟨L,g',d',W,Z⟩:=s';have eg:g'=s.gens:=hm.gens;have ed:d'=s.drawn:=hm.drawn;have eo:Z=s.os:=hm.os;subst eg;subst ed;subst eo;exact⟨rfl,h L W ai ab⟩
end
end DcT
namespace MM
open PySem.Spec PyProof.Rows L2 DcT
section
variable{X:Cx}{N W G:SQ}{k:Nat}
local instance inhPV:Inhabited PV:=⟨.non⟩
def i8:SM->Option (List (Int×PV))
 |[]=>J []
 |.tup [.int k,v]::r=>(i8 r).map ((k,v)::·)
 |_=>Y
def Lo(x:PV):Option (List (Int×PV)):=match x with
 |.tup i=>(match i8 i with
  |some a=>if(a.map (·.1)).Nodup then J a else Y
  |none=>Y)
 |_=>Y
def xh{K:g_}{U:SW}{H:Hp}:∀{xs:SM}{ys:List V}{z:SX}{a:List (Int×PV)},RPs K U H xs ys->aL ys z->i8 xs=J a ->
  xs.length=a.length/\∀(i:Nat) u j,z[i]?=J u->a[i]?=J j->∃b w,u=.ref b/\SqT K H b [.int j.1,w]/\RP K U H j.2 w:=by
 intro xs
 induction xs with
 |nil =>
  intro ys z a r v e;cases r;cases v;cases e;exact⟨rfl,λi u j h=>by simp at h⟩
 |cons x xs L =>
  intro ys z a r v e
  cases r with
  |cons P R =>
   cases v with
   |cons C O =>
    unfold i8 at e
    split at e
    .rename_i h;cases h
    .rename_i S Z r0 h
     injection h with y l
     subst y l;rw[Bt]at e;obtain⟨B,e1,rfl⟩:=e;obtain⟨hl,hv⟩:=L R O e1;refine⟨by simp[hl],λi u j y l=>?_⟩
     cases i with
     |zero =>
      simp at y l;subst y l
      cases P with
      |tup sq rp =>
       cases rp with
       |cons F Q=>cases Q with
        |cons M E =>
         cases E;cases F;exact⟨_,_,C,sq,M⟩
     |succ i =>
      exact hv i u j y l
    .cases e
def lJ(K:g_)(x:Str)(i j:Int):Prop:=∃(a:Addr) (t l:Tok) (n:Nat) (u:Array (SD)),PySem.W.nsIn K mainGlobals x=J (J (.ref a))/\K.lookup a=J ⟨.type "tuple",Y,.seq #[.int i t,.int j l] n,u⟩
def mJ(K:g_)(mg:BS)(x:Str)(i j:Int):Prop:=∃(a:Addr) (t l:Tok) (n:Nat) (u:Array (SD)),mg x=J (.ref a)/\K.lookup a=J ⟨.type "tuple",Y,.seq #[.int i t,.int j l] n,u⟩
def vn{K:g_}{x:Str}{i j:Int}{a:Addr}{t u:Tok}{n:Nat}{y:Array (SD)}(h:PySem.W.nsIn K mainGlobals x=J (J (.ref a)))(l:K.lookup a=J ⟨.type "tuple",Y,.seq #[.int i t,.int j u] n,y⟩):lJ K x i j:=⟨a,t,u,n,y,h,l⟩
def lJ.mg{K:g_}{mg:BS}{base:Heap}{x:Str}{i j:Int}(z:lJ K x i j)(kin:K.In base)(ns:base.Ns mainGlobals mg):mJ K mg x i j:=by obtain⟨a,t,u,n,y,h,l⟩:=z;exact⟨a,t,u,n,y,PySem.W.mg_of kin ns h,l⟩
def tQ(g:Good X N W G k){x:Str}{q:Nat}{i j:Int}{l:Pos}(y:G[q]?=J x)(u:mJ X.K X.mg x i j):ME X (.Name x l) (mC (.tup [.int i,.int j])):=by obtain⟨a,t,C,n,F,u,hl⟩:=u;have d:=g.dbg x (xf _ (aM y));exact PE.imp (CV (v:=.ref a) (g.gl x (aM y)) u rfl d.1) λZ H Q ⟨U,z,h,E,B,q⟩=>q U H _ (Le.refl _ _) B (.tup (ys:=[.int i,.int j]) (.inr ⟨_,_,n,hl,rfl,⟨rfl,rfl⟩,by show 2<=sizeLine;decide,.cons ⟨t,rfl⟩ (.cons ⟨C,rfl⟩ .nil)⟩) (.cons (.int _) (.cons (.int _) .nil)))
end
end MM
namespace MM
open PySem.Spec PyProof.Rows L2
def DB(h:MH):PV->Option (SM)
 |.frl xs=>J xs
 |.loc n=>(match h[n]? with
  |some (.lst xs)=>J xs
  |_=>Y)
 |_=>Y
def v_(x y:PV)(h:MH):SH:=match DB h x,DB h y with
 |some xs,J ys=>if xs.length≠ys.length then .ok (.bl T) h else xv x y h
 |_,_=>xv x y h
section
variable{X:Cx}{k:Nat}
def Q9{U:SW}{H:Hp}{h:MH}{x:PV}{i:V}{xs:SM}(E:RH X.K X.mg U H h)(l:RP X.K U H x i)(e:DB h x=J xs):∃a ys,i=.ref a/\SqL X.K H a ys/\RPs X.K U H xs ys:=by
 cases l with
 |frl s r=>cases e;exact⟨_,_,rfl,s.sq,r⟩
 |@loc n a z =>
  obtain⟨o,u,C⟩:=E.obj z;simp only[DB,u]at e
  cases o with
  |lst ys =>
   cases e;obtain⟨j,y,B⟩:=C;exact⟨a,j,rfl,SqL.of y,B⟩
  |_=>cases e
 |_=>cases e
def Hu(hr:Room k X.A):A4 X (compareOp .Eq) v_:=by
 intro G s Z H F M u v Q i l j ⟨U,h,x,y,B,C,E,q⟩;unfold v_ at q
 split at q
 .rename_i xs ys ex O
  by_cases z:xs.length≠ys.length
  .rw[e_ z]at q;obtain⟨a,zs,rfl,hl,W⟩:=Q9 B C ex;obtain⟨b,ws,rfl,P,rw'⟩:=Q9 B E O;cases l;cases j;obtain⟨ab,r1,R,_⟩:=i.list hl;obtain⟨L,r2,S,_⟩:=i.list P;refine SeqAt.eq_list_lengthsAt R.isList S.isList ?_ (by have:=hr.units;lia) ⟨.bl _,H,i,rfl,q U H _ (Le.refl _ _) B (.bl _)⟩;rw[z_,z_,<-r1.length,<-r2.length,<-W.length,<-rw'.length];simpa using z
  .rw[h8 z]at q;exact sF hr G s Z H F M u v Q i l j ⟨U,h,x,y,B,C,E,q⟩
 .exact sF hr G s Z H F M u v Q i l j ⟨U,h,x,y,B,C,E,q⟩
end
end MM
namespace MM
open PySem.Spec PyProof.Rows L2 SetT SortT
end MM
namespace MM
open PySem.Spec PyProof.Rows L2 DcT
def DC(a:List (tr×V))(k:tr):Option V:=(a.find? λi=>decide (i.1=k)).map (·.2)
def KV.val{a:List (tr×V)}{i:List (tr×Value)}(r:KV a i)(k:tr):ii (DC a k) (valueAt i k):=by
 induction r with
 |nil=>exact True.intro
 |@cons p q y z h t l =>
  obtain⟨j,u⟩:=h;unfold DC valueAt at *;rw[Nb,Nb,<-j];by_cases e:p.1=k
  .simp only[e];exact u
  .simp only[e];exact l
def Hv{a:List (tr×V)}{i:List (tr×Value)}(r:KV a i):a.length=i.length:=by
 induction r with
 |nil=>rfl
 |cons h t j=>simp[j]
def vr(a:SS)(xs:List α)(i:Int):Option α:=match a,xs with
 |k::a,x::xs=>if k=i then J x else vr a xs i
 |_,_=>Y
def i_(a:SS)(xs:List α)(i:Int)(v:α):SS×List α:=match a,xs with
 |k::a,x::xs=>if k=i then(k::a,v::xs)else(k::(i_ a xs i v).1,x::(i_ a xs i v).2)
 |_,_=>([i],[v])
def Ag{a:SS}{xs:List α}{i:Int}{v:α}(h:xs.length=a.length):(i_ a xs i v).2.length=(i_ a xs i v).1.length/\(i_ a xs i v).1.length<=a.length+1:=by
 induction a generalizing xs with
 |nil=>simp[i_]
 |cons k a j =>
  cases xs with
  |nil=>simp at h
  |cons x xs =>
   simp at h;unfold i_;split
   .simp[h]
   .simp_all
def uE{a:SS}{ys:List V}{i:Int}(h:ys.length=a.length):DC (kz a ys) (.inl i)=vr a ys i:=by
 induction a generalizing ys with
 |nil=>cases ys<;>rfl
 |cons k a j =>
  cases ys with
  |nil=>simp at h
  |cons y ys =>
   have:=j (by simpa using h)
   unfold kz DC at *;rw[nc,List.zip_cons_cons,Nb,vr];by_cases e:k=i
   .simp[e]
   .simp only[show ¬(Sum.inl k:tr)=.inl i from λz=>e (by cases z;rfl),h8 e];exact this
def gx{a:List (tr×Value)}{i:tr}:a.any (λj=>decide (j.1=i))=I↔i∈a.map Prod.fst:=by simp
def Hw{a:SS}{ys:List V}{l:List (tr×Value)}{i:Int}{y:V}{u:Value}(h:ys.length=a.length)(nd:(l.map (·.1)).Nodup)(r:KV (kz a ys) l)(F:aO y u):
  KV (kz (i_ a ys i y).1 (i_ a ys i y).2) (stored l (.inl i) u):=by
 induction a generalizing ys l with
 |nil =>
  have:l=[]:=by cases ys<;>cases r<;>rfl
  subst this;exact .cons ⟨rfl,F⟩ .nil
 |cons k a j =>
  cases ys with
  |nil=>simp at h
  |cons z ys =>
   have G:ys.length=a.length:=by simpa using h
   cases r with
   |@cons _ q _ B H t =>
    obtain⟨M,O⟩:=q;obtain⟨e1,e2⟩:=H;cases e1;rw[nc,x6]at nd;have j:=j G nd.2 t;unfold stored at *;unfold i_;by_cases e:k=i
    .subst e;rw[e_ rfl,e_ (gx.mpr (by simp))];refine .cons ⟨by simp,by simp[F]⟩ ?_
     have:(B.map λE=>if E.1=(Sum.inl k:tr)then(E.1,u)else E)=B:=by
      conv=>rhs;rw[<-List.map_id B]
      refine CF λx L=>?_;rw[h8]
      .rfl
      .intro z;exact nd.1 (se.mpr ⟨x,L,z⟩)
     rw[this];exact t
    .have C:¬(Sum.inl k:tr)=.inl i:=λz=>e (by cases z;rfl);rw[h8 e];by_cases m:(Sum.inl i:tr)∈B.map Prod.fst
     .rw[e_ (gx.mpr m)]at j;rw[e_ (gx.mpr (pj _ m))];exact .cons ⟨by simp[C],by simp[C,e2]⟩ j
     .rw[h8 (λz=>m (gx.mp z))]at j;rw[h8 (λz=>(qd.mp (gx.mp z)).elim (λz=>C z.symm) m)];exact .cons ⟨rfl,e2⟩ j
section
variable{K:g_}{U:SW}{H:Hp}
def pU{ks:SS}{xs:SM}{ys:List V}(r:RPs K U H xs ys)(i:Int):match vr ks xs i with
  |some x=>∃y,vr ks ys i=J y/\RP K U H x y
  |none=>vr ks ys i=Y:=by
 induction ks generalizing xs ys with
 |nil=>cases xs<;>cases ys<;>rfl
 |cons k ks j =>
  cases r with
  |nil=>rfl
  |cons a t =>
   unfold vr;by_cases e:k=i
   .simp only[e_ e];exact⟨_,rfl,a⟩
   .simp only[h8 e];exact j t
def Az{ks:SS}{xs:SM}{ys:List V}{v:PV}{y:V}(r:RPs K U H xs ys)(q:RP K U H v y)(i:Int):(i_ ks xs i v).1=(i_ ks ys i y).1/\RPs K U H (i_ ks xs i v).2 (i_ ks ys i y).2:=by
 induction ks generalizing xs ys with
 |nil=>exact⟨by simp[i_],by simpa using .cons q .nil⟩
 |cons k ks u =>
  cases r with
  |nil=>exact⟨rfl,.cons q .nil⟩
  |cons a t =>
   unfold i_;by_cases e:k=i
   .simp only[e_ e];exact⟨trivial,.cons q t⟩
   .simp only[h8 e];obtain⟨l,j⟩:=u t;exact⟨by rw[l],.cons a j⟩
end
def cQ(h:MH)(y:PV):Option (Bool×SS×SM):=match y with
 |.loc n=>(match h[n]? with
  |some (.dic fz a xs)=>J (fz,a,xs)
  |_=>Y)
 |_=>Y
def j9{X:Cx}{U:SW}{H:Hp}{h:MH}{x:PV}{y:V}{fz:Bool}{i:SS}{xs:SM}(B:RH X.K X.mg U H h)(r:RP X.K U H x y)(e:cQ h x=J (fz,i,xs)):
  ∃n a ys,x=.loc n/\U[n]?=J a/\y=.ref a/\h[n]?=J (.dic fz i xs)/\ys.length=i.length/\RPs X.K U H xs ys/\dO fz (H a) (.dK (kz i ys)):=by
 cases r with
 |@loc n a l =>
  obtain⟨o,j,u⟩:=B.obj l;unfold cQ at e;dsimp only at e;rw[j]at e
  cases o with
  |dic f k z =>
   cases e;obtain⟨ys,e1,e2,e3⟩:=u;exact⟨n,a,ys,rfl,l,rfl,j,e1,e2,e3⟩
  |_=>cases e
 |_=>cases e
def sx(a:Bool)(x y:PV)(h:MH):SH:=match x,cQ h y with
 |.int i,J (_,j,xs)=>.ok (.bl (if a then !(vr j xs i).isSome else(vr j xs i).isSome)) h
 |_,_=>.bad
def nA(x y:PV)(h:MH):SH:=match y,cQ h x with
 |.int i,J (_,a,xs)=>Out.ofO (vr a xs i) h
 |_,_=>.bad
section
variable{X:Cx}{N W G:SQ}{k:Nat}
def AQ{K:g_}{U:SW}{H:Hp}{j:SS}{xs:SM}{ys:List V}{z:List (tr×Value)}{i:Int}(hl:ys.length=j.length)(r:RPs K U H xs ys)(l:KV (kz j ys) z):(vr j xs i).isSome=(valueAt z (.inl i)).isSome:=by
 have a:=KV.val l (.inl i);rw[uE hl]at a;have b:=pU (ks:=j) r i
 cases e:vr j xs i with
 |none =>
  rw[e]at b;rw[b]at a;rw[ii.none_of a];rfl
 |some x =>
  rw[e]at b;obtain⟨y,e1,_⟩:=b;rw[e1]at a;obtain⟨u,e2,_⟩:=ii.some_of a;rw[e2];rfl
def xX(j:Bool):A4 X (compareOp (if j then .NotIn else .In)) (sx j):=by
 intro K4 s Z H R y' u v Q l E C ⟨U,h,x,y,L,M,O,q⟩;unfold sx at q
 split at q
 .rename_i i fz ks xs P
  obtain⟨n,a,ys,rfl,en,rfl,S,hl,F,d⟩:=j9 L O P;cases M;obtain⟨t,rfl⟩:=E;cases C;obtain⟨z,hd,vs,B,dd⟩:=nj l.hok d;have e:=AQ (i:=i) hl F B
  cases j with
  |false =>
   refine wpAny_in_of (fe _ _ i t) hd dd.mapOf ⟨.bl _,H,l.tok _,rfl,?_⟩;rw[<-e];exact q U H _ (Le.refl _ _) L (.bl _)
  |true =>
   refine wpAny_notIn_of (fe _ _ i t) hd dd.mapOf ⟨.bl _,H,l.tok _,rfl,?_⟩;rw[<-e];exact q U H _ (Le.refl _ _) L (.bl _)
 .exact q.elim
def zf{ea b:Expr}{ma mb:Mx PV}{ak:Pos}(ha:ME X ea ma)(hb:ME X b mb)(hs:∀ov iv,subscripted b T ov iv=operate [ov,iv] (getItem ov iv):=by exact λ_ _=>rfl):ME X (.Subscript ea b ak) (aA nA ma mb):=by
 intro K4 s Z H Q al ⟨U,j,h,rs,rh,q⟩;refine Subscript_ (ln (ha K4 s Z H (λx' E=>∃l P x,Le U H l E/\RH X.K X.mg l E P/\RP X.K l E x x'/\Ful X (RV' X) j l E ((mb j P).bind λy M=>(nA x y M).ne) Q) al ⟨U,j,h,rs,rh,Ful.bind q λl E x x' P _ l1 O rx q1=>⟨l,P,x,l1,O,rx,q1⟩⟩) λu s1 ⟨x',E,I1,r1,l,P,x,l1,O,rx,q1⟩=>ln (hb K4 s1 Z E (λy' L=>∃F M y,Le l E F L/\RH X.K X.mg F L M/\RP X.K F L y y'/\Ful X (RV' X) j F L (nA x y M).ne Q) I1 ⟨l,j,P,rs.le l1,O,Ful.bind q1 λF L y y' M _ l2 C R B=>⟨F,M,y,l2,C,R,B⟩⟩) λiv s2 ⟨y',L,I2,r2,F,M,y,l2,C,R,B⟩=>?_);unfold nA at B
 split at B
 .rename_i i fz ks xs ed
  obtain⟨n,a,ys,rfl,en,rfl,eo,hl,ab,d⟩:=j9 C (rx.le l2) ed;cases R;obtain⟨t,rfl⟩:=r2;cases r1;obtain⟨z,hd,vs,ai,dd⟩:=nj I2.hok d
  cases ex:vr ks xs i with
  |none=>rw[ex]at B;exact B.elim
  |some x =>
   rw[ex]at B;have b:=pU (ks:=ks) ab i;rw[ex]at b;obtain⟨y,e1,R⟩:=b;have ra:=KV.val ai (.inl i);rw[uE hl,e1]at ra;obtain⟨w',hw,rw'⟩:=ii.some_of ra;have hT:=dd.typeIs;refine hG ?_;refine hG (wpAny_specialOf hT PySem.F.slot_dict_getitem.lookup ?_);have fin:wpAny (model X.prog X.w) X.A (subscripted b T (.ref a) (.int i t)) (λr S=>wpAny (model X.prog X.w) X.A (letTemporaryGo ea (.ref a) r >>= λ_=>pure r) (EP X K4 Z Q) X.xe S) X.xe s2:=by rw[hs (.ref a) (.int i t)];exact wpAny_operating (wpAny_getItem_of (fe _ _ i t) dd.mapOf hw (hG (wpAny_letTemporaryGo (o_ ⟨y,L,I2.tok _,rw',B F L _ (Le.refl _ _) C R⟩))))
   first
    |exact o_ (hG fin)
 .exact B.elim
def Q_(m:Mx PV)(u:Mx (SM)):Mx PV:=λZ h=>(m Z h).bind λx a=>match x,cQ a x with
 |.loc n,J _=>(u Z a).bind λl j=>match l,cQ j (.loc n) with
  |[.int i,d],J (_,y,xs)=>.ok ((vr y xs i).getD d) j
  |_,_=>.bad
 |_,_=>.bad
def DD{y:SA}{Z:L2.St}{H:Hp}{s:Shared}{fz:Bool}{a:Addr}{l:List (tr×V)}(j:Inv X y Z H s)(d:dO fz (H a) (.dK l)):
  s.TypeIs (.ref a) "dict"/\(∀b,Value.ref a=.ref b->∃i,s.heap.get? b=J i/\i.dict=Y)/\(a==sysModules)=T:=by
 obtain⟨_,hd,B,_,dd⟩:=nj j.hok d;refine⟨dd.typeIs,λb q=>?_,hd⟩;cases q;obtain⟨i,_,_,u,z,_⟩:=dd;exact⟨i,u,z.2.1⟩
def Lp{o a b:Expr}{m:Mx PV}{ma:Mx (SM)}{R j:Pos}(he:ME X o m)(ha:MA X [a,b] ma)(ab:attributeBase o "get" X.env (eval o X.env)=eval o X.env:=by rfl)(ap:((backTo j (starEach [a,b] X.env)).all (λx=>!x.1)&&(backToKw j (keywordEach [] X.env)).all (λx=>x.1.isSome)
   && decide ([a,b].length+([]:List Keyword).length+(if([]:List Keyword).isEmpty then 0 else 1)<30))=I:=by rfl)(ai:(R.endLine==j.line)=I:=by rfl)(hs:starEach [a,b] X.env=(T,eval a X.env)::starEach [b] X.env:=by rfl)(F:(backTo j (starEach [b] X.env)).any (·.1)=T:=by rfl):
  ME X (.Call (.Attribute o "get" R) [a,b] [] j) (Q_ m ma):=by
 intro K4 s Z H Q a7 ⟨U,l,h,rs,rh,q⟩
 refine wpAny_Call_method_late ab ap ai rfl (ln (he K4 s Z H (λx' P=>∃u h1 x,Le U H u P/\RH X.K X.mg u P h1/\RP X.K u P x x'/\Ful X (RV' X) l u P (match x,cQ h1 x with
 |.loc n,J _=>(ma l h1).bind λC L=>match C,cQ L (.loc n) with
  |[.int i,d],J (_,ks,xs)=>.ok ((vr ks xs i).getD d) L
  |_,_=>.bad
 |_,_=>.bad) Q) a7 ⟨U,l,h,rs,rh,Ful.bind q λu P x x' h1 _ l1 O rx q1=>⟨u,h1,x,l1,O,rx,q1⟩⟩) λv s1 ⟨x',P,I1,r1,u,h1,x,l1,O,rx,q1⟩=>?_)
 split at q1
 .rename_i n w ew
  obtain⟨_,ad,ys,e0,en,rfl,eo,hl,a9,d⟩:=j9 O rx ew;cases e0;cases r1;obtain⟨t1,t2,_⟩:=DD I1 d;refine⟨"dict","dict.get",PySem.F.plainAttrs_dict,PySem.F.slot_dict_get,PySem.F.type_dict_get,t1,t2,?_⟩
  have hA:=ha j K4 s1 Z P (λS M=>∃B L C,Le u P B M/\RH X.K X.mg B M L/\RPs X.K B M C S/\Ful X (RV' X) l B M (match C,cQ L (.loc n) with
   |[.int i,d],J (_,ks,xs)=>.ok ((vr ks xs i).getD d) L
   |_,_=>.bad) Q) I1 ⟨u,l,h1,rs.le l1,O,Ful.bind q1 λB M C S L _ l2 E al q2=>⟨B,L,C,l2,E,al,q2⟩⟩
  rw[hs]at hA ⊢;refine Calls.callWith_builtin (by show(T||(backTo j (starEach [b] X.env)).any (·.1))=T;rw[F]<;>rfl) (Calls.evalArgs_plain ?_);refine ln hA λus s2 ⟨S,M,I2,r2,B,L,C,l2,E,al,q2⟩=>?_
  split at q2
  .rename_i i dd b9 ak an a6
   obtain⟨_,b5,b6,e0,bm,e1,b0,a5,ar,d2⟩:=j9 E (.loc (l2.get en)) a6;cases e0;cases e1
   cases al with
   |cons a1 a2=>cases a2 with
    |cons a3 a4 =>
     cases a4;cases a1
     cases r2 with
     |cons b1 b2=>cases b2 with
      |@cons _ u3 _ _ b3 b4 =>
       cases b4;obtain⟨t,rfl⟩:=b1;obtain⟨z,hd,C,a0,de⟩:=nj I2.hok d2;have ra:=KV.val a0 (.inl i);rw[uE a5]at ra;have rb:=pU (ks:=ak) ar i;have fin:∃v',aO v' ((valueAt C (.inl i)).getD u3)/\RP X.K B M ((vr ak an i).getD dd) v':=by
        cases ex:vr ak an i with
        |none =>
         rw[ex]at rb;dsimp only at rb;rw[rb]at ra;rw[ii.none_of ra];exact⟨_,b3,a3⟩
        |some x =>
         rw[ex]at rb;obtain⟨y,e1,ry⟩:=rb;rw[e1]at ra;obtain⟨w',hw,rw'⟩:=ii.some_of ra;rw[hw];exact⟨y,rw',ry⟩
       obtain⟨v',a8,as⟩:=fin;exact call_meetsIn PySem.F.slot_dict_get de.typeIs PySem.F.entry_dict_get (PySem.F.args_dict_get_3 _ _ _) (meets_dict_get_default (fP X.prog X.w) ad (fe _ _ i t) hd _) ⟨_,de.mapOf,v',M,I2.tok _,a8,q2 B M _ (Le.refl _ _) E as⟩
  .exact q2.elim
 .exact q1.elim
def k9(mo l mv:Mx PV):nr:=Ap mv λv=>Ap mo λo=>Ap l λi Z h=>match o,i,cQ h o with
 |.loc n,.int j,J (T,a,xs)=>if a.length<sizeLine then .nx Z (h.set n (.dic T (i_ a xs j v).1 (i_ a xs j v).2))else .bad
 |_,_,_=>.bad
def DE{o i B:Expr}{mo mi mv:Mx PV}{ai O:Pos}(ho:ME X o mo)(hi:ME X i mi)(hv:ME X B mv)(hs:swapsWith B (J (.Subscript o i O)) ai.line X.env=pure T:=by rfl):
  MS X (.Assign [.Subscript o i O] B ai) (k9 mo mi mv):=by
 intro K4 s Z H D an ⟨U,l,h,rs,rh,q⟩;unfold k9 at q
 have kk:tM X (RV' X) mv Z H (λC H1=>tM X (RV' X) mo Z H1 λo' H2=>tM X (RV' X) mi Z H2 λi' F=>∃E M v o i,RH X.K X.mg E F M/\RS X.K E F l Z/\RP X.K E F v C/\RP X.K E F o o'/\RP X.K E F i i'/\bt X E F (match o,i,cQ M o with
  |.loc n,.int j,J (T,y,xs)=>if y.length<sizeLine then .nx l (M.set n (.dic T (i_ y xs j v).1 (i_ y xs j v).2))else .bad
  |_,_,_=>.bad) D):=by
  refine⟨U,l,h,rs,rh,?_⟩;unfold Ap at q
  cases e:mv l h with
  |exc x h1=>rw[e]at q;exact q
  |bad=>rw[e]at q;exact q
  |ok v h1 =>
   rw[e]at q;intro U1 H1 C P a1 rv;dsimp only at q;refine⟨U1,l,h1,rs.le P,a1,?_⟩
   cases e2:mo l h1 with
   |exc x h2=>rw[e2]at q;exact XP.le (X:=X) (σp:=l) (x:=x) (h:=h2) P q
   |bad=>rw[e2]at q;exact q
   |ok ov h2 =>
    rw[e2]at q;intro U2 H2 o' R ar ro;dsimp only at q;refine⟨U2,l,h2,(rs.le P).le R,ar,?_⟩
    cases e3:mi l h2 with
    |exc x M=>rw[e3]at q;exact XP.le (X:=X) (σp:=l) (x:=x) (h:=M) R (XP.le (X:=X) (σp:=l) (x:=x) (h:=M) P q)
    |bad=>rw[e3]at q;exact q
    |ok iv M =>
     rw[e3]at q;intro E F i' l3 L ri;exact⟨E,M,v,ov,iv,L,((rs.le P).le R).le l3,(rv.le R).le l3,ro.le l3,ri,bt.le l3 (bt.le R (bt.le P q))⟩
 refine wpAny_Assign_Subscript (ln (hv K4 s Z H _ an kk) λr s1 ⟨C,H1,I1,rv,q1⟩=>ln (ho K4 s1 Z H1 _ I1 q1) λu s2 ⟨o',H2,I2,ru,q2⟩=>ln (hi K4 s2 Z H2 _ I2 q2) λiv s3 ⟨i',F,I3,ri,E,M,v,ov,i,L,as,pv,po,pi,Q⟩=>?_) hs
 split at Q
 .rename_i n j y xs ed
  obtain⟨_,a,ys,e0,en,rfl,eo,hl,ak,d⟩:=j9 L po ed;cases e0;cases pi;obtain⟨t,rfl⟩:=ri;cases ru;by_cases hz:y.length<sizeLine
  .rw[e_ hz]at Q;have d':F a=J (.dK (kz y ys)):=d;obtain⟨z,hd,vs,S,dd⟩:=nj I3.hok d;obtain⟨p1,p2⟩:=Az (ks:=y) ak pv j;obtain⟨P,R⟩:=Ag (i:=j) (v:=C) hl;have nd:(vs.map (·.1)).Nodup:=by obtain⟨_,_,_,_,_,_,_,_,nd⟩:=dd;exact nd
   have al:(kz (i_ y ys j C).1 (i_ y ys j C).2).length<=sizeLine:=by unfold kz;rw[List.length_zip,xg];lia
   refine wpAny_setItem_pairs (hsz:=by rw[<-Hv S];exact z) (fe _ _ j t) dd λh' ab ap=>?_;have he:∃q,h'.get? a=J q:=let⟨q,_,_,hq,_⟩:=ab;⟨q,hq⟩;have I4:Inv X K4 Z (upd F a (.dK (kz (i_ y ys j C).1 (i_ y ys j C).2))) { s3 with heap:=h',toks:=s3.toks+1} :=
    I3.write (x:=a) (e:=a) (by rw[d'];exact True.intro) (.inl rfl) (λb q hb z=>(ap.2 b hb).trans z) he ⟨al,hd,_,Hw hl nd S rv,ab⟩
   obtain⟨a0,l4⟩:=L.put en (o:=.dic T (i_ y xs j v).1 (i_ y xs j v).2) (ho:=.dK (kz (i_ y ys j C).1 (i_ y ys j C).2)) ⟨(i_ y ys j C).2,by rw[p1];exact P,p2,by rw[p1];rfl⟩;exact⟨Z,_,I4,Q E _ Z l4 a0 (as.le l4)⟩
  .rw[h8 hz]at Q;exact Q.elim
 .exact Q.elim
end
section
variable{X:Cx}{N W G:SQ}{k:Nat}
local instance inhPV2:Inhabited PV:=⟨.non⟩
def yz{P:Program}{w:World}{l:List DictEntry}{i:List (Int×Value)}(p:Pairs (intKind P w) l i):Pairs (fP P w) l (i.map λj=>((Sum.inl j.1:tr),j.2)):=by
 induction p with
 |nil=>exact .nil
 |cons a b _ u=>exact .cons a b u
def Hx{P:Program}{w:World}{h:Heap}{a:Addr}{l:List (Int×Value)}(d:h.DictOf (intKind P w) a l):h.DictOf (fP P w) a (l.map λj=>((Sum.inl j.1:tr),j.2)):=by
 obtain⟨o,u,B,F,C,y,E,H,nd⟩:=d;refine⟨o,u,B,F,C,y,λe L=>?_,yz H,?_⟩
 .obtain⟨i,e1,e2⟩:=E e L;exact⟨.inl i,e1,e2⟩
 .rw[wu];rw[show((λx:tr×Value=>x.1)∘λj:Int×Value=>((Sum.inl j.1:tr),j.2))=(Sum.inl∘λj:Int×Value=>j.1)from rfl,<-wu];exact(List.pairwise_map.mpr (List.Pairwise.imp (λh z=>h (by cases z;rfl)) nd))
def Hy{K:g_}{U:SW}{H:Hp}:∀{kvs:List (Int×PV)}{vals:List (Int×Value)},kvs.length=vals.length->(∀(i:Nat) a b,kvs[i]?=J a->vals[i]?=J b->a.1=b.1/\∃v,aO v b.2/\RP K U H a.2 v) ->
  ∃ys:List V,ys.length=(kvs.map (·.1)).length/\RPs K U H (kvs.map (·.2)) ys/\KV (kz (kvs.map (·.1)) ys) (vals.map λj=>((Sum.inl j.1:tr),j.2)):=by
 intro kvs
 induction kvs with
 |nil =>
  intro vals hl _
  cases vals with
  |nil=>exact⟨[],rfl,.nil,.nil⟩
  |cons _ _=>simp at hl
 |cons a kvs u =>
  intro vals hl h
  cases vals with
  |nil=>simp at hl
  |cons b vals =>
   obtain⟨ys,e1,e2,e3⟩:=u (by simpa using hl) λi a b z y=>h (i+1) a b (by simpa using z) (by simpa using y);obtain⟨e,v,l,rp⟩:=h 0 a b rfl rfl;exact⟨v::ys,by simp at e1 ⊢;exact e1,.cons rp e2,.cons ⟨congrArg Sum.inl e,l⟩ e3⟩
def wh(i:SM)(h:MH):SH:=match i with
 |[x]=>(match Lo x with
  |some a=>.ok (.loc h.length) (h++[.dic T (a.map (·.1)) (a.map (·.2))])
  |none=>.bad)
 |_=>.bad
def wO(g:Good X N W G k):dy X (.type "dict") (λxs H Q=>∃U h ps j v,xs=[v]/\RH X.K X.mg U H h/\RP X.K U H (.tup ps) v/\i8 ps=J j/\(j.map (·.1)).Nodup /\
   ∀l ys,H l=Y->ys.length=(j.map (·.1)).length->RPs X.K U H (j.map (·.2)) ys->Q (.ref l) (upd H l (.dK (kz (j.map (·.1)) ys)))):=by
 intro K4 s Z H xs us Q E r ⟨U,h,ps,j,v,e,rh,rp,ep,nd,q⟩;subst e;obtain⟨u,rfl,ru⟩:=r.one
 cases rp with
 |tup sq S =>
  cases ru;obtain⟨y,rv,ht,hz⟩:=E.tupleN sq;obtain⟨hl,hv⟩:=xh S rv ep;have a9:=rv.length;have a7:=S.length;have ab:∀i,i<y.length->∃b t C,y[i]?=J (.ref b)/\s.heap.IsTuple b #[.int (j[i]!).1 t,C]/\∃w,aO w C/\RP X.K U H (j[i]!).2 w:=by
   intro i R;have F:i<j.length:=by lia
   obtain⟨b,w,e1,e2,e3⟩:=hv i y[i] j[i] (by simp[R]) (by simp[F]);obtain⟨a8,ak,a6,_⟩:=E.tuple e2
   cases ak with
   |cons a1 a2=>cases a2 with
    |cons a3 a4 =>
     cases a4;obtain⟨t,rfl⟩:=a1;refine⟨b,t,_,by rw[zL R,e1],?_,w,a3,?_⟩
     .rw[getElem!_pos j i F];exact a6
     .rw[getElem!_pos j i F];exact e3
  have an:∃B:List (Int×Value),B.length=y.length/\∀i,i<y.length->∃b t C,B[i]?=J ((j[i]!).1,C)/\y[i]?=J (.ref b)/\s.heap.IsTuple b #[.int (j[i]!).1 t,C]/\∃w,aO w C/\RP X.K U H (j[i]!).2 w:=by
   have:∀n,n<=y.length->∃B:List (Int×Value),B.length=n/\∀i,i<n->∃b t C,B[i]?=J ((j[i]!).1,C)/\y[i]?=J (.ref b)/\s.heap.IsTuple b #[.int (j[i]!).1 t,C]/\∃w,aO w C/\RP X.K U H (j[i]!).2 w:=by
    intro n
    induction n with
    |zero=>exact λ_=>⟨[],rfl,λi R=>absurd R (Nat.not_lt_zero _)⟩
    |succ n ih =>
     intro hn;obtain⟨vs,e1,e2⟩:=ih ⋯;obtain⟨b,t,C,f1,f2,f3⟩:=ab n ⋯;refine⟨vs++[((j[n]!).1,C)],by simp[e1],λi R=>?_⟩;by_cases z:i<n
     .obtain⟨b,t,C,P,g2⟩:=e2 i z;exact⟨b,t,C,by rw[qs ⋯];exact P,g2⟩
     .have:i=n:=by lia
      subst this;exact⟨b,t,C,by rw[BL ⋯,e1];simp,f1,f2,f3⟩
   exact this _ (l_ _)
  obtain⟨B,ap,M⟩:=an;have L:B.map (·.1)=j.map (·.1):=by
   apply F4;intro i;by_cases z:i<y.length
   .obtain⟨_,_,_,P,_⟩:=M i z;have F:i<j.length:=by lia
    rw[r6,r6,P,zL F,getElem!_pos j i F];rfl
   .rw[BM (by simp;lia),BM (by simp;lia)]
  obtain⟨oa,a0,a5,⟨na,al⟩,as⟩:=ht;refine pD (a:=_) (items:=y.toArray) (kvs:=B) (E.ok.hd g.calm) ⟨oa,na,a0,a5,al,as⟩ (by simp[ap]) (by simp;lia) (L▸nd) (λi v kv h1 O=>?_) λh' tk hD hx=>?_
  .have z:i<y.length:=by
    have:=(qi.mp O).1
    lia
   obtain⟨b,t,C,P,g2,g3,_⟩:=M i z;rw[P]at O;cases O
   have:v=.ref b:=by
    have e:y.toArray[i]?=y[i]?:=by simp
    rw[e,g2]at h1;exact(Option.some.inj h1).symm
   exact⟨b,t,this,g3⟩
  .have hn:H s.heap.objs.size=Y:=E.hok.fresh (l_ _);have ai:=Inv.bigM E;obtain⟨ys,y1,y2,y3⟩:=Hy (K:=X.K) (U:=U) (H:=H) (kvs:=j) (vals:=B) ⋯ λi a b h1 O=>by
    have z:i<y.length:=by
     have:=(qi.mp O).1
     lia
    obtain⟨b',t,C,P,g2,g3,w,g4,g5⟩:=M i z;rw[P]at O;cases O;have F:i<j.length:=by lia
    rw[zL F]at h1;cases h1;rw[getElem!_pos j i F]at g5 ⊢;exact⟨rfl,w,g4,g5⟩
   have ar:(kz (j.map (·.1)) ys).length<=sizeLine:=by unfold kz;rw[List.length_zip,xg,xg];lia
   exact⟨.ref s.heap.objs.size,_,E.laid (o:=.dK (kz (j.map (·.1)) ys)) hx (l_ _) ⟨ar,beq_eq_false_iff_ne.mpr (BP ai),_,y3,Hx hD⟩,rfl,q _ ys hn y1 y2⟩
 |_=>cases ep
def vL(g:Good X N W G k):cX X (.type "dict") wh:=by
 intro E s Z H xs R Q u r ⟨U,h,z,y,rp,q⟩;unfold wh at q
 split at q
 .rename_i x
  cases rp with
  |cons P C =>
   cases C
   cases a:Lo x with
   |none=>rw[a]at q;exact q.elim
   |some i =>
    rw[a]at q;unfold Lo at a
    split at a
    .rename_i z
     split at a
     .rename_i B F
      split at a
      .rename_i nd
       cases a;refine wO g E s Z H _ R Q u r ⟨U,h,z,i,_,rfl,y,P,F,nd,λl ys hl M L=>?_⟩;have O:RO X.K X.mg U H l (.dic T (i.map Prod.fst) (i.map Prod.snd)) (J (.dK (kz (i.map Prod.fst) ys))):=⟨ys,M,L,rfl⟩;obtain⟨j,S⟩:=y.new hl O;exact q _ _ _ S j (.loc (by rw[<-y.len];simp))
      .cases a
     .cases a
    .cases a
 .exact q.elim
end
end MM
namespace PU
open MM
def ys{α:Type}{a b:α}(h:a=b):a=b:=h
inductive D where
 |non | bl (b:Bool) | int (i:Int) | str (x:Str) | tup (xs:List D) | lst (xs:List D) | dic (fz:Bool) (ks:SS) (ds:List D) | exc (c:Str) | pen
abbrev _root_.SV:=List D
abbrev _root_.So:=Option D
abbrev b_:=Int×Int×Int
abbrev ay:=List (So)
def bc(h:MH)(p:Nat)(s:b_):Prop:=h[p]?=J (.lst [.int s.1,.int s.2.1,.int s.2.2])
inductive Pw(P:SM->Prop)(v:PV):Prop
 |mk(xs:SM)(e:v=.tup xs)(r:P xs):Pw P v
inductive Ra(h:MH)(O:SU)(P:SM->Prop)(v:PV):Prop
 |mk(n:Nat)(xs:SM)(e:v=.loc n)(no:n∉O)(g:h[n]?=J (.lst xs))(r:P xs):Ra h O P v
inductive Rb(h:MH)(O:SU)(fz:Bool)(ks:SS)(P:SM->Prop)(v:PV):Prop
 |mk(n:Nat)(xs:SM)(e:v=.loc n)(no:n∉O)(g:h[n]?=J (.dic fz ks xs))(r:P xs):Rb h O fz ks P v
inductive Rc(h:MH)(O:SU)(o:MO)(v:PV):Prop
 |mk(n:Nat)(e:v=.loc n)(no:n∉O)(g:h[n]?=J o):Rc h O o v
inductive Px(P:PV->Prop)(Q:SM->Prop)(vs:SM):Prop
 |mk(x:PV)(r:SM)(e:vs=x::r)(a:P x)(b:Q r):Px P Q vs
mutual
def Rp(p:Nat)(h:MH)(O:SU):D->PV->Prop
 |.non,v=>v=.non
 |.bl b,v=>v=.bl b
 |.int i,v=>v=.int i
 |.str x,v=>v=.str x
 |.tup a,v=>Pw (Rps p h O a) v
 |.lst a,v=>Ra h O (Rps p h O a) v
 |.dic fz j a,v=>Rb h O fz j (Rps p h O a) v
 |.exc c,v=>Rc h O (.exc ⟨c,[]⟩) v
 |.pen,v=>v=.loc p
def Rps(p:Nat)(h:MH)(O:SU):SV->SM->Prop
 |[],a=>a=[]
 |d::i,a=>Px (Rp p h O d) (Rps p h O i) a
end
def aG{h:MH}{n:Nat}{o:MO}(e:h[n]?=J o):n<h.length:=(qi.mp e).1
structure Mv(O:SU)(h:MH)(O':SU)(h':MH):Prop where
 keep:∀n:Nat,n<h.length->n∉O->h'[n]?=h[n]?
 new:∀o∈O',o∈O\/h.length<=o
def Mv.get{O a:SU}{h i:MH}(s:Mv O h a i){n:Nat}{o:MO}(e:h[n]?=J o)(j:n∉O):n∉a/\i[n]?=J o:=by
 have hl:=aG e;refine⟨λz=>?_,(s.keep n hl j).trans e⟩;rcases s.new n z with q|q
 .exact j q
 .lia
section
variable{p:Nat}{O O':SU}{h h':MH}
def Rp.mv(s:Mv O h O' h')(r:Rp p h O d v):Rp p h' O' d v:=by
 refine D.rec (motive_2:=λu=>∀y,Rps p h O u y->Rps p h' O' u y)
  (λ_ r=>r) (λ_ _ r=>r) (λ_ _ r=>r) (λ_ _ r=>r) (λu i _ r=>?_) (λu i _ r=>?_) (λ_ _ u i _ r=>?_) (λ_ _ r=>?_) (λ_ r=>r) (λ_ r=>r) (λ_ _ i j _ r=>?_) d v r
 .obtain⟨xs,e,r⟩:=r;exact⟨xs,e,i _ r⟩
 .obtain⟨n,xs,e,l,g,r⟩:=r;exact⟨n,xs,e,(s.get g l).1,(s.get g l).2,i _ r⟩
 .obtain⟨n,xs,e,l,g,r⟩:=r;exact⟨n,xs,e,(s.get g l).1,(s.get g l).2,i _ r⟩
 .obtain⟨n,e,l,g⟩:=r;exact⟨n,e,(s.get g l).1,(s.get g l).2⟩
 .obtain⟨x,t,e,a,b⟩:=r;exact⟨x,t,e,i _ a,j _ b⟩
def Rps.mv(s:Mv O h O' h')(r:Rps p h O i vs):Rps p h' O' i vs:=by
 induction i generalizing vs with
 |nil=>exact r
 |cons d i j=>obtain⟨x,t,e,a,b⟩:=r;exact⟨x,t,e,a.mv s,j b⟩
def Rps.length(r:Rps p h O i vs):vs.length=i.length:=by
 induction i generalizing vs with
 |nil=>rw[show vs=[]from r];rfl
 |cons d i j=>obtain⟨x,t,e,a,b⟩:=r;rw[e,BN,BN,j b]
def Rps.get{j:SV}{l:SM}{i:Nat}{d:D}(r:Rps p h O j l)(g:j[i]?=J d):∃v,l[i]?=J v/\Rp p h O d v:=by
 induction j generalizing l i with
 |nil=>cases g
 |cons d j u =>
  obtain⟨x,t,e,a,b⟩:=r;subst e
  cases i with
  |zero=>cases g;exact⟨x,rfl,a⟩
  |succ i=>have z:=@u t i b g;exact z
def Rps.app(r:Rps p h O i vs)(s:Rps p h O es ws):Rps p h O (i++es) (vs++ws):=by
 induction i generalizing vs with
 |nil=>rw[show vs=[]from r];exact s
 |cons d i j=>obtain⟨x,t,e,a,b⟩:=r;subst e;exact⟨x,t++_,rfl,a,j b⟩
def Rps.take(n:Nat)(r:Rps p h O i vs):Rps p h O (i.take n) (vs.take n):=by
 induction i generalizing vs n with
 |nil=>rw[show vs=[]from r];cases n<;>rfl
 |cons d i j =>
  obtain⟨x,t,e,a,b⟩:=r;subst e
  cases n with
  |zero=>rfl
  |succ n=>exact⟨x,t.take n,rfl,a,j n b⟩
def Rps.drop(n:Nat)(r:Rps p h O i vs):Rps p h O (i.drop n) (vs.drop n):=by
 induction i generalizing vs n with
 |nil=>rw[show vs=[]from r];cases n<;>rfl
 |cons d i j =>
  cases n with
  |zero=>exact r
  |succ n=>obtain⟨x,t,e,a,b⟩:=r;subst e;exact j n b
def Rps.set(i:Nat)(r:Rps p h O j vs)(q:Rp p h O d v):Rps p h O (j.set i d) (vs.set i v):=by
 induction j generalizing vs i with
 |nil=>rw[show vs=[]from r];rfl
 |cons u j l =>
  obtain⟨x,t,e,a,b⟩:=r;subst e
  cases i with
  |zero=>exact⟨v,t,rfl,q,b⟩
  |succ i=>exact⟨x,t.set i v,rfl,a,l i b⟩
end
def dl:Option (SS)->SV->D
 |none,a=>.lst a
 |some i,a=>.dic T i a
def mo:Option (SS)->SM->MO
 |none,xs=>.lst xs
 |some a,xs=>.dic T a xs
def js(e:D.lst ds=dl k es):k=Y/\ds=es:=by
 cases k with
 |none=>cases e;exact⟨rfl,rfl⟩
 |some _=>cases e
inductive Re(p:Nat)(h:MH)(L:Nat)(O:SU)(d:D)(v:PV):Prop
 |mk(n:Nat)(k:Option (SS))(xs:SM)(ds:SV)(e:d=dl k ds)(e':v=.loc n)(o:n∈O)(l:L<=n)(g:h[n]?=J (mo k xs))(r:Rps p h O ds xs):Re p h L O d v
def Vw(p:Nat)(h:MH)(L:Nat)(O:SU)(d:D)(v:PV):Prop:=Rp p h O d v\/Re p h L O d v
def Fq(p:Nat)(h:MH)(L:Nat)(O:SU):SV->SM->Prop
 |[],a=>a=[]
 |d::i,a=>Px (Vw p h L O d) (Fq p h L O i) a
inductive Lq(p:Nat)(L:Nat)(O:SU)(h:MH)(k:Option (SS))(ds:SV)(v:PV):Prop
 |mk(n:Nat)(xs:SM)(e:v=.loc n)(l:L<=n)(g:h[n]?=J (mo k xs))(r:Rps p h (n::O) ds xs):Lq p L O h k ds v
def Frs(p:Nat)(L:Nat)(O:SU)(h:MH)(d:D)(v:PV):Prop:=∀k a,d=dl k a->Lq p L O h k a v
structure KB(p:Nat)(h h':MH):Prop where
 len:h.length<=h'.length
 keep:∀n:Nat,n<h.length->n≠p->h'[n]?=h[n]?
def KB.refl(p:Nat)(h:MH):KB p h h:=⟨l_ _,λ_ _ _=>rfl⟩
def KB.trans(a:KB p h h1)(b:KB p h1 h2):KB p h h2 :=
 ⟨n_ a.len b.len,λn i j=>(b.keep n (vv i a.len) j).trans (a.keep n i j)⟩
def KB.app(p:Nat)(h g:MH):KB p h (h++g):=⟨by simp,λn a _=>qs a⟩
def KB.mv(k:KB p h h')(j:p∈O):Mv O h O h' :=
 ⟨λn a l=>k.keep n a λz=>l (z▸j),λo i=>.inl i⟩
def bc.app{p:Nat}{h g:MH}{s:b_}(e:bc h p s):bc (h++g) p s:=by unfold bc at *;rw[qs (aG e)];exact e
def Vw.kb{p L:Nat}{h a:MH}{O:SU}{d:D}{v:PV}(k:KB p h a)(i:p∈O)(hL:p<L)(w:Vw p h L O d v):Vw p a L O d v:=by
 rcases w with r|⟨n,u,xs,l,e1,e2,y,j,g,r⟩
 .exact .inl (r.mv (k.mv i))
 .exact .inr ⟨n,u,xs,l,e1,e2,y,j,(k.keep n (aG g) ⋯).trans g,r.mv (k.mv i)⟩
inductive PR(α:Type) where
 |ok(a:α)(s:b_)
 |exc(c:va)(s:b_)
 |bad
def PR.bind{α β:Type}(r:PR α)(f:α->b_->PR β):PR β:=match r with
 |.ok a s=>f a s
 |.exc c s=>.exc c s
 |.bad=>.bad
@[simp]theorem Pb(a:α)(s:b_)(f:α->b_->PR β):(PR.ok a s).bind f=f a s:=rfl
@[simp]theorem Pe(c:va)(s:b_)(f:α->b_->PR β):(PR.exc c s).bind f=.exc c s:=rfl
@[simp]theorem Pd(f:α->b_->PR β):(PR.bad:PR α).bind f=.bad:=rfl
def PR.of{α:Type}(o:Option α)(s:b_):PR α:=match o with
 |some a=>.ok a s
 |none=>.bad
@[simp]theorem Pf(a:α)(s:b_):PR.of (J a) s=.ok a s:=rfl
@[simp]theorem Pn(s:b_):PR.of (Y:Option α) s=.bad:=rfl
inductive Rf{α β:Type}(p:Nat)(h:MH)(o:Out β)(a:α)(s:b_)(R:MH->α->β->Prop):Prop
 |mk(b:β)(h':MH)(e:o=.ok b h')(k:KB p h h')(n:bc h' p s)(r:R h' a b):Rf p h o a s R
inductive Rg{β:Type}(p:Nat)(h:MH)(o:Out β)(c:va)(s:b_):Prop
 |mk(h':MH)(e:o=.exc c h')(k:KB p h h')(n:bc h' p s):Rg p h o c s
def Ok{α β:Type}(p:Nat)(h:MH)(o:Out β)(r:PR α)(R:MH->α->β->Prop):Prop:=match r with
 |.ok a s=>Rf p h o a s R
 |.exc c s=>Rg p h o c s
 |.bad=>True
def Ok.bind{α β γ δ:Type}{p:Nat}{h:MH}{o:Out β}{r:PR α}{R:MH->α->β->Prop}{f:β->MH->Out δ}{g:α->b_->PR γ}{S:MH->γ->δ->Prop}(q:Ok p h o r R)(k:∀a b i s,KB p h i->bc i p s->R i a b->Ok p i (f b i) (g a s) S):Ok p h (o.bind f) (r.bind g) S:=by
 cases r with
 |ok a s =>
  obtain⟨b,i,rfl,kb,pn,y⟩:=q
  have:=k a b i s kb pn y
  rw[Pb]
  cases e:g a s with
  |ok c z =>
   rw[e]at this;obtain⟨d,u,e2,l,j,B⟩:=this;exact⟨d,u,e2,kb.trans l,j,B⟩
  |exc c z =>
   rw[e]at this;obtain⟨u,e2,l,j⟩:=this;exact⟨u,e2,kb.trans l,j⟩
  |bad=>trivial
 |exc c s =>
  obtain⟨i,rfl,kb,pn⟩:=q;exact⟨i,rfl,kb,pn⟩
 |bad=>trivial
def Ok.imp{α β:Type}{p:Nat}{h:MH}{o:Out β}{r:PR α}{R S:MH->α->β->Prop}(q:Ok p h o r R)(k:∀i a b,KB p h i->R i a b->S i a b):Ok p h o r S:=by
 cases r with
 |ok a s=>obtain⟨b,l,e,kb,pn,j⟩:=q;exact⟨b,l,e,kb,pn,k _ _ _ kb j⟩
 |exc c s=>exact q
 |bad=>trivial
structure SR(p:Nat)(h:MH)(L:Nat)(O:SU)(ws:SU)(Z:p_)(env:ay):Prop where
 len:Z.length=env.length
 fz:∀i d,env[i]?=J (J d)->i∉ws->∃v,Z[i]?=J (J v)/\Rp p h O d v
 ow:∀i d,env[i]?=J (J d)->i∈ws->∃n k xs ds,d=dl k ds/\Z[i]?=J (J (.loc n))/\n∈O/\L<=n/\h[n]?=J (mo k xs)/\Rps p h O ds xs
structure Cx(p:Nat)(h:MH)(L:Nat)(B O:SU)(ws:SU)(Z:p_)(env:ay)(s:b_):Prop where
 bd:∀o∈O,o<h.length
 sub:∀o∈B,o∈O
 bb:∀o∈B,o<L
 pb:p∈B
 hL:L<=h.length
 pen:bc h p s
 sr:SR p h L O ws Z env
section
variable{p L:Nat}{h h':MH}{B O ws:SU}{Z:p_}{env:ay}{s s':b_}
def Cx.pO(c:Cx p h L B O ws Z env s):p∈O:=c.sub p c.pb
def Cx.pL(c:Cx p h L B O ws Z env s):p<L:=c.bb p c.pb
def SR.mv{j:SU}(m:Mv O h j h')(y:∀o∈O,o∈j)(z:∀n:Nat,n<h.length->L<=n->n∈O->h'[n]?=h[n]?)(r:SR p h L O ws Z env):SR p h' L j ws Z env :=
 ⟨r.len,λi d e l=>let⟨v,e1,q⟩:=r.fz i d e l;⟨v,e1,q.mv m⟩,λi d e l=>let⟨n,k,xs,u,e1,e2,a,b,g,q⟩:=r.ow i d e l;⟨n,k,xs,u,e1,e2,y n a,b,(z n (aG g) b a).trans g,q.mv m⟩⟩
def Cx.kb(c:Cx p h L B O ws Z env s)(k:KB p h h')(pn:bc h' p s'):Cx p h' L B O ws Z env s' :=
 ⟨λo i=>vv (c.bd o i) k.len,c.sub,c.bb,c.pb,n_ c.hL k.len,pn,c.sr.mv (k.mv c.pO) (λ_ h=>h) λn a hl _=>k.keep n a (by have:=c.pL;lia)⟩
def Vw.base(w:Vw p h L O d v)(sub:∀o∈B,o∈O)(bb:∀o∈B,o<L):Rp p h B d v:=by
 have m:Mv O h B h:=⟨λ_ _ _=>rfl,λo a=>.inl (sub o a)⟩;rcases w with r|⟨n,k,xs,j,rfl,rfl,_,i,g,r⟩
 .exact r.mv m
 .cases k<;>exact⟨n,xs,rfl,λz=>by have:=bb n z;lia,g,r.mv m⟩
def Frs.rp(f:Frs p L' O h d v)(bd:∀o∈O,o<L')(e:d=dl k ds):Rp p h O d v:=by obtain⟨n,xs,e1,i,g,r⟩:=f k ds e;subst e;cases k<;>exact⟨n,xs,e1,λz=>by have:=bd n z;lia,g,r.mv ⟨λ_ _ _=>rfl,λo a=>.inl (pj _ a)⟩⟩
def Frs.le(f:Frs p L2 O h d v)(hl:L1<=L2):Frs p L1 O h d v:=λk i e =>
 let⟨n,xs,e1,a,g,r⟩:=f k i e;⟨n,xs,e1,n_ hl a,g,r⟩
end
abbrev Bd(h:MH)(O:SU):Prop:=∀o∈O,o<h.length
inductive Gv(p:Nat)(h:MH)(O:SU)(fr:Bool)(o:SH)(d:D):Prop
 |mk(v:PV)(g:MH)(e:o=.ok v (h++g))(r:Rp p (h++g) O d v)(f:fr=I->Frs p h.length O (h++g) d v):Gv p h O fr o d
structure NK where
 m:PV->MH->SH
 p:D->So
 fr:Bool
 ok:∀{q h L O a x d},Bd h O->Vw q h L O a x->p a=J d->Gv q h O fr (m x h) d
structure x_ where
 m:PV->PV->MH->SH
 p:D->D->So
 fr:Bool
 ok:∀{q h L O a x b y d},Bd h O->Vw q h L O a x->Vw q h L O b y->p a b=J d->Gv q h O fr (m x y h) d
structure B9 where
 k:SM->MH->SH
 p:SV->So
 fr:Bool
 ok:∀{q h L O as xs d},Bd h O->Fq q h L O as xs->p as=J d->Gv q h O fr (k xs h) d
structure Fn where
 m:SM->MH->SH
 p:SV->b_->PR D
 fr:Bool
 ok:∀{q h O vs ds s},Bd h O->q∈O->bc h q s->Rps q h O ds vs->Ok q h (m vs h) (p ds s) (λh' d v=>Rp q h' O d v/\(fr=I->Frs q h.length O h' d v))
mutual
def flat:D->Bool
 |.lst _ | .dic _ _ _ | .exc _ | .pen=>T
 |.tup a=>d_ a
 |_=>I
def d_:SV->Bool
 |[]=>I
 |d::a=>flat d&&d_ a
end
section
variable{p:Nat}{h h':MH}{O O':SU}
mutual
def Rp.flat:∀{d:D}{v:PV},PU.flat d=I->Rp p h O d v->Rp p h' O' d v
 |.non,_,_,r=>r
 |.bl _,_,_,r=>r
 |.int _,_,_,r=>r
 |.str _,_,_,r=>r
 |.tup a,_,f,⟨xs,e,r⟩=>⟨xs,e,Rps.flat (by simpa [PU.flat]using f) r⟩
 |.lst a,_,f,_=>by simp[PU.flat]at f
 |.dic _ _ _,_,f,_=>by simp[PU.flat]at f
 |.exc _,_,f,_=>by simp[PU.flat]at f
 |.pen,_,f,_=>by simp[PU.flat]at f
def Rps.flat:∀{i:SV}{j:SM},PU.d_ i=I->Rps p h O i j->Rps p h' O' i j
 |[],_,_,r=>r
 |_::_,_,f,⟨x,t,e,a,b⟩=>⟨x,t,e,Rp.flat (by simp[PU.d_]at f;exact f.1) a,Rps.flat (by simp[PU.d_]at f;exact f.2) b⟩
end
end
structure Xe(ws:SU) where
 m:Mx PV
 p:ay->b_->PR D
 fz:Bool
 fr:Bool
 ok:∀{q h L B O Z env s},Cx q h L B O ws Z env s->Ok q h (m Z h) (p env s) (λh' d v=>Vw q h' L O d v/\(fz=I->Rp q h' O d v)/\(fr=I->Frs q h.length O h' d v))
structure Xs(ws:SU) where
 m:Mx (SM)
 p:ay->b_->PR (SV)
 fz:Bool
 ok:∀{q h L B O Z env s},Cx q h L B O ws Z env s->Ok q h (m Z h) (p env s) (λh' ds vs=>Fq q h' L O ds vs/\(fz=I->Rps q h' O ds vs))
structure Xt(ws:SU) where
 m:Mx Bool
 p:ay->b_->PR Bool
 ok:∀{q h L B O Z env s},Cx q h L B O ws Z env s->Ok q h (m Z h) (p env s) (λ_ a b=>a=b)
noncomputable section
variable{ws:SU}
def B_{q L:Nat}{h a:MH}{O:SU}{o:SH}{d:D}{s:b_}{fr:Bool}(le:h.length<=a.length)(pn:bc a q s)(g:Gv q a O fr o d):
  Ok q a o (.ok d s) (λi d v=>Vw q i L O d v/\(I=I->Rp q i O d v)/\(fr=I->Frs q h.length O i d v)):=by
 obtain⟨v,g,e,r,f⟩:=g;exact⟨v,a++g,e,KB.app _ _ _,pn.app,.inl r,λ_=>r,λz=>(f z).le le⟩
def ac(i:Nat):Xe ws where
 m:=am i
 p:=λenv s=>match env[i]? with
  |some (J d)=>.ok d s
  |_=>.bad
 fz:=!ws.contains i
 fr:=T
 ok {q h L B O Z env s} c:=by
  show Ok q h _ (match env[i]? with|some (J d)=>PR.ok d s|_=>.bad) _
  cases e:env[i]? with
  |none=>trivial
  |some o =>
   cases o with
   |none=>trivial
   |some d =>
    by_cases z:i∈ws
    .obtain⟨n,k,xs,j,e1,e2,a,b,g,r⟩:=c.sr.ow i d e z;exact⟨.loc n,h,by simp[am,e2],KB.refl _ _,c.pen,.inr ⟨n,k,xs,j,e1,rfl,a,b,g,r⟩,λf=>by simp[z]at f,λf=>by simp at f⟩
    .obtain⟨v,e1,r⟩:=c.sr.fz i d e z;exact⟨v,h,by simp[am,e1],KB.refl _ _,c.pen,.inl r,λ_=>r,λf=>by simp at f⟩
inductive Cn where
 |non | bl (b:Bool) | int (i:Int) | str (x:Str)
def Cn.v:Cn->PV
 |.non=>.non
 |.bl b=>.bl b
 |.int i=>.int i
 |.str x=>.str x
def Cn.d:Cn->D
 |.non=>.non
 |.bl b=>.bl b
 |.int i=>.int i
 |.str x=>.str x
def Cn.rp(c:Cn){q:Nat}{h:MH}{O:SU}:Rp q h O c.d c.v:=by cases c<;>rfl
def xC(k:Cn):Xe ws where
 m:=mC k.v
 p:=λ_ s=>.ok k.d s
 fz:=I
 fr:=I
 ok {q h L B O Z env s} c:=⟨k.v,h,rfl,KB.refl _ _,c.pen,.inl k.rp,λ_=>k.rp,λ_ a i e=>by cases k<;>cases a<;>cases e⟩
def ae(o:x_)(a b:Xe ws):Xe ws where
 m:=aA o.m a.m b.m
 p:=λenv s=>(a.p env s).bind λx l=>(b.p env l).bind λy E=>.of (o.p x y) E
 fz:=I
 fr:=o.fr
 ok {q h L B O Z env s} c:=by
  refine(a.ok c).bind λx v P l j z ⟨F,_,_⟩=>?_;refine(b.ok (c.kb j z)).bind λy w M E i C ⟨G,_,_⟩=>?_
  cases e:o.p x y with
  |none=>trivial
  |some d =>
   have H:=(c.kb j z).kb i C;obtain⟨u,g,e1,r,f⟩:=o.ok H.bd (F.kb i c.pO c.pL) G e;exact B_ (n_ j.len i.len) C ⟨u,g,by rw[e1];rfl,r,f⟩
def u_(o:NK)(a:Xe ws):Xe ws where
 m:=KO o.m a.m
 p:=λenv s=>(a.p env s).bind λx i=>.of (o.p x) i
 fz:=I
 fr:=o.fr
 ok {q h L B O Z env s} c:=by
  refine(a.ok c).bind λx v z i l j ⟨y,_,_⟩=>?_
  cases e:o.p x with
  |none=>trivial
  |some d =>
   obtain⟨u,g,e1,r,f⟩:=o.ok (c.kb l j).bd y e;exact B_ l.len j ⟨u,g,by rw[e1];rfl,r,f⟩
def a_:Xs ws where
 m:=f_
 p:=λ_ s=>.ok [] s
 fz:=I
 ok {q h L B O Z env s} c:=⟨[],h,rfl,KB.refl _ _,c.pen,rfl,λ_=>rfl⟩
def aa(a:Xe ws)(r:Xs ws):Xs ws where
 m:=aj a.m r.m
 p:=λenv s=>(a.p env s).bind λx i=>(r.p env i).bind λy l=>.ok (x::y) l
 fz:=a.fz&&r.fz
 ok {q h L B O Z env s} c:=by refine(a.ok c).bind λx v M i F u ⟨C,z1,_⟩=>?_;refine(r.ok (c.kb F u)).bind λy w E l j z ⟨G,H⟩=>?_;refine⟨v::w,E,rfl,KB.refl _ _,z,⟨v,w,rfl,C.kb j c.pO c.pL,G⟩,λf=>?_⟩;rw[Bw]at f;exact⟨v,w,rfl,(z1 f.1).mv (j.mv c.pO),H f.2⟩
def n4(o:B9)(a:Xs ws):Xe ws where
 m:=λZ h=>(a.m Z h).bind o.k
 p:=λenv s=>(a.p env s).bind λx i=>.of (o.p x) i
 fz:=I
 fr:=o.fr
 ok {q h L B O Z env s} c:=by
  refine(a.ok c).bind λx v y i j l ⟨u,_⟩=>?_
  cases e:o.p x with
  |none=>trivial
  |some d=>exact B_ j.len l (o.ok (c.kb j l).bd u e)
def ah(f:Fn)(a:Xs ws)(u:a.fz=I:=by exact ys rfl):Xe ws where
 m:=fu f.m a.m
 p:=λenv s=>(a.p env s).bind f.p
 fz:=I
 fr:=f.fr
 ok {q h L B O Z env s} c:=by refine(a.ok c).bind λx v E y j i ⟨_,z⟩=>?_;have l:=c.kb j i;refine(f.ok l.bd l.pO i (z u)).imp λC d v kb ⟨r,fr⟩=>⟨.inl r,λ_=>r,λz=>(fr z).le j.len⟩
def fH:100000<=sizeLine:=by decide
def m5(bd:Bd h O)(r:Rps q h O ds xs)(hl:ds.length<=100000):Gv q h O I (vR xs h) (.lst ds):=by
 have u:=r.length;have m:Mv O h O (h++[MO.lst xs]):=⟨λn a _=>qs a,λo i=>.inl i⟩
 have j:Mv O h (h.length::O) (h++[MO.lst xs]):=⟨λn a _=>qs a,λo i=>by
  rcases qd.mp i with z|z
  .exact .inr ⋯
  .exact .inl z⟩
 have g:(h++[MO.lst xs])[h.length]?=J (.lst xs):=by simp
 refine⟨.loc h.length,[.lst xs],?_,⟨_,_,rfl,λz=>by have:=bd _ z;lia,g,r.mv m⟩,λ_ k l e=>?_⟩
 .unfold vR;have:=fH;lia
 .obtain⟨rfl,rfl⟩:=js e;exact⟨_,_,rfl,l_ _,g,r.mv j⟩
def vj(r:Rps q h O ds xs)(hl:ds.length<=100000):Gv q h O I (lw xs h) (.tup ds):=by
 have i:=r.length;refine⟨.tup xs,[],?_,?_,λ_ k a e=>by cases k<;>cases e⟩
 .unfold lw;rw[e_ (by have:=fH;lia)];simp
 .simpa using⟨xs,rfl,r⟩
def dQ(a:Xs ws)(u:a.fz=I:=by exact ys rfl):Xe ws where
 m:=gG a.m
 p:=λenv s=>(a.p env s).bind λx i=>if x.length<=100000 then .ok (.lst x) i else .bad
 fz:=I
 fr:=I
 ok {q h L B O Z env s} c:=by
  refine(a.ok c).bind λx v y i j l ⟨_,z⟩=>?_;by_cases hl:x.length<=100000
  .rw[e_ hl];exact B_ j.len l (m5 (c.kb j l).bd (z u) hl)
  .rw[h8 hl];trivial
def aX(a:Xs ws)(l:a.fz=I:=by exact ys rfl):Xe ws where
 m:=cq a.m
 p:=λenv s=>(a.p env s).bind λx i=>if x.length<=100000 then .ok (.tup x) i else .bad
 fz:=I
 fr:=I
 ok {q h L B O Z env s} c:=by
  refine(a.ok c).bind λx v y i j u ⟨_,z⟩=>?_;by_cases hl:x.length<=100000
  .rw[e_ hl];exact B_ j.len u (vj (z l) hl)
  .rw[h8 hl];trivial
def DF:Xe ws where
 m:=B8
 p:=λ_ s=>.ok (.dic T [] []) s
 fz:=I
 fr:=I
 ok {q h L B O Z env s} c:=by
  have g:(h++[MO.dic T [] []])[h.length]?=J (.dic T [] []):=by simp
  have r:Rp q (h++[MO.dic T [] []]) O (.dic T [] []) (.loc h.length):=⟨_,[],rfl,λz=>by have:=c.bd _ z;lia,g,rfl⟩
  exact⟨.loc h.length,h++[.dic T [] []],rfl,KB.app _ _ _,c.pen.app,.inl r,λ_=>r,λ_ k a e=>by
   cases k with
   |none=>cases e
   |some i=>cases e;exact⟨_,[],rfl,l_ _,g,rfl⟩⟩
def Vw.bl(w:Vw q h L O (.bl b) v):v=.bl b:=by
 rcases w with r|⟨n,k,xs,a,e,_⟩
 .exact r
 .cases k<;>cases e
def PR.bl(r:PR D):PR Bool:=r.bind λd s=>match d with
 |.bl b=>.ok b s
 |_=>.bad
@[simp]theorem Pl:(PR.ok (D.bl b) s).bl=.ok b s:=rfl
def xB(a:Xe ws):Xt ws where
 m:=mB a.m
 p:=λenv s=>(a.p env s).bl
 ok {q h L B O Z env s} c:=by
  refine(a.ok c).bind λx v i l u j ⟨w,_,_⟩=>?_
  cases x with
  |bl b=>rw[w.bl];exact⟨b,i,rfl,KB.refl _ _,j,rfl⟩
  |_=>trivial
def bA(a:Xt ws):Xt ws where
 m:=GS a.m
 p:=λenv s=>(a.p env s).bind λb s=>.ok (!b) s
 ok {q h L B O Z env s} c:=(a.ok c).bind λx v i l u j e=>⟨!v,i,rfl,KB.refl _ _,j,by rw[e]⟩
def w9(a b:Xt ws):Xt ws where
 m:=O4 a.m b.m
 p:=λenv s=>(a.p env s).bind λx s=>if x=I then .ok I s else b.p env s
 ok {q h L B O Z env s} c:=(a.ok c).bind λx v l u j i e=>by
  subst e
  cases x with
  |false=>simpa using b.ok (c.kb j i)
  |true=>exact⟨I,l,rfl,KB.refl _ _,i,rfl⟩
def oh:Xt ws where
 m:=m_
 p:=λ_ s=>.ok I s
 ok {q h L B O Z env s} c:=⟨I,h,rfl,KB.refl _ _,c.pen,rfl⟩
def Ok.after{α β:Type}{p:Nat}{h u:MH}{o:Out β}{r:PR α}{R:MH->α->β->Prop}(k:KB p h u)(q:Ok p u o r R):Ok p h o r R:=by
 cases r with
 |bad=>trivial
 |exc E B=>obtain⟨l,a,i,j⟩:=q;exact⟨l,a,k.trans i,j⟩
 |ok C B=>obtain⟨z,l,a,i,j,y⟩:=q;exact⟨z,l,a,k.trans i,j,y⟩
def Fs(pn:bc h q s):Ok q h (.ok (.bl b) h) (.ok (.bl b) s) (λa d v=>Vw q a L O d v/\(I=I->Rp q a O d v)/\(I=I->Frs q l O a d v)) :=
 ⟨.bl b,h,rfl,KB.refl _ _,pn,.inl rfl,λ_=>rfl,λ_ k i e=>by cases k<;>cases e⟩
def Hz(k:Ok q h o r (λa d v=>Vw q a L O d v/\(fz=I->Rp q a O d v)/\(fr=I->Frs q l' O a d v))):
  Ok q h o (r.bl.bind λb s=>.ok (.bl b) s) (λa d v=>Vw q a L O d v/\(I=I->Rp q a O d v)/\(I=I->Frs q l O a d v)):=by
 cases r with
 |bad=>trivial
 |exc c s=>exact k
 |ok d s =>
  obtain⟨v,a,e,kb,pn,w,_,_⟩:=k
  cases d with
  |bl b=>exact⟨v,a,e,kb,pn,w,λ_=>by rw[w.bl];rfl,λ_ k i e=>by cases k<;>cases e⟩
  |_=>trivial
def eO(a b:Xe ws):Xe ws where
 m:=wJ a.m b.m
 p:=λenv s=>(a.p env s).bl.bind λx s=>if x=I then(b.p env s).bl.bind λy s=>.ok (.bl y) s else .ok (.bl T) s
 fz:=I
 fr:=I
 ok {q h L B O Z env s} c:=by
  have k:=a.ok c;show Ok q h ((a.m Z h).bind _) _ _
  cases e:a.p env s with
  |bad=>trivial
  |exc x z =>
   rw[e]at k;obtain⟨u,e1,i,j⟩:=k;rw[e1];exact⟨u,rfl,i,j⟩
  |ok d z =>
   rw[e]at k;obtain⟨v,u,e1,i,j,w,_,_⟩:=k
   cases d with
   |bl x =>
    rw[w.bl]at e1;rw[e1]
    cases x with
    |true =>
     exact Ok.after i (Hz (l:=h.length) (b.ok (c.kb i j)))
    |false =>
     obtain⟨M,H,C,F,G,E⟩:=Fs (L:=L) (l:=h.length) (O:=O) (b:=T) j;exact⟨M,H,C,i.trans F,G,E⟩
   |_=>trivial
def nE(a:Xe ws):Xe ws where
 m:=wz a.m
 p:=λenv s=>(a.p env s).bl.bind λx s=>.ok (.bl (!x)) s
 fz:=I
 fr:=I
 ok {q h L B O Z env s} c:=by
  have k:=a.ok c;show Ok q h ((a.m Z h).bind _) _ _
  cases e:a.p env s with
  |bad=>trivial
  |exc x y =>
   rw[e]at k;obtain⟨u,e1,j,i⟩:=k;rw[e1];exact⟨u,rfl,j,i⟩
  |ok d y =>
   rw[e]at k;obtain⟨v,u,e1,j,i,w,_,_⟩:=k
   cases d with
   |bl x =>
    rw[w.bl]at e1;rw[e1];obtain⟨H,G,z,E,F,C⟩:=Fs (L:=L) (l:=h.length) (O:=O) (b:=!x) i;exact⟨H,G,z,j.trans E,F,C⟩
   |_=>trivial
def HA(t:Xt ws)(a b:Xe ws)(fz:Bool)(hf:fz=(a.fz&&b.fz):=by exact ys rfl):Xe ws where
 m:=GZ t.m a.m b.m
 p:=λenv s=>(t.p env s).bind λx s=>if x=I then a.p env s else b.p env s
 fz:=fz
 fr:=T
 ok {q h L B O Z env s} c:=(t.ok c).bind λx v y u j i e=>by
  subst e
  cases x with
  |true=>exact(a.ok (c.kb j i)).imp λl d v kb r=>⟨r.1,λf=>r.2.1 (by rw[hf,Bw]at f;exact f.1),λf=>by simp at f⟩
  |false=>exact(b.ok (c.kb j i)).imp λl d v kb r=>⟨r.1,λf=>r.2.1 (by rw[hf,Bw]at f;exact f.2),λf=>by simp at f⟩
def pM(f g:x_)(a b e:Xe ws):Xe ws where
 m:=oR f.m g.m a.m b.m e.m
 p:=λenv s=>(a.p env s).bind λx G=>(b.p env G).bind λy E=>match f.p x y with
  |some (.bl t)=>if t=I then(e.p env E).bind λz M=>.of (g.p y z) M else .ok (.bl T) E
  |_=>.bad
 fz:=I
 fr:=T
 ok {q h L B O Z env s} c:=by
  refine(a.ok c).bind λx v h1 G R H ⟨w1,_,_⟩=>?_;refine(b.ok (c.kb R H)).bind λy w j E Q C ⟨S,_,_⟩=>?_;have X:=(c.kb R H).kb Q C
  cases e1:f.p x y with
  |none=>trivial
  |some d =>
   cases d with
   |bl t =>
    obtain⟨u,i,e2,r,_⟩:=f.ok X.bd (w1.kb Q c.pO c.pL) S e1;have hu:u=.bl t:=r;subst hu;rw[e2];have l:=KB.app q j i;have P:=X.kb l C.app
    cases t with
    |true =>
     refine Ok.after l ?_;show Ok q (j++i) ((e.m Z (j++i)).bind _) _ _;refine(e.ok P).bind λz u h3 M U F ⟨w3,_,_⟩=>?_
     cases e4:g.p y z with
     |none=>trivial
     |some d =>
      obtain⟨u2,g2,e5,W,_⟩:=g.ok (P.kb U F).bd ((S.kb l c.pO c.pL).kb U c.pO c.pL) w3 e4;refine⟨u2,h3++g2,by rw[e5];rfl,KB.app _ _ _,F.app,.inl W,λ_=>W,λf=>by simp at f⟩
    |false=>exact⟨.bl T,j++i,rfl,l,C.app,.inl rfl,λ_=>rfl,λf=>by simp at f⟩
   |_=>trivial
end
structure Xi(ws:SU) where
 m:Mx MIt
 p:ay->b_->PR (SV)
 fz:Bool
 ok:∀{q h L B O Z env s},Cx q h L B O ws Z env s->Ok q h (m Z h) (p env s) (λh' ds it=>Rps q h' O ds it.xs/\(∀g∈it.gd,h'[g.1]?=J (.lst g.2)/\g.1≠q)/\(fz=I->∀g∈it.gd,g.1∉O))
inductive GI(q:Nat)(h:MH)(O:SU)(ds as:SV)(xs:SM)(o:Out MIt):Prop
 |mk(it:MIt)(e:o=.ok it h)(r:Rps q h O ds it.xs)(g:∀g∈it.gd,h[g.1]?=J (.lst g.2)/\g.1≠q)(z:Rps q h O as xs->∀g∈it.gd,g.1∉O):GI q h O ds as xs o
structure Lr where
 k:SM->MH->Out MIt
 p:SV->Option (SV)
 ok:∀{q h L O as xs ds},q<L->q∈O->Bd h O->Fq q h L O as xs->p as=J ds->GI q h O ds as xs (k xs h)
def D.items:D->Option (SV)
 |.lst a=>J a
 |.tup a=>J a
 |_=>Y
@[simp]theorem jH:(D.lst ds).items=J ds:=rfl
@[simp]theorem yh:(D.tup ds).items=J ds:=rfl
noncomputable section
variable{ws:SU}
def cR(o:Lr)(a:Xs ws):Xi ws where
 m:=λZ h=>(a.m Z h).bind o.k
 p:=λenv s=>(a.p env s).bind λx i=>.of (o.p x) i
 fz:=a.fz
 ok {q h L B O Z env s} c:=by
  refine(a.ok c).bind λx v C i y j ⟨w,z⟩=>?_
  cases e:o.p x with
  |none=>trivial
  |some F =>
   obtain⟨l,e1,r,u,E⟩:=o.ok c.pL c.pO (c.kb y j).bd w e;exact⟨l,C,e1,KB.refl _ _,j,r,u,λf=>E (z f)⟩
def Vw.seq(G:q<L)(E:q∈O)(w:Vw q h L O d v)(e:d.items=J ds):∃xs gd,uq v h=.ok ⟨xs,gd⟩ h/\Rps q h O ds xs/\(∀g∈gd,h[g.1]?=J (.lst g.2)/\g.1≠q)/\(Rp q h O d v->∀g∈gd,g.1∉O):=by
 have one:∀n xs,h[n]?=J (MO.lst xs)->n≠q->(∀g∈[(n,xs)],h[g.1]?=J (MO.lst g.2)/\g.1≠q):=λn xs g u y a=>by
  have:y=(n,xs):=by simpa using a
  subst this;exact⟨g,u⟩
 cases d with
 |lst i =>
  have:i=ds:=by simpa using e
  subst this;rcases w with⟨n,xs,e1,j,g,r⟩|⟨n,B,xs,l,e0,e1,_,u,g,r⟩
  .subst e1;refine⟨xs,[(n,xs)],by simp only[uq,g],r,one n xs g (λz=>j (z▸E)),λ_ y a=>?_⟩
   have:y=(n,xs):=by simpa using a
   subst this;exact j
  .obtain⟨rfl,rfl⟩:=js e0;subst e1;replace g:h[n]?=J (.lst xs):=g;refine⟨xs,[(n,xs)],by simp only[uq,g],r,one n xs g ⋯,λ⟨F,C,e1,j,_,_⟩ y a=>?_⟩
   grind
 |tup i =>
  have:i=ds:=by simpa using e
  subst this;rcases w with⟨xs,e1,r⟩|⟨n,B,xs,l,e0,_⟩
  .subst e1;exact⟨xs,[],rfl,r,(λ_ a=>nomatch a),λ_ _ a=>nomatch a⟩
  .cases B<;>cases e0
 |_=>simp[D.items]at e
def bL(a:Xe ws):Xi ws where
 m:=cS a.m
 p:=λenv s=>(a.p env s).bind λx i=>.of x.items i
 fz:=a.fz
 ok {q h L B O Z env s} c:=by
  refine(a.ok c).bind λx v u i E j ⟨w,z,_⟩=>?_
  cases e:x.items with
  |none=>trivial
  |some C =>
   obtain⟨xs,gd,e1,r,l,y⟩:=w.seq c.pL c.pO e;exact⟨⟨xs,gd⟩,u,e1,KB.refl _ _,j,r,l,λf=>y (z f)⟩
structure Xg(ws:SU) where
 m:Mg
 p:D->ay->Option ay
 ok:∀{q h L O Z env d v env'},SR q h L O ws Z env->Rp q h O d v->p d env=J env'->∃Z',m v Z h=.nx Z' h/\SR q h L O ws Z' env'/\∀i∈ws,Z'[i]?=Z[i]?/\env'[i]?=env[i]?
structure Ft(ws:SU) where
 m:Di
 p:SV->ay->Option ay
 ok:∀{q h L O Z env ds vs env'},SR q h L O ws Z env->Rps q h O ds vs->p ds env=J env'->∃Z',m vs Z h=.nx Z' h/\SR q h L O ws Z' env'/\∀i∈ws,Z'[i]?=Z[i]?/\env'[i]?=env[i]?
def SR.set(r:SR q h L O ws Z env)(l:i∉ws)(w:Rp q h O d v):SR q h L O ws (Z.set i (J v)) (env.set i (J d))/\∀j∈ws,(Z.set i (J v))[j]?=Z[j]?/\(env.set i (J d))[j]?=env[j]?:=by
 have ne:∀j∈ws,i≠j:=λj a z=>l (z▸a);refine⟨⟨by simp[r.len],λj e a hw=>?_,λj e a hw=>?_⟩,λj a=>⟨n8 (ne j a),n8 (ne j a)⟩⟩
 .by_cases z:i=j
  .subst z;have hl:i<env.length:=by
    have:=(qi.mp a).1;simpa using this
   rw[x4 hl]at a;cases a;exact⟨v,x4 (by rw[r.len];exact hl),w⟩
  .rw[n8 z]at a;obtain⟨u,e1,C⟩:=r.fz j e a hw
   simp_all
 .rw[n8 (ne j hw)]at a;obtain⟨n,B,xs,y,e1,e2,rest⟩:=r.ow j e a hw;exact⟨n,B,xs,y,e1,by rw[n8 (ne j hw)];exact e2,rest⟩
def lf(i:Nat)(l:ws.contains i=T:=by exact ys rfl):Xg ws where
 m:=ki i
 p:=λd env=>J (env.set i (J d))
 ok {q h L O Z env d v env'} r w e:=by
  cases e;have j:i∉ws:=λz=>by simp[z]at l
  obtain⟨a,b⟩:=r.set j w;exact⟨_,rfl,a,b⟩
def Bp:Ft ws where
 m:=wH
 p:=λa env=>match a with
  |[]=>J env
  |_=>Y
 ok {q h L O Z env a vs env'} r w e:=by
  cases a with
  |nil =>
   cases e
   have:vs=[]:=w
   subst this;exact⟨Z,rfl,r,λ_ _=>⟨rfl,rfl⟩⟩
  |cons _ _=>cases e
def rg(a:Xg ws)(t:Ft ws):Ft ws where
 m:=mh a.m t.m
 p:=λl env=>match l with
  |d::l=>(a.p d env).bind λj=>t.p l j
  |[]=>Y
 ok {q h L O Z env l vs env'} r w e:=by
  cases l with
  |nil=>cases e
  |cons d l =>
   obtain⟨x,y,rfl,M,P⟩:=w;dsimp only at e
   cases e1:a.p d env with
   |none=>rw[e1]at e;cases e
   |some j =>
    rw[e1]at e;obtain⟨Q,G,C,B⟩:=a.ok r M e1;obtain⟨E,F,H,z⟩:=t.ok C P e;exact⟨E,by show(a.m x Z h).then (t.m y)=_;rw[G];exact F,H,λi u=>⟨(z i u).1.trans (B i u).1,(z i u).2.trans (B i u).2⟩⟩
def Bq(t:Ft ws)(n:Nat):Xg ws where
 m:=wK t.m n
 p:=λd env=>match d with
  |.tup i=>if i.length=n then t.p i env else Y
  |_=>Y
 ok {q h L O Z env d v env'} r w e:=by
  cases d with
  |tup i =>
   obtain⟨xs,rfl,w⟩:=w;dsimp only at e;by_cases z:i.length=n
   .rw[e_ z]at e;obtain⟨j,a,b⟩:=t.ok r w e;exact⟨j,by show(if xs.length=n then t.m xs Z h else .bad)=_;rw[e_ (by rw[w.length];exact z)];exact a,b⟩
   .rw[h8 z]at e;cases e
  |_=>cases e
def Ce(a:Nat)(fm ws:SU):SU:=((List.range fm.length).filter λj=>ws.contains (fm.getD j 0)).map (a+·)
def wv(a:Nat)(fm:SU)(env:ay):ay:=List.replicate a Y++fm.map λi=>(env[i]?).getD Y
def PR.ne{α:Type}(r:PR α):PR α:=match r with
 |.exc _ _=>.bad
 |r=>r
@[simp]theorem PR.ne_ok(a:α)(s:b_):(PR.ok a s).ne=.ok a s:=rfl
def dz(g:D->ay->Option ay)(t:ay->b_->PR Bool)(e:ay->b_->PR D):SV->ay->b_->PR (SV)
 |[],_,s=>.ok [] s
 |d::i,env,s=>match g d env with
  |none=>.bad
  |some a=>(t a s).bind λb j=>if b=I then(e a j).bind λx l=>(dz g t e i a l).bind λr u=>.ok (x::r) u else dz g t e i a j
def Ls{a:Nat}{fm:SU}{α:Type}{env:List (Option α)}{i:Nat}{d:α}(e:(List.replicate a Y++fm.map λi=>(env[i]?).getD Y)[i]?=J (J d)):∃j k,i=a+j/\fm[j]?=J k/\env[k]?=J (J d):=by
 by_cases z:i<a
 .rw[qs (by simpa using z)]at e;simp[z]at e
 .rw[BL (by simp;lia)]at e;simp only[JV,r6]at e
  cases l:fm[i-a]? with
  |none=>rw[l]at e;cases e
  |some k =>
   rw[l]at e;simp only[CG]at e;refine⟨i-a,k,⋯,l,?_⟩
   cases u:env[k]? with
   |none=>rw[u]at e;cases e
   |some o=>rw[u]at e;simp at e;rw[e]
def Lu{a:Nat}{fm:SU}{α:Type}{Z:List (Option α)}{j k:Nat}{v:α}(e1:fm[j]?=J k)(e2:Z[k]?=J (J v)):(List.replicate a Y++fm.map λi=>(Z[i]?).getD Y)[a+j]?=J (J v):=by rw[BL (by simp)];simp[e1,e2]
def vM(e:fm[j]?=J k):nv+j∈Ce nv fm ws↔k∈ws:=by
 have a:=(qi.mp e).1;unfold Ce
 simp_all
def SR.comp{q:Nat}{h:MH}{L:Nat}{O:SU}{Z:p_}{env:ay}(a:Nat)(fm:SU)(r:SR q h L O ws Z env):SR q h L O (Ce a fm ws) (Cv a fm Z) (wv a fm env):=by
 refine⟨by simp[Cv,wv],λi d e l=>?_,λi d e l=>?_⟩
 .obtain⟨j,k,rfl,e1,e2⟩:=Ls e;obtain⟨v,e3,w⟩:=r.fz k d e2 λz=>l ((vM e1).mpr z);exact⟨v,Lu e1 e3,w⟩
 .obtain⟨j,k,rfl,e1,e2⟩:=Ls e;obtain⟨n,y,xs,u,e0,e3,w⟩:=r.ow k d e2 ((vM e1).mp l);exact⟨n,y,xs,u,e0,Lu e1 e3,w⟩
def HB(gt:Xg C)(t:Xt C)(e:Xe C)(hz:e.fz=I)(hq:q<h1.length)(gd:∀g∈it.gd,h1[g.1]?=J (.lst g.2)/\g.1≠q):
  ∀(Q:SV)(xs:SM)(env:ay)(Z:p_)(h:MH)(u:SV)(j:SM)(s:b_)(r:SV)(W:b_),(∀i∈C,∀d,env[i]?=J (J d)->∀n,Z[i]?=J (J (.loc n))->n<h1.length)->KB q h1 h->Cx q h L B (h1.length::O) C Z env s->Rps q h (h1.length::O) Q xs->h[h1.length]?=J (.lst j)->Rps q h (h1.length::O) u j->u.length+Q.length<=100000 ->
  dz gt.p t.p e.p Q env s=.ok r W->∃E U,A_ it h1.length gt.m t.m e.m xs Z h=.ok () E/\KB q h1 E/\bc E q W/\E[h1.length]?=J (.lst U)/\Rps q E (h1.length::O) (u++r) U:=by
 intro Q
 induction Q with
 |nil =>
  intro xs env Z h u j s r W on kb c rx ga ra hl a
  have:xs=[]:=rx
  subst this;cases a;have ok:it.ok h:=λg hg=>(kb.keep _ (aG (gd g hg).1) (gd g hg).2).trans (gd g hg).1;exact⟨h,j,by rw[A_,e_ ok],kb,c.pen,ga,by simpa using ra⟩
 |cons d Q ih =>
  intro xs env Z h u j s r W on kb c rx ga ra hl a;obtain⟨x,xr,rfl,r1,r2⟩:=rx;have ok:it.ok h:=λg hg=>(kb.keep _ (aG (gd g hg).1) (gd g hg).2).trans (gd g hg).1;rw[dz]at a
  cases eg:gt.p d env with
  |none=>rw[eg]at a;cases a
  |some l =>
   rw[eg]at a;dsimp only at a;obtain⟨Z1,f1,an,k1⟩:=gt.ok c.sr r1 eg;have S:∀i∈C,∀d,l[i]?=J (J d)->∀n,Z1[i]?=J (J (.loc n))->n<h1.length:=λi H d e n z=>on i H d ((k1 i H).2▸e) n ((k1 i H).1▸z);have c1:Cx q h L B (h1.length::O) C Z1 l s:=⟨c.bd,c.sub,c.bb,c.pb,c.hL,c.pen,an⟩;have kt:=t.ok c1
   cases et:t.p l s with
   |bad=>rw[et]at a;cases a
   |exc _ _=>rw[et]at a;cases a
   |ok b s1 =>
    rw[et]at a kt;obtain⟨b',h2,f2,X,p2,eb⟩:=kt;subst eb;have c2:=c1.kb X p2;have G:Mv (h1.length::O) h (h1.length::O) h2:=X.mv c.pO;have hn:h1.length<h.length:=aG ga;have R:h2[h1.length]?=J (.lst j):=(X.keep _ hn ⋯).trans ga;rw[Pb]at a
    cases b with
    |false =>
     rw[h8 (by simp)]at a;obtain⟨E,U,a1,a2⟩:=ih xr l Z1 h2 u j s1 r W S (kb.trans X) c2 (r2.mv G) R (ra.mv G) (by simp at hl;lia) a;refine⟨E,U,?_,a2⟩;rw[A_,e_ ok,f1];simp only[f2,Out.ne_ok,Out.bind_ok,wj,if_false];exact a1
    |true =>
     rw[e_ rfl]at a;have ke:=e.ok c2
     cases ee:e.p l s1 with
     |bad=>rw[ee]at a;cases a
     |exc _ _=>rw[ee]at a;cases a
     |ok y s2 =>
      rw[ee]at a ke;obtain⟨v,P,f3,k3,p3,_,rv,_⟩:=ke;have rv:=rv hz;have M:=c2.kb k3 p3;have ab:Mv (h1.length::O) h2 (h1.length::O) P:=k3.mv c.pO;have ak:P[h1.length]?=J (.lst j):=(k3.keep _ (aG R) ⋯).trans R;have F:Mv (h1.length::O) P (h1.length::O) (P.set h1.length (.lst (j++[v]))) :=
       ⟨λn hn no=>n8 (λz=>no (by simp[z])),λo ho=>.inl ho⟩
      have al:Rps q P (h1.length::O) (u++[y]) (j++[v]):=((ra.mv G).mv ab).app ⟨v,[],rfl,rv,rfl⟩;rw[Pb]at a
      cases er:dz gt.p t.p e.p Q l s2 with
      |bad=>rw[er]at a;cases a
      |exc _ _=>rw[er]at a;cases a
      |ok r' s3 =>
       rw[er]at a;cases a;have ai:KB q h1 P:=(kb.trans X).trans k3;have c4:Cx q (P.set h1.length (.lst (j++[v]))) L B (h1.length::O) C Z1 l s2:=by
        refine⟨λo ho=>by simpa using M.bd o ho,M.sub,M.bb,M.pb,by simpa using M.hL,?_,?_⟩
        .unfold bc;rw[n8 ⋯];exact p3
        .refine⟨M.sr.len,λi d e H=>let⟨v,e1,q1⟩:=M.sr.fz i d e H;⟨v,e1,q1.mv F⟩,λi d e H=>?_⟩;obtain⟨n,kd,ys,es,b1,b2,b3,b4,b5,b6⟩:=M.sr.ow i d e H;have z:=S i H d e n b2;exact⟨n,kd,ys,es,b1,b2,b3,b4,by rw[n8 ⋯];exact b5,b6.mv F⟩
       obtain⟨E,U,a1,a2,a3,a4,a5⟩:=ih xr l Z1 (P.set h1.length (.lst (j++[v]))) (u++[y]) (j++[v]) s2 r' _ S ⟨by simpa using ai.len,λn hn hp=>by rw[n8 ⋯];exact ai.keep n hn hp⟩ c4 (((r2.mv G).mv ab).mv F) (x4 (aG ak)) (al.mv F) (by simp at hl ⊢;lia) er;refine⟨E,U,?_,a2,a3,a4,by simpa using a5⟩;rw[A_,e_ ok,f1];simp only[f2,Out.ne_ok,Out.bind_ok,if_true,f3,ak];rw[e_ (by have:=fH;have:=ra.length;simp at hl;lia)];exact a1
def bh(a:Nat)(fm:SU)(i:Xi ws){ws':SU}(g:Xg ws')(t:Xt ws')(e:Xe ws')(hw:Ce a fm ws=ws':=by exact ys rfl)(hz:e.fz=I:=by exact ys rfl):Xe ws where
 m:=bO a fm i.m g.m t.m e.m
 p:=λenv s=>(i.p env s).bind λl y=>if l.length<=100000 then (match dz g.p t.p e.p l (wv a fm env) y with
  |.ok r G=>.ok (.lst r) G
  |_=>.bad)else .bad
 fz:=I
 fr:=I
 ok {q h L B O Z env s} c:=by
  subst hw;refine(i.ok c).bind λl it j y Q E ⟨rx,gd,_⟩=>?_;have C:=c.kb Q E;by_cases hl:l.length<=100000
  .rw[e_ hl]
   cases W:dz g.p t.p e.p l (wv a fm env) y with
   |bad=>trivial
   |exc _ _=>trivial
   |ok r G =>
    have mv:Mv O j (j.length::O) (j++[MO.lst []]):=⟨λn F _=>qs F,λo u=>by
     rcases qd.mp u with z|z
     .exact .inr ⋯
     .exact .inl z⟩
    have sr:=(C.sr.comp a fm).mv mv (λo u=>pj _ u) λn F _ _=>qs F;have c2:Cx q (j++[MO.lst []]) L B (j.length::O) (Ce a fm ws) (Cv a fm Z) (wv a fm env) y:=by
     refine⟨λo u=>?_,λo u=>pj _ (c.sub o u),c.bb,c.pb,by have:=C.hL;simp;lia,E.app,sr⟩;rcases qd.mp u with z|z
     .subst z;simp
     .have:=C.bd o z;simp;lia
    have hq:q<j.length:=aG E
    obtain⟨M,X,S,a2,a3,U,a5⟩:=HB g t e hz (L:=L) (B:=B) (O:=O) hq gd l it.xs (wv a fm env) (Cv a fm Z) (j++[MO.lst []]) [] [] y r G (λi R d ed n P=>by
     obtain⟨n',_,_,_,_,b2,_,_,b5,_⟩:=(C.sr.comp a fm).ow i d ed R;rw[b2]at P;cases P
     exact aG b5) (KB.app _ _ _) c2 (rx.mv mv) (by simp) rfl (by simpa using hl) W
    have f:Frs q h.length O M (.lst r) (.loc j.length):=λk l e=>by
     obtain⟨rfl,rfl⟩:=js e;exact⟨_,X,rfl,Q.len,U,by simpa using a5⟩
    have H:=f.rp (k:=Y) c.bd rfl;exact⟨.loc j.length,M,by show(A_ _ _ _ _ _ _ _ _).bind _=_;rw[S];rfl,a2,a3,.inl H,λ_=>H,λ_=>f⟩
  .rw[h8 hl];trivial
end
inductive PS where
 |nx(e:ay)(s:b_)
 |rt(d:D)(s:b_)
 |bk(e:ay)(s:b_)
 |ct(e:ay)(s:b_)
 |exc(c:va)(e:ay)(s:b_)
 |rse(c:va)(e:ay)(s:b_)
 |bad
structure Stp(q L:Nat)(h:MH)(O:SU)(h':MH)(O':SU):Prop where
 len:h.length<=h'.length
 mv:Mv O h O' h'
 sub:∀o∈O,o∈O'
 base:∀n:Nat,n<L->n≠q->h'[n]?=h[n]?
def Stp.refl(q L:Nat)(h:MH)(O:SU):Stp q L h O h O:=⟨l_ _,⟨λ_ _ _=>rfl,λ_ h=>.inl h⟩,λ_ h=>h,λ_ _ _=>rfl⟩
def Stp.trans(a:Stp q L h O h1 O1)(b:Stp q L h1 O1 h2 O2):Stp q L h O h2 O2:=by
 refine⟨n_ a.len b.len,⟨λn i u=>?_,λo j=>?_⟩,λo j=>b.sub o (a.sub o j),λn i l=>(b.base n i l).trans (a.base n i l)⟩
 .have y:n∉O1:=λz=>by
   rcases a.mv.new n z with q|q
   .exact u q
   .lia
  exact(b.mv.keep n (vv i a.len) y).trans (a.mv.keep n i u)
 .rcases b.mv.new o j with z|z
  .exact a.mv.new o z
  .exact .inr (n_ a.len z)
def Dis(a:SU)(Z:p_)(env:ay):Prop:=∀i j,i∈a->j∈a->i≠j->∀d l n,env[i]?=J (J d)->env[j]?=J (J l)->Z[i]?=J (J (.loc n))->Z[j]?≠J (J (.loc n))
inductive Nxt(q L:Nat)(h:MH)(B O ws:SU)(Z':p_)(h':MH)(env:ay)(s:b_):Prop
 |mk(O':SU)(a:Stp q L h O h' O')(c:Cx q h' L B O' ws Z' env s)(d:Dis ws Z' env):Nxt q L h B O ws Z' h' env s
inductive JH(q L:Nat)(h:MH)(B O ws:SU)(f:p_->MH->SOut)(o:SOut)(env:ay)(s:b_):Prop
 |mk(Z':p_)(h':MH)(e:o=f Z' h')(n:Nxt q L h B O ws Z' h' env s):JH q L h B O ws f o env s
inductive Rh(q L:Nat)(h:MH)(B:SU)(fr:Bool)(o:SOut)(d:D)(s:b_):Prop
 |mk(v:PV)(h':MH)(e:o=.rt v h')(l:h.length<=h'.length)(b:∀n:Nat,n<L->n≠q->h'[n]?=h[n]?)(p:bc h' q s)(r:Rp q h' B d v)(f:fr=I->Frs q L B h' d v):Rh q L h B fr o d s
def SOk(q L:Nat)(h:MH)(B O a:SU)(fr:Bool)(o:SOut)(r:PS):Prop:=match r with
 |.nx env s=>JH q L h B O a .nx o env s
 |.bk env s=>JH q L h B O a .bk o env s
 |.ct env s=>JH q L h B O a .ct o env s
 |.exc c env s=>JH q L h B O a (.exc c) o env s
 |.rse c env s=>JH q L h B O a (.rse c) o env s
 |.rt d s=>Rh q L h B fr o d s
 |.bad=>True
structure Xd(ws:SU) where
 m:nr
 p:ay->b_->PS
 fr:Bool
 ok:∀{q h L B O Z env s},Cx q h L B O ws Z env s->Dis ws Z env->SOk q L h B O ws fr (m Z h) (p env s)
def Nxt.after(a:Stp q L h O h1 O1)(n:Nxt q L h1 B O1 ws Z' h' env s):Nxt q L h B O ws Z' h' env s :=
 let⟨i,b,c,d⟩:=n;⟨i,a.trans b,c,d⟩
def SOk.after(a:Stp q L h O h1 O1)(k:SOk q L h1 B O1 ws fr o r):SOk q L h B O ws fr o r:=by
 cases r with
 |nx env s=>obtain⟨j,i,e,n⟩:=k;exact⟨j,i,e,n.after a⟩
 |bk env s=>obtain⟨j,i,e,n⟩:=k;exact⟨j,i,e,n.after a⟩
 |ct env s=>obtain⟨j,i,e,n⟩:=k;exact⟨j,i,e,n.after a⟩
 |exc c env s=>obtain⟨j,i,e,n⟩:=k;exact⟨j,i,e,n.after a⟩
 |rse c env s=>obtain⟨j,i,e,n⟩:=k;exact⟨j,i,e,n.after a⟩
 |rt d s=>obtain⟨v,i,e,l,b,C,E,z⟩:=k;exact⟨v,i,e,n_ a.len l,λn u y=>(b n u y).trans (a.base n u y),C,E,z⟩
 |bad=>trivial
def SOk.fr(hf:f'=I->f=I)(k:SOk q L h B O ws f o r):SOk q L h B O ws f' o r:=by
 cases r with
 |rt d s=>obtain⟨v,a,e,l,b,p,r,z⟩:=k;exact⟨v,a,e,l,b,p,r,λy=>z (hf y)⟩
 |nx env s=>exact k
 |bk env s=>exact k
 |ct env s=>exact k
 |exc c env s=>exact k
 |rse c env s=>exact k
 |bad=>trivial
def KB.stp(c:Cx q h L B O ws Z env s)(k:KB q h h'):Stp q L h O h' O :=
 ⟨k.len,k.mv c.pO,λ_ h=>h,λn a i=>k.keep n (vv a c.hL) i⟩
def PR.go{α:Type}(r:PR α)(env:ay)(k:α->ay->b_->PS):PS:=match r with
 |.ok a s=>k a env s
 |.exc c s=>.exc c env s
 |.bad=>.bad
@[simp]theorem Pg(a:α)(s:b_)(env:ay)(k:α->ay->b_->PS):(PR.ok a s).go env k=k a env s:=rfl
@[simp]theorem PR.go_exc(c:va)(s:b_)(env:ay)(k:α->ay->b_->PS):(PR.exc c s:PR α).go env k=.exc c env s:=rfl
@[simp]theorem PR.go_bad(env:ay)(k:α->ay->b_->PS):(PR.bad:PR α).go env k=.bad:=rfl
theorem SOk.ex{α β:Type}{q L:Nat}{h:MH}{B O l:SU}{fr:Bool}{Z:p_}{env:ay}{s:b_}{o:Out β}{r:PR α}{R:MH->α->β->Prop}{f:β->nr}{g:α->ay->b_->PS}(c:Cx q h L B O l Z env s)(d:Dis l Z env)(k:Ok q h o r R)(n:∀a b i j,KB q h i->Cx q i L B O l Z env j->R i a b->SOk q L i B O l fr (f b Z i) (g a env j)):
  SOk q L h B O l fr (o.go Z f) (r.go env g):=by
 cases r with
 |ok a j =>
  obtain⟨b,i,rfl,kb,pn,u⟩:=k;exact(n a b i j kb (c.kb kb pn) u).after (kb.stp c)
 |exc x j =>
  obtain⟨i,rfl,kb,pn⟩:=k;exact⟨Z,i,rfl,O,kb.stp c,c.kb kb pn,d⟩
 |bad=>trivial
noncomputable section
variable{ws:SU}
def PS.then(r:PS)(k:ay->b_->PS):PS:=match r with
 |.nx env s=>k env s
 |r=>r
@[simp]theorem ax:(PS.nx env s).then k=k env s:=rfl
@[simp]theorem kG:(PS.rt d s).then k=.rt d s:=rfl
@[simp]theorem then_bk:(PS.bk env s).then k=.bk env s:=rfl
@[simp]theorem then_ct:(PS.ct env s).then k=.ct env s:=rfl
@[simp]theorem Am:(PS.exc c env s).then k=.exc c env s:=rfl
@[simp]theorem AH:(PS.rse c env s).then k=.rse c env s:=rfl
@[simp]theorem Aw:PS.bad.then k=.bad:=rfl
def aF(a b:Xd ws):Xd ws where
 m:=cj a.m b.m
 p:=λenv s=>(a.p env s).then b.p
 fr:=a.fr&&b.fr
 ok {q h L B O Z env s} c d:=by
  have k:=a.ok c d;show SOk q L h B O ws _ ((a.m Z h).then b.m) _
  cases e:a.p env s with
  |nx i u =>
   rw[e]at k;obtain⟨Q,M,e1,P,st,z,C⟩:=k;rw[e1];exact((b.ok z C).fr (by simp)).after st
  |rt x u=>rw[e]at k;obtain⟨v,j,e1,G,H,F,E,y⟩:=k;rw[e1];exact SOk.fr (f:=a.fr) (by simp;exact λh _=>h) (show SOk q L h B O ws a.fr (.rt v j) (.rt x u) from⟨v,j,rfl,G,H,F,E,y⟩)
  |bk i u=>rw[e]at k;obtain⟨l,j,e1,r⟩:=k;rw[e1];exact⟨l,j,rfl,r⟩
  |ct i u=>rw[e]at k;obtain⟨l,j,e1,r⟩:=k;rw[e1];exact⟨l,j,rfl,r⟩
  |exc x i u=>rw[e]at k;obtain⟨l,j,e1,r⟩:=k;rw[e1];exact⟨l,j,rfl,r⟩
  |rse x i u=>rw[e]at k;obtain⟨l,j,e1,r⟩:=k;rw[e1];exact⟨l,j,rfl,r⟩
  |bad=>trivial
def io:Xd ws where
 m:=qx
 p:=.nx
 fr:=I
 ok {q h L B O Z env s} c d:=⟨Z,h,rfl,O,Stp.refl _ _ _ _,c,d⟩
def HC{m:Mx PV}{Z:p_}{h:MH}:du m Z h=(m Z h).go Z λv _ a=>.rt v a:=by unfold du;cases m Z h<;>rfl
def aN(e:Xe ws):Xd ws where
 m:=du e.m
 p:=λenv s=>(e.p env s).go env λd _ s=>.rt d s
 fr:=e.fr
 ok {q h L B O Z env s} c d:=by
  rw[HC];refine SOk.ex (f:=λv _ C=>.rt v C) (g:=λd _ s=>.rt d s) c d (e.ok c) λx v E H kb a ⟨w,z,f⟩=>?_;refine⟨v,E,rfl,l_ _,λ_ _ _=>rfl,a.pen,w.base a.sub a.bb,λy=>?_⟩;intro k u F;obtain⟨n,xs,i,M,l,j⟩:=f y k u F
  have:=c.hL
  exact⟨n,xs,i,⋯,l,j.mv ⟨λ_ _ _=>rfl,λo G=>.inl (by
   rcases qd.mp G with z|z
   .subst z;simp
   .exact pj _ (c.sub o z))⟩⟩
def nF(i:Nat)(C:ws.contains i=I:=by exact ys rfl):Xd ws where
 m:=du (am i)
 p:=λenv s=>match env[i]? with
  |some (J d)=>.rt d s
  |_=>.bad
 fr:=I
 ok {q h L B O Z env s} c d:=by
  show SOk q L h B O ws _ _ (match env[i]? with|some (J d)=>PS.rt d s|_=>.bad)
  cases e:env[i]? with
  |none=>trivial
  |some o =>
   cases o with
   |none=>trivial
   |some x =>
    obtain⟨n,j,xs,u,e1,e2,a,b,g,r⟩:=c.sr.ow i x e (by simpa using C);subst e1
    have E:Mv O h (n::B) h:=⟨λ_ _ _=>rfl,λo F=>.inl (by
     rcases qd.mp F with z|z
     .subst z;exact a
     .exact c.sub o z)⟩
    have f:Frs q L B h (dl j u) (.loc n):=λy l e=>by
     have:y=j/\l=u:=by cases j<;>cases y<;>cases e<;>exact⟨rfl,rfl⟩
     obtain⟨rfl,rfl⟩:=this;exact⟨n,xs,rfl,b,g,r.mv E⟩
    refine⟨.loc n,h,by simp[du,am,e2],l_ _,λ_ _ _=>rfl,c.pen,f.rp c.bb rfl,λ_=>f⟩
def sG(e:Xe ws):Xd ws where
 m:=jD e.m
 p:=λenv s=>(e.p env s).go env λ_=>.nx
 fr:=I
 ok {q h L B O Z env s} c d:=SOk.ex (f:=λ_=>qx) (g:=λ_=>.nx) c d (e.ok c) λx v i j kb a _=>⟨Z,i,rfl,O,Stp.refl _ _ _ _,a,d⟩
def s_(t:Xt ws)(a b:Xd ws):Xd ws where
 m:=Cd t.m a.m b.m
 p:=λenv s=>(t.p env s).go env λx env s=>if x=I then a.p env s else b.p env s
 fr:=a.fr&&b.fr
 ok {q h L B O Z env s} c d:=SOk.ex (f:=λx=>if x=I then a.m else b.m) (g:=λx env s=>if x=I then a.p env s else b.p env s) c d (t.ok c) λx v l j kb i e=>by
  subst e
  cases x with
  |true=>exact(a.ok i d).fr (by simp;exact λh _=>h)
  |false=>exact(b.ok i d).fr (by simp)
def Dis.keep(d:Dis ws Z env)(k:∀i∈ws,Z'[i]?=Z[i]?/\env'[i]?=env[i]?):Dis ws Z' env':=λi j u l ne x y n a b e=>by
 rw[(k i u).1]at e;rw[(k i u).2]at a;rw[(k j l).2]at b;rw[(k j l).1];exact d i j u l ne x y n a b e
def aP(i:Nat)(e:Xe ws)(l:ws.contains i=T:=by exact ys rfl)(y:e.fz=I:=by exact ys rfl):Xd ws where
 m:=bM i e.m
 p:=λenv s=>(e.p env s).go env λd env s=>.nx (env.set i (J d)) s
 fr:=I
 ok {q h L B O Z env s} c d:=by refine SOk.ex (f:=λv Z h=>.nx (Z.set i (J v)) h) (g:=λd env s=>.nx (env.set i (J d)) s) c d (e.ok c) λx v u C kb j ⟨_,z,_⟩=>?_;obtain⟨a,b⟩:=j.sr.set (i:=i) (λz=>by simp[z]at l) (z y);exact⟨_,u,rfl,O,Stp.refl _ _ _ _,⟨j.bd,j.sub,j.bb,j.pb,j.hL,j.pen,a⟩,d.keep b⟩
def D.mine:D->Bool
 |.lst _=>I
 |.dic fz _ _=>!fz
 |_=>T
def iN(i:Nat)(e:Xe ws)(hi:ws.contains i=I:=by exact ys rfl)(hz:e.fr=I:=by exact ys rfl):Xd ws where
 m:=bM i e.m
 p:=λenv s=>(e.p env s).go env λd env s=>if d.mine=I then .nx (env.set i (J d)) s else .bad
 fr:=I
 ok {q h L B O Z env s} c d:=by
  show SOk q L h B O ws _ _ _;have k:=e.ok c;show SOk q L h B O ws _ ((e.m Z h).go Z λv Z h=>.nx (Z.set i (J v)) h) _
  cases ee:e.p env s with
  |bad=>trivial
  |exc x s1 =>
   rw[ee]at k;obtain⟨M,e1,kb,pn⟩:=k;rw[e1];exact⟨Z,M,rfl,O,kb.stp c,c.kb kb pn,d⟩
  |ok x s1 =>
   rw[ee]at k;obtain⟨v,M,e1,kb,pn,_,_,f⟩:=k;rw[e1];by_cases C:x.mine=I
   .obtain⟨H,u,rfl⟩:∃H u,x=dl H u:=by
     cases x with
     |lst u=>exact⟨Y,u,rfl⟩
     |dic fz ks u =>
      cases fz with
      |false=>exact⟨J ks,u,rfl⟩
      |true=>cases C
     |_=>cases C
    obtain⟨n,xs,rfl,hn,g,r⟩:=f hz H u rfl;show SOk q L h B O ws _ _ (if(dl H u).mine=I then _ else _);rw[e_ C];have W:=c.kb kb pn;have P:i∈ws:=by simpa using hi
    have mv:Mv O h (n::O) M:=⟨λm C no=>kb.keep m C λz=>no (z▸c.pO),λo E=>by
     rcases qd.mp E with z|z
     .exact .inr ⋯
     .exact .inl z⟩
    have R:n∉O:=λz=>by have:=c.bd n z;lia
    refine⟨Z.set i (J (.loc n)),M,rfl,n::O,⟨kb.len,mv,λo E=>pj _ E,λm C hq=>kb.keep m (vv C c.hL) hq⟩,⟨λo E=>?_,λo E=>pj _ (c.sub o E),c.bb,c.pb,W.hL,pn,?_⟩,?_⟩
    .rcases qd.mp E with z|z
     .subst z;exact aG g
     .exact W.bd o z
    .have sr:=c.sr.mv mv (λo E=>pj _ E) λm C hl _=>kb.keep m C (by have:=c.pL;lia);refine⟨by simp[sr.len],λj x l F=>?_,λj x l F=>?_⟩
     .have ne:i≠j:=λz=>F (z▸P);rw[n8 ne]at l;rw[n8 ne];exact sr.fz j x l F
     .by_cases z:i=j
      .subst z;have hl:i<env.length:=by have:=(qi.mp l).1;simpa using this
       rw[x4 hl]at l;cases l;exact⟨n,H,xs,u,rfl,x4 (by rw[sr.len];exact hl),by simp,by have:=c.hL;lia,g,r⟩
      .rw[n8 z]at l;rw[n8 z];exact sr.ow j x l F
    .have old:∀j d,j∈ws->i≠j->(env.set i (J (dl H u)))[j]?=J (J d)->(Z.set i (J (.loc n)))[j]?≠J (J (.loc n)):=λj d F ne l z=>by
      rw[n8 ne]at l z;obtain⟨n',_,_,_,_,X,b3,_⟩:=c.sr.ow j d l F;rw[z]at X;cases X;exact R b3
     intro a b ha U ne x y m S Q G;by_cases z1:i=a
     .subst z1;have hl:i<Z.length:=by have:=(qi.mp G).1;simpa using this
      rw[x4 hl]at G;cases G;exact old b y U ne Q
     .by_cases z2:i=b
      .subst z2;intro z;have hl:i<Z.length:=by have:=(qi.mp z).1;simpa using this
       rw[x4 hl]at z;cases z;exact old a x ha z1 S G
      .rw[n8 z1]at S G;rw[n8 z2]at Q ⊢;exact d a b ha U ne x y m S Q G
   .show SOk q L h B O ws _ _ (if x.mine=I then _ else _);rw[h8 C];trivial
end
end PU
namespace PU
open MM
open L2 (wG)
noncomputable section
variable{ws:SU}
def PS.turn(r:PS)(k:ay->b_->PS):PS:=match r with
 |.nx e s=>k e s
 |.ct e s=>k e s
 |.bk e s=>.nx e s
 |r=>r
@[simp]theorem turn_nx:(PS.nx e s).turn k=k e s:=rfl
@[simp]theorem turn_ct:(PS.ct e s).turn k=k e s:=rfl
@[simp]theorem turn_bk:(PS.bk e s).turn k=.nx e s:=rfl
@[simp]theorem turn_rt:(PS.rt d s).turn k=.rt d s:=rfl
@[simp]theorem AR:(PS.exc c e s).turn k=.exc c e s:=rfl
@[simp]theorem A6:(PS.rse c e s).turn k=.rse c e s:=rfl
@[simp]theorem Lv:PS.bad.turn k=.bad:=rfl
def BE(g:D->ay->Option ay)(b:ay->b_->PS):SV->ay->b_->PS
 |[],env,s=>.nx env s
 |d::i,env,s=>match g d env with
  |none=>.bad
  |some a=>(b a s).turn (BE g b i)
def HD(g:Xg ws)(b:Xd ws):∀(F:SV)(xs:SM)(env:ay)(Z:p_)(h:MH)(O:SU)(s:b_),Cx q h L B O ws Z env s->Dis ws Z env->Rps q h O F xs->(∀y∈it.gd,h[y.1]?=J (.lst y.2)/\y.1∉O) ->
  SOk q L h B O ws b.fr (wM it g.m b.m xs Z h) (BE g.p b.p F env s):=by
 intro F
 induction F with
 |nil =>
  intro xs env Z h O s c d r gd
  have:xs=[]:=r
  subst this;have ok:it.ok h:=λy E=>(gd y E).1;refine⟨Z,h,by rw[wM];dsimp only;rw[e_ ok],O,Stp.refl _ _ _ _,c,d⟩
 |cons x F S =>
  intro xs env Z h O s c d r gd;obtain⟨v,G,rfl,Q,M⟩:=r;have ok:it.ok h:=λy E=>(gd y E).1;rw[BE]
  cases W:g.p x env with
  |none=>trivial
  |some l =>
   obtain⟨U,f1,sr,k⟩:=g.ok c.sr Q W;have c1:Cx q h L B O ws U l s:=⟨c.bd,c.sub,c.bb,c.pb,c.hL,c.pen,sr⟩;have kb:=b.ok c1 (d.keep k)
   have em:wM it g.m b.m (v::G) Z h=(match b.m U h with
    |.nx j i=>wM it g.m b.m G j i
    |.ct j i=>wM it g.m b.m G j i
    |.bk j i=>.nx j i
    |.rt v i=>.rt v i
    |.exc e j i=>.exc e j i
    |.rse e j i=>.rse e j i
    |.bad=>.bad):=by rw[wM];dsimp only;(rw[e_ ok,f1])<;>rfl
   rw[em];have H:∀{i:MH}{z:SU},Stp q L h O i z->∀y∈it.gd,i[y.1]?=J (.lst y.2)/\y.1∉z:=λst y E=>by
    obtain⟨a,b⟩:=st.mv.get (gd y E).1 (gd y E).2;exact⟨b,a⟩
   dsimp only
   cases C:b.p l s with
   |bad=>trivial
   |nx e2 u =>
    rw[C]at kb;obtain⟨j,i,e1,z,st,R,P⟩:=kb;rw[e1];exact(S G e2 j i z u R P (M.mv st.mv) (H st)).after st
   |ct e2 u =>
    rw[C]at kb;obtain⟨j,i,e1,z,st,R,P⟩:=kb;rw[e1];exact(S G e2 j i z u R P (M.mv st.mv) (H st)).after st
   |bk e2 u=>rw[C]at kb;obtain⟨j,i,e1,r⟩:=kb;rw[e1];exact⟨j,i,rfl,r⟩
   |exc x e2 u=>rw[C]at kb;obtain⟨j,i,e1,r⟩:=kb;rw[e1];exact⟨j,i,rfl,r⟩
   |rse x e2 u=>rw[C]at kb;obtain⟨j,i,e1,r⟩:=kb;rw[e1];exact⟨j,i,rfl,r⟩
   |rt x u=>rw[C]at kb;obtain⟨v,i,e1,Q,M,r3,r4,X⟩:=kb;rw[e1];exact⟨v,i,rfl,Q,M,r3,r4,X⟩
def iu(i:Xi ws)(g:Xg ws)(b:Xd ws)(E:i.fz=I:=by exact ys rfl):Xd ws where
 m:=iz i.m g.m b.m
 p:=λenv s=>(i.p env s).go env λa env s=>BE g.p b.p a env s
 fr:=b.fr
 ok {q h L B O Z env s} c d:=SOk.ex (f:=λj=>wM j g.m b.m j.xs) (g:=λa env s=>BE g.p b.p a env s) c d (i.ok c) λa j C u kb z r =>
  HD g b a j.xs env Z C O u z d r.1 λy l=>⟨(r.2.1 y l).1,r.2.2 E y l⟩
def eJ(t:ay->b_->PR Bool)(b:ay->b_->PS):Nat->ay->b_->PS
 |0,_,_=>.bad
 |n+1,env,s=>(t env s).go env λx env s=>if x=I then(b env s).turn (eJ t b n)else .nx env s
def qQ(t:Xt ws)(b:Xd ws):∀(n:Nat)(env:ay)(Z:p_)(h:MH)(O:SU)(s:b_),Cx q h L B O ws Z env s->Dis ws Z env->SOk q L h B O ws b.fr (cD t.m b.m n Z h) (eJ t.p b.p n env s)
 |0,env,Z,h,O,s,c,d=>trivial
 |n+1,env,Z,h,O,s,c,d=>by
  refine SOk.ex c d (t.ok c) λx v H E kb C e=>?_;subst e
  cases x with
  |false=>exact⟨Z,H,rfl,O,Stp.refl _ _ _ _,C,d⟩
  |true =>
   have k:=b.ok C d;rw[e_ rfl]
   cases l:b.p env E with
   |bad=>trivial
   |nx e2 j =>
    rw[l]at k;obtain⟨i,a,e1,y,st,z,u⟩:=k;rw[e1];exact(qQ t b n e2 i a y j z u).after st
   |ct e2 j =>
    rw[l]at k;obtain⟨i,a,e1,y,st,z,u⟩:=k;rw[e1];exact(qQ t b n e2 i a y j z u).after st
   |bk e2 j=>rw[l]at k;obtain⟨i,a,e1,r⟩:=k;rw[e1];exact⟨i,a,rfl,r⟩
   |exc x e2 j=>rw[l]at k;obtain⟨i,a,e1,r⟩:=k;rw[e1];exact⟨i,a,rfl,r⟩
   |rse x e2 j=>rw[l]at k;obtain⟨i,a,e1,r⟩:=k;rw[e1];exact⟨i,a,rfl,r⟩
   |rt x j=>rw[l]at k;obtain⟨v,a,e1,P,Q,M,G,F⟩:=k;rw[e1];exact⟨v,a,rfl,P,Q,M,G,F⟩
def Lw(N:Nat)(t:Xt ws)(b:Xd ws)(i:∀{Z h n},cD t.m b.m n Z h≠.bad->G9 t.m b.m Z h=cD t.m b.m n Z h):Xd ws where
 m:=G9 t.m b.m
 p:=eJ t.p b.p N
 fr:=b.fr
 ok {q h L B O Z env s} c d:=by
  have k:=qQ t b N env Z h O s c d;by_cases z:cD t.m b.m N Z h=.bad
  .rw[z]at k
   cases e:eJ t.p b.p N env s with
   |bad=>trivial
   |nx e2 a=>rw[e]at k;obtain⟨_,_,e1,_⟩:=k;cases e1
   |ct e2 a=>rw[e]at k;obtain⟨_,_,e1,_⟩:=k;cases e1
   |bk e2 a=>rw[e]at k;obtain⟨_,_,e1,_⟩:=k;cases e1
   |exc x e2 a=>rw[e]at k;obtain⟨_,_,e1,_⟩:=k;cases e1
   |rse x e2 a=>rw[e]at k;obtain⟨_,_,e1,_⟩:=k;cases e1
   |rt x a=>rw[e]at k;obtain⟨_,_,e1,_⟩:=k;cases e1
  .rw[i z];exact k
structure Fv where
 m:Nat->SM->MH->SH
 p:SV->SV->Option (D×SV)
 ok:∀{q:Nat}{h:MH}{O:SU}{n:Nat}{xs:SM}{ds as:SV}{vs:SM}{d:D}{ds':SV},h[n]?=J (.lst xs)->Rps q h O ds xs->Rps q h O as vs->p ds as=J (d,ds')->∃v xs',m n vs h=.ok v (h.set n (.lst xs'))/\Rps q h O ds' xs'/\Rp q h O d v
def tS{q h L B O Z env s n xs' ds' i d0 kd}(c:Cx q h L B O ws Z env s)(d:Dis ws Z env)(F:i∈ws)(e:env[i]?=J (J d0))(E:Z[i]?=J (J (.loc n)))(r:Rps q h O ds' xs'):
  Nxt q L h B O ws Z (h.set n (mo kd xs')) (env.set i (J (dl kd ds'))) s:=by
 obtain⟨n',k0,xs,R,e0,e2,a,b,g,r0⟩:=c.sr.ow i _ e F;rw[E]at e2;cases e2;have mv:Mv O h O (h.set n (mo kd xs')):=⟨λm X U=>n8 (λ(z:n=m)=>U (z▸a)),λo H=>.inl H⟩;have hp:=c.pL;have il:=(qi.mp e).1;refine⟨O,⟨by simp,mv,λ_ h=>h,λm X _=>n8 ⋯⟩,⟨λo H=>by simpa using c.bd o H,c.sub,c.bb,c.pb,by simpa using c.hL,?_,⟨by simp[c.sr.len],λj x l u=>?_,λj x l u=>?_⟩⟩,?_⟩
 .unfold bc;rw[n8 ⋯];exact c.pen
 .have ne:i≠j:=λz=>u (z▸F);rw[n8 ne]at l;obtain⟨v,e1,w⟩:=c.sr.fz j x l u;exact⟨v,e1,w.mv mv⟩
 .by_cases z:i=j
  .subst z;rw[x4 il]at l;cases l;exact⟨n,kd,xs',ds',rfl,E,a,b,x4 (aG g),r.mv mv⟩
  .rw[n8 z]at l;obtain⟨m,k1,ys,G,e1,e3,S,b4,b5,W⟩:=c.sr.ow j x l u
   have:n≠m:=λy=>d i j F u z _ _ n e l E (y▸e3)
   exact⟨m,k1,ys,G,e1,e3,S,b4,by rw[n8 this];exact b5,W.mv mv⟩
 .intro j k u hk ne x y m l ek e1;have Q:∀j x,(env.set i (J (dl kd ds')))[j]?=J (J x)->∃C,env[j]?=J (J C):=λj x l=>by
   by_cases z:i=j
   .subst z;exact⟨_,e⟩
   .rw[n8 z]at l;exact⟨x,l⟩
  obtain⟨C,P⟩:=Q j x l;obtain⟨y',M⟩:=Q k y ek;exact d j k u hk ne C y' m P M e1
def DG{q h L B O Z env s n xs' ds' i ds}(c:Cx q h L B O ws Z env s)(d:Dis ws Z env)(j:i∈ws)(e:env[i]?=J (J (D.lst ds)))(a:Z[i]?=J (J (.loc n)))(r:Rps q h O ds' xs'):
  Nxt q L h B O ws Z (h.set n (.lst xs')) (env.set i (J (.lst ds'))) s:=tS (kd:=Y) c d j e a r
def Lx(o:Fv)(i:Nat)(a:Xs ws)(z:i∈ws)(P:a.fz=I){q h L B O Z env s}(c:Cx q h L B O ws Z env s)(d:Dis ws Z env)(R:a.p env s=.ok as s1)(G:env[i]?=J (J (.lst ds)))(E:o.p ds as=J (r,ds')):∃v l n j,KB q h l/\Cx q l L B O ws Z env s1/\Z[i]?=J (J (.loc n))/\Fk o.m (am i) a.m Z h=.ok v (l.set n (.lst j))/\Rps q l O ds' j/\Rp q l O r v:=by
 obtain⟨n,U,xs,y,e0,e2,b1,W,g,M⟩:=c.sr.ow i _ G z;obtain⟨rfl,rfl⟩:=js e0;replace g:h[n]?=J (.lst xs):=g;have u:=a.ok c;rw[R]at u;obtain⟨X,l,e3,kb,pn,_,C⟩:=u;have H:=c.kb kb pn;have F:=(kb.keep n (aG g) (by have:=c.pL;lia)).trans g;obtain⟨v,j,e4,Q,S⟩:=o.ok F (M.mv (kb.mv c.pO)) (C P) E;refine⟨v,l,n,j,kb,H,e2,?_,Q,S⟩;have em:am i Z h=.ok (.loc n) h:=by simp[am,e2]
 simp_all
def Cf(o:Fv)(i:Nat)(a:ay->b_->PR (SV))(env:ay)(s:b_)(k:D->ay->b_->PS):PS:=match a env s with
 |.ok y l=>(match env[i]? with
  |some (J (.lst u))=>(match o.p u y with
   |some (r,j)=>k r (env.set i (J (.lst j))) l
   |none=>.bad)
  |_=>.bad)
 |_=>.bad
def yQ(e1:a env s=.ok as s1)(e2:env[i]?=J (J (.lst ds)))(e3:o.p ds as=J (r,ds')):Cf o i a env s k=k r (env.set i (J (.lst ds'))) s1:=by simp only[Cf,e1,e2,e3]
def DH:Cf o i a env s k=.bad\/∃l z j r u,a env s=.ok l z/\env[i]?=J (J (.lst j))/\o.p j l=J (r,u)/\Cf o i a env s k=k r (env.set i (J (.lst u))) z:=by
 cases e1:a env s with
 |bad=>left;simp only[Cf,e1]
 |exc _ _=>left;simp only[Cf,e1]
 |ok l z =>
  cases e2:env[i]? with
  |none=>left;simp only[Cf,e1,e2]
  |some x =>
   cases x with
   |none=>left;simp only[Cf,e1,e2]
   |some d =>
    cases d with
    |lst j =>
     cases e3:o.p j l with
     |none=>left;simp only[Cf,e1,e2,e3]
     |some y=>exact .inr ⟨l,z,j,y.1,y.2,rfl,rfl,e3,yQ e1 e2 e3⟩
    |_=>left;simp only[Cf,e1,e2]
def Cg(o:Fv)(i:Nat)(a:Xs ws)(y:ws.contains i=I:=by exact ys rfl)(F:a.fz=I:=by exact ys rfl):Xd ws where
 m:=jD (Fk o.m (am i) a.m)
 p:=λenv s=>Cf o i a.p env s λ_=>.nx
 fr:=I
 ok {q h L B O Z env s} c d:=by
  rcases DH (o:=o) (i:=i) (a:=a.p) (env:=env) (s:=s) (k:=λ_=>.nx)with z|⟨Q,M,P,r,G,e1,e2,e3,z⟩
  .rw[z];trivial
  .rw[z];have j:i∈ws:=by simpa using y
   obtain⟨v,E,n,l,kb,C,u,em,H,R⟩:=Lx o i a j F c d e1 e2 e3;refine⟨Z,E.set n (.lst l),?_,(DG C d j e2 u H).after (kb.stp c)⟩;unfold jD Ap;rw[em];rfl
def Vw.int(w:Vw q h L O (.int b) v):v=.int b:=by
 rcases w with r|⟨n,a,xs,i,e,_⟩
 .exact r
 .cases a<;>cases e
def PS.fin(r:PS):PR D:=match r with
 |.nx _ s=>.ok .non s
 |.rt d s=>.ok d s
 |.exc c _ s=>.exc c s
 |.rse c _ s=>.exc c s
 |_=>.bad
@[simp]theorem zd:(PS.nx e s).fin=.ok .non s:=rfl
@[simp]theorem bq:(PS.rt d s).fin=.ok d s:=rfl
@[simp]theorem fin_exc:(PS.exc c e s).fin=.exc c s:=rfl
@[simp]theorem fin_rse:(PS.rse c e s).fin=.exc c s:=rfl
@[simp]theorem NL:PS.bad.fin=.bad:=rfl
def k_(n:Nat)(a:SV):ay:=a.map J++List.replicate (n-a.length) Y
def bB(n B:Nat)(b:Xd ws)(hw:ws.all (λi=>decide (B<=i))=I:=by exact ys rfl):Fn where
 m:=cE n B b.m
 p:=λu s=>if u.length=B then(b.p (k_ n u) s).fin else .bad
 fr:=b.fr
 ok {q h O vs u s} bd L pn r:=by
  by_cases hl:u.length=B
  .rw[e_ hl];have hv:vs.length=B:=by rw[r.length];exact hl
   have G:∀i d,(k_ n u)[i]?=J (J d)->i<B/\u[i]?=J d:=λi d e=>by
    by_cases z:i<u.length
    .refine⟨⋯,?_⟩;unfold k_ at e;rw[qs (by simpa using z)]at e;simp at e;simpa using e
    .unfold k_ at e;rw[BL (by simpa using z)]at e;by_cases y:i-(u.map J).length<n-u.length
     .simp[F0,y]at e
     .simp at y e;exact absurd e (by simp[F0])
   have P:∀i d,(k_ n u)[i]?=J (J d)->i∉ws:=λi d e E=>by
    have:=(G i d e).1
    rw[List.all_eq_true]at hw
    have:=hw i E
    simp at this;lia
   have c:Cx q h h.length O O ws (bv n vs) (k_ n u) s:=by refine⟨bd,λ_ h=>h,bd,L,l_ _,pn,⟨by simp[bv,k_,r.length],λi d e _=>?_,λi d e E=>absurd E (P i d e)⟩⟩;obtain⟨v,Q,U⟩:=r.get (G i d e).2;refine⟨v,?_,U⟩;unfold bv;rw[qs (by simpa using(qi.mp Q).1)];simp[Q]
   have k:=b.ok c λi j E _ _ d _ _ e=>absurd E (P i d e)
   have em:cE n B b.m vs h=(match b.m (bv n vs) h with
    |.nx _ a=>.ok .non a
    |.rt v a=>.ok v a
    |.exc x _ a=>.exc x a
    |.rse x _ a=>.exc x a
    |_=>.bad):=by unfold cE;(rw[e_ hv])<;>(cases b.m (bv n vs) h<;>rfl)
   rw[em];have kb:∀{a H},Stp q h.length h O a H->KB q h a:=λst=>⟨st.len,λm W L=>st.base m W L⟩
   cases e:b.p (k_ n u) s with
   |nx e1 C=>rw[e]at k;obtain⟨M,a,f,H,st,F,_⟩:=k;rw[f];exact⟨.non,a,rfl,kb st,F.pen,rfl,λ_ k u e=>by cases k<;>cases e⟩
   |exc x e1 C=>rw[e]at k;obtain⟨M,a,f,H,st,F,_⟩:=k;rw[f];exact⟨a,rfl,kb st,F.pen⟩
   |rse x e1 C=>rw[e]at k;obtain⟨M,a,f,H,st,F,_⟩:=k;rw[f];exact⟨a,rfl,kb st,F.pen⟩
   |rt x C=>rw[e]at k;obtain⟨v,a,f,l,b,p,S,R⟩:=k;rw[f];exact⟨v,a,rfl,⟨l,b⟩,p,S,R⟩
   |bk e1 C=>trivial
   |ct e1 C=>trivial
   |bad=>trivial
  .rw[h8 hl];trivial
def wR(m:SM->MH->SH):Fn where
 m:=m
 p:=λ_ _=>.bad
 fr:=I
 ok _ _ _ _:=trivial
end
end PU
namespace PU
open MM SetT SortT
open L2 (wG nw gC)
noncomputable section
section
variable{q:Nat}{h:MH}{L:Nat}{O:SU}{v:PV}
def Vw.non(w:Vw q h L O .non v):v=.non:=by
 rcases w with r|⟨n,a,xs,i,e,_⟩
 .exact r
 .cases a<;>cases e
def Vw.str(w:Vw q h L O (.str x) v):v=.str x:=by
 rcases w with r|⟨n,a,xs,i,e,_⟩
 .exact r
 .cases a<;>cases e
inductive Ri(h:MH)(P:SM->Prop)(v:PV):Prop
 |mk(n:Nat)(xs:SM)(e:v=.loc n)(g:h[n]?=J (.lst xs))(r:P xs):Ri h P v
def Vw.lst(w:Vw q h L O (.lst ds) v):Ri h (Rps q h O ds) v:=by
 rcases w with⟨n,xs,e,_,g,r⟩|⟨n,i,xs,a,e,e1,_,_,g,r⟩
 .exact⟨n,xs,e,g,r⟩
 .obtain⟨rfl,rfl⟩:=js e;exact⟨n,xs,e1,g,r⟩
def Vw.tup(w:Vw q h L O (.tup ds) v):Pw (Rps q h O ds) v:=by
 rcases w with r|⟨n,i,xs,a,e,_⟩
 .exact r
 .cases i<;>cases e
def HE(r:Rp q h O d v)(hf:fr=I->∀k a,d≠dl k a):Gv q h O fr (.ok v h) d :=
 ⟨v,[],by simp,by simpa using r,λz k a e=>absurd e (hf z k a)⟩
def Ca:Gv q h O fr (.ok (.int i) h) (.int i):=HE rfl λ_ k _ e=>by cases k<;>cases e
def Av:Gv q h O fr (.ok (.bl i) h) (.bl i):=HE rfl λ_ k _ e=>by cases k<;>cases e
def fG(w:Fq q h L O [d] vs):∃x,vs=[x]/\Vw q h L O d x:=by
 obtain⟨x,r,e,a,b⟩:=w
 have:r=[]:=b
 subst this;exact⟨x,e,a⟩
def Ly(w:Fq q h L O [d,d'] vs):∃x y,vs=[x,y]/\Vw q h L O d x/\Vw q h L O d' y:=by obtain⟨x,r,e,a,b⟩:=w;obtain⟨y,rfl,c⟩:=fG b;exact⟨x,y,e,a,c⟩
end
def uk(m:PV->PV->MH->SH)(f:Int->Int->D)(g:Int->Int->PV)(l:∀i j h,m (.int i) (.int j) h=.ok (g i j) h)(hg:∀i j q h O fr,Gv q h O fr (.ok (g i j) h) (f i j)):x_ where
 m:=m
 p:=λa b=>match a,b with
  |.int i,.int j=>J (f i j)
  |_,_=>Y
 fr:=I
 ok {q h L O a x b y d} bd wa wb e:=by
  cases a with
  |int i =>
   cases b with
   |int j=>cases e;rw[wa.int,wb.int,l];exact hg i j q h O I
   |_=>cases e
  |_=>cases e
def jn:x_:=uk Cs (λi j=>.int (i-j)) (λi j=>.int (i-j)) (λ_ _ _=>rfl) λ_ _ _ _ _ _=>Ca
def Fw:x_:=uk Cq (λi j=>.bl (decide (i<j))) (λi j=>.bl (decide (i<j))) (λ_ _ _=>rfl) λ_ _ _ _ _ _=>Av
def JI:x_:=uk G_ (λi j=>.bl (decide (i<=j))) (λi j=>.bl (decide (i<=j))) (λ_ _ _=>rfl) λ_ _ _ _ _ _=>Av
def HG:x_:=uk Cr (λi j=>.bl (decide (j<i))) (λi j=>.bl (decide (j<i))) (λ_ _ _=>rfl) λ_ _ _ _ _ _=>Av
def Py:x_:=uk B7 (λi j=>.bl (decide (j<=i))) (λi j=>.bl (decide (j<=i))) (λ_ _ _=>rfl) λ_ _ _ _ _ _=>Av
def bC:x_ where
 m:=jj
 p:=λa b=>match a,b with
  |.int i,.int j=>J (.int (i+j))
  |.lst x,.lst y=>if x.length+y.length<=100000 then J (.lst (x++y))else Y
  |.tup (a::x),.tup y=>if x.length+1+y.length<=100000 then J (.tup (a::x++y))else Y
  |_,_=>Y
 fr:=I
 ok {q h L O a x b y d} bd wa wb e:=by
  cases a with
  |int i =>
   cases b with
   |int j=>cases e;rw[wa.int,wb.int];exact Ca
   |_=>cases e
  |lst x =>
   cases b with
   |lst y =>
    dsimp only at e;by_cases z:x.length+y.length<=100000
    .rw[e_ z]at e;cases e;obtain⟨n,xs,rfl,g,r⟩:=wa.lst;obtain⟨u,ys,rfl,B,l⟩:=wb.lst;show Gv q h O I (match h[n]?,h[u]? with|some (.lst xs),J (.lst ys)=>vR (xs++ys) h|_,_=>.bad) _;rw[g,B];exact m5 bd (r.app l) (by simpa using z)
    .rw[h8 z]at e;cases e
   |_=>cases e
  |tup x =>
   cases x with
   |nil=>cases b<;>cases e
   |cons a x =>
    cases b with
    |tup y =>
     dsimp only at e;by_cases z:x.length+1+y.length<=100000
     .rw[e_ z]at e;cases e;obtain⟨xs,rfl,r⟩:=wa.tup;obtain⟨ys,rfl,l⟩:=wb.tup;have ne:xs≠[]:=λz=>by have:=r.length;simp[z]at this
      show Gv q h O I (if xs≠[]then lw (xs++ys) h else .bad) _;rw[e_ ne];exact vj (r.app l) (by simp;lia)
     .rw[h8 z]at e;cases e
    |_=>cases e
  |_=>cases e
def Rps.rep(r:Rps q h O ds xs):∀n,Rps q h O (List.replicate n ds).flatten (List.replicate n xs).flatten
 |0=>rfl
 |n+1=>by
  exact r.app (Rps.rep r n)
def bn:x_ where
 m:=lx
 p:=λa b=>match a,b with
  |.int i,.int j=>if IntMulOk i j then J (.int (i*j))else Y
  |.lst x,.int j=>if(0<=j/\j<=1000)/\((List.replicate j.toNat x).flatten).length<=100000 then J (.lst (List.replicate j.toNat x).flatten)else Y
  |_,_=>Y
 fr:=I
 ok {q h L O a x b y d} bd wa wb e:=by
  cases a with
  |int i =>
   cases b with
   |int j =>
    dsimp only at e;by_cases z:IntMulOk i j
    .rw[e_ z]at e;cases e;rw[wa.int,wb.int];show Gv q h O I (if IntMulOk i j then .ok (.int (i*j)) h else .bad) _;rw[e_ z];exact Ca
    .rw[h8 z]at e;cases e
   |_=>cases e
  |lst x =>
   cases b with
   |int j =>
    dsimp only at e;by_cases z:(0<=j/\j<=1000)/\((List.replicate j.toNat x).flatten).length<=100000
    .rw[e_ z]at e;cases e;obtain⟨n,xs,rfl,g,r⟩:=wa.lst;rw[wb.int];show Gv q h O I (match h[n]? with|some (.lst xs)=>if -(2^63)<=j/\j<2^63 then vR (List.flatten (List.replicate j.toNat xs)) h else .bad|_=>.bad) _;rw[g];dsimp only;rw[e_ ⋯];exact m5 bd (r.rep _) z.2
    .rw[h8 z]at e;cases e
   |_=>cases e
  |_=>cases e
def DI:x_ where
 m:=BV
 p:=λa b=>match a,b with
  |.int i,.int j=>if j≠0 then J (.int (i.fdiv j))else Y
  |_,_=>Y
 fr:=I
 ok {q h L O a x b y d} bd wa wb e:=by
  cases a with
  |int i =>
   cases b with
   |int j =>
    dsimp only at e;by_cases z:j≠0
    .rw[e_ z]at e;cases e;rw[wa.int,wb.int];show Gv q h O I (if j≠0 then .ok (.int (i.fdiv j)) h else .bad) _;rw[e_ z];exact Ca
    .rw[h8 z]at e;cases e
   |_=>cases e
  |_=>cases e
def jP:x_ where
 m:=nz
 p:=λa b=>match a,b with
  |.int i,.int j=>if j≠0 then J (.int (i.fmod j))else Y
  |_,_=>Y
 fr:=I
 ok {q h L O a x b y d} bd wa wb e:=by
  cases a with
  |int i =>
   cases b with
   |int j =>
    dsimp only at e;by_cases z:j≠0
    .rw[e_ z]at e;cases e;rw[wa.int,wb.int];show Gv q h O I (if j≠0 then .ok (.int (i.fmod j)) h else .bad) _;rw[e_ z];exact Ca
    .rw[h8 z]at e;cases e
   |_=>cases e
  |_=>cases e
def tL:x_ where
 m:=t_
 p:=λa b=>match a,b with
  |.int i,.int j=>if gC i j then J (.int (i^j.toNat))else Y
  |_,_=>Y
 fr:=I
 ok {q h L O a x b y d} bd wa wb e:=by
  cases a with
  |int i =>
   cases b with
   |int j =>
    dsimp only at e;by_cases z:gC i j
    .rw[e_ z]at e;cases e;rw[wa.int,wb.int];show Gv q h O I (if gC i j then .ok (.int (i^j.toNat)) h else .bad) _;rw[e_ z];exact Ca
    .rw[h8 z]at e;cases e
   |_=>cases e
  |_=>cases e
def h_:x_ where
 m:=be
 p:=λa b=>match a,b with
  |.lst x,.int j=>nw x j
  |.tup x,.int j=>nw x j
  |_,_=>Y
 fr:=T
 ok {q h L O a x b y d} bd wa wb e:=by
  have at':∀{i:SV}{xs:SM}{j:Int},Rps q h O i xs->nw i j=J d->∃v,nw xs j=J v/\Rp q h O d v:=λ{i xs j} r e=>by
   unfold nw at e ⊢;rw[r.length]
   cases e1:wG i.length j with
   |none=>rw[e1]at e;cases e
   |some k=>rw[e1]at e;exact r.get e
  cases b with
  |int j =>
   rw[wb.int]
   cases a with
   |lst i =>
    obtain⟨n,xs,rfl,g,r⟩:=wa.lst;obtain⟨v,e1,l⟩:=at' r e;show Gv q h O T (match h[n]? with|some (.lst xs)=>(match nw xs j with|some v=>.ok v h|none=>.bad)|_=>.bad) _;rw[g];dsimp only;rw[e1];exact HE l λz=>by cases z
   |tup i =>
    obtain⟨xs,rfl,r⟩:=wa.tup;obtain⟨v,e1,l⟩:=at' r e;show Gv q h O T (match nw xs j with|some v=>.ok v h|none=>.bad) _;rw[e1];exact HE l λz=>by cases z
   |_=>cases e
  |_=>cases a<;>cases e
def JJ(i:Bool):x_ where
 m:=KZ i
 p:=λa b=>match b with
  |.non=>(match a with
   |.non=>J (.bl (!i))
   |_=>J (.bl i))
  |.bl b=>(match a with
   |.bl c=>J (.bl (if i then !(c==b)else c==b))
   |.non=>J (.bl i)
   |.int _=>J (.bl i)
   |.str _=>J (.bl i)
   |.tup _=>J (.bl i)
   |_=>Y)
  |_=>Y
 fr:=I
 ok {q h L O a x b y d} bd wa wb e:=by
  have loc:∀{a:D}{x:PV},Vw q h L O a x->(∃j,a=.lst j)\/(∃fz l j,a=.dic fz l j)\/(∃c,a=.exc c)\/a=.pen->∃n,x=.loc n:=λ{a x} w z=>by
   rcases w with r|⟨n,u,xs,j,e,e1,_⟩
   .rcases z with⟨j,rfl⟩|⟨_,_,_,rfl⟩|⟨c,rfl⟩|rfl
    .obtain⟨n,_,e,_⟩:=r;exact⟨n,e⟩
    .obtain⟨n,_,e,_⟩:=r;exact⟨n,e⟩
    .obtain⟨n,e,_⟩:=r;exact⟨n,e⟩
    .exact⟨q,r⟩
   .exact⟨n,e1⟩
  cases b with
  |non =>
   rw[wb.non]
   cases a with
   |non=>cases e;rw[wa.non];exact Av
   |bl c=>cases e;rw[wa.bl];exact Av
   |int c=>cases e;rw[wa.int];exact Av
   |str c=>cases e;rw[wa.str];exact Av
   |tup c=>cases e;obtain⟨xs,rfl,_⟩:=wa.tup;exact Av
   |lst c=>cases e;obtain⟨n,rfl⟩:=loc wa (.inl ⟨_,rfl⟩);exact Av
   |dic a b c=>cases e;obtain⟨n,rfl⟩:=loc wa (.inr (.inl ⟨_,_,_,rfl⟩));exact Av
   |exc c=>cases e;obtain⟨n,rfl⟩:=loc wa (.inr (.inr (.inl ⟨_,rfl⟩)));exact Av
   |pen=>cases e;obtain⟨n,rfl⟩:=loc wa (.inr (.inr (.inr rfl)));exact Av
  |bl b =>
   rw[wb.bl]
   cases a with
   |non=>cases e;rw[wa.non];exact Av
   |bl c=>cases e;rw[wa.bl];exact Av
   |int c=>cases e;rw[wa.int];exact Av
   |str c=>cases e;rw[wa.str];exact Av
   |tup c=>cases e;obtain⟨xs,rfl,_⟩:=wa.tup;exact Av
   |_=>cases e
  |_=>cases e
mutual
def py:D->Option PyData
 |.non=>J .none
 |.bl b=>J (.bool b)
 |.int i=>J (.int i)
 |.str x=>J (.str x)
 |.tup a=>(BY a).map .tuple
 |.lst a=>(BY a).map .list
 |_=>Y
def BY:SV->Option (List PyData)
 |[]=>J []
 |d::a=>match py d,BY a with
  |some x,J xs=>J (x::xs)
  |_,_=>Y
end
mutual
def AF:D->Nat
 |.tup a=>1+wT a
 |.lst a=>1+wT a
 |_=>0
def wT:SV->Nat
 |[]=>0
 |d::a=>max (AF d) (wT a)
end
def vB(d:D):(∀(v:PV)(e:PyData)(n:Nat),Rp q h O d v->py d=J e->AF d<=n->rd n h v=J e):=by
 refine D.rec (motive_1:=λd=>∀(v:PV)(e:PyData)(n:Nat),Rp q h O d v->py d=J e->AF d<=n->rd n h v=J e)
  (motive_2:=λi=>∀(u:SM)(j:List PyData)(n:Nat),Rps q h O i u->BY i=J j->wT i<=n->cP (rd n h) u=J j)
  (λv _ n r e _=>?_) (λb v _ n r e _=>?_) (λb v _ n r e _=>?_) (λb v _ n r e _=>?_) (λi z v e n r l hd=>?_) (λi z v e n r l hd=>?_) (λ_ _ _ _ _ _ _ _ e _=>?_) (λ_ _ _ _ _ e _=>?_) (λ_ _ _ _ e _=>?_)
  (λu j n r e _=>?_) (λd i E C u j n r e hd=>?_) d
 .rw[show v=PV.non from r];cases e;cases n<;>rfl
 .rw[show v=PV.bl b from r];cases e;cases n<;>rfl
 .rw[show v=PV.int b from r];cases e;cases n<;>rfl
 .rw[show v=PV.str b from r];cases e;cases n<;>rfl
 .obtain⟨xs,ex,r⟩:=r;subst ex;rw[py,Bt]at l;obtain⟨j,e1,rfl⟩:=l;rw[AF]at hd
  cases n with
  |zero=>lia
  |succ n=>simp only[rd];rw[z _ _ n r e1 ⋯];rfl
 .obtain⟨m,xs,ex,_,g,r⟩:=r;subst ex;rw[py,Bt]at l;obtain⟨j,e1,rfl⟩:=l;rw[AF]at hd
  cases n with
  |zero=>lia
  |succ n=>simp only[rd,g];rw[z _ _ n r e1 ⋯];rfl
 .simp[py]at e
 .simp[py]at e
 .simp[py]at e
 .rw[show u=[]from r];rw[BY]at e;cases e;rfl
 .obtain⟨x,t,ex,a,b⟩:=r;subst ex;rw[wT]at hd;rw[BY]at e
  cases e1:py d with
  |none=>rw[e1]at e;cases e
  |some y =>
   cases e2:BY i with
   |none=>rw[e1,e2]at e;cases e
   |some ys =>
    rw[e1,e2]at e;cases e;have B:=E _ _ n a e1 ⋯;have F:=C _ _ n b e2 ⋯;simp only[cP,B,F]
def Lz(r:Rp q h O d v)(a:py d=J e)(hd:AF d<=n):rd n h v=J e:=vB d v e n r a hd
def yt(r:Rps q h O ds vs)(a:BY ds=J es)(hd:wT ds<=n):cP (rd n h) vs=J es:=by
 have:=vB (.tup ds) (.tup vs) (.tuple es) (n+1) (⟨vs,rfl,r⟩) (by rw[py,a];rfl) (by rw[AF];lia)
 simp only[rd]at this
 simp_all
def pE(w:Vw q h L O d v)(a:py d=J e)(hd:AF d<=60):rd 60 h v=J e:=by
 rcases w with r|⟨n,j,xs,l,rfl,rfl,_,_,g,r⟩
 .exact Lz r a hd
 .cases j with
  |some _=>simp[dl,py]at a
  |none =>
   replace g:h[n]?=J (.lst xs):=g;unfold dl at a hd;rw[py,Bt]at a;obtain⟨u,e1,rfl⟩:=a;rw[AF]at hd;have i:=yt (n:=59) r e1 ⋯;show(match h[n]? with|some (.lst xs)=>(cP (rd 59 h) xs).map PyData.list|_=>Y)=_;rw[g];dsimp only;rw[i];rfl
def zT(i:Bool)(a b:D):So:=match py a,py b with
 |some x,J y=>if(AF a<=60/\AF b<=60)/\SeqAt.shaped x=I/\SeqAt.shaped y=I then J (.bl (if i then !PyData.eqv x y else PyData.eqv x y))else Y
 |_,_=>Y
def nu(e:zT neg a b=J d):∃x y,py a=J x/\py b=J y/\(AF a<=60/\AF b<=60)/\(SeqAt.shaped x=I/\SeqAt.shaped y=I)/\d=.bl (if neg then !PyData.eqv x y else PyData.eqv x y):=by
 unfold zT at e
 cases e1:py a with
 |none=>rw[e1]at e;cases e
 |some x =>
  cases e2:py b with
  |none=>rw[e1,e2]at e;cases e
  |some y =>
   simp_all
def y6:x_ where
 m:=xv
 p:=zT T
 fr:=I
 ok {q h L O a x b y d} bd wa wb e:=by obtain⟨u,w,e1,e2,hd,i,rfl⟩:=nu e;unfold xv;rw[pE wa e1 hd.1,pE wb e2 hd.2];dsimp only;rw[e_ i];exact Av
def wV:x_ where
 m:=BU
 p:=zT I
 fr:=I
 ok {q h L O a x b y d} bd wa wb e:=by obtain⟨u,w,e1,e2,hd,i,rfl⟩:=nu e;unfold BU;rw[pE wa e1 hd.1,pE wb e2 hd.2];dsimp only;rw[e_ i];exact Av
def Vw.seqOf(w:Vw q h L O d v)(e:d.items=J ds):∃xs,MM.cy h v=J xs/\Rps q h O ds xs:=by
 cases d with
 |lst a=>cases e;obtain⟨n,xs,rfl,g,r⟩:=w.lst;exact⟨xs,by simp[MM.cy,g],r⟩
 |tup a=>cases e;obtain⟨xs,rfl,r⟩:=w.tup;exact⟨xs,rfl,r⟩
 |_=>cases e
def JK(i:Bool)(a b:D):So:=match b.items with
 |some j=>(match py a,BY j with
  |some x,J ys=>if(AF a<=60/\wT j<=60)/\x.canLay0=I/\PyData.canLayAll0 ys=I then J (.bl (if i then !ys.any (λe=>PyData.eqv e x)else ys.any (λe=>PyData.eqv e x)))else Y
  |_,_=>Y)
 |none=>Y
def NM(i:Bool):x_ where
 m:=Ds i
 p:=JK i
 fr:=I
 ok {q h L O a x b y d} bd wa wb e:=by
  unfold JK at e
  cases e0:b.items with
  |none=>rw[e0]at e;cases e
  |some j =>
   rw[e0]at e;dsimp only at e
   cases e1:py a with
   |none=>rw[e1]at e;cases e
   |some u =>
    cases e2:BY j with
    |none=>rw[e1,e2]at e;cases e
    |some l =>
     rw[e1,e2]at e;dsimp only at e;by_cases z:(AF a<=60/\wT j<=60)/\u.canLay0=I/\PyData.canLayAll0 l=I
     .rw[e_ z]at e;cases e;obtain⟨xs,B,r⟩:=wb.seqOf e0;unfold Ds;rw[B,pE wa e1 z.1.1];dsimp only;rw[yt r e2 z.1.2];dsimp only;rw[e_ z.2];exact Av
     .rw[h8 z]at e;cases e
end
noncomputable section
def lH:NK where
 m:=Ct
 p:=λa=>match a with
  |.int i=>J (.int (-i))
  |_=>Y
 fr:=I
 ok {q h L O a x d} bd w e:=by
  cases a with
  |int i=>cases e;rw[w.int];exact Ca
  |_=>cases e
def CK:D->Option String
 |.non=>J "NoneType"
 |.bl _=>J "bool"
 |.int _=>J "int"
 |.str _=>J "str"
 |.tup _=>J "tuple"
 |.lst _=>J "list"
 |.dic _ _ _=>J "dict"
 |_=>Y
def LA(w:Vw q h L O d v)(e:CK d=J t):Dm h v=J t:=by
 cases d with
 |non=>cases e;rw[w.non];rfl
 |bl b=>cases e;rw[w.bl];rfl
 |int b=>cases e;rw[w.int];rfl
 |str b=>cases e;rw[w.str];rfl
 |tup b=>cases e;obtain⟨xs,rfl,_⟩:=w.tup;rfl
 |lst b=>cases e;obtain⟨n,xs,rfl,g,_⟩:=w.lst;simp[Dm,g]
 |dic fz l j =>
  cases e;rcases w with⟨n,xs,rfl,_,g,_⟩|⟨n,a,xs,i,e,rfl,_,_,g,_⟩
  .simp[Dm,g]
  .cases a with
   |none=>cases e
   |some _=>simp[Dm,g,mo]
 |_=>cases e
def ba(i:List String):NK where
 m:=lV i
 p:=λa=>(CK a).map λt=>.bl (i.any (dG t))
 fr:=I
 ok {q h L O a x d} bd w e:=by rw[Bt]at e;obtain⟨t,e1,rfl⟩:=e;unfold lV;rw[LA w e1];exact Av
def qj:B9 where
 k:=λxs h=>(BC xs h).ne
 p:=λj=>match j with
  |[.int i]=>J (.int (if i<0 then -i else i))
  |_=>Y
 fr:=I
 ok {q h L O j xs d} bd w e:=by
  match j,e with
  |[.int i],e=>cases e;obtain⟨x,rfl,a⟩:=fG w;rw[a.int];exact Ca
def im:B9 where
 k:=λxs h=>(Dl xs h).ne
 p:=λj=>match j with
  |[.int i]=>J (.int i)
  |[.bl b]=>J (.int (if b then 1 else 0))
  |_=>Y
 fr:=I
 ok {q h L O j xs d} bd w e:=by
  match j,e with
  |[.int i],e=>cases e;obtain⟨x,rfl,a⟩:=fG w;rw[a.int];exact Ca
  |[.bl i],e=>cases e;obtain⟨x,rfl,a⟩:=fG w;rw[a.bl];exact Ca
def dP:B9 where
 k:=λxs h=>(sw xs h).ne
 p:=λj=>match j with
  |[.lst i]=>J (.int i.length)
  |[.tup i]=>J (.int i.length)
  |[.str x]=>if x.length<=sizeLine then J (.int x.length)else Y
  |_=>Y
 fr:=I
 ok {q h L O j xs d} bd w e:=by
  match j,e with
  |[.lst i],e =>
   cases e;obtain⟨x,rfl,a⟩:=fG w;obtain⟨n,ys,rfl,g,r⟩:=a.lst;simp only[sw,g];rw[r.length];exact Ca
  |[.tup i],e =>
   cases e;obtain⟨x,rfl,a⟩:=fG w;obtain⟨ys,rfl,r⟩:=a.tup;simp only[sw];rw[r.length];exact Ca
  |[.str x],e =>
   dsimp only at e;by_cases z:x.length<=sizeLine
   .rw[e_ z]at e;cases e;obtain⟨x,rfl,a⟩:=fG w;rw[a.str];simp only[sw];rw[e_ z];exact Ca
   .rw[h8 z]at e;cases e
def m4:B9 where
 k:=λxs h=>(B3 xs h).ne
 p:=λj=>match j with
  |[d]=>d.items.bind λi=>if i.length<=100000 then J (.lst i)else Y
  |_=>Y
 fr:=I
 ok {q h L O j xs d} bd w e:=by
  match j,e with
  |[a],e =>
   obtain⟨x,rfl,wx⟩:=fG w;rw[JU]at e;obtain⟨i,e1,e2⟩:=e;obtain⟨xs,e3,r⟩:=wx.seqOf e1;by_cases z:i.length<=100000
   .rw[e_ z]at e2;cases e2;obtain⟨v,g,e4,u,l⟩:=m5 bd r z;exact⟨v,g,by simp only[B3,e3];rw[e4];rfl,u,l⟩
   .rw[h8 z]at e2;cases e2
def bZ:B9 where
 k:=λxs h=>(BD xs h).ne
 p:=λi=>match i with
  |[d]=>d.items.map .tup
  |_=>Y
 fr:=I
 ok {q h L O i xs d} bd w e:=by
  match i,e with
  |[a],e =>
   obtain⟨x,rfl,wx⟩:=fG w;rw[Bt]at e;obtain⟨j,e1,rfl⟩:=e;obtain⟨xs,e3,r⟩:=wx.seqOf e1;simp only[BD,e3];exact HE ⟨xs,rfl,r⟩ λ_ k _ e=>by cases k<;>cases e
def jT:SV->Option (List Bool)
 |[]=>J []
 |.bl b::r=>(jT r).map (b::·)
 |_=>Y
def yP:∀{i:SV}{xs:SM}{bs:List Bool},Rps q h O i xs->jT i=J bs->ly xs=J bs
 |[],_,_,r,e=>by rw[show _=[]from r];cases e;rfl
 |d::i,_,bs,⟨x,t,ex,a,b⟩,e=>by
  subst ex
  cases d with
  |bl c =>
   rw[show x=PV.bl c from a];rw[jT,Bt]at e;obtain⟨j,e1,rfl⟩:=e;rw[ly,yP b e1];rfl
  |_=>cases e
def qJ:B9 where
 k:=λxs h=>(BX xs h).ne
 p:=λi=>match i with
  |[d]=>(d.items.bind jT).map λbs=>.bl (bs.all id)
  |_=>Y
 fr:=I
 ok {q h L O i xs d} bd w e:=by
  match i,e with
  |[a],e =>
   obtain⟨x,rfl,wx⟩:=fG w;rw[Bt]at e;obtain⟨bs,e1,rfl⟩:=e;rw[JU]at e1;obtain⟨j,e1,e2⟩:=e1;obtain⟨xs,e3,r⟩:=wx.seqOf e1;simp only[BX,e3,F5,yP r e2];exact Av
def lO:SV->Option (SS)
 |[]=>J []
 |.int b::r=>(lO r).map (b::·)
 |_=>Y
def tz:∀{i:SV}{xs:SM}{bs:SS},Rps q h O i xs->lO i=J bs->xs=bs.map .int
 |[],_,_,r,e=>by rw[show _=[]from r];cases e;rfl
 |d::i,_,bs,⟨x,t,ex,a,b⟩,e=>by
  subst ex
  cases d with
  |int c =>
   rw[show x=PV.int c from a];rw[lO,Bt]at e;obtain⟨j,e1,rfl⟩:=e;rw[tz b e1];rfl
  |_=>cases e
def qV:∀(bs:SS),mf (bs.map .int)=J bs
 |[]=>rfl
 |b::bs=>by rw[nc,mf,qV bs];rfl
def oK:∀(bs:SS),Rps q h O (bs.map .int) (bs.map .int)
 |[]=>rfl
 |b::bs=>⟨_,_,rfl,rfl,oK bs⟩
def Vw.lstOf(w:Vw q h L O (.lst ds) v):∃xs,MM.jF h v=J xs/\Rps q h O ds xs:=by obtain⟨n,xs,rfl,g,r⟩:=w.lst;exact⟨xs,by simp[MM.jF,g],r⟩
def Rj(bd:Bd h O)(r:∀h O,Rps q h O ds xs):Gv q h O I (.ok (.loc h.length) (h++[.lst xs])) (.lst ds):=by
 have g:(h++[MO.lst xs])[h.length]?=J (.lst xs):=by simp
 exact⟨_,_,rfl,⟨_,_,rfl,λz=>by have:=bd _ z;ext,g,r _ _⟩,λ_ k a e=>by obtain⟨rfl,rfl⟩:=js e;exact⟨_,_,rfl,l_ _,g,r _ _⟩⟩
def sy(a:SV):Option (SV):=match lO a with
 |some ns=>if ns.length<64 then J ((ip ns).map .int)else Y
 |none=>Y
def fR:B9 where
 k:=λxs h=>(wr xs h).ne
 p:=λi=>match i with
  |[.lst a]=>(sy a).map .lst
  |_=>Y
 fr:=I
 ok {q h L O i xs d} bd w e:=by
  match i,e with
  |[.lst a],e =>
   obtain⟨x,rfl,wx⟩:=fG w;obtain⟨ys,e0,r⟩:=wx.lstOf;rw[Bt]at e;obtain⟨j,e1,rfl⟩:=e;unfold sy at e1
   cases e2:lO a with
   |some ns =>
    rw[e2]at e1;dsimp only at e1;by_cases z:ns.length<64
    .rw[e_ z]at e1;cases e1
     have:wr [x] h=.ok (.loc h.length) (h++[.lst ((ip ns).map .int)]):=by simp only[wr,e0,tz r e2,qV];rw[e_ z]
     show Gv q h O I (wr [x] h).ne _;rw[this];exact Rj bd λ_ _=>oK _
    .rw[h8 z]at e1;cases e1
   |none=>rw[e2]at e1;cases e1
def d6(lo:Int)(n:Nat):SV:=(List.range n).map λ(i:Nat)=>D.int (lo+(i:Int))
def vc:Rps q h O (d6 lo n) (bD lo n):=by
 have:=oK (q:=q) (h:=h) (O:=O) ((List.range n).map λ(i:Nat)=>lo+(i:Int))
 rw[wu,wu]at this;exact this
def Fx:B9 where
 k:=λl i=>match l with
  |[.int j]=>if -(2^62)<=j/\j<2^62/\j.toNat<=sizeLine then .ok (.loc i.length) (i++[.lst (bD 0 j.toNat)])else .bad
  |_=>.bad
 p:=λa=>match a with
  |[.int j]=>if -100000<=j/\j<=100000 then J (.lst (d6 0 j.toNat))else Y
  |_=>Y
 fr:=I
 ok {q h L O a xs d} bd w e:=by
  match a,e with
  |[.int j],e =>
   obtain⟨x,rfl,wx⟩:=fG w;rw[wx.int];dsimp only at e;by_cases z:-100000<=j/\j<=100000
   .rw[e_ z]at e;cases e;dsimp only
    have:=fH
    rw[e_ ⟨by ext,by ext,by ext⟩];exact Rj bd λ_ _=>vc
   .rw[h8 z]at e;cases e
def Fy:Lr where
 k:=λl i=>match l with
  |[.int j]=>if -(2^62)<=j/\j<2^62 then .ok ⟨bD 0 j.toNat,[]⟩ i else .bad
  |_=>.bad
 p:=λa=>match a with
  |[.int j]=>if -100000<=j/\j<=100000 then J (d6 0 j.toNat)else Y
  |_=>Y
 ok {q h L O a xs d} hq hO bd w e:=by
  match a,e with
  |[.int j],e =>
   obtain⟨x,rfl,wx⟩:=fG w;rw[wx.int];dsimp only at e;by_cases z:-100000<=j/\j<=100000
   .rw[e_ z]at e;cases e;dsimp only;rw[e_ ⟨by ext,by ext⟩];exact⟨_,rfl,vc,(λ_ hg=>nomatch hg),λ_ _ hg=>nomatch hg⟩
   .rw[h8 z]at e;cases e
def Vw.sqAny(u:q<L)(y:q∈O)(w:Vw q h L O d v)(e:d.items=J ds):∃t xs gd,MM.bT v h=J (t,xs,gd)/\Rps q h O ds xs/\(∀g∈gd,h[g.1]?=J (.lst g.2)/\g.1≠q)/\(Rp q h O d v->∀g∈gd,g.1∉O):=by
 obtain⟨xs,gd,e1,r,i,j⟩:=w.seq u y e
 cases d with
 |lst l =>
  cases e;obtain⟨n,ys,rfl,g,a⟩:=w.lst;simp only[uq,g]at e1;cases e1;exact⟨T,xs,[(n,xs)],by simp[MM.bT,g],a,i,j⟩
 |tup l =>
  cases e;obtain⟨ys,rfl,a⟩:=w.tup;cases e1;exact⟨I,_,[],rfl,a,i,j⟩
 |_=>cases e
def br(a:SV):SV:=a.zipIdx.map λp=>.tup [.int (p.2:Int),p.1]
def lg(xs ys:SV):SV:=(xs.zip ys).map λp=>.tup [p.1,p.2]
def ug:∀{i:SV}{xs:SM}(n:Nat),Rps q h O i xs->Rps q h O ((i.zipIdx n).map λp=>.tup [.int (p.2:Int),p.1]) ((xs.zipIdx n).map λp=>.tup [.int (p.2:Int),p.1])
 |[],_,_,r=>by rw[show _=[]from r];rfl
 |d::i,_,n,⟨x,t,e,a,b⟩=>by
  subst e;exact⟨_,_,rfl,⟨_,rfl,⟨_,_,rfl,rfl,⟨_,_,rfl,a,rfl⟩⟩⟩,ug (n+1) b⟩
def vk:∀{j i:SV}{xs ys:SM},Rps q h O j xs->Rps q h O i ys->Rps q h O (lg j i) (jZ xs ys)
 |[],_,_,_,r,_=>by rw[show _=[]from r];rfl
 |_::_,[],_,_,r,u=>by rw[show _=[]from u];simp[jZ];rfl
 |d::j,e::i,_,_,⟨x,t,e1,a,b⟩,⟨B,C,l,y,z⟩=>by
  subst e1 l;exact⟨_,_,rfl,⟨_,rfl,⟨_,_,rfl,a,⟨_,_,rfl,y,rfl⟩⟩⟩,vk b z⟩
def iE:Lr where
 k:=λu j=>match u with
  |[x]=>(match bT x j with
   |some (_,xs,gd)=>.ok ⟨c8 xs,gd⟩ j
   |none=>.bad)
  |_=>.bad
 p:=λi=>match i with
  |[d]=>d.items.map br
  |_=>Y
 ok {q h L O i xs d} hq hO bd w e:=by
  match i,e with
  |[a],e =>
   obtain⟨x,rfl,wx⟩:=fG w;rw[Bt]at e;obtain⟨E,e1,rfl⟩:=e;obtain⟨t,ys,gd,e2,r,l,y⟩:=wx.sqAny hq hO e1;refine⟨⟨c8 ys,gd⟩,by simp only[e2],ug 0 r,l,λz=>y ?_⟩;obtain⟨B,C,e3,a,_⟩:=z;cases e3;exact a
def iZ:Lr where
 k:=λS u=>match S with
  |[x,y]=>(match bT x u,bT y u with
   |some (_,xs,l),J (_,ys,F)=>.ok ⟨jZ xs ys,l++F⟩ u
   |_,_=>.bad)
  |_=>.bad
 p:=λB=>match B with
  |[d,e]=>d.items.bind λxs=>e.items.map λys=>lg xs ys
  |_=>Y
 ok {q h L O B xs d} hq hO bd w e:=by
  match B,e with
  |[a,b],e =>
   obtain⟨x,y,rfl,wx,R⟩:=Ly w;rw[JU]at e;obtain⟨Z,e1,e⟩:=e;rw[Bt]at e;obtain⟨W,e2,rfl⟩:=e;obtain⟨t,ys,gd,Q,r,l,F⟩:=wx.sqAny hq hO e1;obtain⟨t',j,G,C,H,i,E⟩:=R.sqAny hq hO e2;refine⟨⟨jZ ys j,gd++G⟩,by simp only[Q,C],vk r H,λg hg=>?_,λz g hg=>?_⟩
   .rcases Ci.mp hg with z|z
    .exact l g z
    .exact i g z
   .obtain⟨U,H,e3,M,X,r2,e4,P,_⟩:=z;cases e3;cases e4;rcases Ci.mp hg with z|z
    .exact F M g z
    .exact E P g z
def d9(xs:SV)(lo a:SF):SV:=(xs.drop (HT.mA xs.length 0 lo)).take (HT.mA xs.length xs.length a-HT.mA xs.length 0 lo)
def vt(lo a:SF)(r:Rps q h O ds xs):Rps q h O (d9 ds lo a) (gK xs lo a):=by unfold d9 gK;rw[r.length];exact(r.drop _).take _
structure Xo(ws:SU) where
 m:Mx (SF)
 p:ay->b_->PR (SF)
 ok:∀{q h L B O Z env s},Cx q h L B O ws Z env s->Ok q h (m Z h) (p env s) (λ_ a b=>a=b)
section
variable{ws:SU}
def xw:Xo ws where
 m:=Q4
 p:=λ_ s=>.ok Y s
 ok {q h L B O Z env s} c:=⟨Y,h,rfl,KB.refl _ _,c.pen,rfl⟩
def xz(e:Xe ws):Xo ws where
 m:=Q5 e.m
 p:=λenv s=>(e.p env s).bind λd s=>match d with
  |.int i=>.ok (J i) s
  |_=>.bad
 ok {q h L B O Z env s} c:=by
  refine(e.ok c).bind λx v a l u j ⟨w,_,_⟩=>?_
  cases x with
  |int i=>rw[w.int];exact⟨J i,a,rfl,KB.refl _ _,j,rfl⟩
  |_=>trivial
def JL(d:D)(lo i:SF):So:=match d with
 |.lst a=>J (.lst (d9 a lo i))
 |.tup a=>if HT.mA a.length 0 lo=0/\HT.mA a.length a.length i=a.length then Y else J (.tup (d9 a lo i))
 |_=>Y
def LB(bd:Bd h O)(w:Vw q h L O a x)(e:JL a lo hi=J d):Gv q h O I (Ho x lo hi h) d:=by
 cases a with
 |lst i =>
  cases e;obtain⟨n,xs,rfl,g,r⟩:=w.lst;simp only[Ho,g];have r:=vt lo hi r;have m:Mv O h O (h++[MO.lst (gK xs lo hi)]):=⟨λn j _=>qs j,λo l=>.inl l⟩
  have y:Mv O h (h.length::O) (h++[MO.lst (gK xs lo hi)]):=⟨λn j _=>qs j,λo l=>by
   rcases qd.mp l with z|z
   .exact .inr (by ext)
   .exact .inl z⟩
  have g:(h++[MO.lst (gK xs lo hi)])[h.length]?=J (.lst (gK xs lo hi)):=by simp
  exact⟨_,_,rfl,⟨_,_,rfl,λz=>by have:=bd _ z;ext,g,r.mv m⟩,λ_ k u e=>by obtain⟨rfl,rfl⟩:=js e;exact⟨_,_,rfl,l_ _,g,r.mv y⟩⟩
 |tup i =>
  unfold JL at e;dsimp only at e;by_cases z:HT.mA i.length 0 lo=0/\HT.mA i.length i.length hi=i.length
  .rw[e_ z]at e;cases e
  .rw[h8 z]at e;cases e;obtain⟨xs,rfl,r⟩:=w.tup;simp only[Ho];rw[r.length,h8 z];exact HE ⟨_,rfl,vt lo hi r⟩ λ_ k _ e=>by cases k<;>cases e
 |_=>cases e
def x2(a:Xe ws)(lo i:Xo ws):Xe ws where
 m:=Q6 a.m lo.m i.m
 p:=λenv s=>(a.p env s).bind λx s=>(lo.p env s).bind λl s=>(i.p env s).bind λu s=>.of (JL x l u) s
 fz:=I
 fr:=I
 ok {q h L B O Z env s} c:=by
  refine(a.ok c).bind λx v h1 R E M ⟨w,_,_⟩=>?_;have F:=c.kb E M;refine(lo.ok F).bind λl S X s2 j P e=>?_;subst e;have G:=F.kb j P;refine(i.ok G).bind λu u' W U z C e=>?_;subst e;have Q:=G.kb z C
  cases e:JL x l u with
  |none=>trivial
  |some d =>
   obtain⟨y,g,e1,r,H⟩:=LB Q.bd ((w.kb j c.pO c.pL).kb z c.pO c.pL) e;exact B_ (n_ (n_ E.len j.len) z.len) C ⟨y,g,by rw[e1];rfl,r,H⟩
end
def q0:Fv where
 m:=gI
 p:=λi j=>match j with
  |[a]=>if i.length<100000 then J (.non,i++[a])else Y
  |_=>Y
 ok {q h O n xs i j vs d ds'} g r ra e:=by
  match j,e with
  |[a],e =>
   obtain⟨x,t,rfl,a,b⟩:=ra
   have:t=[]:=b
   subst this;dsimp only at e;by_cases z:i.length<100000
   .rw[e_ z]at e;cases e;refine⟨.non,xs++[x],?_,r.app ⟨x,[],rfl,a,rfl⟩,rfl⟩;simp only[gI,g];rw[e_ (by have:=fH;rw[r.length];ext)]
   .rw[h8 z]at e;cases e
def Bi:Fv where
 m:=m6
 p:=λj l=>match l with
  |[.int i,a]=>if(0<=i/\i<=100000)/\j.length<100000 then J (.non,j.take (min i.toNat j.length)++a::j.drop (min i.toNat j.length))else Y
  |_=>Y
 ok {q h O n xs j l vs d ds'} g r ra e:=by
  match l,e with
  |[.int i,a],e =>
   obtain⟨x,t,rfl,u,y,B,rfl,w,b⟩:=ra
   have:B=[]:=b
   subst this;rw[show x=PV.int i from u];dsimp only at e;by_cases z:(0<=i/\i<=100000)/\j.length<100000
   .rw[e_ z]at e;cases e;refine⟨.non,lW xs i y,?_,?_,rfl⟩
    .simp only[m6,g];rw[e_ ⟨by ext,by have:=fH;rw[r.length];ext⟩]
    .unfold lW;rw[h8 (by ext),r.length];exact(r.take _).app ⟨y,_,rfl,w,r.drop _⟩
   .rw[h8 z]at e;cases e
end
section
variable{ws:SU}{env:ay}{s:b_}
@[simp]theorem ao{d:D}{r:ay}:(ac 0:Xe ws).p (J d::r) s=.ok d s:=rfl
@[simp]theorem au{i:Nat}{o:So}{r:ay}:(ac (i+1):Xe ws).p (o::r) s=(ac i:Xe ws).p r s:=by simp[ac]
theorem DJ(e:env[i]?=J (J d)):(ac i:Xe ws).p env s=.ok d s:=by show(match env[i]? with|some (J d)=>PR.ok d s|_=>.bad)=_;rw[e]
@[simp]theorem aT:(xC k:Xe ws).p env s=.ok k.d s:=rfl
@[simp]theorem xN:Cn.non.d=.non:=rfl
@[simp]theorem Rk:(Cn.bl b).d=.bl b:=rfl
@[simp]theorem aJ:(Cn.int b).d=.int b:=rfl
@[simp]theorem Pz:(Cn.str b).d=.str b:=rfl
@[simp]theorem aD:(ae o a b).p env s=(a.p env s).bind λx s1=>(b.p env s1).bind λy s2=>.of (o.p x y) s2:=rfl
@[simp]theorem eP:(u_ o a).p env s=(a.p env s).bind λx s1=>.of (o.p x) s1:=rfl
@[simp]theorem aq:(a_:Xs ws).p env s=.ok [] s:=rfl
@[simp]theorem af:(aa a r).p env s=(a.p env s).bind λx s1=>(r.p env s1).bind λy s2=>.ok (x::y) s2:=rfl
@[simp]theorem bz:(n4 o a).p env s=(a.p env s).bind λx s1=>.of (o.p x) s1:=rfl
@[simp]theorem aC:(ah f a h).p env s=(a.p env s).bind f.p:=rfl
@[simp]theorem hV:(dQ a h).p env s=(a.p env s).bind λx s1=>if x.length<=100000 then .ok (.lst x) s1 else .bad:=rfl
@[simp]theorem bJ:(aX a h).p env s=(a.p env s).bind λx s1=>if x.length<=100000 then .ok (.tup x) s1 else .bad:=rfl
@[simp]theorem HH:(DF:Xe ws).p env s=.ok (.dic T [] []) s:=rfl
@[simp]theorem bE:(xB a).p env s=(a.p env s).bl:=rfl
@[simp]theorem cW:(bA a).p env s=(a.p env s).bind λb s=>.ok (!b) s:=rfl
@[simp]theorem iO:(w9 a b).p env s=(a.p env s).bind λx s=>if x=I then .ok I s else b.p env s:=rfl
@[simp]theorem NN:(oh:Xt ws).p env s=.ok I s:=rfl
@[simp]theorem kj:(eO a b).p env s=(a.p env s).bl.bind λx s=>if x=I then(b.p env s).bl.bind λy s=>.ok (.bl y) s else .ok (.bl T) s:=rfl
@[simp]theorem vZ:(nE a).p env s=(a.p env s).bl.bind λx s=>.ok (.bl (!x)) s:=rfl
@[simp]theorem yy:(HA t a b z h).p env s=(t.p env s).bind λx s=>if x=I then a.p env s else b.p env s:=rfl
@[simp]theorem LC:(pM f g a b e).p env s=(a.p env s).bind λx s1=>(b.p env s1).bind λy s2=>match f.p x y with
  |some (.bl t)=>if t=I then(e.p env s2).bind λz s3=>.of (g.p y z) s3 else .ok (.bl T) s2
  |_=>.bad:=rfl
@[simp]theorem hU:(cR o a).p env s=(a.p env s).bind λx s1=>.of (o.p x) s1:=rfl
@[simp]theorem dU:(bL a).p env s=(a.p env s).bind λx s1=>.of x.items s1:=rfl
@[simp]theorem Rm{i:Nat}{h:ws.contains i=T}{d:D}:(lf i h).p d env=J (env.set i (J d)):=rfl
@[simp]theorem Rn:(Bp:Ft ws).p [] env=J env:=rfl
@[simp]theorem Ro:(rg a t).p (d::ds) env=(a.p d env).bind λenv1=>t.p ds env1:=rfl
@[simp]theorem Rq:(Bq t n).p (.tup ds) env=if ds.length=n then t.p ds env else Y:=rfl
@[simp]theorem kC{nv:Nat}{fm:SU}{i:Xi ws}{ws':SU}{g:Xg ws'}{t:Xt ws'}{e:Xe ws'}{hw:Ce nv fm ws=ws'}{hz:e.fz=I}:(bh nv fm i g t e hw hz).p env s=(i.p env s).bind λds s1=>if ds.length<=100000 then (match dz g.p t.p e.p ds (wv nv fm env) s1 with
  |.ok r s2=>.ok (.lst r) s2
  |_=>.bad)else .bad:=rfl
@[simp]theorem gU:(xw:Xo ws).p env s=.ok Y s:=rfl
@[simp]theorem g7:(xz e).p env s=(e.p env s).bind λd s=>match d with
  |.int i=>.ok (J i) s
  |_=>.bad:=rfl
@[simp]theorem g6:(x2 a lo hi).p env s=(a.p env s).bind λx s=>(lo.p env s).bind λl s=>(hi.p env s).bind λu s=>.of (JL x l u) s:=rfl
@[simp]theorem aB:(aF a b).p env s=(a.p env s).then b.p:=rfl
@[simp]theorem bf:(io:Xd ws).p env s=.nx env s:=rfl
@[simp]theorem bo:(aN e).p env s=(e.p env s).go env λd _ s=>.rt d s:=rfl
theorem pY{i:Nat}{h:ws.contains i=I}{d:D}(e:env[i]?=J (J d)):(nF i h).p env s=.rt d s:=by show(match env[i]? with|some (J d)=>PS.rt d s|_=>.bad)=_;rw[e]
@[simp]theorem DL:(sG e).p env s=(e.p env s).go env λ_=>.nx:=rfl
@[simp]theorem bw:(s_ t a b).p env s=(t.p env s).go env λx env s=>if x=I then a.p env s else b.p env s:=rfl
@[simp]theorem aV:(aP i e hi hz).p env s=(e.p env s).go env λd env s=>.nx (env.set i (J d)) s:=rfl
@[simp]theorem pd:(D.lst ds).mine=I:=rfl
@[simp]theorem PB:(D.dic T ks ds).mine=I:=rfl
@[simp]theorem vW{hi hz}:(iN i e hi hz:Xd ws).p env s=(e.p env s).go env λd env s=>if d.mine=I then .nx (env.set i (J d)) s else .bad:=rfl
@[simp]theorem gp:(iu i g b hz).p env s=(i.p env s).go env λds env s=>BE g.p b.p ds env s:=rfl
@[simp]theorem LD:(Cg o i a hi hz).p env s=Cf o i a.p env s λ_=>.nx:=rfl
theorem aW{hw}(hl:ds.length=np):(bB n np b hw).p ds s=(b.p (k_ n ds) s).fin:=by show(if ds.length=np then _ else _)=_;rw[e_ hl]
variable{i j:Int}{b:Bool}{x y:SV}
@[simp]theorem bP:bC.p (.int i) (.int j)=J (.int (i+j)):=rfl
theorem DM(h:x.length+y.length<=100000):bC.p (.lst x) (.lst y)=J (.lst (x++y)):=by show(if x.length+y.length<=100000 then _ else _)=_;rw[e_ h]
@[simp]theorem i4:jn.p (.int i) (.int j)=J (.int (i-j)):=rfl
@[simp]theorem yx:Fw.p (.int i) (.int j)=J (.bl (decide (i<j))):=rfl
@[simp]theorem PC:JI.p (.int i) (.int j)=J (.bl (decide (i<=j))):=rfl
@[simp]theorem HI:HG.p (.int i) (.int j)=J (.bl (decide (j<i))):=rfl
@[simp]theorem HJ:Py.p (.int i) (.int j)=J (.bl (decide (j<=i))):=rfl
@[simp]theorem ld:h_.p (.lst x) (.int j)=nw x j:=rfl
@[simp]theorem kP:h_.p (.tup x) (.int j)=nw x j:=rfl
theorem DN(h:j≠0):jP.p (.int i) (.int j)=J (.int (i.fmod j)):=by show(if j≠0 then _ else _)=_;rw[e_ h]
@[simp]theorem PD:(ba Ts).p d=(CK d).map λt=>.bl (Ts.any (dG t)):=rfl
@[simp]theorem PF:CK .non=J "NoneType":=rfl
@[simp]theorem Rr:CK (.bl b)=J "bool":=rfl
@[simp]theorem PH:CK (.int i)=J "int":=rfl
@[simp]theorem PJ:CK (.str z)=J "str":=rfl
@[simp]theorem PK:CK (.tup x)=J "tuple":=rfl
@[simp]theorem PL:CK (.lst x)=J "list":=rfl
@[simp]theorem PM:CK (.dic fz ks es)=J "dict":=rfl
@[simp]theorem pe:im.p [.bl b]=J (.int (if b then 1 else 0)):=rfl
@[simp]theorem PN:im.p [.int i]=J (.int i):=rfl
@[simp]theorem PP:dP.p [.lst x]=J (.int x.length):=rfl
@[simp]theorem PQ:dP.p [.tup x]=J (.int x.length):=rfl
theorem vU(h:x.length<=100000):m4.p [.lst x]=J (.lst x):=by show(if x.length<=100000 then _ else _)=_;rw[e_ h]
@[simp]theorem eG:bZ.p [.lst x]=J (.tup x):=rfl
@[simp]theorem LF:bZ.p [.tup x]=J (.tup x):=rfl
theorem Fz(h:-100000<=i/\i<=100000):Fx.p [.int i]=J (.lst (d6 0 i.toNat)):=by show(if _ then _ else _)=_;rw[e_ h]
def sH(h:-100000<=i/\i<=100000):Fy.p [.int i]=J (d6 0 i.toNat):=by show(if _ then _ else _)=_;rw[e_ h]
@[simp]theorem DO:iE.p [.lst x]=J (br x):=rfl
@[simp]theorem Rs:iZ.p [.lst x,.lst y]=J (lg x y):=rfl
@[simp]theorem Rt:iZ.p [.tup x,.tup y]=J (lg x y):=rfl
@[simp]theorem gR:JL (.lst x) lo hi=J (.lst (d9 x lo hi)):=rfl
theorem mP(h:x.length<100000):q0.p x [a]=J (.non,x++[a]):=by show(if _ then _ else _)=_;rw[e_ h]
def ye{a:D}{i:Nat}(h:i<=x.length)(hl:x.length<100000):Bi.p x [.int i,a]=J (.non,x.take i++a::x.drop i):=by show(if _ then _ else _)=_;rw[e_ ⟨by ext,hl⟩,B2,J3 h]
end
section
variable{i j:Int}{b c:Bool}
def jN(l:x.canLay0=I)(a:x.depth<=64):SeqAt.shaped x=I:=by simp[SeqAt.shaped,l,a]
@[simp]theorem cr:zT neg (.int i) (.int j)=J (.bl (if neg then !decide (i=j)else decide (i=j))):=rfl
@[simp]theorem PX:zT neg (.bl b) (.bl c)=J (.bl (if neg then !(b==c)else b==c)):=rfl
@[simp]theorem dM:y6.p a d=zT T a d:=rfl
@[simp]theorem gq:wV.p a d=zT I a d:=rfl
@[simp]theorem LG:(NM neg).p a d=JK neg a d:=rfl
theorem lm:∀(k:SS),BY (k.map .int)=J (k.map .int)/\wT (k.map .int)=0
 |[]=>⟨rfl,rfl⟩
 |i::k=>by
  obtain⟨a,b⟩:=lm k;simp[BY,py,a,wT,AF,b]
def rf:∀(xs:SS),(xs.map PyData.int).any (λe=>PyData.eqv e (.int x))=decide (x∈xs)
 |[]=>by simp
 |y::ys=>by
  rw[nc,OA,rf ys]
  have:PyData.eqv (.int y) (.int x)=decide (x=y):=by simp[PyData.eqv,Bool.beq_eq_decide_eq,eq_comm]
  grind
def jV:∀(k l:SS),PyData.eqvAll (k.map .int) (l.map .int)=decide (k=l)
 |[],[]=>by simp[PyData.eqvAll]
 |[],_::_=>by simp[PyData.eqvAll]
 |_::_,[]=>by simp[PyData.eqvAll]
 |a::k,b::l=>by
  simp only[nc,PyData.eqvAll,PyData.eqv,jV k l];by_cases z:a=b<;>simp[z]
def HK{l:Bool}{x:Int}{d:D}{xs:SS}(e:d.items=J (xs.map .int)):JK l (.int x) d=J (.bl (if l then !decide (x∈xs)else decide (x∈xs))):=by obtain⟨a,b⟩:=lm xs;simp only[JK,e,py,a];rw[e_ ⟨⟨by simp[AF],⋯⟩,rfl,(kW xs).1⟩,rf]
def tJ{neg:Bool}{xs ys:SS}:zT neg (.lst (xs.map .int)) (.lst (ys.map .int))=J (.bl (if neg then !decide (xs=ys)else decide (xs=ys))):=by obtain⟨a,b⟩:=lm xs;obtain⟨c,d⟩:=lm ys;obtain⟨u,z⟩:=kW xs;obtain⟨l,y⟩:=kW ys;simp only[zT,py,a,c,CG];rw[e_ ⟨⟨by simp[AF,b],by simp[AF,d]⟩,jN (by simpa [PyData.canLay0]using u) (by simp only[PyData.depth];lia),jN (by simpa [PyData.canLay0]using l) (by simp only[PyData.depth];lia)⟩];simp only[PyData.eqv,jV]
end
@[simp]theorem NO:BE g b [] env s=.nx env s:=rfl
theorem fK(e:g d env=J env1):BE g b (d::ds) env s=(b env1 s).turn (BE g b ds):=by rw[BE,e]
def kF(l:Nat->ay->b_->Prop):∀(y:SV)(j:Nat)(env:ay)(s:b_),l j env s ->
  (∀m env s d,l (j+m) env s->y[m]?=J d->∃i a u,g d env=J i/\b i s=.nx a u/\l (j+m+1) a u)->∃a u,BE g b y env s=.nx a u/\l (j+y.length) a u
 |[],j,env,s,E,_=>⟨env,s,rfl,E⟩
 |d::y,j,env,s,E,st=>by
  obtain⟨i,B,L,e1,e2,F⟩:=st 0 env s d E rfl;obtain⟨C,G,e3,H⟩:=kF l y (j+1) B L F λm a u x q z=>by
   have:=st (m+1) a u x (by rw[show j+(m+1)=j+1+m by lia];exact q) (by simpa using z)
   rw[show j+(m+1)+1=j+1+m+1 by lia]at this;exact this
  refine⟨C,G,?_,by rw[BN,show j+(y.length+1)=j+1+y.length by lia];exact H⟩;rw[fK e1,e2];exact e3
def oU(p:D->Bool)(f:D->D):∀(l:SV)(j:ay),j.length=nv ->
  (∀x∈l,∀j:ay,j.length=nv->∃a:ay,a.length=nv/\g x (j++fr)=J (a++fr)/\t (a++fr) s=.ok (p x) s/\(p x=I->e (a++fr) s=.ok (f x) s))->dz g t e l (j++fr) s=.ok ((l.filter p).map f) s
 |[],j,hv,i=>rfl
 |x::l,j,hv,i=>by
  obtain⟨a,z,e1,e2,e3⟩:=i x (by simp) j hv;have B:=oU p f l a z λy C=>i y (pj _ C);rw[dz,e1];dsimp only;rw[e2]
  cases u:p x with
  |true=>simp only[Pb,if_true,e3 u,B,M0 u,nc]
  |false=>simp only[Pb,wj,if_false,B,M1 (show ¬p x=I by simp[u])]
def wo{z j:SU}{env:ay}{s:b_}{y:Nat}{fm:SU}{i:Xi z}{g:Xg j}{t:Xt j}{e:Xe j}{hw:Ce y fm z=j}{E:e.fz=I}{l:SV}(p:D->Bool)(f:D->D)(C:i.p env s=.ok l s)(hl:l.length<=100000)(u:∀x∈l,∀B:ay,B.length=y->∃a:ay,a.length=y/\g.p x (B++fm.map λi=>(env[i]?).getD Y)=J (a++fm.map λi=>(env[i]?).getD Y)/\t.p (a++fm.map λi=>(env[i]?).getD Y) s=.ok (p x) s/\(p x=I->e.p (a++fm.map λi=>(env[i]?).getD Y) s=.ok (f x) s)):
  (bh y fm i g t e hw E).p env s=.ok (.lst ((l.filter p).map f)) s:=by
 rw[kC,C,Pb,e_ hl];unfold wv;rw[oU p f l _ (by simp) u]
def LH{ws ws':SU}{env:ay}{s:b_}{fm:SU}{i:Xi ws}{t:Xt ws'}{e:Xe ws'}{ds:SV}(p:D->Bool)(f:D->D)(u:i.p env s=.ok ds s)(hl:ds.length<=100000)(j:∀x∈ds,∃a b,x=.tup [a,b]/\t.p (J a::J b::fm.map λi=>(env[i]?).getD Y) s=.ok (p x) s/\(p x=I->e.p (J a::J b::fm.map λi=>(env[i]?).getD Y) s=.ok (f x) s))(l:ws'.contains 0=T:=by exact ys rfl)(y:ws'.contains 1=T:=by exact ys rfl)(hw:Ce 2 fm ws=ws':=by exact ys rfl)(z:e.fz=I:=by exact ys rfl):
  (bh 2 fm i (Bq (rg (lf 0 l) (rg (lf 1 y) Bp)) 2) t e hw z).p env s=.ok (.lst ((ds.filter p).map f)) s :=
 wo p f u hl λx C B hv=>match B,hv with
  |[_,_],_=>let⟨a,b,e,q⟩:=j x C;⟨[J a,J b],rfl,by subst e;rfl,q⟩
def yL{α:Type}(l:List α):(l.filter λ_=>I)=l:=JY.mpr (by simp)
def kM(h:0<=i):∃n:Nat,i=(n:Int):=⟨i.toNat,⋯⟩
noncomputable section
def DP:D->Option Bool
 |.non=>J T
 |.bl b=>J b
 |.int i=>J (i != 0)
 |.tup xs=>J (!xs.isEmpty)
 |.lst xs=>J (!xs.isEmpty)
 |_=>Y
def Rps.empty(r:Rps p h O a vs):vs.isEmpty=a.isEmpty:=by
 cases a with
 |nil=>rw[show vs=[]from r];rfl
 |cons d a=>obtain⟨x,t,e,_⟩:=r;rw[e];rfl
def tX(w:Vw q h L O d v)(e:DP d=J b):om h v=J b:=by
 cases d with
 |non=>cases e;rw[w.non];rfl
 |bl c=>cases e;rw[w.bl];rfl
 |int c=>cases e;rw[w.int];rfl
 |tup c=>cases e;obtain⟨xs,rfl,r⟩:=w.tup;rw[om,r.empty]
 |lst c=>cases e;obtain⟨n,xs,rfl,g,r⟩:=w.lst;simp only[om,g];rw[r.empty]
 |_=>cases e
section
variable{ws:SU}
def LI(a:Xe ws):Xt ws where
 m:=Q8 a.m
 p:=λenv s=>(a.p env s).bind λd s=>.of (DP d) s
 ok {q h L B O Z env s} c:=by
  refine(a.ok c).bind λx v i l u j ⟨w,_,_⟩=>?_
  cases e:DP x with
  |none=>trivial
  |some b=>rw[tX w e];exact⟨b,i,rfl,KB.refl _ _,j,rfl⟩
structure OpR where
 m:Nat->SM->MH->SH
 p:SV->SV->So
 ok:∀{q:Nat}{h:MH}{L:Nat}{O:SU}{n:Nat}{xs:SM}{ds as:SV}{vs:SM}{d:D},h[n]?=J (.lst xs)->Rps q h O ds xs->Fq q h L O as vs->p ds as=J d->∃v,m n vs h=.ok v h/\Rp q h O d v/\∀k es,d≠dl k es
end
section
variable{ws:SU}{env:ay}{s:b_}
@[simp]theorem Ru:(LI a).p env s=(a.p env s).bind λd s=>.of (DP d) s:=rfl
end
end
noncomputable section
structure R7 where
 f:Str->SM->MH->SH
 p:Str->SV->So
 fr:Bool
 ok:∀{q h L O z as xs d},Bd h O->Fq q h L O as xs->p z as=J d->Gv q h O fr (f z xs h) d
section
variable{ws:SU}
def pV(i j:Nat)(a:Xs ws)(F:ws.contains i=T:=by exact ys rfl)(E:ws.contains j=T:=by exact ys rfl)(R:a.fz=I:=by exact ys rfl):Xd ws where
 m:=G5 i j a.m
 p:=λenv s=>(a.p env s).go env λu env s=>match u with
  |[x,y]=>.nx ((env.set i (J x)).set j (J y)) s
  |_=>.bad
 fr:=I
 ok {q h L B O Z env s} c d:=by
  refine SOk.ex (f:=λC Z h=>match C with|[v,w]=>.nx ((Z.set i (J v)).set j (J w)) h|_=>.bad) (g:=λu env s=>match u with|[x,y]=>.nx ((env.set i (J x)).set j (J y)) s|_=>.bad) c d (a.ok c) λxs C Q U kb l ⟨_,z⟩=>?_;have z:=z R
  match xs,z with
  |[],_=>trivial
  |[_],_=>trivial
  |[x,y],z =>
   obtain⟨v,t,rfl,M,t2⟩:=z;obtain⟨w,W,rfl,rw',rfl⟩:=t2;obtain⟨G,S⟩:=l.sr.set (i:=i) (λz=>by simp[z]at F) M;obtain⟨H,P⟩:=G.set (i:=j) (λz=>by simp[z]at E) rw';exact⟨_,Q,rfl,O,Stp.refl _ _ _ _,⟨l.bd,l.sub,l.bb,l.pb,l.hL,l.pen,H⟩,(d.keep S).keep P⟩
  |_::_::_::_,_=>trivial
variable{env:ay}{s:b_}
@[simp]theorem HL:(pV i j a hi hj hz).p env s=(a.p env s).go env λds env s=>match ds with
  |[x,y]=>.nx ((env.set i (J x)).set j (J y)) s
  |_=>.bad:=rfl
end
end
noncomputable section
def hR:SV->Option (List (Int×D))
 |[]=>J []
 |.tup [.int k,v]::r=>(hR r).map ((k,v)::·)
 |_=>Y
def DQ(x:D):Option (List (Int×D)):=match x with
 |.tup i=>(match hR i with
  |some a=>if(a.map (·.1)).Nodup then J a else Y
  |none=>Y)
 |_=>Y
def Rkv(q:Nat)(h:MH)(O:SU):List (Int×D)->List (Int×PV)->Prop
 |[],r=>r=[]
 |a::t,r=>∃b u,r=b::u/\a.1=b.1/\Rp q h O a.2 b.2/\Rkv q h O t u
def yG:∀{j:SV}{xs:SM}{i:List (Int×D)},Rps q h O j xs->hR j=J i->∃l,i8 xs=J l/\Rkv q h O i l:=by
 intro j
 induction j with
 |nil=>intro xs i r e;rw[show xs=[]from r];cases e;exact⟨[],rfl,rfl⟩
 |cons d j G =>
  intro xs i r e;obtain⟨x,t,rfl,H,L⟩:=r;unfold hR at e
  split at e
  .rename_i z;cases z
  .rename_i u M P z
   injection z with z1 z2
   subst z1 z2;rw[Bt]at e;obtain⟨y,e1,rfl⟩:=e;obtain⟨l,e2,e3⟩:=G L e1;obtain⟨Q,rfl,a,F,rfl,B,b,C,rfl,E,rfl⟩:=H;rw[show a=PV.int u from B];exact⟨(u,b)::l,by unfold i8;rw[e2];rfl,_,_,rfl,rfl,E,e3⟩
  .cases e
def Rkv.keys:∀{i:List (Int×D)}{j:List (Int×PV)},Rkv q h O i j->j.map (·.1)=i.map (·.1)
 |[],_,r=>by rw[show _=[]from r];rfl
 |a::t,_,⟨b,u,e,e1,_,r⟩=>by rw[e,nc,nc,e1,Rkv.keys r]
def ze(r:Rp q h O x v)(e:DQ x=J kvs):∃a,Lo v=J a/\Rkv q h O kvs a:=by
 unfold DQ at e
 split at e
 .rename_i l
  split at e
  .rename_i i j
   split at e
   .rename_i nd
    cases e;obtain⟨xs,rfl,r⟩:=r;obtain⟨a,e1,e2⟩:=yG r j;refine⟨a,?_,e2⟩;simp only[Lo,e1];rw[e_ (by rw[e2.keys];exact nd)]
   .cases e
  .cases e
 .cases e
section
variable{ws:SU}
def Br(i j:Int):Xe ws where
 m:=mC (.tup [.int i,.int j])
 p:=λ_ s=>.ok (.tup [.int i,.int j]) s
 fz:=I
 fr:=I
 ok {q h L B O Z env s} c:=by have r:Rp q h O (.tup [.int i,.int j]) (.tup [.int i,.int j]):=⟨_,rfl,_,_,rfl,rfl,_,_,rfl,rfl,rfl⟩;exact⟨_,h,rfl,KB.refl _ _,c.pen,.inl r,λ_=>r,λ_ k a e=>by cases k<;>cases e⟩
end
end
noncomputable section
variable{ws:SU}
end
end PU
namespace MM
open PySem.Spec PyProof.Rows L2
def LJ:nr:=λ_ _=>.bad
def HM{X:Cx}{st:Stmt}:MS X st LJ:=λl s Z H D a ⟨U,i,h,u,j,q⟩=>q.elim
end MM
namespace PU
open MM
def sS{ws:SU}:Xd ws where
 m:=LJ
 p:=λ_ _=>.bad
 fr:=I
 ok _ _:=trivial
end PU
namespace MM
open PySem.Spec PyProof.Rows L2
abbrev JM(scope sc:Scope)(vars frees:SQ):Prop:=(∀y∈scope.names,y.2=.cell->scope.names.lookup y.1=J .cell)/\(∀y∈scope.names,y.2=.local->scope.names.lookup y.1=J .local)/\(∀x∈vars,scope.names.lookup x=J .local\/scope.names.lookup x=J .cell)/\(∀x∈frees,scope.names.lookup x=J .free)/\(∀y∈scope.names,y.2=.free->y.1∈frees)/\(∀x∈frees,sc.names.lookup x=J .cell)
def HN(a i:Scope):Scope:={ a with names:=a.names.map λ(n,k)=>if(k == .free&&i.kind == .function&&i.names.lookup n==J .cell)then(n,.cell)else(n,k)}
def pF{a i:Scope}{env:Env}(h:env.scope=i):relabel a env=HN a i:=by subst h;rfl
def iY{X:Cx}{N:SQ}{a u:Scope}{j frees:SQ}{fm:SU}(l:X.env.scope=u)(y:a.kind=.function)(z:fm.map (λi=>N[i]?)=frees.map J)(h:JM a u j frees):Bo X N a j frees fm :=
 Hn l y h.1 h.2.1 h.2.2.1 h.2.2.2.1 h.2.2.2.2.1 z h.2.2.2.2.2
def LK{Q:SX->Prop}(h:∀i,Q [i]):∀a,a.length=1->Q a
 |[_],_=>h _
def NQ{Q:SX->Prop}(h:∀j i,Q [j,i]):∀a,a.length=2->Q a
 |[_,_],_=>h _ _
def NR{Q:SX->Prop}(h:∀l i j,Q [l,i,j]):∀a,a.length=3->Q a
 |[_,_,_],_=>h _ _ _
def NS{Q:SX->Prop}(h:∀u i j l,Q [u,i,j,l]):∀a,a.length=4->Q a
 |[_,_,_,_],_=>h _ _ _ _
abbrev Zn(K:g_)(x:Str):Prop:=PySem.W.nsIn K mainGlobals x=J Y
abbrev Nn(X:Cx)(x:Str):Prop:=X.mg x=Y
abbrev Sc(X:Cx)(s:Stmt):Prop:=X.env.scope=ag s
abbrev Gd(X:Cx)(N G:SQ)(k:Nat):Prop:=Good X N N G k
structure Ba(P:Program)(w:World)(K:g_)(mg:Sn)(base:Heap):Prop where
 kin:K.In base
 ns:base.Ns mainGlobals mg
structure EE(X:Cx)(P:Program)(w:World)(K:g_)(mg:Sn)(base:Heap):Prop where
 e1:X.prog=P
 e2:X.w=w
 e3:X.K=K
 e4:X.mg=mg
 e5:X.base=base
 b:Ba P w K mg base
section
variable{P:Program}{w:World}{K:g_}{mg:Sn}{base:Heap}{X:Cx}
def EE.n(e:EE X P w K mg base){x:Str}(z:Zn K x):Nn X x:=by show X.mg x=Y;rw[e.e4];exact PySem.W.mg_none_of e.b.kin e.b.ns z
def FnAt.c{x:Str}{l:SQ}{F:SM->MH->SH}{i j:Nat}(a:FnAt P w K mg base x l F i)(e:EE X P w K mg base)(h:i<=j:=by decide):Cal X x l F j :=
 (a.mono h).cal e.e1 e.e2 e.e3 e.e4 e.e5
def JN{x:Str}{st:Stmt}{N G ps:SQ}{m:nr}{k:Nat}(b:Ba P w K mg base)(D:c_ K x st)(i:∀X:Cx,EE X P w K mg base->Sc X st->Gd X N G k->hI X->Bx X (aE st) m)(B:gL x st ps:=by first | exact λ_ _ _ _ _ _=>LK λ_=>rfl | exact λ_ _ _ _ _ _=>NQ λ_ _=>rfl | exact λ_ _ _ _ _ _=>NR λ_ _ _=>rfl | exact λ_ _ _ _ _ _=>NS λ_ _ _ _=>rfl | exact λ_ _ _ _ _ _=>ar5 λ_ _ _ _ _=>rfl)(S:pz N ps (ag st):=by exact⟨rfl,rfl,rfl,by decide +kernel,rfl,by decide +kernel,by decide +kernel⟩)(hl:∀y∈N,(ag st).names.lookup y=J .local\/(ag st).names.lookup y=J .cell:=by decide +kernel)(a:∀y∈G,(ag st).names.lookup y=J .globalImplicit:=by decide +kernel)(dbg:∀x∈N++G,(x==("__debug__":Str))=T/\(x==("__classdict__":Str))=T/\x≠"__name__":=by decide +kernel):
  FnAt P w K mg base x ps (cE N.length ps.length m) (k+1) :=
 pw b.kin b.ns D S B hl a dbg λX e1 e2 e3 e4 e5 j g l=>i X ⟨e1,e2,e3,e4,e5,b⟩ j g l
end
structure YE(Y X:Cx):Prop where
 e1:Y.prog=X.prog
 e2:Y.w=X.w
 e3:Y.K=X.K
 e4:Y.mg=X.mg
 e5:Y.base=X.base
section
variable{X Y:Cx}{N W G:SQ}{k:Nat}{x:Str}{p pos:Pos}{e:Expr}{es:SG}{m:Mx (SM)}{f:SM->MH->SH}
def YE.n(y:YE Y X)(h:X.mg x=none):Y.mg x=none:=y.e4.symm▸h
def YE.c(y:YE Y X){a:SQ}{F:SM->MH->SH}{i:Nat}(c:Cal X x a F i):Cal Y x a F i:=c.at y.e1 y.e2 y.e3 y.e4 y.e5
def kV(g:Good X N W G k)(i:Nat)(a:N[i]?=J x:=by rfl):ME X (.Name x pos) (am i):=xU g i a
def y_(g:Good X N W G k)(i:Nat)(a:N[i]?=J x:=by rfl)(hw:W[i]?=J x:=by rfl):MG X (.Name x pos) (ki i):=v8 g i a hw
def BJ{a b:Expr}{i mb:Mx PV}(u:ME X a i)(j:ME X b mb)(l:ko b:=by exact λ_ _=>rfl):ME X (.Subscript a b pos) (aA be i mb):=Fh u j l
def HP{i:CmpOp}{f:PV->PV->MH->SH}{a b:Expr}{j mb:Mx PV}(l:A4 X (compareOp i) f)(z:ME X a j)(u:ME X b mb)(y:behindInMarks i b=T:=by first | exact Ck _ | rfl):MT X (.Compare a [i] [b] pos) (mB (aA f j mb)):=yk l z u y
def DR(g:Good X N W G k)(j:Nat){i:SQ}{F:SM->MH->SH}(C:Cal X x i F k)(y:MA X (e::es) m)(l:G[j]?=J x:=by rfl)(u:starEach (e::es) X.env=(T,eval e X.env)::starEach es X.env:=by rfl)(a:(backTo pos (starEach es X.env)).any (·.1)=T:=by rfl):ME X (.Call (.Name x p) (e::es) [] pos) (fu F m):=v6 g l C y u a
def Ch{id:String}(g:Good X N W G k)(j:Nat)(l:cX X (.builtin id) f)(u:X.mg x=none)(hv:bootBuiltins x=J (.builtin id))(z:MA X (e::es) m)(i:G[j]?=J x:=by rfl)(y:starEach (e::es) X.env=(T,eval e X.env)::starEach es X.env:=by rfl)(a:(backTo pos (starEach es X.env)).any (·.1)=T:=by rfl):ME X (.Call (.Name x p) (e::es) [] pos) (sk f m):=tI g j i l u hv z y a
def NT{a:String}(g:Good X N W G k)(j:Nat)(u:cX X (.type a) f)(y:X.mg x=none)(hv:bootBuiltins x=J (.type a))(B:MA X (e::es) m)(l:G[j]?=J x:=by rfl)(z:starEach (e::es) X.env=(T,eval e X.env)::starEach es X.env:=by rfl)(i:(backTo pos (starEach es X.env)).any (·.1)=T:=by rfl):ME X (.Call (.Name x p) (e::es) [] pos) (sk f m):=qZ g j l u y hv B z i
def NU{i a:Expr}(g:Good X N W G k)(j:Nat)(u:X.mg "range"=none)(z:MA X [a] m)(l:G[j]?=J "range":=by rfl)(y:starEach [a] X.env=[(T,eval a X.env)]:=by rfl):MI X i (.Call (.Name "range" p) [a] [] pos) (dJ m):=rn (g.gl _ (aM l)) u z y
def Rv{i:SG}{l:Nat}{y:Pos}{a:Expr}(g:Good X N W G k)(j:Nat)(z:X.mg "enumerate"=none)(C:MA X [a] m)(u:G[j]?=J (("enumerate":String):Str):=by rfl)(B:starEach [a] X.env=[(T,eval a X.env)]:=by rfl):MI X (.Tuple i l y) (.Call (.Name "enumerate" p) [a] [] pos) (n5 m):=vw g u z C B
section
variable{tg iter elt:Expr}{ifs:SG}{scope sc:Scope}{mi:Mx MIt}{gt:Mg}{mt:Mx Bool}{me:Mx PV}
def NV(g:Good X N W G k)(j:X.env.scope=sc)(a frees u:SQ)(fm:SU)(y:MI X tg iter mi)(C:∀Y:Cx,YE Y X->Good Y (a++frees) a u k->MG Y tg gt/\CH Y ifs mt/\ME Y elt me)(E:scope.kind=.function:=by rfl)(B:fm.map (λi=>N[i]?)=frees.map J:=by rfl)(h:JM scope sc a frees:=by decide +kernel)(nd:(a++frees).Nodup:=by decide +kernel)(l:∀x∈u,scope.names.lookup x=J .globalImplicit:=by decide +kernel)(dbg:∀x∈(a++frees)++u,(x==("__debug__":Str))=T/\(x==("__classdict__":Str))=T/\x≠"__name__":=by decide +kernel)(L:∀x,foldedSetIterable iter X.env x=pure x:=by exact λ_=>rfl):ME X (.ListComp elt [⟨tg,iter,ifs,0⟩] scope pos) (bO a.length fm mi gt mt me) :=
 qq g (iY j E B h) nd l dbg y (λY O z F H M _ g=>C Y ⟨O,z,F,H,M⟩ g) L
def Rw{j py:Pos}{y:Str}(g:Good X N W G k)(l:X.env.scope=sc)(i:Nat)(a frees B:SQ)(fm:SU)(E:MI X tg iter mi)(L:∀Y:Cx,YE Y X->Good Y (a++frees) a B k->MG Y tg gt/\CH Y ifs mt/\ME Y elt me)(C:∀env:Env,env.scope=sc->swapsWith (.ListComp elt [⟨tg,iter,ifs,0⟩] scope pos) (J (.Name y py)) j.line env=pure I:=by(intro env h;cases env;cases h;rfl))(u:N[i]?=J y:=by rfl)(hw:W[i]?=J y:=by rfl)(M:scope.kind=.function:=by rfl)(H:fm.map (λi=>N[i]?)=frees.map J:=by rfl)(h:JM scope sc a frees:=by decide +kernel)(nd:(a++frees).Nodup:=by decide +kernel)(z:∀x∈B,scope.names.lookup x=J .globalImplicit:=by decide +kernel)(dbg:∀x∈(a++frees)++B,(x==("__debug__":Str))=T/\(x==("__classdict__":Str))=T/\x≠"__name__":=by decide +kernel)(Q:∀x,foldedSetIterable iter X.env x=pure x:=by exact λ_=>rfl):MS X (.Assign [.Name y py] (.ListComp elt [⟨tg,iter,ifs,0⟩] scope pos) j) (bM i (bO a.length fm mi gt mt me)) :=
 qm g i u hw (C X.env l) (iY l M H h) nd z dbg E (λY S F O P R _ g=>L Y ⟨S,F,O,P,R⟩ g) Q
def R8(g:Good X N W G k)(j:X.env.scope=sc)(a frees u:SQ)(fm:SU)(y:MI X tg iter mi)(E:∀Y:Cx,YE Y X->Y.env.scope=HN scope sc->Good Y (a++frees) a u k->MG Y tg gt/\CH Y ifs mt/\ME Y elt me)(F:scope.kind=.function:=by rfl)(C:fm.map (λi=>N[i]?)=frees.map J:=by rfl)(h:JM scope sc a frees:=by decide +kernel)(nd:(a++frees).Nodup:=by decide +kernel)(l:∀x∈u,scope.names.lookup x=J .globalImplicit:=by decide +kernel)(dbg:∀x∈(a++frees)++u,(x==("__debug__":Str))=T/\(x==("__classdict__":Str))=T/\x≠"__name__":=by decide +kernel)(M:∀x,foldedSetIterable iter X.env x=pure x:=by exact λ_=>rfl):ME X (.ListComp elt [⟨tg,iter,ifs,0⟩] scope pos) (bO a.length fm mi gt mt me) :=
 qq g (iY j F C h) nd l dbg y (λY P z H L O B g=>E Y ⟨P,z,H,L,O⟩ (B.trans (pF j)) g) M
def R9{j py:Pos}{y:Str}(g:Good X N W G k)(l:X.env.scope=sc)(i:Nat)(a frees B:SQ)(fm:SU)(E:MI X tg iter mi)(M:∀Y:Cx,YE Y X->Y.env.scope=HN scope sc->Good Y (a++frees) a B k->MG Y tg gt/\CH Y ifs mt/\ME Y elt me)(C:∀env:Env,env.scope=sc->swapsWith (.ListComp elt [⟨tg,iter,ifs,0⟩] scope pos) (J (.Name y py)) j.line env=pure I:=by(intro env h;cases env;cases h;rfl))(u:N[i]?=J y:=by rfl)(hw:W[i]?=J y:=by rfl)(O:scope.kind=.function:=by rfl)(L:fm.map (λi=>N[i]?)=frees.map J:=by rfl)(h:JM scope sc a frees:=by decide +kernel)(nd:(a++frees).Nodup:=by decide +kernel)(z:∀x∈B,scope.names.lookup x=J .globalImplicit:=by decide +kernel)(dbg:∀x∈(a++frees)++B,(x==("__debug__":Str))=T/\(x==("__classdict__":Str))=T/\x≠"__name__":=by decide +kernel)(R:∀x,foldedSetIterable iter X.env x=pure x:=by exact λ_=>rfl):MS X (.Assign [.Name y py] (.ListComp elt [⟨tg,iter,ifs,0⟩] scope pos) j) (bM i (bO a.length fm mi gt mt me)) :=
 qm g i u hw (C X.env l) (iY l O L h) nd z dbg E (λY U F P Q S H g=>M Y ⟨U,F,P,Q,S⟩ (H.trans (pF l)) g) R
end
end
abbrev ue:=@PyProof.Rows.Boot.«abs»
abbrev uA:=@PyProof.Rows.Boot.«min»
abbrev HQ:=@PyProof.Rows.Boot.«max»
abbrev xG:=@PyProof.Rows.Boot.«int»
abbrev mr:=@PyProof.Rows.Boot.«len»
abbrev vT:=@PyProof.Rows.Boot.«list»
abbrev i7:=@PyProof.Rows.Boot.«tuple»
abbrev yo:=@PyProof.Rows.Boot.«all»
abbrev qW:=@PyProof.Rows.Boot.«sorted»
abbrev DS:=@PyProof.Rows.Boot.«bool»
abbrev vy:=@PyProof.Rows.Boot.«dict»
abbrev rH:=@PySem.F.slot_list_append
abbrev rM:=@PySem.F.type_list_append
abbrev yM:=@PySem.F.slot_list_insert
abbrev yY:=@PySem.F.type_list_insert
end MM
namespace PU
open MM
open L2 (wG nw gC)
noncomputable section
end
noncomputable section
def NW(a b:D):So:=match a,b with
 |.lst xs,.lst ys=>if xs.length≠ys.length then J (.bl T)else zT T a b
 |_,_=>zT T a b
def DT{x y:PV}{h:MH}(e:DB h x=Y):v_ x y h=xv x y h:=by simp only[v_,e]
def DU{x y:PV}{h:MH}(e:DB h y=Y):v_ x y h=xv x y h:=by simp only[v_,e];cases DB h x<;>rfl
def zM{q:Nat}{h:MH}{L:Nat}{O:SU}{d:D}{v:PV}{u:PyData}(w:Vw q h L O d v)(e:py d=J u)(i:∀a,d≠.lst a):DB h v=Y:=by
 cases d with
 |non=>rw[w.non];rfl
 |bl b=>rw[w.bl];rfl
 |int b=>rw[w.int];rfl
 |str b=>rw[w.str];rfl
 |tup b=>obtain⟨xs,rfl,_⟩:=w.tup;rfl
 |lst a=>exact absurd rfl (i a)
 |_=>cases e
def ub:x_ where
 m:=v_
 p:=NW
 fr:=I
 ok {q h L O a x b y d} bd wa wb e:=by
  have i:zT T a b=J d->v_ x y h=xv x y h->Gv q h O I (v_ x y h) d:=λe1 e2=>by
   rw[e2];exact y6.ok bd wa wb e1
  by_cases u:∃xs,a=.lst xs
  .obtain⟨xs,rfl⟩:=u;by_cases l:∃j,b=.lst j
   .obtain⟨j,rfl⟩:=l;obtain⟨n,C,rfl,g,r⟩:=wa.lst;obtain⟨m,E,rfl,F,B⟩:=wb.lst;have G:=r.length;have H:=B.length;have e0:v_ (.loc n) (.loc m) h=if C.length≠E.length then .ok (.bl T) h else xv (.loc n) (.loc m) h:=by simp only[v_,DB,g,F]
    unfold NW at e;dsimp only at e;by_cases z:xs.length≠j.length
    .rw[e_ z]at e;cases e;rw[e0,e_ ⋯];exact Av
    .rw[h8 z]at e;exact i e (by rw[e0,h8 ⋯])
   .have e1:zT T (.lst xs) b=J d:=by
     cases b with
     |lst j=>exact absurd ⟨j,rfl⟩ l
     |_=>exact e
    obtain⟨_,_,_,e3,_⟩:=nu e1;exact i e1 (DU (zM wb e3 λj z=>l ⟨j,z⟩))
  .have e1:zT T a b=J d:=by
    cases a with
    |lst xs=>exact absurd ⟨xs,rfl⟩ u
    |_=>exact e
   obtain⟨_,_,e3,_⟩:=nu e1;exact i e1 (DT (zM wa e3 λj z=>u ⟨j,z⟩))
def HR{xs a:SV}(h:xs.length=a.length):ub.p (.lst xs) (.lst a)=zT T (.lst xs) (.lst a):=by show NW (.lst xs) (.lst a)=_;unfold NW;dsimp only;rw[h8 (by simpa using h)]
end
noncomputable section
end
end PU
namespace PU
open MM L2
noncomputable section
inductive VwD(h:MH)(fz:Bool)(ks:SS)(P:SM->Prop)(v:PV):Prop
 |mk(n:Nat)(xs:SM)(e:v=.loc n)(g:h[n]?=J (.dic fz ks xs))(r:P xs):VwD h fz ks P v
def Vw.dic{q:Nat}{h:MH}{L:Nat}{O:SU}{v:PV}{fz:Bool}{i:SS}{a:SV}(w:Vw q h L O (.dic fz i a) v):VwD h fz i (Rps q h O a) v:=by
 rcases w with⟨n,xs,e,_,g,r⟩|⟨n,j,xs,l,e,e1,_,_,g,r⟩
 .exact⟨n,xs,e,g,r⟩
 .cases j with
  |none=>cases e
  |some _=>cases e;exact⟨n,xs,e1,g,r⟩
def VwD.of{h:MH}{fz:Bool}{a:SS}{P:SM->Prop}{v:PV}(w:VwD h fz a P v):∃xs,cQ h v=J (fz,a,xs)/\P xs:=by obtain⟨n,xs,rfl,g,r⟩:=w;exact⟨xs,by simp only[cQ,g],r⟩
def ua{q:Nat}{h:MH}{O:SU}{j:SV}{xs:SM}{ks:SS}(r:Rps q h O j xs)(i:Int):match vr ks j i with
  |some d=>∃v,vr ks xs i=J v/\Rp q h O d v
  |none=>vr ks xs i=Y:=by
 induction ks generalizing j xs with
 |nil=>cases j<;>cases xs<;>rfl
 |cons k ks l =>
  cases j with
  |nil=>rw[show xs=[]from r];rfl
  |cons d j =>
   obtain⟨x,t,rfl,a,b⟩:=r;unfold vr;by_cases e:k=i
   .simp only[e_ e];exact⟨_,rfl,a⟩
   .simp only[h8 e];exact l b
def DV{q:Nat}{h:MH}{O:SU}{j:SV}{xs:SM}{ks:SS}{d:D}{v:PV}(r:Rps q h O j xs)(w:Rp q h O d v)(i:Int):(i_ ks j i d).1=(i_ ks xs i v).1/\Rps q h O (i_ ks j i d).2 (i_ ks xs i v).2:=by
 induction ks generalizing j xs with
 |nil=>exact⟨by simp[i_],by simpa using⟨v,[],rfl,w,rfl⟩⟩
 |cons k ks l =>
  cases j with
  |nil=>rw[show xs=[]from r];exact⟨rfl,v,[],rfl,w,rfl⟩
  |cons z j =>
   obtain⟨x,t,rfl,a,b⟩:=r;unfold i_;by_cases e:k=i
   .simp only[e_ e];exact⟨trivial,v,t,rfl,w,b⟩
   .simp only[h8 e];obtain⟨y,u⟩:=l b;exact⟨by rw[y],x,_,rfl,a,u⟩
def DW(l:Bool):x_ where
 m:=sx l
 p:=λa b=>match a,b with
  |.int i,.dic _ j u=>J (.bl (if l then !(vr j u i).isSome else(vr j u i).isSome))
  |_,_=>Y
 fr:=I
 ok {q h L O a x b y d} bd wa wb e:=by
  cases a with
  |int i =>
   cases b with
   |dic fz j u =>
    cases e;rw[wa.int];obtain⟨xs,e1,r⟩:=wb.dic.of;have z:(vr j u i).isSome=(vr j xs i).isSome:=by
     have:=ua (ks:=j) r i
     cases e2:vr j u i with
     |none=>rw[e2]at this;rw[this];rfl
     |some d=>rw[e2]at this;obtain⟨v,e3,_⟩:=this;rw[e3];rfl
    simp only[sx,e1];rw[z];exact Av
   |_=>cases e
  |_=>cases e
def mF:x_ where
 m:=nA
 p:=λa b=>match a,b with
  |.dic _ j l,.int i=>vr j l i
  |_,_=>Y
 fr:=T
 ok {q h L O a x b y d} bd wa wb e:=by
  cases a with
  |dic fz j l =>
   cases b with
   |int i =>
    rw[wb.int];obtain⟨xs,e1,r⟩:=wa.dic.of;have z:=ua (ks:=j) r i;rw[show vr j l i=J d from e]at z;obtain⟨v,e3,u⟩:=z;simp only[nA,e1,e3];exact HE u λz=>by cases z
   |_=>cases e
  |_=>cases e
def mV{q:Nat}{h:MH}{O:SU}:∀{i:List (Int×D)}{j:List (Int×PV)},Rkv q h O i j->j.map (·.1)=i.map (·.1)/\Rps q h O (i.map (·.2)) (j.map (·.2))
 |[],j,r=>by rw[show j=[]from r];exact⟨rfl,rfl⟩
 |kv::i,j,r=>by
  obtain⟨z,l,rfl,e,a,b⟩:=r;obtain⟨y,u⟩:=mV b;exact⟨by simp[y,<-e],_,_,rfl,a,u⟩
def pP:B9 where
 k:=λxs h=>(wh xs h).ne
 p:=λl=>match l with
  |[x]=>(DQ x).map λi=>.dic T (i.map (·.1)) (i.map (·.2))
  |_=>Y
 fr:=I
 ok {q h L O l xs d} bd w e:=by
  match l,e with
  |[x],e =>
   dsimp only at e;rw[Bt]at e;obtain⟨i,e1,rfl⟩:=e;obtain⟨v,rfl,wx⟩:=fG w;have C:Rp q h O x v:=by
    rcases wx with r|⟨n,E,xs,M,e,_⟩
    .exact r
    .rw[e]at e1;cases E<;>cases e1
   obtain⟨a,e2,F⟩:=ze C e1;obtain⟨B,y⟩:=mV F;have g:(h++[MO.dic T (a.map (·.1)) (a.map (·.2))])[h.length]?=J (.dic T (i.map (·.1)) (a.map (·.2))):=by rw[B];simp
   have m:Mv O h O (h++[MO.dic T (a.map (·.1)) (a.map (·.2))]):=⟨λn j _=>qs j,λo u=>.inl u⟩
   have H:Mv O h (h.length::O) (h++[MO.dic T (a.map (·.1)) (a.map (·.2))]):=⟨λn j _=>qs j,λo u=>by
    rcases qd.mp u with z|z
    .exact .inr ⋯
    .exact .inl z⟩
   refine⟨.loc h.length,[.dic T (a.map (·.1)) (a.map (·.2))],?_,⟨_,_,rfl,λz=>by have:=bd _ z;lia,g,y.mv m⟩,λ_ k G e=>?_⟩
   .have e3:wh [v] h=.ok (.loc h.length) (h++[.dic T (a.map (·.1)) (a.map (·.2))]):=by simp only[wh,e2]
    rw[e3];rfl
   .cases k with
    |none=>cases e
    |some _=>cases e;exact⟨_,_,rfl,l_ _,g,y.mv H⟩
variable{ws:SU}
def BF(a:Xe ws)(C:Xs ws):Xe ws where
 m:=Q_ a.m C.m
 p:=λenv s=>(a.p env s).bind λx G=>match x with
  |.dic _ j l=>(C.p env G).bind λy F=>match y with
   |[.int i,d]=>.ok ((vr j l i).getD d) F
   |_=>.bad
  |_=>.bad
 fz:=C.fz
 fr:=T
 ok {q h L B O Z env s} c:=by
  refine(a.ok c).bind λx v h1 G k1 R ⟨w,_,_⟩=>?_
  cases x with
  |dic fz j l =>
   have c1:=c.kb k1 R;obtain⟨n,xs,rfl,g,r⟩:=w.dic;have nq:n≠q:=by
    rcases w with⟨n',E,e,S,_⟩|⟨n',kd,E,ab,_,e,_,hn,_⟩
    .cases e;exact λz=>S (z▸c.pO)
    .cases e;have:=c.pL;lia
   have e1:cQ h1 (.loc n)=J (fz,j,xs):=by simp only[cQ,g]
   dsimp only;rw[e1];dsimp only;refine(C.ok c1).bind λy vs u F P M ⟨w2,z2⟩=>?_;have g2:u[n]?=J (.dic fz j xs):=(P.keep n (aG g) nq).trans g;have e2:cQ u (.loc n)=J (fz,j,xs):=by simp only[cQ,g2]
   have r2:=r.mv (P.mv c.pO);by_cases Q:∃i d,y=[.int i,d]
   .obtain⟨i,d,rfl⟩:=Q;obtain⟨v1,v2,rfl,u1,U⟩:=Ly w2;rw[u1.int,e2];dsimp only;have z:=ua (ks:=j) r2 i
    cases e3:vr j l i with
    |none =>
     rw[e3]at z;dsimp only at z;rw[z];refine⟨_,u,rfl,KB.refl _ _,M,U,λzz=>?_,λz=>by cases z⟩;obtain⟨_,_,e5,_,_,_,W,X,_⟩:=z2 zz;cases e5;cases W;exact X
    |some d' =>
     rw[e3]at z;obtain⟨v',e4,H⟩:=z;rw[e4];exact⟨_,u,rfl,KB.refl _ _,M,.inl H,λ_=>H,λz=>by cases z⟩
   .have:(match y with|[.int i,d]=>PR.ok ((vr j l i).getD d) F|_=>.bad)=PR.bad:=by
     split
     .exact absurd ⟨_,_,rfl⟩ Q
     .rfl
    rw[this];trivial
  |_=>trivial
@[simp]theorem nM{a:Xe ws}{as:Xs ws}{env:ay}{s:b_}:(BF a as).p env s=(a.p env s).bind λx s1=>match x with
  |.dic _ ks ds=>(as.p env s1).bind λy s2=>match y with
   |[.int i,d]=>.ok ((vr ks ds i).getD d) s2
   |_=>.bad
  |_=>.bad:=rfl
def kQ(i:Nat)(y e:ay->b_->PR D)(env:ay)(s:b_):PS:=match e env s with
 |.ok v u=>(match y env u with
  |.ok (.int j) z=>(match env[i]? with
   |some (J (.dic T a l))=>if a.length<100000 then .nx (env.set i (J (.dic T (i_ a l j v).1 (i_ a l j v).2))) z else .bad
   |_=>.bad)
  |_=>.bad)
 |_=>.bad
def Aj{i:Nat}{a e:ay->b_->PR D}{env:ay}{s s1 s2:b_}{v:D}{j:Int}{ks:SS}{ds:SV}(e1:e env s=.ok v s1)(e2:a env s1=.ok (.int j) s2)(e3:env[i]?=J (J (.dic T ks ds)))(e4:ks.length<100000):
  kQ i a e env s=.nx (env.set i (J (.dic T (i_ ks ds j v).1 (i_ ks ds j v).2))) s2:=by
 simp only[kQ,e1,e2,e3];rw[e_ e4]
def zr{i:Nat}{ix e:ay->b_->PR D}{env:ay}{s:b_}:kQ i ix e env s=.bad\/∃v u j y a l,e env s=.ok v u/\ix env u=.ok (.int j) y/\env[i]?=J (J (.dic T a l))/\a.length<100000/\kQ i ix e env s=.nx (env.set i (J (.dic T (i_ a l j v).1 (i_ a l j v).2))) y:=by
 unfold kQ;split
 .rename_i v u e1
  split
  .rename_i j y e2
   split
   .rename_i a l e3
    by_cases h:a.length<100000
    .rw[e_ h];exact .inr ⟨v,u,j,y,a,l,e1,e2,e3,h,rfl⟩
    .rw[h8 h];exact .inl rfl
   .exact .inl rfl
  .exact .inl rfl
 .exact .inl rfl
def li(i:Nat)(E e:Xe ws)(hi:ws.contains i=I:=by exact ys rfl)(hz:e.fz=I:=by exact ys rfl):Xd ws where
 m:=k9 (am i) E.m e.m
 p:=kQ i E.p e.p
 fr:=I
 ok {q h L B O Z env s} c d:=by
  rcases zr (i:=i) (e:=e.p) (ix:=E.p) (env:=env) (s:=s)with z|⟨v,s1,j,s2,l,R,e1,e2,e3,e4,z⟩
  .rw[z];trivial
  .rw[z];have C:i∈ws:=by simpa using hi
   have P:=e.ok c;rw[e1]at P;obtain⟨x,X,f1,u,H,_,rx,_⟩:=P;have W:=c.kb u H;have S:=E.ok W;rw[e2]at S;obtain⟨y,U,f2,a,G,w,_,_⟩:=S;have c2:=W.kb a G;obtain⟨M,kd,xs,ab,e0,Q,b1,b2,g,r0⟩:=c2.sr.ow i _ e3 C
   cases kd with
   |none=>cases e0
   |some ai =>
    cases e0;replace g:U[M]?=J (.dic T l xs):=g;have hy:=w.int;subst hy;have em:am i Z X=.ok (.loc M) X:=by simp[am,Q]
    obtain⟨p1,p2⟩:=DV (ks:=l) r0 ((rx hz).mv (a.mv c.pO)) j;have nx:=tS (kd:=J (i_ l R j v).1) c2 d C e3 Q p2;refine⟨Z,U.set M (.dic T (i_ l R j v).1 (i_ l xs j x).2),?_,nx.after ((u.trans a).stp c)⟩;have F:l.length<sizeLine:=by have:=fH;lia
    unfold k9 Ap;rw[f1];simp only[em,f2,cQ,g];rw[e_ F,p1]
def DX{i:Nat}{a e:Xe ws}{hi hz}{env:ay}{s:b_}:(li i a e hi hz).p env s=kQ i a.p e.p env s:=rfl
end
end PU
namespace MM
open PySem.Spec PyProof.Rows L2
section
variable{X:Cx}{a b:Expr}{pos:Pos}{k:Nat}
def bN:Expr->Bool
 |.Starred _ _=>T
 |_=>I
def bp(h:bN e=I):starEach (e::es) env=(T,eval e env)::starEach es env:=by cases e<;>first | rfl | cases h
def HS(j:ME X e m)(hr:MA X es ms)(i:bN e=I:=by rfl):MA X (e::es) (aj m ms):=aH j hr (bp i)
structure lR(X:Cx)(e:Expr)(m:Mx PV):Prop where
 h:ME X e m
structure By(X:Cx)(es:SG)(ms:Mx (SM)):Prop where
 h:MA X es ms
structure Bs(X:Cx)(st:Stmt)(m:nr):Prop where
 h:MS X st m
structure mm(X:Cx)(st:Sq)(m:nr):Prop where
 h:Bx X st m
section
variable{e:Expr}{es:SG}{m ma mb:Mx PV}{ms:Mx (SM)}{st:Stmt}{rest:Sq}{u v:nr}{f:PV->PV->MH->SH}{N W G:SQ}{x:Str}
def b7:By X [] f_:=⟨aS⟩
def aY(j:lR X e m)(hr:By X es ms)(i:bN e=I:=by rfl):By X (e::es) (aj m ms):=⟨HS j.h hr.h i⟩
def vu(h:ME X e m):lR X e m:=⟨h⟩
def PY(h:By X es ms):lR X (.List es pos) (gG ms):=⟨zt h.h⟩
def BZ(h:By X es ms):lR X (.Tuple es j pos) (cq ms):=⟨G3 h.h⟩
def Bv(h:MS X st u):Bs X st u:=⟨h⟩
def FA(g:Good X N W G k)(i:Nat){j:Pos}(z:lR X e m)(y:N[i]?=J x:=by rfl)(hw:W[i]?=J x:=by rfl)(l:swapsWith e (J (.Name x j)) pos.line X.env=pure T:=by rfl):
  Bs X (.Assign [.Name x j] e pos) (bM i m):=⟨tU g i y hw z.h l⟩
def CL(i:lR X e m):Bs X (.Return (J e) pos) (du m):=⟨G4 i.h⟩
def Bz(h:Bs X st u):mm X [st] u:=⟨Dh h.h⟩
def BG(j:Bs X st u)(i:mm X rest v):mm X (st::rest) (cj u v):=⟨Bh j.h i.h⟩
end
end
end MM
namespace PU
open MM
noncomputable section
end
end PU
namespace MM
open PySem.Spec PyProof.Rows L2 SetT SortT
end MM
namespace PU
open MM SetT
noncomputable section
end
end PU
namespace MM
open PySem.Spec PyProof.Rows L2
open PU (Xe Xs Xt Xi Xg Ft Xo Xd NK x_ B9 Lr Fv OpR Fn ac xC ae u_ a_ aa n4 ah dQ aX DF xB bA w9 oh eO nE HA pM bh cR bL lf Bp rg Bq aF io aN nF sG s_ aP iN iu Lw Cg bB wR xw xz x2 LI pV sS BF li Br)
structure Cy(X:Cx)(e:Expr)(m:Mx Bool):Prop where
 h:MT X e m
structure NX(X:Cx)(e:Expr)(m:Mx Bool):Prop where
 h:MW X e m
structure HU(X:Cx)(tg e:Expr)(m:Mx MIt):Prop where
 h:MI X tg e m
structure LL(X:Cx)(e:Expr)(m:Mg):Prop where
 h:MG X e m
structure NY(X:Cx)(e:SG)(m:Di):Prop where
 h:KS X e m
structure PZ(X:Cx)(e:SG)(m:Mx Bool):Prop where
 h:CH X e m
structure NZ(X:Cx)(e:Option Expr)(m:Mx (SF)):Prop where
 h:MO' X e m
structure OJ(X:Cx)(r:Value->Value->Sem Value)(o:x_):Prop where
 h:A4 X r o.m
def DY(a:Scope):SQ:=(a.names.filter λy=>match y.2 with|.globalImplicit=>I|_=>T).map (·.1)
abbrev gm(sc:Scope)(x:Str):Prop:=x∈DY sc
def FC:Expr->SQ
 |.Name x _=>[x]
 |.Tuple a _ _=>a.flatMap λe=>match e with
  |.Name x _=>[x]
  |.Tuple a _ _=>a.flatMap λe=>match e with
   |.Name x _=>[x]
   |_=>[]
  |_=>[]
 |_=>[]
def JO(N:SQ)(fm:SU):SQ:=fm.filterMap (N[·]?)
structure Wc(X:Cx)(P:Program)(w:World)(K:g_)(mg:Sn)(base:Heap)(N W:SQ)(k:Nat)(sc:Scope):Prop where
 g:Good X N W (DY sc) k
 e:EE X P w K mg base
 s:X.env.scope=sc
section
variable{X Y:Cx}{P:Program}{w:World}{K:g_}{mg:Sn}{base:Heap}{N W:SQ}{k:Nat}{sc:Scope}{ws:SU}{x y:Str}{p p' pos spos:Pos}{e a b d tg:Expr}{es:SG}{i j:Nat}{st:Stmt}{rest body:Sq}{xa xb xd:Xe ws}{ta tb:Xt ws}{sa:Xs ws}{da db:Xd ws}
def Wc.gj(c:Wc X P w K mg base N W k sc)(h:gm sc x):∃j:Nat,(DY sc)[j]?=J x:=Oh h
def Wc.n(c:Wc X P w K mg base N W k sc)(z:Zn K x):X.mg x=none:=c.e.n z
def LM{i:Int}:lR X (.Constant (.int i) j pos) (xC (ws:=ws) (.int i)).m:=⟨aI⟩
def P0{i:Bool}:lR X (.Constant (.bool i) j pos) (xC (ws:=ws) (.bl i)).m:=⟨KN⟩
def LN:lR X (.Constant .none j pos) (xC (ws:=ws) .non).m:=⟨GP⟩
def LO{l:Operator}{o:x_}(u:OJ X (binaryOp l) o)(B:lR X a xa.m)(z:lR X b xb.m):lR X (.BinOp a l b pos) (ae o xa xb).m:=⟨aR u.h B.h z.h⟩
def LP{l:CmpOp}{o:x_}(u:OJ X (compareOp l) o)(C:lR X a xa.m)(z:lR X b xb.m)(B:behindInMarks l b=T):lR X (.Compare a [l] [b] pos) (ae o xa xb).m:=⟨GQ u.h C.h z.h B⟩
def P1(z:lR X a xa.m)(l:lR X b xb.m)(u:ko b):lR X (.Subscript a b pos) (ae PU.h_ xa xb).m:=⟨Fh z.h l.h u⟩
def LQ(l:lR X a xa.m):lR X (.UnaryOp .USub a pos) (u_ PU.lH xa).m:=⟨KP Hb l.h⟩
def HV(l:lR X a xa.m):lR X (.UnaryOp .Not a pos) (nE xa).m:=⟨GY l.h⟩
def DZ{z l:CmpOp}{o B:x_}(C:OJ X (compareOp z) o)(u:OJ X (compareOp l) B)(G:lR X a xa.m)(E:lR X b xb.m)(hd:lR X d xd.m)(F:lastMarks [z,l] [b,d]=T):lR X (.Compare a [z,l] [b,d] pos) (pM o B xa xb xd).m:=⟨Ak C.h u.h G.h E.h hd.h F⟩
def LR{l:BoolOp}(u:lR X a xa.m):lR X (.BoolOp l [a] pos) xa.m:=⟨GW u.h⟩
def HW(u:lR X a xa.m)(l:lR X (.BoolOp .And (b::es) pos) xb.m):lR X (.BoolOp .And (a::b::es) pos) (eO xa xb).m:=⟨GX u.h l.h⟩
def LS{hz}(h:By X es sa.m):lR X (.Tuple es j pos) (aX sa hz).m:=BZ h
def LU{hz}(h:By X es sa.m):lR X (.List es pos) (dQ sa hz).m:=PY h
def LV:lR X (.Dict [] [] pos) (DF (ws:=ws)).m:=⟨vf⟩
def P2{lo u:Option Expr}{z l:Xo ws}(C:lR X a xa.m)(hl:NZ X lo z.m)(B:NZ X u l.m):lR X (.Subscript a (.Slice lo u none p) pos) (x2 xa z l).m:=⟨Fo C.h hl.h B.h⟩
def P4:NZ X none (xw (ws:=ws)).m:=⟨vO⟩
def P5(l:lR X a xa.m):NZ X (J a) (xz xa).m:=⟨vo l.h⟩
def LW:By X [] (a_ (ws:=ws)).m:=b7
def HX(z:lR X e xa.m)(u:By X es sa.m)(l:bN e=I):By X (e::es) (aa xa sa).m:=aY z u l
def LX:OJ X (binaryOp .Add) PU.bC:=⟨cL⟩
def LY:OJ X (binaryOp .Sub) PU.jn:=⟨Ha⟩
def LZ:OJ X (binaryOp .Mult) PU.bn:=⟨hW⟩
def L0(z:lR X a xa.m)(l:lR X b xb.m)(u:ko b):lR X (.Subscript a b pos) (ae PU.mF xa xb).m:=⟨zf z.h l.h u⟩
def L4:OJ X (binaryOp .Mod) PU.jP:=⟨eA⟩
def L5:OJ X (binaryOp .Pow) PU.tL:=⟨uz⟩
def P6:OJ X (compareOp .Lt) PU.Fw:=⟨Fe⟩
def P7:OJ X (compareOp .LtE) PU.JI:=⟨KY⟩
def P8:OJ X (compareOp .Gt) PU.HG:=⟨Ff⟩
def P9:OJ X (compareOp .GtE) PU.Py:=⟨Fg⟩
def P_:OJ X (compareOp .Is) (PU.JJ T):=⟨K0⟩
section
variable(c:Wc X P w K mg base N W k sc)
include c
def w_var(l:N[i]?=J x):lR X (.Name x pos) (ac (ws:=ws) i).m:=⟨xU c.g i l⟩
def Qa:OJ X (binaryOp .FloorDiv) PU.DI:=⟨wL c.g.room⟩
def L6{i j:Int}(v:mJ K mg x i j)(u:gm sc x):lR X (.Name x pos) (Br (ws:=ws) i j).m :=
 let⟨_,l⟩:=c.gj u
 ⟨tQ c.g l (by rw[c.e.e3,c.e.e4];exact v)⟩
def Qb:OJ X (compareOp .Eq) PU.y6:=⟨sF c.g.room⟩
def Qc:OJ X (compareOp .NotEq) PU.wV:=⟨Fd c.g.room⟩
def L7:OJ X (compareOp .Eq) PU.ub:=⟨Hu c.g.room⟩
def L8:OJ X (compareOp .NotIn) (PU.NM I):=⟨Li c.g.room I⟩
end
def iC{env:Env}:∀{es:SG},es.all bN=I->(backTo pos (starEach es env)).any (·.1)=T
 |[],_=>rfl
 |e::es,h=>by
  have l:bN e=I/\es.all bN=I:=by simpa using h
  have:=iC (env:=env) l.2
  rw[bp l.1];simpa [backTo]using this
section
variable(c:Wc X P w K mg base N W k sc)
include c
def HY{F:Fn}{u:SQ}{hz}(E:By X (e::es) sa.m)(f:FnAt P w K mg base x u F.m i)(h:i<=k)(C:gm sc x)(B:(e::es).all bN=I):lR X (.Call (.Name x p) (e::es) [] pos) (ah F sa hz).m :=
 let⟨_,z⟩:=c.gj C
 have l:bN e=I/\es.all bN=I:=by simpa using B
 ⟨v6 c.g z (f.c c.e h) E.h (bp l.1) (iC l.2)⟩
end
inductive BB(X:Cx)(x:Str)(o:B9):Prop
 |fn(id:String)(f:SM->MH->SH)(h:bootBuiltins x=J (.builtin id))(c:cX X (.builtin id) f)(e:o.k=λxs h=>(f xs h).ne:=by rfl):BB X x o
 |ty(T:String)(f:SM->MH->SH)(h:bootBuiltins x=J (.type T))(c:cX X (.type T) f)(e:o.k=λxs h=>(f xs h).ne:=by rfl):BB X x o
def L9:BB X "abs" PU.qj:=.fn _ _ ue sM
def L_:BB X "int" PU.im:=.ty _ _ xG Hd
def Ma:BB X "len" PU.dP:=.fn _ _ mr lU
def HZ:BB X "list" PU.m4:=.ty _ _ vT Dt
def D_:BB X "tuple" PU.bZ:=.ty _ _ i7 lp
def Ah:BB X "sorted" PU.fR:=.fn _ _ qW rR
section
variable(c:Wc X P w K mg base N W k sc)
include c
def Mb{o:B9}(B:BB X x o)(C:By X (e::es) sa.m)(z:Zn K x)(F:gm sc x)(E:(e::es).all bN=I):lR X (.Call (.Name x p) (e::es) [] pos) (n4 o sa).m:=by
 obtain⟨j,u⟩:=c.gj F;have l:bN e=I/\es.all bN=I:=by simpa using E
 refine⟨?_⟩;show ME X _ (λZ h=>(sa.m Z h).bind o.k)
 cases B with
 |fn id f h d q=>rw[q];exact tI c.g j u d (c.n z) h C.h (bp l.1) (iC l.2)
 |ty G f h d q=>rw[q];exact qZ c.g j u d (c.n z) h C.h (bp l.1) (iC l.2)
def H4:BB X "dict" PU.pP:=.ty _ _ vy (vL c.g)
def Mc:BB X "all" PU.qJ:=.fn _ _ yo (yT c.g)
def Qd(C:By X [a] sa.m)(z1:Zn K "list")(B:Zn K "range")(l:gm sc "list")(u:gm sc "range")(z:bN a=I):lR X (.Call (.Name "list" p) [.Call (.Name "range" p') [a] [] spos] [] pos) (n4 PU.Fx sa).m :=
 let⟨_,i⟩:=c.gj l;let⟨_,j⟩:=c.gj u
 ⟨sV c.g i (c.n z1) j (c.n B) C.h (bp z)⟩
end
structure BT(x:Str)(T:String):Prop where
 h:bootBuiltins x=J (.type T)
 o:Dn T
def Md:BT "int" "int":=⟨xG,Do⟩
def H_:BT "bool" "bool":=⟨DS,zW⟩
def Ea:BT "tuple" "tuple":=⟨i7,yH⟩
def Ia:BT "list" "list":=⟨vT,Bc⟩
section
variable(c:Wc X P w K mg base N W k sc)
include c
def Me{l:String}(B:BT x l)(F:lR X a xa.m)(z1:Zn K "isinstance")(E:Zn K x)(u:gm sc "isinstance")(z:gm sc x)(C:bN a=I):lR X (.Call (.Name "isinstance" p) [a,.Name x p'] [] pos) (u_ (PU.ba [l]) xa).m :=
 let⟨_,i⟩:=c.gj u;let⟨_,j⟩:=c.gj z
 ⟨He c.g i (c.n z1) j (c.n E) B.h B.o F.h (bp C)⟩
def Ib{u z:String}{kt}{q G pt:Pos}(B:BT x u)(C:BT y z)(M:lR X a xa.m)(z1:Zn K "isinstance")(L:Zn K x)(O:Zn K y)(H:gm sc "isinstance")(F:gm sc x)(E:gm sc y)(Q:bN a=I):lR X (.Call (.Name "isinstance" p) [a,.Tuple [.Name x q,.Name y G] kt pt] [] pos) (u_ (PU.ba [u,z]) xa).m :=
 let⟨_,i⟩:=c.gj H;let⟨_,j⟩:=c.gj F;let⟨_,l⟩:=c.gj E
 ⟨Dv c.g i (c.n z1) j (c.n L) B.h B.o l (c.n O) C.h C.o M.h (bp Q)⟩
end
abbrev MJ(X:Cx)(name:Str)(f:Nat->SM->MH->SH):Prop:=∃id,Slot "list" name id/\typeOf (.builtin id)=pure (.type "method_descriptor")/\Kz X id (Lg X f)
section
variable{name:Str}{f:Nat->SM->MH->SH}{o:Fv}{m:Mx PV}
def Qe{l:Mx (SM)}(M:MJ X name f)(u:lR X a m)(B:By X (e::es) l)(h:(((backTo pos (starEach (e::es) X.env)).all (λx=>!x.1)&&(backToKw pos (keywordEach [] X.env)).all (λx=>x.1.isSome)&&decide ((e::es).length+([]:List Keyword).length+(if([]:List Keyword).isEmpty then 0 else 1)<30))=I/\(p.endLine==pos.line)=I)/\attributeBase a name X.env (eval a X.env)=eval a X.env/\starEach (e::es) X.env=(T,eval e X.env)::starEach es X.env/\(backTo pos (starEach es X.env)).any (·.1)=T):lR X (.Call (.Attribute a name p) (e::es) [] pos) (Fk f m l) :=
 let⟨_,x,y,z⟩:=M
 ⟨Fl x y z u.h B.h h.2.1 h.1.1 h.1.2 h.2.2.1 h.2.2.2⟩
def Qf{hi hz}(h:lR X e (Fk o.m (ac (ws:=ws) i).m sa.m))(l:swapsWith e none pos.line X.env=pure T):Bs X (.Expr e pos) (Cg o i sa hi hz).m:=⟨kB h.h l⟩
end
def Ay:MJ X "append" PU.q0.m:=⟨_,rH,rM,rN⟩
def Bg:MJ X "insert" PU.Bi.m:=⟨_,yM,yY,xL⟩
def Qg(u:lR X a xa.m)(l:By X [b,d] sa.m)(h:(((backTo pos (starEach [b,d] X.env)).all (λx=>!x.1)&&(backToKw pos (keywordEach [] X.env)).all (λx=>x.1.isSome)&&decide ([b,d].length+([]:List Keyword).length+(if([]:List Keyword).isEmpty then 0 else 1)<30))=I/\(p.endLine==pos.line)=I)/\attributeBase a "get" X.env (eval a X.env)=eval a X.env/\starEach [b,d] X.env=(T,eval b X.env)::starEach [d] X.env/\(backTo pos (starEach [d] X.env)).any (·.1)=T):lR X (.Call (.Attribute a "get" p) [b,d] [] pos) (BF xa sa).m:=⟨Lp u.h l.h h.2.1 h.1.1 h.1.2 h.2.2.1 h.2.2.2⟩
def Ic{l:CmpOp}{o:x_}(u:OJ X (compareOp l) o)(C:lR X a xa.m)(z:lR X b xb.m)(B:behindInMarks l b=T):Cy X (.Compare a [l] [b] pos) (xB (ae o xa xb)).m:=⟨yk u.h C.h z.h B⟩
def Ie(h:Cy X a ta.m):Cy X (.UnaryOp .Not a pos) (bA ta).m:=⟨GU h.h⟩
def Qh{l:BoolOp}(h:NX X (.BoolOp l es pos) ta.m):Cy X (.BoolOp l es pos) ta.m:=⟨MW.mt h.h⟩
def Mf(h:Cy X a ta.m):NX X (.BoolOp .Or [a] pos) ta.m:=⟨GV h.h⟩
def w_or(h:Cy X a ta.m)(l:NX X (.BoolOp .Or (b::es) pos) tb.m):NX X (.BoolOp .Or (a::b::es) pos) (w9 ta tb).m:=⟨KR h.h l.h⟩
def Mh(h:lR X e xa.m)(u:∀l,isTrue e X.env l=(do let v <-l;standAt e.pos;holding [v] (truthy v))):Cy X e (LI xa).m:=⟨Hs h.h u⟩
def Mi(h:lR X e xa.m)(u:∀l,isTrue e X.env l=(do let v <-l;standAt e.pos;holding [v] (truthy v))):Cy X e (xB xa).m:=⟨GR h.h u⟩
def Mj:PZ X [] (oh (ws:=ws)).m:=⟨fQ⟩
def Mk(h:Cy X a ta.m):PZ X [a] ta.m:=⟨v7 h.h⟩
def Qi:NY X [] (Bp (ws:=ws)).m:=⟨eW⟩
def Qj{ga:Xg ws}{l:Ft ws}(u:LL X e ga.m)(z:NY X es l.m)(B:(assignEach (e::es) X.env).map (·.2)=assign e X.env::(assignEach es X.env).map (·.2)):NY X (e::es) (rg ga l).m:=⟨aZ u.h z.h B⟩
def Ml(h:lR X a xa.m):HU X tg a (bL xa).m:=⟨fj h.h⟩
section
variable(c:Wc X P w K mg base N W k sc)
include c
def Qk{hi}(h:N[i]?=J x)(hw:W[i]?=J x):LL X (.Name x pos) (lf (ws:=ws) i hi).m:=⟨v8 c.g i h hw⟩
def Ql{u:Ft ws}{n:Nat}(h:NY X es u.m)(z:(assignEach es X.env).length=n)(l:(assignEach es X.env).findIdx? (·.1)=none):LL X (.Tuple es j pos) (Bq u n).m:=⟨gw c.g h.h z l⟩
def Qm{n:Nat}(h:By X [a] sa.m)(z:Zn K "enumerate")(B:gm sc "enumerate")(u:bN a=I):HU X (.Tuple es n p) (.Call (.Name "enumerate" p') [a] [] pos) (cR PU.iE sa).m:=let⟨_,l⟩:=c.gj B;⟨vw c.g l (c.n z) h.h (bp u)⟩
def Qn{n:Nat}(h:By X [a,b] sa.m)(z:Zn K "zip")(B:gm sc "zip")(C:starEach [a,b] X.env=(T,eval a X.env)::starEach [b] X.env)(u:(backTo pos (starEach [b] X.env)).any (·.1)=T):HU X (.Tuple es n p) (.Call (.Name "zip" p') [a,b] [] pos) (cR PU.iZ sa).m:=let⟨_,l⟩:=c.gj B;⟨Hr c.g l (c.n z) h.h C u⟩
def Mm(h:By X [a] sa.m)(z:Zn K "range")(u:gm sc "range")(l:bN a=I):HU X tg (.Call (.Name "range" p) [a] [] pos) (cR PU.Fy sa).m:=⟨rn (c.g.gl _ u) (c.n z) h.h (bp l)⟩
end
structure CB(Y:Cx)(tg elt:Expr)(ifs:SG)(gt:Mg)(mt:Mx Bool)(me:Mx PV):Prop where
 g:LL Y tg gt
 t:PZ Y ifs mt
 e:lR Y elt me
section
variable{iter elt:Expr}{ifs:SG}{scope:Scope}{nv:Nat}{fm ws':SU}{xi:Xi ws}{gt:Xg ws'}{xt:Xt ws'}{xe:Xe ws'}
abbrev Rx(N:SQ)(tg:Expr)(nv:Nat)(fm:SU)(scope sc:Scope):Prop:=JM scope sc (FC tg) (JO N fm)/\(FC tg++JO N fm).Nodup/\(∀x∈DY (HN scope sc),scope.names.lookup x=J .globalImplicit)/\(∀x∈(FC tg++JO N fm)++DY (HN scope sc),(x==("__debug__":Str))=T/\(x==("__classdict__":Str))=T/\x≠"__name__")/\fm.map (λi=>N[i]?)=(JO N fm).map J/\(FC tg).length=nv
section
variable(c:Wc X P w K mg base N W k sc)
include c
def Ig{hw:PU.Ce nv fm ws=ws'}{G:xe.fz=I}(l:HU X tg iter xi.m)(E:∀Y:Cx,Wc Y P w K mg base (FC tg++JO N fm) (FC tg) k (HN scope sc)->CB Y tg elt ifs gt.m xt.m xe.m)(F:scope.kind=.function)(h:Rx N tg nv fm scope sc)(M:∀x,foldedSetIterable iter X.env x=pure x):lR X (.ListComp elt [⟨tg,iter,ifs,0⟩] scope pos) (bh nv fm xi gt xt xe hw G).m:=by
 obtain⟨B,nd,hg,dbg,C,rfl⟩:=h;exact⟨qq c.g (iY c.s F C B) nd hg dbg l.h (λY Q u H L O z g=>let q:=E Y ⟨g,⟨Q.trans c.e.e1,u.trans c.e.e2,H.trans c.e.e3,L.trans c.e.e4,O.trans c.e.e5,c.e.b⟩,z.trans (pF c.s)⟩;⟨q.g.h,q.t.h,q.e.h⟩) M⟩
end
section
variable(c:Wc X P w K mg base N W k sc)(hsw:∀env:Env,env.scope=sc->swapsWith (.ListComp elt [⟨tg,iter,ifs,0⟩] scope pos) (some (.Name y p)) spos.line env=pure true)(hi:HU X tg iter xi.m)(hY:∀Y:Cx,Wc Y P w K mg base (FC tg++JO N fm) (FC tg) k (HN scope sc)->CB Y tg elt ifs gt.m xt.m xe.m)(hyi:N[i]?=some y)(hyw:W[i]?=some y)(h1:scope.kind=.function)(h:Rx N tg nv fm scope sc)(hs:∀x,foldedSetIterable iter X.env x=pure x)
include hsw hi hY c hyi hyw h1 h hs
def Eb:Bs X (.Assign [.Name y p] (.ListComp elt [⟨tg,iter,ifs,0⟩] scope pos) spos) (bM i (bO nv fm xi.m gt.m xt.m xe.m)):=by obtain⟨C,nd,hg,dbg,F,rfl⟩:=h;exact⟨qm c.g i hyi hyw (hsw X.env c.s) (iY c.s h1 F C) nd hg dbg hi.h (λY G u B E l z g=>let q:=hY Y ⟨g,⟨G.trans c.e.e1,u.trans c.e.e2,B.trans c.e.e3,E.trans c.e.e4,l.trans c.e.e5,c.e.b⟩,z.trans (pF c.s)⟩;⟨q.g.h,q.t.h,q.e.h⟩) hs⟩
def Ih{hw:PU.Ce nv fm ws=ws'}{l:xe.fz=I}{hi' hz'}:Bs X (.Assign [.Name y p] (.ListComp elt [⟨tg,iter,ifs,0⟩] scope pos) spos) (aP i (bh nv fm xi gt xt xe hw l) hi' hz').m:=Eb c hsw hi hY hyi hyw h1 h hs
end
end
def Qo:mm X [] (io (ws:=ws)).m:=⟨kD⟩
def gJ(h:Bs X st da.m):mm X [st] da.m:=Bz h
def cT(u:Bs X st da.m)(l:mm X rest db.m):mm X (st::rest) (aF da db).m:=BG u l
def Ii{hi hz}(u:lR X e xa.m)(B:lR X a (ac (ws:=ws) i).m)(l:lR X b xb.m)(z:swapsWith e (J (.Subscript a b p)) pos.line X.env=pure T):Bs X (.Assign [.Subscript a b p] e pos) (li i xb xa hi hz).m:=⟨DE B.h l.h u.h z⟩
def Mn(h:lR X e xa.m):Bs X (.Return (J e) pos) (aN xa).m:=CL h
def Ij{hi}(h:lR X e (ac (ws:=ws) i).m):Bs X (.Return (J e) pos) (nF (ws:=ws) i hi).m:=CL h
def Ik(h:lR X e xa.m)(l:swapsWith e none pos.line X.env=pure T):Bs X (.Expr e pos) (sG xa).m:=⟨kB h.h l⟩
def Qp(z:Cy X e ta.m)(u:mm X body da.m)(l:mm X rest db.m):Bs X (.If e body rest pos) (s_ ta da db).m:=⟨nI z.h u.h l.h⟩
def Mo:Bs X st (sS (ws:=ws)).m:=⟨HM⟩
section
variable(c:Wc X P w K mg base N W k sc)
include c
def Mp{u:Xi ws}{l:Xg ws}{hz}(z:HU X tg e u.m)(hg:LL X tg l.m)(B:mm X body da.m)(C:∀x,foldedSetIterable e X.env x=pure x):Bs X (.For tg e body [] pos) (iu u l da hz).m:=⟨ig c.g z.h hg.h B.h C⟩
def Qq{n hm}(u:Cy X e ta.m)(l:mm X body da.m):Bs X (.While e body [] pos) (Lw n ta da hm).m:=⟨Ax c.g u.h l.h⟩
def Il{hi' hz}(l:lR X e xa.m)(u:swapsWith e (J (.Name x p)) pos.line X.env=pure T)(z:N[i]?=J x)(hw:W[i]?=J x):Bs X (.Assign [.Name x p] e pos) (iN i xa hi' hz).m:=⟨tU c.g i z hw l.h u⟩
def Im{hi' hz}(l:∀env:Env,env.scope=sc->swapsWith e (J (.Name x p)) pos.line env=pure T)(z:lR X e xa.m)(u:N[i]?=J x)(hw:W[i]?=J x):Bs X (.Assign [.Name x p] e pos) (aP i xa hi' hz).m:=⟨tU c.g i u hw z.h (l _ c.s)⟩
def Mq{x y:Str}{z py pt l:Pos}{kt k2}{hi' hj' hz}(hw:∀env:Env,env.scope=sc->swappedStores [.Tuple [.Name x z,.Name y py] kt pt] (.Tuple [a,b] k2 l) env=pure (J [x,y]))(H:By X [a,b] sa.m)(E:N[i]?=J x)(B:N[j]?=J y)(u:i≠j)(F:sc.names.lookup x=J .local)(G:sc.names.lookup y=J .local)(C:swapsWithSole [.Tuple [.Name x z,.Name y py] kt pt] (.Tuple [a,b] k2 l) pos.line X.env=pure T):Bs X (.Assign [.Tuple [.Name x z,.Name y py] kt pt] (.Tuple [a,b] k2 l) pos) (pV i j sa hi' hj' hz).m:=⟨G6 c.g i j E B u H.h (by rw[c.s];exact F) (by rw[c.s];exact G) (hw _ c.s) C⟩
end
def Mr{np:Nat}{F:SM->MH->SH}(N:SQ)(b:Ba P w K mg base)(D:c_ K x st)(u:gL x st (N.take np):=by first | exact λ_ _ _ _ _ _=>LK λ_=>rfl | exact λ_ _ _ _ _ _=>NQ λ_ _=>rfl | exact λ_ _ _ _ _ _=>NR λ_ _ _=>rfl | exact λ_ _ _ _ _ _=>NS λ_ _ _ _=>rfl | exact λ_ _ _ _ _ _=>ar5 λ_ _ _ _ _=>rfl)(S:pz N (N.take np) (ag st):=by exact⟨rfl,rfl,rfl,by decide +kernel,rfl,by decide +kernel,by decide +kernel⟩)(hl:∀y∈N,(ag st).names.lookup y=J .local\/(ag st).names.lookup y=J .cell:=by decide +kernel)(dbg:∀x∈N++[],(x==("__debug__":Str))=T/\(x==("__classdict__":Str))=T/\x≠"__name__":=by decide +kernel)(l:F=cE N.length (N.take np).length λ_ _=>.bad:=by rfl):FnAt P w K mg base x (N.take np) F (k+1):=by
 subst l;exact pw (G:=[]) b.kin b.ns D S u hl (λ_ h=>nomatch h) dbg λX e1 e2 e3 e4 e5 z g B=>Dz
def wy{F:Fn}{l:Nat}{ws:SU}{B:Xd ws}{hw}(N:SQ)(b:Ba P w K mg base)(D:c_ K x st)(z:∀X:Cx,Wc X P w K mg base N N k (ag st)->hI X->mm X (aE st) B.m)(C:F=bB N.length l B hw:=by rfl)(H:gL x st (N.take l):=by first | exact λ_ _ _ _ _ _=>LK λ_=>rfl | exact λ_ _ _ _ _ _=>NQ λ_ _=>rfl | exact λ_ _ _ _ _ _=>NR λ_ _ _=>rfl | exact λ_ _ _ _ _ _=>NS λ_ _ _ _=>rfl | exact λ_ _ _ _ _ _=>ar5 λ_ _ _ _ _=>rfl)(S:pz N (N.take l) (ag st):=by exact⟨rfl,rfl,rfl,by decide +kernel,rfl,by decide +kernel,by decide +kernel⟩)(hl:∀y∈N,(ag st).names.lookup y=J .local\/(ag st).names.lookup y=J .cell:=by decide +kernel)(u:∀y∈DY (ag st),(ag st).names.lookup y=J .globalImplicit:=by decide +kernel)(dbg:∀x∈N++DY (ag st),(x==("__debug__":Str))=T/\(x==("__classdict__":Str))=T/\x≠"__name__":=by decide +kernel)(L:(N.take l).length=l:=by rfl):
  FnAt P w K mg base x (N.take l) F.m (k+1):=by
 have q:=pw b.kin b.ns D S H hl u dbg λX e1 e2 e3 e4 e5 E g G=>(z X ⟨g,⟨e1,e2,e3,e4,e5,b⟩,E⟩ G).h;rw[L]at q;subst C;exact q
end
end MM
namespace MM
open PySem.Spec PyProof.Rows L2
inductive T3(K:g_)(U:SW)(H:Hp):SM->List V->SX->List (PV×V×Value)->Prop
 |nil:T3 K U H [] [] [] []
 |cons{x:PV}{y:V}{u:Value}{xs:SM}{ys:List V}{us:SX}{ts:List (PV×V×Value)}(r:RP K U H x y)(v:aO y u)(t:T3 K U H xs ys us ts):T3 K U H (x::xs) (y::ys) (u::us) ((x,y,u)::ts)
end MM
namespace PU
open MM
end PU
namespace TupM
open PySem.Builtin
section
open PyProof.Rows
variable{prog:Program}{w:World}{A:Around}{E:SK}{s:Shared}
end
end TupM
namespace MM
open PySem.Spec PyProof.Rows L2
end MM
namespace PU
open MM
noncomputable section
end
end PU
namespace PU
open MM
open L2 (wG nw gC)
noncomputable section
abbrev Rd:=Option (SS)×SV
def cO(rd:List Rd):D:=.lst (rd.map λr=>dl r.1 r.2)
structure Gr(h:MH)(L a:Nat)(ms:SU)(rd:List Rd):Prop where
 top:h[a]?=J (.lst (ms.map .loc))
 len:ms.length=rd.length
 nd:(a::ms).Nodup
 ge:∀m∈a::ms,L<=m
 row:∀(i:Nat)(r:Rd),rd[i]?=J r->d_ r.2=I/\∃m xs,ms[i]?=J m/\h[m]?=J (mo r.1 xs)/\Rps 0 [] [] r.2 xs
def sO{q:Nat}{h:MH}{O:SU}:∀{j:SV}{a:SM},a.length=j.length->(∀(i:Nat) d v,j[i]?=J d->a[i]?=J v->Rp q h O d v)->Rps q h O j a
 |[],[],_,_=>rfl
 |d::j,v::a,hl,r=>⟨v,a,rfl,r 0 d v rfl rfl,sO (by simpa using hl) λi d v e1 e2=>r (i+1) d v (by simpa using e1) (by simpa using e2)⟩
def Rp.dl{q:Nat}{h:MH}{O:SU}{k:Option (SS)}{a:SV}{xs:SM}{m:Nat}(i:m∉O)(e:h[m]?=J (mo k xs))(r:Rps q h O a xs):Rp q h O (dl k a) (.loc m):=by
 cases k with
 |none=>exact⟨m,xs,rfl,i,e,r⟩
 |some j=>exact⟨m,xs,rfl,i,e,r⟩
mutual
def Rp.fq{p i:Nat}{h l:MH}{O a:SU}:∀{d:D}{v:PV},PU.flat d=I->Rp p h O d v->Rp i l a d v
 |.non,_,_,r=>r
 |.bl _,_,_,r=>r
 |.int _,_,_,r=>r
 |.str _,_,_,r=>r
 |.tup j,_,f,⟨xs,e,r⟩=>⟨xs,e,Rps.fq (by simpa [PU.flat]using f) r⟩
 |.lst j,_,f,_=>by simp[PU.flat]at f
 |.dic _ _ _,_,f,_=>by simp[PU.flat]at f
 |.exc _,_,f,_=>by simp[PU.flat]at f
 |.pen,_,f,_=>by simp[PU.flat]at f
def Rps.fq{p u:Nat}{h y:MH}{O l:SU}:∀{i:SV}{j:SM},PU.d_ i=I->Rps p h O i j->Rps u y l i j
 |[],_,_,r=>r
 |_::_,_,f,⟨x,t,e,a,b⟩=>⟨x,t,e,Rp.fq (by simp[PU.d_]at f;exact f.1) a,Rps.fq (by simp[PU.d_]at f;exact f.2) b⟩
end
section
variable{h h':MH}{L a:Nat}{ms:SU}{rd:List Rd}{O:SU}{q:Nat}
def Gr.lt(g:Gr h L a ms rd):∀m∈a::ms,m<h.length:=λm j=>by
 rcases qd.mp j with rfl|j
 .exact aG g.top
 .obtain⟨i,l,rfl⟩:=Oj j;have hl:=g.len;obtain⟨_,m,xs,e1,e2,_⟩:=g.row i (rd[i]'⋯) (zL ⋯);rw[zL l]at e1;cases e1;exact aG e2
def Gr.rp(g:Gr h L a ms rd)(j:∀m∈a::ms,m∉O):Rp q h O (cO rd) (.loc a):=by refine⟨a,ms.map .loc,rfl,j a (by simp),g.top,sO (by simp[g.len]) λi d v e1 e2=>?_⟩;rw[r6,Bt]at e1 e2;obtain⟨r,l,rfl⟩:=e1;obtain⟨m,em,rfl⟩:=e2;obtain⟨u,z,xs,e3,e4,y⟩:=g.row i r l;rw[em]at e3;cases e3;exact Rp.dl (j m (pj _ (BA em))) e4 (Rps.fq u y)
def Gr.keep(g:Gr h L a ms rd)(k:∀m∈a::ms,h'[m]?=h[m]?):Gr h' L a ms rd :=
 ⟨(k a (by simp)).trans g.top,g.len,g.nd,g.ge,λi r e=>let⟨f,m,xs,e1,e2,e3⟩:=g.row i r e;⟨f,m,xs,e1,(k m (pj _ (BA e1))).trans e2,e3⟩⟩
def Gr.put(g:Gr h L a ms rd){i m:Nat}{r':Rd}{l:SM}(u:ms[i]?=J m)(G:d_ r'.2=I)(e:h'[m]?=J (mo r'.1 l))(F:Rps 0 [] [] r'.2 l)(k:∀n∈a::ms,n≠m->h'[n]?=h[n]?):Gr h' L a ms (rd.set i r'):=by
 have E:=BA u;have nd:=g.nd;rw[x6]at nd;have ne:a≠m:=λz=>nd.1 (z▸E);refine⟨(k a (by simp) ne).trans g.top,by simp[g.len],g.nd,g.ge,λj r B=>?_⟩;have H:i<rd.length:=by have:=(qi.mp u).1;rw[g.len]at this;exact this
 by_cases z:i=j
 .subst z;rw[x4 H]at B;cases B;exact⟨G,m,l,u,e,F⟩
 .rw[n8 z]at B;obtain⟨f,C,xs,e1,e2,e3⟩:=g.row j r B
  have:C≠m:=λy=>z ((J1 (qi.mp u).1 nd.2).mp (by rw[u,e1,y]))
  exact⟨f,C,xs,e1,(k C (pj _ (BA e1)) this).trans e2,e3⟩
end
def Kp(i:Nat)(o:SOut)(Z:p_):Prop:=match o with
 |.nx a _=>a[i]?=Z[i]?
 |.bk a _=>a[i]?=Z[i]?
 |.ct a _=>a[i]?=Z[i]?
 |_=>True
def v5{n:Nat}{a:SV}{i:Nat}{d:D}(e:(k_ n a)[i]?=J (J d)):a[i]?=J d:=by
 unfold k_ at e;by_cases z:i<a.length
 .rw[qs (by simpa using z)]at e
  simp_all
 .rw[BL (by simp;lia),F0]at e
  split at e<;>cases e
def mK:∀{a:SV}{d:D},d_ a=I->d∈a->flat d=I
 |x::a,d,f,h=>by
  simp[d_]at f;rcases qd.mp h with rfl|h
  .exact f.1
  .exact mK f.2 h
def sL{q:Nat}{h:MH}{O:SU}{s Q:b_}{B:Xd [0]}{n np m:Nat}{k k':Option (SS)}{ds ds' as:SV}{vs xs:SM}{l:ay}(bd:∀o∈O,o<m)(hq:q∈O)(pn:bc h q s)(g:h[m]?=J (mo k xs))(fl:d_ ds=I)(r:Rps 0 [] [] ds xs)(fa:d_ as=I)(M:Rps 0 [] [] as vs)(ab:as.length+1=np)(hn:np<=n)(kp:∀Z h,Kp 0 (B.m Z h) Z)(e:B.p (k_ n (dl k ds::as)) s=.nx l Q)(e0:l[0]?=J (J (dl k' ds'))):
  ∃u,cE n np B.m (.loc m::vs) h=.ok .non u/\h.length<=u.length/\(∀j,j<h.length->j≠m->j≠q->u[j]?=h[j]?)/\bc u q Q/\∃H a,u[m]?=J (mo k' a)/\Rps q u H ds' a:=by
 have hm:=aG g;have vl:vs.length=as.length:=M.length;have c:Cx q h m O (m::O) [0] (bv n (.loc m::vs)) (k_ n (dl k ds::as)) s:=by
  refine⟨λo E=>?_,λo E=>pj _ E,bd,hq,⋯,pn,?_,λi d y C=>?_,λi d y C=>?_⟩
  .rcases qd.mp E with rfl|E
   .exact hm
   .have:=bd o E;lia
  .simp[bv,k_,vl]
  .have y:=v5 y
   cases i with
   |zero=>simp at C
   |succ i =>
    obtain⟨v,ev,rv⟩:=M.get y;have fd:flat d=I:=by exact mK fa (BA y)
    exact⟨v,by obtain⟨l1,l2⟩:=qi.mp ev;simp[bv,List.getElem?_append,l1,l2],Rp.fq fd rv⟩
  .have:i=0:=by simpa using C
   subst this;have y:=v5 y;cases y;exact⟨m,k,xs,ds,rfl,rfl,by simp,l_ _,g,Rps.fq fl r⟩
 have W:=B.ok c λi j C G ne=>absurd (by simp at C G;lia) ne;rw[e]at W;obtain⟨Z',u,R,H,st,U,_⟩:=W;have F:=kp (bv n (.loc m::vs)) h;rw[R]at F;have F:Z'[0]?=J (J (.loc m)):=F;obtain⟨n',S,a,L,e2,P,_,_,g',X⟩:=U.sr.ow 0 _ e0 (by simp);rw[F]at P;cases P
 have:k'=S/\ds'=L:=by cases k'<;>cases S<;>cases e2<;>exact⟨rfl,rfl⟩
 obtain⟨rfl,rfl⟩:=this;refine⟨u,?_,st.len,λj G n1 n2=>?_,U.pen,H,a,g',X⟩
 .rw[eV (by simp[vl];lia),R];rfl
 .by_cases z:j∈m::O
  .rcases qd.mp z with rfl|z
   .exact absurd rfl n1
   .exact st.base j (bd j z) n2
  .exact st.mv.keep j G z
end
end PU
namespace MM
open PySem.Spec PyProof.Rows L2
def Qr{P:Program}{w:World}{K:g_}{mg:Sn}{base:Heap}{x:Str}{st:Stmt}{k:Nat}{np:Nat}{l:SU}{B:PU.Xd l}(N:SQ)(b:Ba P w K mg base)(D:c_ K x st)(i:∀X:Cx,Wc X P w K mg base N N k (ag st)->hI X->mm X (aE st) B.m)(z:gL x st (N.take np):=by first | exact λ_ _ _ _ _ _=>LK λ_=>rfl | exact λ_ _ _ _ _ _=>NQ λ_ _=>rfl | exact λ_ _ _ _ _ _=>NR λ_ _ _=>rfl | exact λ_ _ _ _ _ _=>NS λ_ _ _ _=>rfl | exact λ_ _ _ _ _ _=>ar5 λ_ _ _ _ _=>rfl)(S:pz N (N.take np) (ag st):=by exact⟨rfl,rfl,rfl,by decide +kernel,rfl,by decide +kernel,by decide +kernel⟩)(hl:∀y∈N,(ag st).names.lookup y=J .local\/(ag st).names.lookup y=J .cell:=by decide +kernel)(a:∀y∈DY (ag st),(ag st).names.lookup y=J .globalImplicit:=by decide +kernel)(dbg:∀x∈N++DY (ag st),(x==("__debug__":Str))=T/\(x==("__classdict__":Str))=T/\x≠"__name__":=by decide +kernel)(C:(N.take np).length=np:=by rfl):
  FnAt P w K mg base x (N.take np) (cE N.length np B.m) (k+1):=by
 have q:=pw b.kin b.ns D S z hl a dbg λX e1 e2 e3 e4 e5 j g u=>(i X ⟨g,⟨e1,e2,e3,e4,e5,b⟩,j⟩ u).h;rw[C]at q;exact q
abbrev pZ(C t:Addr):Obj:={ cls:=.ref C,data:=.fields #[.ref t,.none,.none,.none,.bool T,.none]}
section
variable{prog:Program}{w:World}{A:Around}{E:SK}{h:Heap}{gs:Array GenState}{dr:Drawn}{tk:Nat}{os:OsState}{nm qn:Str}{C N:Addr}{bs bm bmB:SX}{hd:Bool}{sn:SQ}{sub:SX}{ab:Bool}{col:Option Bool}{dd:Sr}{k0 k1 k2 k3 k5:SD}{B nid iid:String}{mN:Sn}{rest:SX}{fI:Addr}{oI:Obj}
def Ec{Q:PySem.Fin->Shared->Prop}(F:ExcBaseFacts B nid iid bmB)(a:OwnTail h bmB bm)(i:h.get? C=J (excClassObj nm qn C N bs bm hd sn sub ab col dd k0 k1 k2 k3 k5 nid))(L:h.Ns N mN)(G:mN "__init__"=J (.ref fI))(hf:h.get? fI=J oI)(j:oI.cls=.type "function")(hl:rest.length<=sizeLine)(run:∀y e,Heap.MadeExcOf h y e (.ref C) rest->wpAny (model prog w) A (call (.ref fI) (.ref e::rest)) (λr l=>r=.none/\Q (.done (.ret (.ref e))) l) E ⟨y,gs,dr,tk,os⟩):
  wpAny (model prog w) A (Builtin.«type.__call__» ⟨.ref C::rest,[]⟩) Q E ⟨h,gs,dr,tk,os⟩:=by
 repeat (first | with_reducible refine wpAny_loadPart_at i ?_ | with_reducible refine wpAny_madeBy_exc i ?_ | wp_step)
 refine codeAny_call_builtin_code (Code.quiet_builtin _ F.quiet) (wpAny_check_new_subT F a i (codeAny_exc_new_subT F a i ?_ hl));have kp:∀b o,h.get? b=J o->((h.push { cls:=.type "tuple",data:=.seq rest.toArray}).push (pZ C h.objs.size)).get? b=J o:=λb o e=>n3 _ (n3 _ e);have u:=kp _ _ i;have O:=kp _ _ hf;have M:=L.keeps kp;have P:=a.keeps kp;have e1:((h.push { cls:=.type "tuple",data:=.seq rest.toArray}).push (pZ C h.objs.size)).get? (h.objs.size+1)=J (pZ C h.objs.size):=by heap_get
 have R:(Value.ref C::bm).contains (.ref C)=I:=by simp
 show wpAny _ _ _ _ _ _;unfold isInstance
 repeat (first | with_reducible refine wpAny_loadPart_at e1 ?_ | (with_reducible refine wpAny_isSubtype_exc u ?_;rw[R]) | wp_step)
 refine(show wpAny _ _ (typeLookup (.ref C) _) _ _ _ from wpAny_typeLookup_tail u M P F.mroIs F.init.lookup ?_);rw[G];refine wpAny_holding (hG ?_);unfold bindSpecial;refine hG (wpAny_typeOf (T:="function") ⟨_,O,j⟩ ?_);rw[e_ (by decide)];refine o_ (hG (wpAny_mono (run _ (h.objs.size+1) ⟨kp,M4 (F7 _),h.objs.size,e1,M4 (l_ _),n3 _ (Heap.get?_push_at rfl rfl)⟩) (λr l ⟨H,q⟩=>?_) λ_ _ z=>z));subst H
 wp_walk
 exact q
def zq{Q:SK}(F:ExcBaseFacts B nid iid bmB)(j:OwnTail h bmB bm)(a:h.get? C=J (excClassObj nm qn C N bs bm hd sn sub ab col dd k0 k1 k2 k3 k5 nid))(y:h.Ns N mN)(z:mN "__init__"=J (.ref fI))(hf:h.get? fI=J oI)(i:oI.cls=.type "function")(hl:rest.length<=sizeLine)(run:∀l e,Heap.MadeExcOf h l e (.ref C) rest->wpAny (model prog w) (A.under (.builtin "type.__call__" ⟨.ref C::rest,[]⟩)) (call (.ref fI) (.ref e::rest)) (λr u=>r=.none/\Q (.ref e) u) E ⟨l,gs,dr,tk,os⟩):
  wpAny (model prog w) A (call (.ref C) rest) Q E ⟨h,gs,dr,tk,os⟩:=by
 have H:=tc_lookup;have G:=tc_bind (.ref C);have ty:(⟨h,gs,dr,tk,os⟩:Shared).TypeIs (.ref C) "type":=⟨_,a,rfl⟩;refine wpAny_call (codeAny_of_tree (show wpAny _ _ (callAny (.ref C) _) _ _ _ from ?_))
 repeat (any_goals (first | assumption | with_reducible refine wpAny_loadPart_at a ?_ | wp_step))
 exact⟨rfl,codeAny_call_builtin_at (Code.quiet_builtin _ (by decide +kernel)) entry_typeCall (wpAny_check_type_call_sub a (Ec F j a y z hf i hl run))⟩
end
@[inline]abbrev R_(C F:Addr):SX:=.ref C::.ref F::[.type "ValueError",.type "Exception",.type "BaseException",.type "object"]
section
open Builtin.ObjectAttr
variable{prog:Program}{w:World}{A:Around}{E:SK}{s:Shared}{K:g_}{x C F:Addr}{o:Obj}{name:Str}{v:Value}{cd:ClassData}
def Ed{Q:Unit->Shared->Prop}(X:K.In s.heap)(L:s.heap.get? x=J o)(hc:o.cls=.ref C)(G:o.dict=Y){vs:Array Value}(u:o.data=.fields vs)(hs:PySem.W.findIn K (.ref C) "__setattr__"=J (J (.builtin "object.__setattr__")))(U:PySem.W.clsIn K C=J cd)(l:cd.mro=R_ C F)(hd:cd.hasDict=I)(ht:PySem.W.takerIn K C name=J Y)(q:∀z O M,(∀b P,b≠x->s.heap.get? b=J P->z.get? b=J P)->z.get? x=J { o with dict:=J M}->s.heap.get? M=Y->z.Ns1 M (λy=>if y=name then J v else Y)->Q () { s with heap:=z,toks:=O}):
  wpAny (model prog w) A (setAttr (.ref x) name v) Q E s:=by
 have i:PySem.W.InstAt s.heap x o C Y:=⟨L,hc,by unfold PySem.W.notCls;rw[u],by rw[G];trivial⟩;refine PySem.W.set_plain X i hs ?_;have H:=PySem.F.store_object;have ai:PySem.W.Looks (model prog w) s.heap (mroOf (.ref C)) cd.mro:=(PySem.W.looks_clsIn X U).andThen .now;have sub:PySem.W.Looks (model prog w) s.heap (isInstance (.ref x) (.type "object")) I:=i.type.andThen (PySem.W.looks_mroIn X (by unfold PySem.W.mroIn;rw[U,F5,l];rfl));refine codeAny_call_builtin H.slot.plain H.entry (@PySem.W.check_slot (model prog w) _ _ { s with toks:=s.toks+1} "object.__setattr__" "object" "__setattr__" (.ref x) [.str name s.toks,v] [] _ H.kind H.split sub (H.args (.ref x) (.str name s.toks) v) ?_);obtain⟨j,ha,hr⟩:=JU.mp ht;have L3:PySem.W.Looks (model prog w) s.heap (storeTaker? j) Y:=by
  cases j with
  |none=>exact .now
  |some a =>
   obtain⟨b,hb,e⟩:=Bt.mp hr;refine(PySem.W.looks_takesIn X hb).andThen ?_;cases b
   .exact .now
   .cases e
 rw[PySem.W.osa_eq,refuse_eq];refine hG (hG (PySem.W.Looks.here (s:={ s with toks:=s.toks+1}) i.type (hG (PySem.W.Looks.here (s:={ s with toks:=s.toks+1}) ai ?_))));rw[l,refuseLoop_ref,refuseLoop_ref,PySem.F.store_ValueError.passes];refine o_ (hG (PySem.W.Looks.here (s:={ s with toks:=s.toks+1}) i.type (hG (PySem.W.Looks.here (s:={ s with toks:=s.toks+1}) (PySem.W.looks_findIn X ha) (hG (PySem.W.Looks.here (s:={ s with toks:=s.toks+1}) L3 ?_))))));have R:({ s with toks:=s.toks+1}:Shared).heap.get? x=J o:=L;refine hG (o_ (hG (hG (wpAny_loadPart R ?_))));rw[hc];refine hG (PySem.W.Looks.here (s:={ s with toks:=s.toks+1}) (PySem.W.looks_clsIn X U) ?_);rw[hd,h8 (by decide)];dsimp only;rw[G];dsimp only;rw[h8 (by simp[typeHasDict]),u];dsimp only;have xs:x≠s.heap.objs.size:=x5 (pk L);have x1:(s.heap.push { cls:=.type "dict",data:=.dict #[]}).get? x=J o:=n3 _ L;refine hG (wpAny_alloc' (hG (wpAny_update' x1 (o_ ?_))));have gd:((s.heap.push { cls:=.type "dict",data:=.dict #[]}).update x λo=>{ o with dict:=J s.heap.objs.size}).get? s.heap.objs.size=J { cls:=.type "dict",data:=.dict #[]} :=
  (JX _ _ _ _ xs.symm).trans (Heap.get?_push_at rfl rfl)
 have nd:((s.heap.push { cls:=.type "dict",data:=.dict #[]}).update x λo=>{ o with dict:=J s.heap.objs.size}).Ns s.heap.objs.size (λ_=>Y):=⟨_,#[],_,gd,rfl,λe he=>absurd he (by simp),λ_=>rfl⟩;refine(show wpAny _ _ (storeInDict s.heap.objs.size (.str name s.toks) name v) _ _ _ from hG (o_ (hG (wpAny_nsSet1 (Heap.Ns1.of_empty nd) λz n' B=>?_))));obtain⟨oD,es,ep,Z,W,ab⟩:=n'.count (Within.cons name v Within.nil);refine hG (wpAny_lookBehind Z (by rw[W];exact pastItsLine_dict (n_ ab (by rw[BN,Jv,sizeLine_eq];lia))) (o_ ?_));refine q z _ s.heap.objs.size (λb P nb e=>(B.2 b (x5 (pk e))).trans ((JX _ _ _ _ nb).trans (n3 _ e))) ((B.2 x xs).trans (M3 _ x1 ?_)) (M4 (l_ _)) n';obtain⟨oc,od,S,ak⟩:=o;cases S<;>first | rfl | cases u
end
section
variable{prog:Program}{w:World}{A:Around}{E:SK}{h:Heap}{gs:Array GenState}{dr:Drawn}{tk:Nat}{os:OsState}{nm qn:Str}{C N e t0:Addr}{bs bm bmB:SX}{hd:Bool}{sn:SQ}{sub:SX}{ab:Bool}{col:Option Bool}{dd:Sr}{k0 k1 k2 k3 k5:SD}{B nid iid:String}{rest:SX}
def zY{Q:SK}(F:ExcBaseFacts B nid iid bmB)(i:OwnTail h bmB bm)(y:h.get? C=J (excClassObj nm qn C N bs bm hd sn sub ab col dd k0 k1 k2 k3 k5 nid))(l:h.get? e=J (pZ C t0))(hl:rest.length<=sizeLine)(q:∀j t,(∀b a,b≠e->h.get? b=J a->j.get? b=J a)->j.get? e=J (pZ C t)->Q .none ⟨j,gs,dr,tk,os⟩):
  wpAny (model prog w) A (call (.builtin iid) (.ref e::rest)) Q E ⟨h,gs,dr,tk,os⟩:=by
 refine wpAny_call (codeAny_call_builtin F.init.plain F.initEntry (wpAny_check_init_subT F i y l rfl ?_))
 wp_walk
 refine q _ h.objs.size (λb a u e=>?_) ?_
 .rw[Of _ _ (Ne.symm u)];exact n3 _ e
 .rw[M3 _ (n3 _ l) rfl];rfl
end
structure BH(K:g_)(mg:Sn)(x:Str)(C F fI:Addr)(fld:Str):Prop where
 bd:mg x=J (.ref C)
 lk:∃(nm qn:Str) (N:Addr) (bs:SX) (sn:SQ) (sub:SX) (ab:Bool) (col:Option Bool) (dd:Sr) (k0 k1 k2 k3 k5:SD),K.lookup C=J (excClassObj nm qn C N bs (.ref F::ij) I sn sub ab col dd k0 k1 k2 k3 k5 "ValueError.__new__")/\PySem.W.nsOkIn K N=I/\PySem.W.nsIn K N "__init__"=J (J (.ref fI))
 tl:PySem.W.tailIn K ij (.ref F::ij)=I
 sa:PySem.W.findIn K (.ref C) "__setattr__"=J (J (.builtin "object.__setattr__"))
 tk:PySem.W.takerIn K C fld=J Y
structure Io(K:g_)(mg:Sn)(x:Str)(F:Addr):Prop where
 bd:mg x=J (.ref F)
 hg:PySem.W.specialIn K (.ref F) "__getattribute__"=J (J (.builtin "type.__getattribute__"))
 hr:PySem.W.readsIn K F (.type "type")=I
 fc:PySem.W.findCls K (.ref F) (.type "type") "__init__"=J (.val (.builtin "ValueError.__init__"))
def fJ(e C:Addr)(h:Heap):Prop:=∃t,h.get? e=J (pZ C t)
def vH{P:Program}{w:World}{H:Hp}{h:Heap}{e C:Addr}(x:fJ e C h):ObjOk P w H h e (.ext (fJ e C)):=by obtain⟨t,a⟩:=x;exact⟨⟨t,a⟩,⟨_,a⟩,λi j ⟨t,z⟩ k=>⟨t,k _ z⟩⟩
abbrev Ee(C t:Addr)(dx:Sr):Obj:={ cls:=.ref C,dict:=dx,data:=.fields #[.ref t,.none,.none,.none,.bool T,.none]}
section
variable{X:Cx}{x fx fld:Str}{C F fI:Addr}{a b:Expr}{t:SG->TE}{p apos cpos:Pos}
def AT{ta:TA}{M:Sem Bool}(L:Gl X fx)(l:Io X.K X.mg fx F)(R:BH X.K X.mg x C F fI fld)(ha:PA X [a,b] ta)(dbg:(fx==("__debug__":Str))=T)(he:eval (.Call (.Attribute (.Name fx p) "__init__" apos) [a,b] [] cpos) X.env=(do
   let ov <-eval (.Name fx p) X.env
   standAt apos.atName
   let(f,fs1) <-holding [ov] (getMethod ov "__init__" M)
   callWith cpos f fs1 (backTo cpos (starEach [a,b] X.env)) (backToKw cpos (keywordEach [] X.env))))(hs:starEach [a,b] X.env=(T,eval a X.env)::starEach [b] X.env)(E:(backTo cpos (starEach [b] X.env)).any (·.1)=T):
  PE X (.Call (.Attribute (.Name fx p) "__init__" apos) [a,b] [] cpos) (λZ H Q=>ta Z H λW H1=>∃e z,W=[.ref e,.str z]/\H1 e=J (.ext (fJ e C))/\Q .non H1):=by
 intro K4 s Z H Q i h;refine PySem.W.methodCall_KW (pl:=M) (nC i L l.bd (PySem.W.method_cls i.kIn l.hg (PySem.W.cls_value i.kIn l.hr l.fc rfl ?_)) dbg) he;have S:=ha cpos K4 _ Z H _ (i.tok (s.toks+1)) h;rw[hs]at S ⊢;refine Calls.callWith_builtin (by show(T||(backTo cpos (starEach [b] X.env)).any (·.1))=T;rw[E];rfl) (Calls.evalArgs_plain ?_);refine ln S λus U ⟨W,u,j,r2,e,z,ev,G,q2⟩=>?_;subst ev;obtain⟨u1,u2,rfl,e1,_⟩:=r2.two;obtain rfl:u1=Value.ref e:=e1;obtain⟨⟨t0,B⟩,_,_⟩:=(show ObjOk X.prog X.w u U.heap e (.ext (fJ e C))from j.hok e _ G);obtain⟨nm,qn,N,bs,sn,sub,ab,ai,dd,k0,k1,k2,k3,k5,lC,_,_⟩:=R.lk;obtain⟨hp,gs,dr,tk,os⟩:=U;refine zY PySem.F.excBase_ValueError (PySem.W.tail_of_in j.kIn R.tl) (j.kIn _ _ lC) B (by rw[sizeLine_eq];show 1<=_;decide) λh' t kp P=>?_;have O:=j.write (t':=tk) (x:=e) (e:=e) (o:=.ext (fJ e C)) (by rw[G];trivial) (.inl rfl) kp ⟨_,P⟩ (vH ⟨t,P⟩);have eu:upd u e (.ext (fJ e C))=u:=by
  funext y;by_cases hy:y=e
  .subst hy;rw[aK,G]
  .rw[az hy]
 rw[eu]at O;exact⟨.non,u,O,rfl,q2⟩
end
section
variable{X:Cx}{x fx fld:Str}{C F fI:Addr}{o value e:Expr}{ta tv te:TE}{p pos pos' p1 p2 p3:Pos}{c1 c2:Str}{j1 j2:Nat}
def gM(c1 c2:Str)(i:Int):Prop:=i.natAbs.log2<1920/\(Str.empty++c1).length<=sizeLine/\(Str.empty++c1++(toString i:Str)).length<=sizeLine/\(Str.empty++c1++(toString i:Str)++c2).length<=sizeLine
def Ip(z0:(Str.empty++c1).length<=sizeLine)(E:PE X e te):PE X (.JoinedStr [.Constant (.str c1) j1 p1,.FormattedValue e (-1) Y p2,.Constant (.str c2) j2 p3] pos) (λZ H Q=>te Z H λx j=>∃i,x=.int i/\gM c1 c2 i/\Q (.str (Str.empty++c1++(toString i:Str)++c2)) j):=by intro u s Z H Q a h;refine wpAny_JoinedStr ?_;refine Calls.Constant_str ⟨_,_,rfl,z0,?_⟩;refine wpAny_FormattedValue_plain ?_;refine ln (E u _ Z H _ (a.tok _) h) λv G ⟨x,j,y,B,i,e1,z,l⟩=>?_;subst e1;obtain⟨t,rfl⟩:=B;refine wpAny_formatField_int z.1 ⟨_,_,rfl,z.2.2.1,?_⟩;exact Calls.Constant_str ⟨_,_,rfl,z.2.2.2,z.2.2.2,.str _,j,((y.tok _).tok _).tok _,⟨_,rfl⟩,l⟩
end
section
variable{prog:Program}{w:World}{A:Around}{E:SK}{s:Shared}{env:Env}{nm qn:Str}{C N:Addr}{bs bm:SX}{hd:Bool}{sn:SQ}{sub:SX}{ab:Bool}{col:Option Bool}{dd:Sr}{k0 k1 k2 k3 k5:SD}{nid:String}
def uU{M:Model}{x:Sem Value}{Q:Flow->Shared->Prop}(l:bm.contains (.type "BaseException")=I)(u:A.handled=Y)(h:wpAny M A x (λv a=>∃e t i,v=.ref e/\a.heap.get? C=J (excClassObj nm qn C N bs bm hd sn sub ab col dd k0 k1 k2 k3 k5 nid)/\a.heap.get? e=J (Ee C t i)/\E (.ref e) a) E s):wpAny M A (raiseStmt env (J x) Y) Q E s:=by
 have y:(Value.ref C::bm).contains (.type "BaseException")=I:=by rw[Om,l,Bool.or_true]
 refine hG (wpAny_mono h (λv a ⟨e,t,i,G,j,B,F⟩=>?_) λ_ _ z=>z);subst G
 repeat (first | with_reducible refine wpAny_loadPart_at B ?_ | with_reducible refine wpAny_loadPart_at j ?_ | (with_reducible refine wpAny_isSubtype_exc j ?_;rw[y]) | wp_step)
 exact wpAny_raiseNew_none u F
def uH{x:Str}{G i u:Pos}{j:SG}{Q:Flow->Shared->Prop}(L:bm.contains (.type "BaseException")=I)(W:A.handled=Y)(y:(backTo i (starEach j env)).any (·.1)=T)(h:wpAny (model prog w) A (eval (.Name x G) env) (λf F=>f=.ref C/\wpAny (model prog w) A (evalArgs (.ref C) I (backTo i (starEach j env)) [])
   (λa B=>a.kw=[]/\B.heap.get? C=J (excClassObj nm qn C N bs bm hd sn sub ab col dd k0 k1 k2 k3 k5 nid)/\wpAny (model prog w) A (call (.ref C) a.pos) (λv l=>∃e t H,v=.ref e/\l.heap.get? C=J (excClassObj nm qn C N bs bm hd sn sub ab col dd k0 k1 k2 k3 k5 nid)/\l.heap.get? e=J (Ee C t H)/\E (.ref e) l) E B) E F) E s):
  wpAny (model prog w) A (exec (.Raise (J (.Call (.Name x G) j [] i)) Y u) env) Q E s:=by
 rw[arm_exec_Raise];simp only[evalOpt,Option.map];refine hG (wpAny_standAt (uU (C:=C) (nm:=nm) (qn:=qn) (N:=N) (bs:=bs) (hd:=hd) (sn:=sn) (sub:=sub) (ab:=ab) (col:=col) (dd:=dd) (k0:=k0) (k1:=k1) (k2:=k2) (k3:=k3) (k5:=k5) (nid:=nid) L W ?_));refine hG (wpAny_mono (wpAny_Call_ofName (wpAny_mono h (λf F ⟨M,S⟩=>?_) λ_ _ z=>z)) (λv l O=>hG (wpAny_standAt (o_ O))) λ_ _ z=>z);subst M;refine hG (wpAny_holding (wpAny_mono S (λa B R=>hG (wpAny_standAt ?_)) λ_ _ z=>z));obtain⟨Z,X⟩:=a;obtain⟨P,U,run⟩:=R;obtain rfl:=P;simp only[y];refine hG (wpAny_keeperOf_exc U ?_);exact hG (wpAny_mono run (λv l z=>hG (wpAny_holding (wpAny_point (o_ z)))) λ_ _ z=>z)
end
def Iq{K:g_}{h:Heap}{N:Addr}{a:Sn}{n:Str}{v:Value}(X:K.In h)(G:h.Ns N a)(e:PySem.W.nsIn K N n=J (J v)):a n=J v:=by
 obtain⟨o,j,l,i,hd,_,hf⟩:=G;unfold PySem.W.nsIn at e
 split at e
 .rename_i q
  have z:=X _ _ q;rw[i]at z
  split at e
  .rw[<-hf];unfold nsFind findBy
   grind
  .split at e<;>cases e
 .cases e
section
variable{X:Cx}{K4:List (Addr × Obj)}{Z:L2.St}{H:Hp}{s:Shared}{e:Addr}{φ:Heap->Prop}
def Inv.hide(a:Inv X K4 Z (upd H e (.ext φ)) s)(he:H e=Y)(W:X.s₀.heap.get? e=Y)(hL:e≠X.env.locals)(G:∀x c,X.env.cells.lookup x=J c->c≠e)(R:∀p∈X.pn++K4,p.1≠e):
  Inv X K4 Z H { s with heap:=PySem.W.hideAll s.heap [e]}:=by
 have kp:∀b o,b≠e->s.heap.get? b=J o->(PySem.W.hideAll s.heap [e]).get? b=J o:=λb o nb z=>PySem.W.hideAll_get _ z (by simpa using nb);have F:∀b o,X.s₀.heap.get? b=J o->b≠e:=λb o z q=>by rw[q,W]at z;cases z
 have ne:∀b u,H b=J u->b≠e:=λb u z q=>by rw[q,he]at z;cases z
 have S:∀b u,H b=J u->upd H e (.ext φ) b=J u:=λb u z=>by rw[az (ne b u z)];exact z
 obtain⟨m,hn,hl⟩:=a.loc;refine⟨a.ok,a.os,a.bare,⟨λb o z n hf B=>kp b o (F b o z) (a.base.keep b o z n hf B),λb o z n hf B=>?_,λb o z n B=>?_,λb o z B=>?_,λb xs z=>?_,λb o u z=>?_,λb ps z=>?_⟩,⟨m,?_,λi x v e1 e2 e3=>?_⟩,λx c z=>?_,?_,λx c z=>?_,λp y=>?_,λb u z=>?_,a.len⟩
 .obtain⟨sl,e1⟩:=a.base.slot b o z n hf B;exact⟨sl,kp b _ (F b o z) e1⟩
 .have:=a.base.free b o z n B
  rwa [az (F b o z)]at this
 .obtain⟨P,e1⟩:=a.base.there b o z B;exact⟨P,kp b P (F b o z) e1⟩
 .have q:=a.base.tups b xs z;by_cases j:b=e
  .subst j;rw[aK]at q;cases q
  .rwa [az j]at q
 .have q:=a.base.frzs b o u z;by_cases j:b=e
  .subst j;rw[aK]at q;cases q
  .rwa [az j]at q
 .obtain⟨E,q⟩:=a.base.tbls b ps z;by_cases j:b=e
  .subst j;rw[aK]at q;cases q
  .rw[az j]at q;exact⟨E,q⟩
 .obtain⟨o,U,ep,ho,r⟩:=hn;exact⟨o,U,ep,kp _ o (Ne.symm hL) ho,r⟩
 .obtain⟨u,ru,C⟩:=hl i x v e1 e2 e3;refine⟨u,ru,?_⟩;rcases C with z|⟨z1,c,Q,z3⟩
  .exact .inl z
  .obtain⟨o,L,M⟩:=z3;exact .inr ⟨z1,c,Q,o,kp c o (G x c Q) L,M⟩
 .obtain⟨v,o,L,M⟩:=a.cell x c z;exact⟨v,o,kp c o (G x c z) L,M⟩
 .have:=a.free
  rwa [az (Ne.symm hL)]at this
 .have:=a.freeC x c z
  rwa [az (G x c z)]at this
 .obtain⟨a1,O,a3⟩:=a.pin p y;rw[az (R p y)]at O;exact⟨kp _ _ (R p y) a1,O,a3⟩
 .refine (a.hok b u (S b u z)).stay (λc v l q=>kp c v ?_ q) (λc q=>?_) λc xs q=>?_
  .rcases l with rfl|l
   .exact ne _ _ z
   .intro ec;subst ec;rw[aK]at l;cases l
  .by_cases j:c=e
   .subst j;rw[aK]at q;cases q
   .rwa [az j]at q
  .by_cases j:c=e
   .subst j;rw[aK]at q;cases q
   .rwa [az j]at q
end
end MM
namespace PU
open MM
noncomputable section
end
end PU
namespace MM
open PySem.Spec PyProof.Rows L2
open PU (Xe Xs Xt Xi Xg Xd)
def Sa:Stmt->Nat->Stmt
 |.ClassDef _ _ _ a _ _ _ _ _ _ _,i=>a.getD i (.Pass ⟨0,0,0,0⟩)
 |s,_=>s
end MM
namespace L2
open PySem.Spec PyProof.Rows
variable{X:Cx}
end L2
namespace MM
open PySem.Spec PyProof.Rows L2
variable{X:Cx}
end MM
namespace PU
open MM SetT SortT
open L2 (wG nw gC)
noncomputable section
end
end PU
namespace MM
open PySem.Spec PyProof.Rows L2
open PU (Xe Xs Xt Xi Xo R7 u_ xC)
section
variable{X:Cx}{P:Program}{w:World}{K:g_}{mg:Sn}{base:Heap}{N W:SQ}{k:Nat}{sc:Scope}{ws:SU}{x name:Str}{p pos:Pos}{a e tg:Expr}{es:SG}{xa:Xe ws}{sa:Xs ws}{f:Str->SM->MH->SH}(c:Wc X P w K mg base N W k sc)
include c
end
end MM
namespace MM
open PySem.Spec PyProof.Rows L2
def jW(e C d:Addr)(h:Heap):Prop:=∃t,h.get? e=J (Ee C t (J d))
def Ef{P:Program}{w:World}{H:Hp}{h:Heap}{e C t d:Addr}(a:h.get? e=J (Ee C t (J d))):ObjOk P w H h e (.ext (jW e C d)) :=
 ⟨⟨t,a⟩,⟨_,a⟩,λi j ⟨t,z⟩ k=>⟨t,k _ z⟩⟩
def Ms{P:Program}{w:World}{H:Hp}{h:Heap}{d:Addr}{f:Str}{i:Int}(n:FD d f i h):ObjOk P w H h d (.ext (FD d f i)):=by
 refine⟨n,?_,λu y ⟨t,z⟩ k=>⟨t,?_⟩⟩
 .obtain⟨t,o,j,l,a,r⟩:=n;exact⟨o,a⟩
 .obtain⟨o,j,l,a,r⟩:=z;exact⟨o,j,l,k _ a,r⟩
section
variable{X:Cx}{x fx fld:Str}{C F fI:Addr}{o value e:Expr}{ta tv te:TE}{p pos pos' p1 p2 p3:Pos}{c1 c2:Str}{j1 j2:Nat}
def xY(P:BH X.K X.mg x C F fI fld)(M:X.ex=[])(ha:PE X o ta)(hv:PE X value tv)(hs:swapsWith value (J (.Attribute o fld pos')) pos.line X.env=pure T):
  PS X (.Assign [.Attribute o fld pos'] value pos) (λD Z H=>tv Z H λy O=>ta Z O λx B=>∃e i,x=.ref e/\y=.int i/\B e=J (.ext (fJ e C))/\∀d,B d=Y->d≠e->D.nx Z (upd (upd B e (.ext (jW e C d))) d (.ext (FD d fld i)))):=by
 intro U s Z H D R h;refine plainObj_wpAny_Assign_Attribute (ln (hv U s Z H _ R h) λu s1 ⟨y,O,I1,ry,q⟩=>ln (ha U s1 Z O _ I1 q) λov s2 ⟨x,B,j,rx,e,i,ex,ey,hH,q2⟩=>?_) hs;subst ex ey;obtain rfl:=rx;obtain⟨tu,rfl⟩:=ry;obtain⟨⟨t0,G⟩,_,_⟩:=(j.hok e _ hH);obtain⟨nm,qn,N,bs,sn,sub,ab,ai,dd,k0,k1,k2,k3,k5,lC,_,_⟩:=P.lk;refine Ed j.kIn G rfl rfl rfl P.sa (by unfold PySem.W.clsIn;rw[lC]) rfl rfl P.tk λh' S a kp L l ns=>?_;have ne:a≠e:=λz=>by rw[z,G]at l;cases l
 have W:B a=Y:=by
  cases z:B a with
  |none=>rfl
  |some o=>obtain⟨u,eu⟩:=(j.hok a o z).has;rw[l]at eu;cases eu
 have a2:X.s₀.heap.get? a=Y:=by
  cases z:X.s₀.heap.get? a with
  |none=>rfl
  |some o=>obtain⟨o',L⟩:=j.base.there a o z (by rw[M];simp);rw[l]at L;cases L
 have a3:a≠X.env.locals:=λz=>by
  obtain⟨m',⟨o,_,_,E,_⟩,_⟩:=j.loc;rw[<-z,l]at E;cases E
 have a4:∀z c,X.env.cells.lookup z=J c->c≠a:=λz c e1 e2=>by
  obtain⟨v,o,E,_⟩:=j.cell z c e1;rw[e2,l]at E;cases E
 have a5:∀p∈X.pn++U,p.1≠a:=λp Q e2=>by
  have:=(j.pin p Q).1
  rw[e2,l]at this;cases this
 have I3:=j.write (t':=S) (o:=.ext (jW e C a)) (by rw[hH];trivial) (.inl rfl) kp ⟨_,L⟩ (Ef L);have I4:=Inv.track (φ:=FD a fld i) I3 (by rw[az ne];exact W) a2 a3 a4 a5 (Ms ⟨tu,ns⟩);exact⟨Z,_,I4,q2 a W ne⟩
end
def tP(C:Addr)(u l fld:Str):TS:=Kc (E9 λZ H Q=>wZ (tD 0) (wZ (λZ H Q=>tD 1 Z H λx a=>∃i,x=.int i/\gM u l i/\Q (.str (Str.empty++u++(toString i:Str)++l)) a) Kw) Z H λB a=>∃e z,B=[.ref e,.str z]/\a e=J (.ext (fJ e C))/\Q .non a)
 (λD Z H=>tD 1 Z H λy a=>tD 0 Z a λx j=>∃e i,x=.ref e/\y=.int i/\j e=J (.ext (fJ e C))/\∀d,j d=Y->d≠e->D.nx Z (upd (upd j e (.ext (jW e C d))) d (.ext (FD d fld i))))
def N0(C:Addr)(j a fld:Str):Sp:=λl H Q E=>∃e i,l=[.ref e,.int i]/\H e=J (.ext (fJ e C))/\gM j a i/\∀d,H d=Y->d≠e->Q .non (upd (upd H e (.ext (jW e C d))) d (.ext (FD d fld i)))
def Ir{C e:Addr}{a l fld u y:Str}{i:Int}{H:Hp}{Q:VK}(j:H e=J (.ext (fJ e C)))(z:gM a l i)(q:∀d,H d=Y->d≠e->Q .non (upd (upd H e (.ext (jW e C d))) d (.ext (FD d fld i)))):tP C a l fld { nx:=λ_ B=>Q .non B,rt:=Q} (start [u,y] [.ref e,.int i]) H :=
 ⟨.ref e,rfl,.int i,rfl,i,rfl,z,e,_,rfl,j,.int i,rfl,.ref e,rfl,e,i,rfl,rfl,j,q⟩
def At{P:Program}{w:World}{K:g_}{mg:Sn}{base:Heap}{a:Str}{st:Stmt}{f:Addr}{fd:FuncData}{k:Nat}{C:Addr}{u y fld l j:Str}(B:Fun K "__init__" a st f fd)(S:pz [l,j] [l,j] (ag st))(z:∀X:Cx,X.K=K->X.mg=mg->X.env.scope=ag st->X.N=[l,j]->X.ex=[]->PSs X (aE st) (tP C u y fld)):FnOk P w K mg base JC (k+1) f fd [l,j] (N0 C u y fld):=by
 refine B.ok S (λL H Q E ⟨e,i,h,_⟩=>by rw[h];rfl) λM A outer s H L Q E hr ⟨e,i,h,G,F,q⟩=>?_;subst h;exact⟨_,z _ rfl rfl rfl rfl rfl,Ir G F q⟩
def RH.ext{K:g_}{mg:BS}{U:SW}{H:Hp}{h:MH}(r:RH K mg U H h){p:Addr}(j:H p=Y)(φ:Heap->Prop):RH K mg U (upd H p (.ext φ)) h/\Le U H U (upd H p (.ext φ)):=by
 have i:∀n a,U[n]?=J a->a≠p:=λn a e z=>by
  obtain⟨B,_,q⟩:=r.obj e;rw[z,j]at q;exact q.some rfl
 have l:Le U H U (upd H p (.ext φ)):=⟨⟨[],by simp⟩,λa xs e=>by rw[az (bu e j)];exact e,λa y u e=>by rw[az (bu e j)];exact e⟩;exact⟨⟨r.len,r.nd,λn a o e1 e2=>by rw[az (i n a e1)];exact(r.at' n a o e1 e2).le l⟩,l⟩
def vE(x a l fld:Str)(m:Mx (SM)):nr:=Ap m λj Z h=>match j with
 |[.int i]=>if gM a l i then .rse ⟨x,[(fld,.int i)]⟩ Z h else .bad
 |_=>.bad
section
variable{X:Cx}{N W G:SQ}{k:Nat}{x fld sf pl c1 c2:Str}{C F fI:Addr}{fd:FuncData}
def yA(g:Good X N W G (k+1)){j:Nat}(hj:G[j]?=J x)(EI:BH X.K X.mg x C F fI fld)(FO:FnOk X.prog X.w X.K X.mg X.base JC k fI fd [sf,pl] (N0 C c1 c2 fld))(hb:lM X.K fd [sf,pl] []){oI:Obj}(hf:X.K.lookup fI=J oI)(a7:oI.cls=.type "function")(dc:hI X){e:Expr}{m:Mx (SM)}{np P a9:Pos}(ha:MA X [e] m)(he:starEach [e] X.env=[(T,eval e X.env)]):MS X (.Raise (J (.Call (.Name x np) [e] [] P)) Y a9) (vE x c1 c2 fld m):=by
 intro K4 s Z H D S ⟨U,ai,h,rs,rh,q⟩;have d:=g.dbg x (xf _ (aM hj));obtain⟨nm,qn,N',bs,sn,sub,ab,b0,dd,k0,k1,k2,k3,k5,lC,ar,a8⟩:=EI.lk;refine uH (C:=C) (nm:=nm) (qn:=qn) (N:=N') (bs:=bs) (bm:=.ref F::ij) (hd:=I) (sn:=sn) (sub:=sub) (ab:=ab) (col:=b0) (dd:=dd) (k0:=k0) (k1:=k1) (k2:=k2) (k3:=k3) (k5:=k5) (nid:="ValueError.__new__") rfl (S.ok.hd g.calm) (by rw[he];rfl) (nC S (g.gl x (aM hj)) EI.bd ⟨rfl,?_⟩ d.1)
 have A:=ha P K4 s Z H (λvs E=>∃O xs h1,Le U H O E/\RH X.K X.mg O E h1/\RPs X.K O E xs vs/\bt X O E (match xs with
   |[.int i]=>if gM c1 c2 i then .rse ⟨x,[(fld,.int i)]⟩ ai h1 else .bad
   |_=>.bad) D) S ⟨U,ai,h,rs,rh,bt.ex q λO E v v' h1 l r z w=>⟨O,v,h1,l,r,z,w⟩⟩
 rw[he]at A ⊢;refine Calls.evalArgs_plain (wpAny_mono A (λus s2 ⟨vs,E,L,rv,O,xs,h1,l1,b5,rx,w⟩=>?_) λ_ _ y=>y);refine⟨rfl,L.kIn _ _ lC,?_⟩
 cases rx with
 |nil=>exact w.elim
 |cons r1 t1 =>
  cases r1 with
  |int i =>
   cases t1 with
   |cons _ _=>exact w.elim
   |nil =>
    dsimp only at w;by_cases hz:gM c1 c2 i
    .rw[e_ hz]at w;obtain⟨u,rfl,tu,rfl⟩:=rv.one;have n2:=Heap.Ns.of_isNs (PySem.W.isNs_of_in L.kIn ar);have b6:=L.kIn;have T2:=PySem.W.tail_of_in L.kIn EI.tl;have a6:=L.kIn _ _ lC;have b2:=L.kIn _ _ hf;have a0:=Iq L.kIn n2 a8;obtain⟨hp,gs,dr,tk,os⟩:=s2;refine zq PySem.F.excBase_ValueError T2 a6 n2 a0 b2 a7 (by rw[sizeLine_eq];show 1<=_;decide) λh' a M=>?_;have en:hp.get? a=Y:=M.new;have I2:Inv X K4 Z E ⟨h',gs,dr,tk,os⟩:=L.kept (t':=tk) M.keeps;have a1:E a=Y:=by
      cases z:E a with
      |none=>rfl
      |some o=>obtain⟨u,eu⟩:=(L.hok a o z).has;rw[en]at eu;cases eu
     have a2:X.s₀.heap.get? a=Y:=by
      cases z:X.s₀.heap.get? a with
      |none=>rfl
      |some o=>obtain⟨o',e'⟩:=L.base.there a o z (by rw[dc.ex];simp);rw[en]at e';cases e'
     have a3:a≠X.env.locals:=λz=>by
      obtain⟨m',⟨o,_,_,eo,_⟩,_⟩:=L.loc;rw[<-z,en]at eo;cases eo
     have a4:∀z c,X.env.cells.lookup z=J c->c≠a:=λz c e1 e2=>by
      obtain⟨v,o,eo,_⟩:=L.cell z c e1;rw[e2,en]at eo;cases eo
     have a5:∀p∈X.pn++K4,p.1≠a:=λp b1 e2=>by
      have:=(L.pin p b1).1
      rw[e2,en]at this;cases this
     obtain⟨t0,b4,_,_⟩:=M.there;have I3:=Inv.track (φ:=fJ a C) I2 a1 a2 a3 a4 a5 (vH ⟨t0,b4⟩);have al:=hb ⟨h',gs,dr,tk,os⟩ [.ref a,.int i tu] I3.kIn rfl;rw[Ju]at al;refine wpAny_call (codeAny_mono (FO.run _ X.stack ⟨h',gs,dr,tk,os⟩ (upd E a (.ext (fJ a C))) ⟨[.ref a,.int i tu],[]⟩ [.ref a,.int i tu] [.ref a,.int i] (λv H'=>v=.non/\∃d,E d=Y/\d≠a/\H'=upd (upd (upd E a (.ext (fJ a C))) a (.ext (jW a C d))) d (.ext (FD d fld i))) (λ_ _ _=>False) (g.room.make _ _ _) (I3.env0.make _ _ _) al (.cons rfl (.cons ⟨_,rfl⟩ .nil)) ⟨a,i,rfl,aK,hz,λd ak an=>⟨rfl,d,by rw[az an]at ak;exact ak,an,rfl⟩⟩) λr s' hq=>?_)
     cases r with
     |error _=>exact False.elim hq
     |ok fl =>
      cases fl with
      |ret u =>
       obtain⟨v,H',I4,as,ev,B,hd,ap,eH⟩:=I3.after hq;subst ev eH;obtain rfl:u=Value.none:=as;refine⟨rfl,?_⟩;have eu:upd (upd (upd E a (.ext (fJ a C))) a (.ext (jW a C B))) B (.ext (FD B fld i))=upd (upd E B (.ext (FD B fld i))) a (.ext (jW a C B)):=by
        funext y;by_cases hy:y=a
        .subst hy;rw[aK,az (Ne.symm ap),aK]
        .by_cases Q:y=B
         .subst Q;rw[aK,az hy,aK]
         .rw[az Q,az hy,az hy,az hy,az Q]
       rw[eu]at I4;obtain⟨⟨t,R⟩,_,_⟩:=(show ObjOk X.prog X.w _ s'.heap a (.ext (jW a C B))from I4.hok a _ aK);refine⟨a,t,J B,rfl,I4.kIn _ _ lC,R,?_⟩;have I5:=Inv.unpinned (K4:=[]) (Inv.hide I4 (by rw[az (Ne.symm ap)];exact a1) a2 a3 a4 a5);obtain⟨b3,l2⟩:=b5.ext hd (FD B fld i);exact w a C O _ Z s' (PySem.W.hideAll s'.heap [a]) (J B) (.inr ⟨fld,i,B,rfl,rfl,aK⟩) EI.bd l2 b3 ((rs.le l1).le l2) I5 ⟨λb o z=>PySem.W.of_hideAll _ z,PySem.W.hideAll_none _ (by simp),t,J B,R⟩ λd' z=>by
        cases z;exact⟨_,(Heap.get?_some_iff.mp R).1,rfl⟩
      |next=>exact False.elim hq
      |brk=>exact False.elim hq
      |cont=>exact False.elim hq
    .rw[h8 hz]at w;exact w.elim
  |_=>exact w.elim
end
section
variable{prog:Program}{w:World}{A:Around}{E:SK}{h:Heap}{g:Array GenState}{d:Drawn}{t:Nat}{os:OsState}{a C:Addr}{o od:Obj}{K:g_}{name:Str}{v:Value}{tk:Tok}
def Eg{Q:Fin->Shared->Prop}(j:K.In h)(i:PySem.W.InstAt h a o C (J od))(hf:PySem.W.findObj K C (J od) name=J (.value v))(y:Q (.done (.ret v)) ⟨h,g,d,t,os⟩):
  wpAny (model prog w) A (Builtin.«object.__getattribute__» ⟨[.ref a,.str name tk],[]⟩) Q E ⟨h,g,d,t,os⟩:=by
 have l:=i.type (M:=model prog w);have u:=PySem.W.looks_find (M:=model prog w) j i hf;unfold Builtin.«object.__getattribute__»
 repeat (any_goals (first | assumption | (with_reducible refine l.at ?_) | (with_reducible refine u.at ?_) | wp_step))
def Iu{R:Result->Shared->Prop}(F:K.In h)(q:Cw K C)(j:PySem.W.InstAt h a o C (J od))(hf:PySem.W.findObj K C (J od) name=J (.value v))(L:R (.ok (.ret v)) ⟨h,g,d,t,os⟩):
  codeAny (model prog w) A (.call (.builtin "BaseException.__getattribute__") ⟨[.ref a,.str name tk],[]⟩) R ⟨h,g,d,t,os⟩:=by
 have O:=j.at_;have H:=j.cls;have P:builtinKind "BaseException.__getattribute__"=J .slot:=by decide +kernel
 have i:splitId "BaseException.__getattribute__"=J ("BaseException","__getattribute__"):=by decide +kernel
 have Q:=PySem.F.args_bexc_ga (.ref a) (.str name tk);have G:∀{u:Around} {y:SK} {l:Bool->Shared->Prop},l I ⟨h,g,d,t,os⟩->wpAny (model prog w) u (isSubtype (.ref C) (.type "BaseException")) l y ⟨h,g,d,t,os⟩:=λz=>(PySem.W.looks_mroIn (M:=model prog w) F q.mb).at z;have B:∀{u:Around} {y:SK} {l:Unit->Shared->Prop},l () ⟨h,g,d,t,os⟩->wpAny (model prog w) u (checkBuiltinCall "BaseException.__getattribute__" ⟨[.ref a,.str name tk],[]⟩) l y ⟨h,g,d,t,os⟩:=λz=>by
  simp only[checkBuiltinCall,P,i];refine hG ?_
  .unfold isInstance
   repeat (first | (with_reducible refine wpAny_loadPart_at O ?_;rw[H]) | with_reducible refine G ?_ | wp_step)
   exact z
 exact codeAny_call_builtin PySem.F.excAttr_ValueError.ga.plain PySem.F.entry_bexc_ga (B (Eg F j hf L))
def Qs{i:Bool}{Q:SK}(F:K.In h)(q:Cw K C)(j:PySem.W.InstAt h a o C (J od))(hf:PySem.W.findObj K C (J od) name=J (.value v))(hv:PySem.W.handedIn v=I)(R:Q v ⟨h,g,d,t,os⟩):wpAny (model prog w) A (getAttrBy (.ref a) (.str name tk) I i) Q E ⟨h,g,d,t,os⟩:=by
 have S:=j.at_;have G:=j.cls;have U:=PySem.F.excAttr_ValueError.ga.bind (.ref a);have L:(i&&onTheHeap (Value.builtin "BaseException.__getattribute__"))=T:=by cases i<;>rfl
 have u:(Value.builtin "BaseException.__getattribute__" == Value.builtin "object.__getattribute__")=T:=by decide +kernel
 have P:(onTheHeap (Value.ref C)&&Value.builtin "BaseException.__getattribute__" == Value.builtin "object.__getattribute__")=T:=by rw[u];rfl
 have O:∀{y:Around} {B:SK} {l:SD->Shared->Prop},l (J (.builtin "BaseException.__getattribute__")) ⟨h,g,d,t,os⟩->wpAny (model prog w) y (typeLookup (.ref C) "__getattribute__") l B ⟨h,g,d,t,os⟩:=λz=>(PySem.W.looks_findIn (M:=model prog w) F q.ga).at z;have H:∀{y:Around} {B:SK} {l:SD->Shared->Prop},l Y ⟨h,g,d,t,os⟩->wpAny (model prog w) y (typeLookup (.ref C) "__getattr__") l B ⟨h,g,d,t,os⟩:=λz=>(PySem.W.looks_findIn (M:=model prog w) F q.gt).at z
 repeat (any_goals (first | assumption | (with_reducible refine wpAny_loadPart_at S ?_;rw[G]) | with_reducible refine O ?_ | with_reducible refine H ?_ | wp_step))
 refine Iu F q j hf ?_
 repeat (any_goals (first | assumption | wp_step))
 show wpAny _ _ (handedOut v) _ _ _;rw[PySem.W.handedOut_of hv];exact o_ R
def Iv{i:Bool}{Q:SK}(u:K.In h)(q:Cw K C)(j:PySem.W.InstAt h a o C (J od))(hf:PySem.W.findObj K C (J od) name=J (.value v))(hv:PySem.W.handedIn v=I)(l:Q v ⟨h,g,d,t+1,os⟩):wpAny (model prog w) A (getAttr (.ref a) name i) Q E ⟨h,g,d,t,os⟩:=by unfold getAttr;refine hG (wpAny_mkText ?_);show wpAny (model prog w) A (getAttrBy (.ref a) (.str name t) I i) Q E ⟨h,g,d,t+1,os⟩;exact Qs u q j hf hv l
def Eh{dd:Addr}{f:Str}{i:Int}{h:Heap}(x:FD dd f i h):∃od t,h.get? dd=J od/\PySem.W.lookIn f od=J (J (.int i t)):=by
 obtain⟨t,o,j,B,y,hd,G,F,l⟩:=x;refine⟨o,t,y,?_⟩;unfold PySem.W.lookIn;rw[hd];dsimp only;have q:nsFind j f=J (.int i t):=(l f).trans (e_ rfl);unfold nsFind findBy at q;rw[<-Array.find?_toList]at q
 cases z:j.toList.find? (λx=>x.key.isStr f) with
 |none=>rw[z]at q;cases q
 |some e =>
  rw[z]at q;have u:e.val=.int i t:=Option.some.inj q;dsimp only;rw[u]
end
def eE(a C d:Addr)(h:Heap):Prop:=∃o i,h.get? a=J o/\o.cls=.ref C/\o.data=.fields i/\o.dict=J d
def zj{P:Program}{w:World}{H:Hp}{h:Heap}{a C d:Addr}(x:eE a C d h):ObjOk P w H h a (.ext (eE a C d)):=by obtain⟨o,y,e1,e2,e3,e4⟩:=x;exact⟨⟨o,y,e1,e2,e3,e4⟩,⟨o,e1⟩,λE B ⟨o,i,z1,j,z,l⟩ u=>⟨o,i,u o z1,j,z,l⟩⟩
structure Iw(K:g_)(C:Addr)(fld:Str):Prop where
 q:Cw K C
 hd:PySem.W.hasDictIn K C=I
 fi:PySem.W.findIn K (.ref C) fld=J Y
section
variable{X:Cx}{fld:Str}{C:Addr}{e:Expr}{ta:TE}{pos:Pos}
def Ei(G:Iw X.K C fld)(S:PE X e ta)(E:attributeBase e fld X.env (eval e X.env)=eval e X.env):
  PE X (.Attribute e fld pos) (λZ H Q=>ta Z H λx j=>∃a d i,x=.ref a/\j a=J (.ext (eE a C d))/\j d=J (.ext (FD d fld i))/\Q (.int i) j):=by
 intro M s Z H Q y h;refine C5 E (ln (S M s Z H _ y h) λu B ⟨x,j,l,F,a,d,i,ex,P,O,q⟩=>?_);subst ex;obtain rfl:=F;obtain⟨⟨o,U,e1,e2,e3,e4⟩,_,_⟩:=l.hok a _ P;obtain⟨fd,_,_⟩:=l.hok d _ O;obtain⟨R,t,e5,L⟩:=Eh fd;have z:PySem.W.InstAt B.heap a o C (J R):=⟨e1,e2,by unfold PySem.W.notCls;rw[e3],by rw[e4];exact e5⟩;obtain⟨W,g,dr,tk,os⟩:=B;refine Iv l.kIn G.q z (PySem.W.findObj_own G.hd G.fi rfl L) rfl ?_;exact⟨.int i,j,l.tok _,⟨_,rfl⟩,q⟩
end
def jJ(x:va)(fld:Str):SF:=match x.fs with
 |[(f,.int i)]=>if f=fld then J i else Y
 |_=>Y
def w6{x:va}{fld:Str}{i:Int}(h:jJ x fld=J i):x.fs=[(fld,.int i)]:=by
 unfold jJ at h
 split at h
 .rename_i f j e
  by_cases z:f=fld
  .rw[e_ z]at h;cases h;rw[e,z]
  .rw[h8 z]at h;cases h
 .cases h
def wE{α:Type}{M:Model}{A:Around}{t:Sem α}{e:Addr}{i:Sr}{Q:α->Shared->Prop}{E:SK}{s:Shared}(k:KD t)(hd:DvA i e s.heap)(w:wpAny M A t (λu a=>DvA i e a.heap->Q u a) E s):wpAny M A t Q E s:=by
 cases i with
 |none=>exact wpAny_mono w (λu a h=>h DvA.none) λ_ _ h=>h
 |some d=>exact wpAny_mono (KD.any k (hd d rfl) w) (λu a h=>h.1 λj z=>by cases z;exact h.2) λ_ _ h=>h.1
end MM
namespace PU
open MM
def SR.uns(u:SR q h L O l Z env)(B:inn∉l):SR q h L O l (Z.set inn Y) (env.set inn Y)/\∀j∈l,(Z.set inn Y)[j]?=Z[j]?/\(env.set inn Y)[j]?=env[j]?:=by
 have ne:∀j∈l,inn≠j:=λj a z=>B (z▸a);refine⟨⟨by simp[u.len],λj y i a=>?_,λj y i a=>?_⟩,λj a=>⟨n8 (ne j a),n8 (ne j a)⟩⟩
 .by_cases z:inn=j
  .subst z;have hl:inn<env.length:=by have:=(qi.mp i).1;simpa using this
   rw[x4 hl]at i;cases i
  .rw[n8 z]at i;rw[n8 z];exact u.fz j y i a
 .rw[n8 (ne j a)]at i;rw[n8 (ne j a)];exact u.ow j y i a
section
variable{ws:SU}
def nH(x u y fld:Str)(a:Xs ws):Xd ws where
 m:=vE x u y fld a.m
 p:=λenv s=>(a.p env s).go env λj env s=>match j with
  |[.int i]=>if gM u y i then .rse ⟨x,[(fld,.int i)]⟩ env s else .bad
  |_=>.bad
 fr:=I
 ok {q h L B O Z env s} c d:=by
  refine SOk.ex (f:=λ(C:SM) Z h=>match C with
   |[.int i]=>if gM u y i then .rse ⟨x,[(fld,.int i)]⟩ Z h else .bad
   |_=>.bad) (g:=λ(j:SV) env s=>match j with
   |[.int i]=>if gM u y i then .rse ⟨x,[(fld,.int i)]⟩ env s else .bad
   |_=>.bad) c d (a.ok c) λj C G P kb H ⟨w,_⟩=>?_
  match j,w with
  |[.int i],w =>
   obtain⟨v,r,e,l,F⟩:=w;have E:r=[]:=F;subst E;have M:v=.int i:=by
    rcases l with l|l
    .exact l
    .obtain⟨n,k,xs,j,e,_⟩:=l;cases k<;>cases e
   subst e;rw[M];dsimp only;by_cases z:gM u y i
   .rw[e_ z,e_ z];exact⟨Z,G,rfl,O,Stp.refl _ _ _ _,H,d⟩
   .rw[h8 z,h8 z];trivial
  |[],w=>trivial
  |.int i::_::_,w=>trivial
  |.non::_,w=>trivial
  |.bl _::_,w=>trivial
  |.str _::_,w=>trivial
  |.tup _::_,w=>trivial
  |.lst _::_,w=>trivial
  |.dic _ _ _::_,w=>trivial
  |.exc _::_,w=>trivial
  |.pen::_,w=>trivial
end
end PU
namespace MM
open PySem.Spec PyProof.Rows L2
open PU (Xe Xs Xt Xi Xg Xd Fn u_ ae ac xC aa a_ nH)
structure Qt(P:Program)(w:World)(K:g_)(mg:Sn)(base:Heap)(x c1 c2 fld:Str):Prop where
 ex:∃(C F fI:Addr) (sf pl:Str) (fd:FuncData) (oI:Obj),BH K mg x C F fI fld/\FnOk P w K mg base JC 1 fI fd [sf,pl] (N0 C c1 c2 fld)/\lM K fd [sf,pl] []/\K.lookup fI=J oI/\oI.cls=.type "function"
structure Qu(K:g_)(mg:Sn)(c1 fld c:Str)(cs:SQ):Prop where
 ex:∃(D C1 F fI:Addr),Ld K mg c D/\BH K mg c1 C1 F fI fld/\Iw K C1 fld/\∀x∈cs,∃C,Ld K mg x C/\PySem.W.mroIn K C (.ref D)=J I/\PySem.W.mroIn K C (.ref C1)=J T
section
variable{X:Cx}{P:Program}{w:World}{K:g_}{mg:Sn}{base:Heap}{N W:SQ}{k:Nat}{sc:Scope}{ws:SU}{x y z n c1 c2 fld:Str}{p q cp yp np sp hp pos cpos pt cp1 yp1 Oe sp1 hp1 yp2 BK ap sp2:Pos}{e a:Expr}{es:SG}{sa:Xs ws}{xa:Xe ws}{i j l kt:Nat}{body:Sq}{da:Xd ws}{cs sup sups:SQ}
def A3(c:Wc X P w K mg base N W (k+2) sc)(d:hI X)(R:Qt P w K mg base x c1 c2 fld)(L:By X [e] sa.m)(M:gm sc x)(hp:bN e=I):Bs X (.Raise (J (.Call (.Name x p) [e] [] cpos)) Y pos) (nH x c1 c2 fld sa).m:=by obtain⟨C,F,O,U,Q,fd,S,E,H,B,l,f⟩:=R.ex;obtain⟨j,G⟩:=c.gj M;have e3:=c.e.e3;have e4:=c.e.e4;have u:=H.mono (show 1<=k+1 by ext);rw[<-c.e.e1,<-c.e.e2,<-e3,<-e4,<-c.e.e5]at u;rw[<-e3,<-e4]at E;rw[<-e3]at B l;exact⟨yA c.g G E u B l f d L.h (bp hp)⟩
end
end MM
namespace PU
open MM
open L2 (wG nw)
noncomputable section
variable{gi:Nat}
end
end PU
namespace MM
open PySem.Spec PyProof.Rows L2
def wA(j fld:Str)(u inn:Nat)(mb:nr):nr:=λZ h=>match mb Z h with
 |.exc x l a=>if x.cls=j then (match jJ x fld with
   |some i=>.nx (((l.set inn (J (.loc a.length))).set u (J (.tup [.int i,.non]))).set inn Y) (a++[.exc ⟨x.cls,[]⟩])
   |none=>.bad)
  else .bad
 |.rse _ _ _=>.bad
 |o=>o
section
variable{X:Cx}{N W G:SQ}{k:Nat}
def Ej(g:Good X N W G k)(dc:hI X){c1 fld:Str}{j1:Nat}{O F fI:Addr}(cn:G[j1]?=J c1)(EI:BH X.K X.mg c1 O F fI fld)(EG:Iw X.K O fld)(iy inn:Nat){y n:Str}(cs:N[iy]?=J y)(ew:W[iy]?=J y)(ak:N[inn]?=J n)(eg:W[inn]?=J n)(c7:X.env.scope.names.lookup n=J .local){a6:Sq}{mb:nr}{ej db a4 a5 dq BK ap S tp:Pos}{j0 x1:Nat}(hb:∀Q:Cx,Q.prog=X.prog->Q.w=X.w->Q.K=X.K->Q.mg=X.mg->Q.base=X.base->Q.env=X.env->Good Q N W G k->hI Q->Bx Q a6 mb)(ds:swapsWith (.Tuple [.Attribute (.Name n BK) fld ap,.Constant .none j0 S] x1 tp) (J (.Name y a4)) a5.line X.env=pure T:=by rfl)(dF:attributeBase (.Name n BK) fld X.env (eval (.Name n BK) X.env)=eval (.Name n BK) X.env:=by rfl)(ei:starEach [.Attribute (.Name n BK) fld ap,.Constant .none j0 S] X.env=(T,eval (.Attribute (.Name n BK) fld ap) X.env)::starEach [.Constant .none j0 S] X.env:=by rfl)(c4:starEach [.Constant .none j0 S] X.env=(T,eval (.Constant .none j0 S) X.env)::starEach [] X.env:=by rfl):
  MS X (.Try a6 [.ExceptHandler (J (.Name c1 db)) (J n) [.Assign [.Name y a4] (.Tuple [.Attribute (.Name n BK) fld ap,.Constant .none j0 S] x1 tp) a5] dq] [] [] ej) (wA c1 fld iy inn mb):=by
 intro K4 s Z H Dd et ⟨U,ch,h,rs,rh,q⟩;refine wpAny_Try_except ?_;have gY:∀E,PassesOwn (model X.prog X.w) X.A X.env E->Good (qP X K4 E) N W G k:=λE po=>⟨g.hN,g.nd,g.loc,g.fn,g.gl,g.dbg,g.calm,g.room,po⟩;have run:=hb (qP X K4 _) rfl rfl rfl rfl rfl rfl (gY _ (PassesOwn.looking (M:=model X.prog X.w) (A:=X.A) (env:=X.env) (K:=λe c3=>wpAny (model X.prog X.w) X.A (setFlight e Y) (λ_ df=>wpAny (model X.prog X.w) X.A (handleBy e X.env [.ExceptHandler (J (.Name c1 db)) (J n) [.Assign [.Name y a4] (.Tuple [.Attribute (.Name n BK) fld ap,.Constant .none j0 S] x1 tp) a5] dq]) (SP X K4 Dd) X.xe df) X.xe c3) (E₁:=X.xe))) ⟨dc.stk,dc.fr,dc.ex⟩;refine wpAny_mono (run [] s Z H Dd (Inv.toPin et) ⟨U,ch,h,rs,rh,?_⟩) (λf fo z=>?_) λ_ _ z=>z
 .unfold wA at q
  cases em:mb ch h with
  |nx Z1 h1=>rw[em]at q;exact q
  |rt v h1=>rw[em]at q;exact q
  |bk Z1 h1=>rw[em]at q;exact q
  |ct Z1 h1=>rw[em]at q;exact q
  |bad=>rw[em]at q;exact q.elim
  |rse x Z1 h1=>rw[em]at q;exact q.elim
  |exc x Z1 h1 =>
   rw[em]at q;dsimp only at q;by_cases ca:x.cls=c1
   .rw[e_ ca]at q
    cases eF:jJ x fld with
    |none=>rw[eF]at q;exact q.elim
    |some i =>
     rw[eF]at q;dsimp only at q;intro a C U' R Z' s' f2 dv eH dj l cx d0 I' a0 ey d2;have c6:=w6 eF;obtain⟨z,_⟩|⟨f0,i0,dd,z1,rfl,b4⟩:=eH
     .rw[c6]at z;cases z
     rw[c6]at z1;cases z1;have eC:O=C:=by
      have:=EI.bd
      rw[<-ca,show X.mg x.cls=J (.ref C)from dj]at this;cases this;rfl
     subst eC;obtain⟨B,t,a3,cm,ai,b9⟩:=ey;have an:X.stack=X.env::X.outer:=dc.stk;have a3:Heap.FlyingW B (X.env::X.outer) a (.ref O) (.ref t) s'.heap:=by rw[<-an];exact a3
     have c2:X.A.frames=J (X.env::X.outer):=by rw[<-an];exact I'.ok.frames
     refine wE (vJ _ _) d2 ?_;refine wpAny_looks_onW (base:=B) c2 dc.fr a3 λfv as cf dt=>?_;refine wE (jh _ _) dt ?_;refine wpAny_landsW as λfp P b0 ck=>?_;have cB:=cf.trans b0;have I5:=Inv.flown I' a3.1 P.1 cB a0 ai cm;have al:=Inv.ofPin I5;refine wpAny_handleBy_cons (codeAny_handlers_test (Calls.Name_function_global al.ok.kind (g.gl c1 (aM cn)) (Calls.loadGlobal_global (by rw[al.ok.glob];exact al.mod.glob.keeps al.bk) EI.bd ?_) (g.dbg c1 (xf _ (aM cn))).1)) (by intro z;cases z);obtain⟨fx,f5,NI,gs,gn,fw,gv,ft,f4,g1,gg,gk,gi,g0,fk,_,_⟩:=EI.lk;obtain⟨ob,ev,de⟩:=P.there;obtain⟨f3,g5,d5,t5,ef⟩:=s';have cp:=al.kIn _ _ fk;have TI:=PySem.W.tail_of_in al.kIn EI.tl;refine qC cp cp ev de (TI.hasType PySem.F.excBase_ValueError.hasBase) (by rw[Om];simp) ?_;refine codeAny_handlers_suite_as ?_;refine wE (jh _ _) ck ?_;refine lands_againW P λar ab a9 dr=>?_;have I6:=Inv.flown I5 P.1 ab.1 a9 a0 ai cm;have b1:=Inv.ofPin I6;obtain⟨oe,vs,f6,oT,ts,a1,⟨a8,f1⟩,b3,_,_,_,_,_,_⟩:=ab.2.2.2;have da:B.get? a=Y:=ab.2.1;have b2:a∉Al X.stack:=λhm=>by
      obtain⟨_,o,eo,dn⟩:=b1.stack.mem hm;rw[show ar.get? a=J oe from a1]at eo;cases eo;exact dn vs b3
     have eL:a≠X.env.locals:=λz=>b2 (by rw[an,z];exact M6.mpr ⟨X.env,CP,dc.fr⟩);have e0:X.s₀.heap.get? a=Y:=by
      cases z:X.s₀.heap.get? a with
      |none=>rfl
      |some o =>
       obtain⟨o',e'⟩:=a0.old a o z (by rw[dc.ex];simp);obtain⟨en,eb⟩:=ai a o' e' b2;rw[da]at eb;cases eb
     have ec:∀z cc,X.env.cells.lookup z=J cc->cc≠a:=λz cc e w=>by
      obtain⟨v,o,eo,ed⟩:=b1.cell z cc e;rw[w,show ar.get? a=J oe from a1]at eo;cases eo;rw[b3]at ed;cases ed
     have ep:∀p∈X.pn++K4,p.1≠a:=λp ek w=>by
      obtain⟨o',e'⟩:=a0.pin p ek;rw[w]at e';obtain⟨en,eb⟩:=ai a o' e' b2;rw[da]at eb;cases eb
     obtain⟨od,e6,fg⟩:=dr dd rfl;have cd:oe.dict=J dd:=by
      have:=(Heap.get?_some_iff.mp a1).1
      rw[show(⟨ar,g5,d5,t5,ef⟩:Shared).heap.objs[a]?=J od from e6]at this;cases this;exact fg
     have e7:dd≠a:=λz=>by rw[z,b9]at b4;cases b4
     have I7:=Inv.track (φ:=eE a O dd) b1 b9 e0 eL ec ep (zj ⟨oe,vs,a1,a8,b3,cd⟩);have b6:X.N.Nodup:=by rw[g.hN];exact g.nd
     refine jl I7 b6 (g.x ak) (g.loc n (aM ak)) (v:=.ref a) rfl (λs8 j=>?_) (g.fn n (aM eg))
     let X':Cx:={ X with A:=X.A.mark (J (.ref a)),calm:=T,xe:=λ_ _=>False}
     have er:X'.Ok:=⟨j.ok.mod,j.ok.kind,j.ok.glob,j.ok.blt,j.ok.above,j.ok.inj,j.ok.has,j.ok.cab,(λz=>nomatch z),j.ok.frames,j.ok.stk,j.ok.exf,j.ok.bs,j.ok.bsz,j.ok.noex,j.ok.exfs,j.ok.funs,j.ok.frf,j.ok.tree,j.ok.top⟩;have e8:Inv X' K4 _ _ s8:=⟨er,j.os,j.bare,j.base,j.loc,j.cell,j.free,j.freeC,j.pin,j.hok,j.len⟩;have bm:inn<Z'.length:=by rw[I'.len];exact(qi.mp (g.x ak)).1
     have dn:=g.dbg n (F1 _ (aM ak));have st:=qS (yK (X:=X') (i:=iy) (pos:=a5) (pos':=a4) b6 (g.x cs) (g.loc y (aM cs)) (uv (X:=X') (cV (X:=X') (Ei (X:=X') EG (kE (X:=X') (i:=inn) (pos:=BK) (g.x ak) (.inl c7) dn.1 dn.2.1) dF) (cV (X:=X') yw jq c4) ei)) ds (g.fn y (aM ew))) K4 s8 _ _
      { nx:=λZ9 H9=>∃p,(upd R a (.ext (eE a O dd))) p=Y/\Z9=(Z'.set inn (J (.ref a))).set iy (J (.ref p))/\H9=upd (upd R a (.ext (eE a O dd))) p (.tup [.int i,.non]),rt:=λ_ _=>False} e8 ⟨.ref a,by rw[x4 bm],a,dd,i,rfl,aK,by rw[az e7];exact b4,by simp[sizeLine],λp hp=>⟨p,hp,rfl,rfl⟩⟩
     refine wpAny_mono st (λfl s9 z9=>?_) λ_ _ z=>z.elim
     cases fl with
     |ret u=>obtain⟨_,_,_,_,_,z⟩:=z9;exact z.elim
     |brk=>obtain⟨_,_,_,z⟩:=z9;exact z.elim
     |cont=>obtain⟨_,_,_,z⟩:=z9;exact z.elim
     |next =>
      obtain⟨Z9,H9,L,p,a2,e9,fa⟩:=z9;subst e9;subst fa;have a7:p≠a:=λz=>by rw[z,aK]at a2;cases a2
      have dk:Inv X K4 ((Z'.set inn (J (.ref a))).set iy (J (.ref p))) (upd (upd R a (.ext (eE a O dd))) p (.tup [.int i,.non])) s9:=⟨j.ok,L.os,L.bare,L.base,L.loc,L.cell,L.free,L.freeC,L.pin,L.hok,L.len⟩;have ee:(upd (upd R a (.ext (eE a O dd))) p (.tup [.int i,.non])) a=J (.ext (eE a O dd)):=by rw[az (Ne.symm a7),aK]
      obtain⟨⟨o9,dx,z1,z2,z3,z4⟩,_,_⟩:=(show ObjOk X.prog X.w _ s9.heap a (.ext (eE a O dd))from dk.hok a _ ee);have cv:=dk.write (x:=a) (e:=a) (o:=.ext (iH a O)) (h':=s9.heap) (t':=s9.toks) (by rw[ee];trivial) (.inl rfl) (λb u _ z=>z) ⟨_,z1⟩ ⟨⟨o9,dx,z1,z2,z3⟩,⟨o9,z1⟩,λh1 h2 ⟨o,ws,y1,y2,y3⟩ kk=>⟨o,ws,kk o y1,y2,y3⟩⟩;have eU:upd (upd (upd R a (.ext (eE a O dd))) p (.tup [.int i,.non])) a (.ext (iH a O))=upd (upd R a (.ext (iH a O))) p (.tup [.int i,.non]):=by
       funext w;by_cases hw:w=a
       .subst hw;rw[aK,az (Ne.symm a7),aK]
       .by_cases b5:w=p
        .subst b5;rw[az hw,aK,aK]
        .rw[az hw,az b5,az hw,az b5,az hw]
      rw[eU]at cv;have I9:Inv X K4 ((Z'.set inn (J (.ref a))).set iy (J (.ref p))) (upd (upd R a (.ext (iH a O))) p (.tup [.int i,.non])) s9:=cv;obtain⟨eu,l7⟩:=cx.new b9 (o:=.exc ⟨x.cls,[]⟩) (ho:=.ext (iH a O)) ⟨rfl,O,dj,rfl⟩;have rv:RP X.K (U'++[a]) (upd R a (.ext (iH a O))) (.loc h1.length) (.ref a):=.loc (by rw[<-cx.len];simp);have eh:=RS.le l7 d0;have d1:(upd R a (.ext (iH a O))) p=Y:=by rw[az a7]at a2 ⊢;exact a2
      obtain⟨dV,l8⟩:=eu.tup d1 [.int i,.non];have rt:RP X.K (U'++[a]) (upd (upd R a (.ext (iH a O))) p (.tup [.int i,.non])) (.tup [.int i,.non]) (.ref p):=.tup (.inl (.inl aK)) (.cons (.int i) (.cons .non .nil));have ez:=RS.le l8 eh;obtain⟨m9,di,_⟩:=I9.loc;refine wpAny_nameGoes_keeps c7 di (by rw[I9.ok.kind];rfl) λf7 f8 c5 ci=>?_;have es:=Inv.unbound I9 b6 (g.x ak) di (t':=s9.toks+1) c5 ci;refine⟨_,_,es,?_⟩;exact q (U'++[a]) _ _ ((l.trans l7).trans l8) dV (RS.unset ((ez.set inn (rv.le l8)).set iy rt) inn)
   .rw[h8 ca]at q;exact q.elim
 .cases f with
  |next =>
   obtain⟨Z',R,I',z⟩:=z;exact wpAny_execs_nil ⟨Z',R,Inv.ofPin I',z⟩
  |brk=>obtain⟨Z',R,I',z⟩:=z;exact⟨Z',R,Inv.ofPin I',z⟩
  |cont=>obtain⟨Z',R,I',z⟩:=z;exact⟨Z',R,Inv.ofPin I',z⟩
  |ret u=>obtain⟨v,Z',R,I',r,z⟩:=z;exact⟨v,Z',R,Inv.ofPin I',r,z⟩
end
end MM
namespace PU
open MM
section
variable{ws:SU}
def sA(G fld:Str)(u inn:Nat)(b:Xd ws)(H:ws.contains u=T:=by exact ys rfl)(h3:ws.contains inn=T:=by exact ys rfl):Xd ws where
 m:=wA G fld u inn b.m
 p:=λenv s=>match b.p env s with
  |.exc x e s=>if x.cls=G then (match jJ x fld with
    |some i=>.nx (((e.set inn (J (.exc x.cls))).set u (J (.tup [.int i,.non]))).set inn Y) s
    |none=>.bad)
   else .bad
  |.rse _ _ _=>.bad
  |r=>r
 fr:=b.fr
 ok {q h L B O Z env s} c d:=by
  have k:=b.ok c d
  show SOk q L h B O ws _ (match b.m Z h with
   |.exc x Z1 H=>if x.cls=G then (match jJ x fld with
     |some i=>.nx (((Z1.set inn (J (.loc H.length))).set u (J (.tup [.int i,.non]))).set inn Y) (H++[.exc ⟨x.cls,[]⟩])
     |none=>.bad)
    else .bad
   |.rse _ _ _=>.bad
   |o=>o) (match b.p env s with
   |.exc x e s=>if x.cls=G then (match jJ x fld with
     |some i=>PS.nx (((e.set inn (J (.exc x.cls))).set u (J (.tup [.int i,.non]))).set inn Y) s
     |none=>.bad)
    else .bad
   |.rse _ _ _=>.bad
   |r=>r)
  cases e:b.p env s with
  |nx a F=>rw[e]at k;obtain⟨E,l,e1,r⟩:=k;rw[e1];exact⟨E,l,rfl,r⟩
  |rt x F=>rw[e]at k;obtain⟨v,l,e1,r1,r2,r3,r4,r5⟩:=k;rw[e1];exact⟨v,l,rfl,r1,r2,r3,r4,r5⟩
  |bk a F=>rw[e]at k;obtain⟨E,l,e1,r⟩:=k;rw[e1];exact⟨E,l,rfl,r⟩
  |ct a F=>rw[e]at k;obtain⟨E,l,e1,r⟩:=k;rw[e1];exact⟨E,l,rfl,r⟩
  |rse x a F=>trivial
  |bad=>trivial
  |exc x a F =>
   rw[e]at k;obtain⟨E,l,e1,P,st,M,d'⟩:=k;rw[e1];dsimp only;have R:inn∉ws:=λz=>by simp[z]at h3
   have n2:u∉ws:=λz=>by simp[z]at H
   have kb:=KB.app q l [MO.exc ⟨x.cls,[]⟩];have y:=M.kb kb M.pen.app;have r:Rp q (l++[MO.exc ⟨x.cls,[]⟩]) P (.exc x.cls) (.loc l.length):=⟨_,rfl,λz=>by have:=M.bd _ z;lia,by simp⟩;obtain⟨W,U⟩:=y.sr.set R r;by_cases z:x.cls=G
   .rw[e_ z,e_ z]
    cases ef:jJ x fld with
    |none=>trivial
    |some i =>
     obtain⟨a3,Q⟩:=W.set (i:=u) (d:=.tup [.int i,.non]) (v:=.tup [.int i,.non]) n2 ⟨_,rfl,_,_,rfl,rfl,_,_,rfl,rfl,rfl⟩;obtain⟨X,S⟩:=a3.uns R;exact⟨_,_,rfl,P,st.trans (kb.stp M),⟨y.bd,y.sub,y.bb,y.pb,y.hL,y.pen,X⟩,d'.keep λj C=>⟨(S j C).1.trans ((Q j C).1.trans (U j C).1),(S j C).2.trans ((Q j C).2.trans (U j C).2)⟩⟩
   .rw[h8 z,h8 z];trivial
end
end PU
namespace MM
open PySem.Spec PyProof.Rows L2
open PU (Xe Xs Xt Xi Xg Xd Fn sA)
section
variable{X:Cx}{P:Program}{w:World}{K:g_}{mg:Sn}{base:Heap}{N W:SQ}{k:Nat}{sc:Scope}{ws:SU}{x y n c1 fld:Str}{pos cp1 yp1 sp1 hp1 BK ap c0p tp:Pos}{i l j0 x1:Nat}{body:Sq}{da:Xd ws}{cs:SQ}
def Ix{h1 h3}(c:Wc X P w K mg base N W k sc)(d:hI X)(H:Qu K mg c1 fld x cs)(G:gm sc c1)(B:N[i]?=J y)(z:W[i]?=J y)(E:N[l]?=J n)(L:W[l]?=J n)(C:sc.names.lookup n=J .local)(Q:∀a:Cx,Wc a P w K mg base N W k sc->hI a->mm a body da.m)(j:swapsWith (.Tuple [.Attribute (.Name n BK) fld ap,.Constant .none j0 c0p] x1 tp) (J (.Name y yp1)) sp1.line X.env=pure T):
  Bs X (.Try body [.ExceptHandler (J (.Name c1 cp1)) (J n) [.Assign [.Name y yp1] (.Tuple [.Attribute (.Name n BK) fld ap,.Constant .none j0 c0p] x1 tp) sp1] hp1] [] [] pos) (sA c1 fld i l da h1 h3).m:=by
 obtain⟨D,C1,F,fI,ED,O,M,U⟩:=H.ex;obtain⟨j1,u⟩:=c.gj G;have s:=c.s;rw[<-c.e.e3,<-c.e.e4]at O;rw[<-c.e.e3]at M;exact⟨Ej c.g d u O M i l B z E L (by rw[s];exact C) (λa y1 R y3 y4 y5 S g Z=>(Q a ⟨g,⟨y1.trans c.e.e1,R.trans c.e.e2,y3.trans c.e.e3,y4.trans c.e.e4,y5.trans c.e.e5,c.e.b⟩,(congrArg Env.scope S).trans c.s⟩ Z).h) j⟩
end
end MM
namespace Law
open PySem.Spec PyProof.Rows L2 MM
set_option maxHeartbeats 4000000
noncomputable section
def Bj:nr:=(cj (bM 2 (aA jj (aA lx (mC (.int 7919)) (am 1)) (mC (.int 11))))
 (cj (Cd (mB (aA Cq (am 1) (sk Bn (aj (sk sw (aj (am 0) f_)) (aj (mC (.int 63)) f_))))) (bM 2 (aA be (am 0) (am 1))) (Cd (mB (aA Cr (sk sw (aj (am 0) f_)) (mC (.int 0)))) (bM 2 (aA jj (aA nz (aA be (am 0) (aA nz (am 1) (sk Bn (aj (sk sw (aj (am 0) f_)) (aj (mC (.int 63)) f_))))) (aA t_ (mC (.int 10)) (mC (.int 15)))) (aA lx (mC (.int 48271)) (am 1)))) qx))
 (cj (Cd (mB (aA B7 (sk BC (aj (am 2) f_)) (aA t_ (mC (.int 10)) (mC (.int 18))))) (du (gG (aj (mC (.int 1)) (aj (sk BC (aj (am 2) f_)) (aj (mC (.int 0)) f_))))) qx)
 (du (gG (aj (mC (.int 0)) (aj (aA jj (aA nz (am 2) (mC (.int 2147483587))) (aA lx (mC (.int 40009)) (am 1))) (aj (mC (.int 0)) f_))))))))
def iX:SM->MH->SH:=cE 3 2 Bj
def x3:nr:=(cj (pX (aA jj (aA be (am 0) (mC (.int 2))) (mC (.int 1))) (G7 (am 0) (mC (.int 2))))
 (cj (Cd (mB (aA xv (aA be (am 0) (mC (.int 0))) (mC (.int 1)))) (cj (bM 3 (aA nz (aA be (am 0) (mC (.int 1))) (am 1)))
 (cj (pX (aA BV (aA be (am 0) (mC (.int 1))) (am 1)) (G7 (am 0) (mC (.int 1))))
 (du (am 3)))) qx)
 (cj (bM 2 (aA nz (aA lx (aA jj (aA jj (aA be (am 0) (mC (.int 1))) (aA lx (mC (.int 40503)) (aA be (am 0) (mC (.int 2))))) (mC (.int 1))) (mC (.int 48271))) (mC (.int 2147483647))))
 (cj (bM 2 (aA nz (aA lx (am 2) (aA jj (aA jj (aA nz (am 2) (mC (.int 65521))) (aA be (am 0) (mC (.int 2)))) (mC (.int 3)))) (mC (.int 2147483629))))
 (du (aA nz (aA BV (aA nz (aA lx (am 2) (aA jj (aA nz (am 2) (mC (.int 8191))) (mC (.int 7)))) (mC (.int 2147483563))) (mC (.int 64))) (am 1)))))))
def cg:SM->MH->SH:=cE 4 2 x3
end
end Law
namespace Law
open MM PU SetT SortT
open L2 (wG nw gC)
set_option maxHeartbeats 4000000
noncomputable section
def fW:Xd []:=(aN (eO (u_ (ba ["int"]) (ac 0)) (nE (u_ (ba ["bool"]) (ac 0)))))
def cY:Fn:=bB 1 1 fW
def uK{a:SV}{s:b_}(h:a.length=1):cY.p a s=(fW.p (k_ 1 a) s).fin:=aW h
def cw:Xd []:=(aF (Lw 2000000 (xB (ae wV (ac 1) (xC (.int 0)))) (aF (aP 2 (ae jP (ac 0) (ac 1)))
 (aF (aP 0 (ac 1))
 (aP 1 (ac 2)))) pN)
 (aN (ac 0)))
def cu:Fn:=bB 3 2 cw
def mI{a:SV}{s:b_}(h:a.length=2):cu.p a s=(cw.p (k_ 3 a) s).fin:=aW h
def ff:Xd []:=(aF (s_ (w9 (bA (xB (ah cY (aa (ac 0) a_)))) (bA (xB (ah cY (aa (ac 1) a_))))) sS io)
 (aF (s_ (xB (ae y6 (ac 1) (xC (.int 0)))) sS io)
 (aF (aP 2 (ah cu (aa (n4 qj (aa (ac 0) a_)) (aa (n4 qj (aa (ac 1) a_)) a_))))
 (aF (s_ (xB (ae Fw (ac 1) (xC (.int 0)))) (aP 2 (u_ lH (ac 2))) io)
 (aN (aX (aa (ae DI (ac 0) (ac 2)) (aa (ae DI (ac 1) (ac 2)) a_))))))))
def bH:Fn:=bB 3 2 ff
def sJ{a:SV}{s:b_}(h:a.length=2):bH.p a s=(ff.p (k_ 3 a) s).fin:=aW h
def lZ:Xd []:=(aN (ah bH (aa (ae bC (ae bn (ae h_ (ac 0) (xC (.int 0))) (ae h_ (ac 1) (xC (.int 1)))) (ae bn (ae h_ (ac 1) (xC (.int 0))) (ae h_ (ac 0) (xC (.int 1))))) (aa (ae bn (ae h_ (ac 0) (xC (.int 1))) (ae h_ (ac 1) (xC (.int 1)))) a_))))
def fb:Fn:=bB 2 2 lZ
def Ek{a:SV}{s:b_}(h:a.length=2):fb.p a s=(lZ.p (k_ 2 a) s).fin:=aW h
def kh:Xd []:=(aN (ah bH (aa (ae jn (ae bn (ae h_ (ac 0) (xC (.int 0))) (ae h_ (ac 1) (xC (.int 1)))) (ae bn (ae h_ (ac 1) (xC (.int 0))) (ae h_ (ac 0) (xC (.int 1))))) (aa (ae bn (ae h_ (ac 0) (xC (.int 1))) (ae h_ (ac 1) (xC (.int 1)))) a_))))
def j7:Fn:=bB 2 2 kh
def AU{a:SV}{s:b_}(h:a.length=2):j7.p a s=(kh.p (k_ 2 a) s).fin:=aW h
def kN:Xd []:=(aN (ah bH (aa (ae bn (ae h_ (ac 0) (xC (.int 0))) (ae h_ (ac 1) (xC (.int 0)))) (aa (ae bn (ae h_ (ac 0) (xC (.int 1))) (ae h_ (ac 1) (xC (.int 1)))) a_))))
def dZ:Fn:=bB 2 2 kN
def Bf{a:SV}{s:b_}(h:a.length=2):dZ.p a s=(kN.p (k_ 2 a) s).fin:=aW h
def mD:Xd []:=(aN (ah bH (aa (ae bn (ae h_ (ac 0) (xC (.int 0))) (ae h_ (ac 1) (xC (.int 1)))) (aa (ae bn (ae h_ (ac 0) (xC (.int 1))) (ae h_ (ac 1) (xC (.int 0)))) a_))))
def i6:Fn:=bB 2 2 mD
def En{a:SV}{s:b_}(h:a.length=2):i6.p a s=(mD.p (k_ 2 a) s).fin:=aW h
def fU:Xd []:=(aN (eO (ah cY (aa (ac 1) a_)) (pM JI Fw (xC (.int 0)) (ac 1) (ac 0))))
def eS:Fn:=bB 2 2 fU
def uX{a:SV}{s:b_}(h:a.length=2):eS.p a s=(fU.p (k_ 2 a) s).fin:=aW h
def gu:Xd []:=(aF (s_ (bA (xB (u_ (ba ["list"]) (ac 1)))) (aN (xC (.bl T))) io)
 (aF (s_ (bA (xB (n4 qJ (aa (bh 1 [0] (bL (ac 1)) (ws':=[]) (lf 0) oh (ah eS (aa (ae h_ (ac 1) (xC (.int 0))) (aa (ac 0) a_)))) a_)))) (aN (xC (.bl T))) io)
 (aN (ae y6 (n4 fR (aa (ac 1) a_)) (n4 Fx (aa (ae h_ (ac 0) (xC (.int 0))) a_))))))
def fX:Fn:=bB 2 2 gu
def uI{a:SV}{s:b_}(h:a.length=2):fX.p a s=(gu.p (k_ 2 a) s).fin:=aW h
def dS:Xd []:=(s_ (bA (xB (ah fX (aa (ac 0) (aa (ac 1) a_))))) sS io)
def dR:Fn:=bB 2 2 dS
def qw{a:SV}{s:b_}(h:a.length=2):dR.p a s=(dS.p (k_ 2 a) s).fin:=aW h
def bF:Xd [0]:=(iu (bL (ac 2)) (Bq (rg (lf 3) (rg (lf 4) Bp)) 2) (li 0 (ac 3) (ah fb (aa (BF (ac 0) (aa (ac 3) (aa (Br 0 1) a_))) (aa (ah dZ (aa (ac 1) (aa (ac 4) a_))) a_)))))
def d4:SM->MH->SH:=cE 5 3 bF.m
def gh:Xd []:=(aN (n4 bZ (aa (bh 1 [0] (bL (ac 1)) (ws':=[]) (lf 0) (xB (ae wV (BF (ac 1) (aa (ac 0) (aa (Br 0 1) a_))) (Br 0 1))) (aX (aa (ac 0) (aa (ae mF (ac 1) (ac 0)) a_)))) a_)))
def cz:Fn:=bB 2 2 gh
def uL{a:SV}{s:b_}(h:a.length=2):cz.p a s=(gh.p (k_ 2 a) s).fin:=aW h
def fO:Xd []:=(aF (aP 3 (BF (ae h_ (ac 0) (ac 1)) (aa (ac 1) (aa (Br 0 1) a_))))
 (aF (s_ (xB (ae y6 (ac 3) (Br 0 1))) (nH "NoPivot" "the pivot of the place " " is nought" "place" (aa (ac 1) a_)) io)
 (aF (aP 4 (bh 1 [3,1,0] (bL (ac 2)) (ws':=[]) (lf 0) (xB (ae wV (BF (ae h_ (ac 3) (ac 0)) (aa (ac 2) (aa (Br 0 1) a_))) (Br 0 1))) (aX (aa (ac 0) (aa (ah i6 (aa (ae mF (ae h_ (ac 3) (ac 0)) (ac 2)) (aa (ac 1) a_))) a_)))))
 (aN (aX (aa (ac 1) (aa (ac 3) (aa (ah cz (aa (ae h_ (ac 0) (ac 1)) (aa (ac 2) a_))) (aa (n4 bZ (aa (ac 4) a_)) a_)))))))))
def fS:Fn:=bB 5 3 fO
def oY{a:SV}{s:b_}(h:a.length=3):fS.p a s=(fO.p (k_ 5 a) s).fin:=aW h
def iM:Xe []:=(HA (xB (ae (DW T) (ac 6) (ac 2))) (ae mF (ac 2) (ac 6)) (ah fS (aa (ac 3) (aa (ac 6) (aa (n4 fR (aa (x2 (ac 1) (xz (ae bC (ac 5) (xC (.int 1)))) xw) a_)) a_)))) I)
def sB:Xt []:=(xB (ae (DW I) (ac 8) (ac 2)))
def nh:Xe []:=(ah j7 (aa (Br 0 1) (aa (ac 9) a_)))
def JP:nr:=Cd sB.m (jD (fu d4 (aj (aA be (am 3) (am 8)) (aj nh.m (aj (aA be (am 7) (mC (.int 2))) f_))))) qx
def Eo:nr:=cj (bM 7 iM.m) (cj (iz (cS (aA be (am 7) (mC (.int 3)))) (wK (mh (ki 8) (mh (ki 9) wH)) 2) JP) (jD (Fk gI (am 4) (aj (am 7) f_))))
def qb:nr:=cj (bM 3 (bO 1 [] (cS (aA be (am 0) (mC (.int 1)))) (ki 0) m_ (sk wh (aj (am 0) f_))))
 (cj (bM 4 (gG f_))
 (cj (iz (n5 (aj (am 1) f_)) (wK (mh (ki 5) (mh (ki 6) wH)) 2) Eo)
 (du (am 4))))
def cU:SM->MH->SH:=cE 10 3 qb
def gE(rd:List Rd)(sh j a:D)(k v st i f:So):ay:=[J sh,J j,J a,J (cO rd),Y,k,v,st,i,f]
def iK(rd:List Rd)(n:Nat)(g i:D)(s:b_):Option (List Rd×b_):=match rd[n]? with
 |some r=>(match bF.p (k_ 5 [dl r.1 r.2,g,i]) s with
  |.nx a l=>(match a[0]? with
   |some (J (D.dic T u j))=>if d_ j=I/\flat g=I/\flat i=I then J (rd.set n (J u,j),l)else Y
   |_=>Y)
  |_=>Y)
 |none=>Y
def jb(sh u l:D)(k v:So)(st z:D):SV->List Rd->So->So->b_->Option (List Rd×So×So×b_)
 |[],rd,i,f,s=>J (rd,i,f,s)
 |.tup [.int j,a]::r,rd,_,_,s=>(match sB.p (gE rd sh u l k v (J st) (J (.int j)) (J a)) s with
  |.ok I y=>(match nh.p (gE rd sh u l k v (J st) (J (.int j)) (J a)) y,wG rd.length j with
   |.ok g E,J n=>(match iK rd n g z E with
    |some (B,C)=>jb sh u l k v st z r B (J (.int j)) (J a) C
    |none=>Y)
   |_,_=>Y)
  |.ok T y=>jb sh u l k v st z r rd (J (.int j)) (J a) y
  |_=>Y)
 |_,_,_,_,_=>Y
def eZ(sh E C:D):SV->List Rd->SV->So->So->So->b_->PR (SV)
 |[],_,l,_,_,_,s=>.ok l s
 |.tup [B,z]::r,rd,l,st,i,f,s=>(match iM.p (gE rd sh E C (J B) (J z) st i f) s with
  |.ok (.tup [x,y,j,.tup a]) u=>if flat (.tup [x,y,j,.tup a])=I/\l.length<1000/\flat B=I/\flat z=I then (match jb sh E C (J B) (J z) (.tup [x,y,j,.tup a]) j a rd i f u with
   |some (F,H,G,L)=>eZ sh E C r F (l++[.tup [x,y,j,.tup a]]) (J (.tup [x,y,j,.tup a])) H G L
   |none=>.bad)else .bad
  |.exc c u=>.exc c u
  |_=>.bad)
 |_,_,_,_,_,_,_=>.bad
def hJ:SV->Option (List Rd)
 |[]=>J []
 |d::r=>(match DQ d,hJ r with
  |some a,J t=>if d_ (a.map (·.2))=I then J ((J (a.map (·.1)),a.map (·.2))::t)else Y
  |_,_=>Y)
def N3(l:SV)(s:b_):PR D:=match l with
 |[.tup [n,.tup a],.lst j,y]=>(match hJ a with
  |some rd=>if a.length<900 then (match eZ (.tup [n,.tup a]) (.lst j) y (br j) rd [] Y Y Y s with
   |.ok u i=>.ok (.lst u) i
   |.exc c i=>.exc c i
   |.bad=>.bad)else .bad
  |none=>.bad)
 |_=>.bad
structure SwI(q:Nat)(h0 h:MH)(s:b_)(a:Nat)(ms:SU)(rd:List Rd)(w:Nat)(wk:SV):Prop where
 len:h0.length<=h.length
 mv:∀n:Nat,n<h0.length->n≠q->h[n]?=h0[n]?
 pen:bc h q s
 gr:Gr h h0.length a ms rd
 wx:∃xs,h[w]?=J (.lst xs)/\Rps 0 [] [] wk xs
 wf:d_ wk=I
 wge:h0.length<=w
 wno:w∉a::ms
def OR(d:So)(v:Ss):Prop:=∀x,d=J x->flat x=I/\∃y,v=J y/\Rp 0 [] [] x y
section
variable{q:Nat}{h0 h h':MH}{s s':b_}{a:Nat}{ms:SU}{rd:List Rd}{w:Nat}{wk:SV}{O:SU}{sh od kn:D}{v0 v1 v2:PV}{dk dv dst di df:So}{ck cv cst ci cf:Ss}
def SwI.kb(i:SwI q h0 h s a ms rd w wk)(z:q<h0.length)(k:KB q h h')(pn:bc h' q s'):SwI q h0 h' s' a ms rd w wk:=by obtain⟨xs,e,r⟩:=i.wx;have l:=i.len;refine⟨n_ i.len k.len,λn y u=>(k.keep n (by ext) u).trans (i.mv n y u),pn,i.gr.keep λm j=>k.keep m (i.gr.lt m j) (by have:=i.gr.ge m j;ext),⟨xs,(k.keep w (aG e) (by have:=i.wge;ext)).trans e,r⟩,i.wf,i.wge,i.wno⟩
def sC(j:SwI q h0 h s a ms rd w wk)(bd:∀o∈O,o<h0.length)(E:q∈O)(r:Rps q h0 O [sh,od,kn] [v0,v1,v2])(Q:OR dk ck)(M:OR dv cv)(P:OR dst cst)(R:OR di ci)(H:OR df cf):
  PU.Cx q h h.length O O [] [J v0,J v1,J v2,J (.loc a),J (.loc w),ck,cv,cst,ci,cf] (gE rd sh od kn dk dv dst di df) s:=by
 have l:=j.len;have mv:Mv O h0 O h:=⟨λn G C=>j.mv n G λz=>C (z▸E),λo u=>.inl u⟩;have B:=r.mv mv;have one:∀{x:So}{y:Ss}{d:D},OR x y->x=J d->∃v,J y=J (J v)/\Rp q h O d v:=λ{x y d} o e=>by
  obtain⟨f,v,e2,r⟩:=o d e;exact⟨v,by rw[e2],Rp.fq f r⟩
 refine⟨λo u=>by have:=bd o u;ext,λo u=>u,λo u=>by have:=bd o u;ext,E,l_ _,j.pen,rfl,λi d e _=>?_,λi d e F=>by cases F⟩
 match i,e with
 |0,e=>cases e;obtain⟨v,e,q⟩:=B.get (i:=0) rfl;cases e;exact⟨_,rfl,q⟩
 |1,e=>cases e;obtain⟨v,e,q⟩:=B.get (i:=1) rfl;cases e;exact⟨_,rfl,q⟩
 |2,e=>cases e;obtain⟨v,e,q⟩:=B.get (i:=2) rfl;cases e;exact⟨_,rfl,q⟩
 |3,e=>cases e;exact⟨_,rfl,j.gr.rp λm L C=>by have:=j.gr.ge m L;have:=bd m C;ext⟩
 |4,e=>cases e
 |5,e=>exact one Q (by injection e)
 |6,e=>exact one M (by injection e)
 |7,e=>exact one P (by injection e)
 |8,e=>exact one R (by injection e)
 |9,e=>exact one H (by injection e)
 |n+10,e=>simp[gE]at e
def xM:∀Z h,Kp 0 (bF.m Z h) Z:=by
 have Q:∀v Z h,Kp 0 (wK (mh (ki 3) (mh (ki 4) wH)) 2 v Z h) Z:=λv Z h=>by
  unfold wK;split
  .rename_i xs
   split
   .match xs with
    |[]=>trivial
    |[_]=>trivial
    |x::y::r =>
     show Kp 0 (wH r ((Z.set 3 (J x)).set 4 (J y)) h) Z;unfold wH;split
     .show _=_;rw[n8 (by decide),n8 (by decide)]
     .trivial
   .trivial
  .trivial
 have L:∀{mo F mv:Mx PV} Z h,Kp 0 (k9 mo F mv Z h) Z:=λ{mo F mv} Z h=>by
  simp only[k9,Ap]
  repeat' split
  all_goals first | trivial | rfl
 intro Z h;unfold bF;show Kp 0 (iz _ _ _ Z h) Z;unfold iz Ap;split
 .rename_i G i _
  have:∀(xs:SM) j i,j[0]?=Z[0]?->Kp 0 (wM G (wK (mh (ki 3) (mh (ki 4) wH)) 2) (li (ws:=[0]) 0 (ac 3) (ah fb (aa (BF (ac 0) (aa (ac 3) (aa (Br 0 1) a_))) (aa (ah dZ (aa (ac 1) (aa (ac 4) a_))) a_)))).m xs j i) Z:=λxs=>by
   induction xs with
   |nil =>
    intro j i e;unfold wM;split
    .exact e
    .trivial
   |cons x r H =>
    intro j i e;unfold wM;split
    .have k:=Q x j i
     cases M:wK (mh (ki 3) (mh (ki 4) wH)) 2 x j i with
     |nx B E =>
      rw[M]at k;have z:=@L (am 0) (am 3) ((ah fb (aa (BF (ac 0) (aa (ac 3) (aa (Br 0 1) a_))) (aa (ah dZ (aa (ac 1) (aa (ac 4) a_))) a_)):Xe [0]).m) B E;dsimp only;generalize P:(li (ws:=[0]) 0 (ac 3) (ah fb (aa (BF (ac 0) (aa (ac 3) (aa (Br 0 1) a_))) (aa (ah dZ (aa (ac 1) (aa (ac 4) a_))) a_)))).m B E=o;have C:k9 (am 0) (am 3) (ah fb (aa (BF (ac 0) (aa (ac 3) (aa (Br 0 1) a_))) (aa (ah dZ (aa (ac 1) (aa (ac 4) a_))) a_)):Xe [0]).m B E=o:=P;rw[C]at z;have k:B[0]?=j[0]?:=k
      cases o with
      |nx l u=>exact H l u (z.trans (k.trans e))
      |ct l u=>exact H l u (z.trans (k.trans e))
      |bk l u=>exact z.trans (k.trans e)
      |_=>trivial
     |_=>trivial
    .trivial
  exact this G.xs Z i rfl
 all_goals trivial
def A2{n m:Nat}{g C:D}{G pv:PV}{u:List Rd}(i:SwI q h0 h s a ms rd w wk)(bd:∀o∈O,o<h0.length)(Q:q∈O)(em:ms[n]?=J m)(Z:Rp 0 [] [] g G)(rp:Rp 0 [] [] C pv)(e:iK rd n g C s=J (u,s')):
  ∃h',d4 [.loc m,G,pv] h=.ok .non h'/\SwI q h0 h' s' a ms u w wk:=by
 unfold iK at e
 split at e
 .rename_i r U
  split at e
  .rename_i L s1 eb
   split at e
   .rename_i ks X e0
    split at e
    .rename_i fl
     obtain⟨fd,R,fp⟩:=fl;cases e;obtain⟨fr,m',xs,l,eh,W⟩:=i.gr.row n r U;rw[em]at l;cases l;have M:=pj a (BA em);have ai:=i.gr.ge m M;obtain⟨h',e1,l1,kp,pn,O',ab,F,E⟩:=sL (B:=bF) (n:=5) (np:=3) (m:=m) (k:=r.1) (k':=J ks) (ds:=r.2) (ds':=X) (as:=[g,C]) (vs:=[G,pv]) (λo ho=>by have:=bd o ho;ext) Q i.pen eh fr W (by simp[d_,R,fp]) ⟨_,_,rfl,Z,_,_,rfl,rp,rfl⟩ rfl (by decide) xM eb e0;have S:=bd q Q;refine⟨h',e1,n_ i.len l1,λj y P=>(kp j (by have:=i.len;ext) (by ext) P).trans (i.mv j y P),pn,i.gr.put em fd F (Rps.fq fd E) λj y ne=>kp j (i.gr.lt j y) ne (by have:=i.gr.ge j y;ext),?_,i.wf,i.wge,i.wno⟩;obtain⟨ws,H,rw'⟩:=i.wx;exact⟨ws,(kp w (aG H) (λz=>i.wno (z▸M)) (by have:=i.wge;ext)).trans H,rw'⟩
    .cases e
   .cases e
  .cases e
 .cases e
def Be{st l c:D}{u:SV}{z:List Rd×So×So×b_}(e:jb sh od kn dk dv st l (c::u) rd di df s=J z):∃j x,c=.tup [.int j,x]:=by
 unfold jb at e
 split at e
 .rename_i i;cases i
 .rename_i i;cases i;exact⟨_,_,rfl⟩
 .cases e
def nB{st ps:D}{l:SM}{pv:PV}{U:List Rd}{W S:So}{it:MIt}(E:∀h,it.ok h)(bd:∀o∈O,o<h0.length)(M:q∈O)(r:Rps q h0 O [sh,od,kn] [v0,v1,v2])(k1:OR dk ck)(k2:OR dv cv)(H:flat st=I)(L:Rp 0 [] [] st (.tup l))(u2:nw l 2=J pv)(rp:Rp 0 [] [] ps pv):
  ∀(Q:SV)(xs:SM)(rd:List Rd)(di df:So)(ci cf:Ss)(h:MH)(s:b_),d_ Q=I->Rps 0 [] [] Q xs->OR di ci->OR df cf->SwI q h0 h s a ms rd w wk->jb sh od kn dk dv st ps Q rd di df s=J (U,W,S,s') ->
  ∃h' y u,wM it (wK (mh (ki 8) (mh (ki 9) wH)) 2) JP xs [J v0,J v1,J v2,J (.loc a),J (.loc w),ck,cv,J (.tup l),ci,cf] h=.nx [J v0,J v1,J v2,J (.loc a),J (.loc w),ck,cv,J (.tup l),y,u] h'/\SwI q h0 h' s' a ms U w wk/\OR W y/\OR S u
 |[],xs,rd,di,df,ci,cf,h,s,fc,rx,k4,k5,i,e=>by
  unfold jb at e;cases e;rw[show xs=[]from rx];exact⟨h,ci,cf,gH (E h),i,k4,k5⟩
 |c::Q,xs,rd,di,df,ci,cf,h,s,fc,rx,k4,k5,i,e=>by
  have G:=bd q M;simp only[d_,Bw]at fc;obtain⟨j,x,rfl⟩:=Be e;unfold jb at e
  .obtain⟨vx,xr,rfl,an,rr⟩:=rx;obtain⟨ys,rfl,ry⟩:=an;obtain⟨y1,yr,rfl,as,B,ap,rfl,a0,Z⟩:=ry;rw[show ap=[]from Z];rw[show y1=PV.int j from as];have fx:flat x=I:=by simpa [flat,d_]using fc.1
   have o4:OR (J (.int j)) (J (.int j)):=λz X=>by cases X;exact⟨rfl,_,rfl,rfl⟩
   have o5:OR (J x) (J B):=λz X=>by cases X;exact⟨fx,_,rfl,a0⟩
   have o3:OR (J st) (J (.tup l)):=λz X=>by cases X;exact⟨H,_,rfl,L⟩
   have c1:=sC i bd M r k1 k2 o3 o4 o5;have kc:=sB.ok c1;rw[eM (E h) (show wK (mh (ki 8) (mh (ki 9) wH)) 2 (.tup [.int j,B]) [J v0,J v1,J v2,J (.loc a),J (.loc w),ck,cv,J (.tup l),ci,cf] h=.nx [J v0,J v1,J v2,J (.loc a),J (.loc w),ck,cv,J (.tup l),J (.int j),J B] h from rfl)]
   split at e
   .rename_i s1 ec
    rw[ec]at kc;obtain⟨b,P,em,kb,pn,rfl⟩:=kc;have R:=i.kb G kb pn
    split at e
    .rename_i gg s2 n eg en
     split at e
     .rename_i a1 s3 C
      have c2:=sC R bd M r k1 k2 o3 o4 o5;have kg:=nh.ok c2;rw[eg]at kg;obtain⟨gv,h2,ak,al,ab,_,rz,_⟩:=kg;have I2:=R.kb G al ab;have fg:flat gg=I:=by
       unfold iK at C
       split at C
       .split at C
        .split at C
         .split at C
          .rename_i z;exact z.2.1
          .cases C
         .cases C
        .cases C
       .cases C
      have nl:n<rd.length:=by exact(L2.j8 en).2.1
      obtain⟨m,hm⟩:∃m,ms[n]?=J m:=⟨ms[n]'(by rw[i.gr.len];exact nl),zL _⟩;obtain⟨h3,e3,I3⟩:=A2 I2 bd M hm (Rp.fq fg (rz rfl)) rp C;obtain⟨h4,y,u,e4,I4,q4,q5⟩:=nB E bd M r k1 k2 H L u2 rp Q xr a1 _ _ _ _ h3 s3 fc.2 rr o4 o5 I3 e;refine⟨h4,y,u,?_,I4,q4,q5⟩;have ai:nw (ms.map PV.loc) j=J (.loc m):=by unfold nw;rw[xg,i.gr.len,en,F5,r6,hm];rfl
      have F:JP [J v0,J v1,J v2,J (.loc a),J (.loc w),ck,cv,J (.tup l),J (.int j),J B] h=.nx [J v0,J v1,J v2,J (.loc a),J (.loc w),ck,cv,J (.tup l),J (.int j),J B] h3:=by
       have ar:aj (aA be (am 3) (am 8)) (aj nh.m (aj (aA be (am 7) (mC (.int 2))) f_)) [J v0,J v1,J v2,J (.loc a),J (.loc w),ck,cv,J (.tup l),J (.int j),J B] P=.ok [.loc m,gv,pv] h2:=by
        have b1:aA be (am 3) (am 8) [J v0,J v1,J v2,J (.loc a),J (.loc w),ck,cv,J (.tup l),J (.int j),J B] P=.ok (.loc m) P:=by simp[fE R.gr.top,ai]
        have b2:aA be (am 7) (mC (.int 2)) [J v0,J v1,J v2,J (.loc a),J (.loc w),ck,cv,J (.tup l),J (.int j),J B] h2=.ok pv h2:=by simp[u2]
        rw[cN,b1,Out.bind_ok,cN,ak,Out.bind_ok,cN,b2];rfl
       unfold JP;rw[x9,em,aw,e_ rfl,lF,sU,ar,Out.bind_ok,e3];rfl
      rw[F];exact e4
     .cases e
    .cases e
   .rename_i s1 ec
    rw[ec]at kc;obtain⟨b,P,em,kb,pn,rfl⟩:=kc;have R:=i.kb G kb pn;obtain⟨h4,y,u,e4,I4,q4,q5⟩:=nB E bd M r k1 k2 H L u2 rp Q xr rd _ _ _ _ P s1 fc.2 rr o4 o5 R e;refine⟨h4,y,u,?_,I4,q4,q5⟩;have F:JP [J v0,J v1,J v2,J (.loc a),J (.loc w),ck,cv,J (.tup l),J (.int j),J B] h=.nx [J v0,J v1,J v2,J (.loc a),J (.loc w),ck,cv,J (.tup l),J (.int j),J B] P:=by unfold JP;rw[x9,em,aw];rfl
    rw[F];exact e4
   .cases e
def kR:∀{wk:SV}{d:D},d_ wk=I->flat d=I->d_ (wk++[d])=I
 |[],d,_,f=>by simp[d_,f]
 |x::wk,d,g,f=>by
  simp only[d_,Bw,Ox]at g ⊢;exact⟨g.1,kR g.2 f⟩
def uw{c:D}{j wk:SV}(e:eZ sh od kn (c::j) rd wk dst di df s≠.bad):∃x y,c=.tup [x,y]:=by
 unfold eZ at e
 split at e
 .rename_i i;cases i
 .rename_i i;cases i;exact⟨_,_,rfl⟩
 .exact absurd rfl e
def vF{it:MIt}{wk':SV}(G:∀h s rd wk,SwI q h0 h s a ms rd w wk->it.ok h)(bd:∀o∈O,o<h0.length)(hq:q∈O)(r:Rps q h0 O [sh,od,kn] [v0,v1,v2]):
  ∀(ds:SV)(xs:SM)(rd:List Rd)(wk:SV)(dst di df:So)(ck cv cst ci cf:Ss)(h:MH)(s:b_),d_ ds=I->Rps 0 [] [] ds xs->OR dst cst->OR di ci->OR df cf->SwI q h0 h s a ms rd w wk->eZ sh od kn ds rd wk dst di df s=.ok wk' s' ->
  ∃h' an a4 a3 U L H,wM it (wK (mh (ki 5) (mh (ki 6) wH)) 2) Eo xs [J v0,J v1,J v2,J (.loc a),J (.loc w),ck,cv,cst,ci,cf] h=.nx [J v0,J v1,J v2,J (.loc a),J (.loc w),a4,a3,U,L,H] h'/\SwI q h0 h' s' a ms an w wk'
 |[],xs,rd,wk,dst,di,df,ck,cv,cst,ci,cf,h,s,fd,rx,k3,k4,k5,l,e=>by
  unfold eZ at e;cases e;rw[show xs=[]from rx];exact⟨h,rd,ck,cv,cst,ci,cf,gH (G h _ _ _ l),l⟩
 |c::cs,xs,rd,wk,dst,di,df,ck,cv,cst,ci,cf,h,s,fd,rx,k3,k4,k5,l,e=>by
  have a7:=bd q hq;simp only[d_,Bw]at fd;obtain⟨dk,dv,rfl⟩:=uw (by rw[e];exact λz=>nomatch z);unfold eZ at e;obtain⟨vx,xr,rfl,as,rr⟩:=rx;obtain⟨ys,rfl,ry⟩:=as;obtain⟨M,yr,rfl,a9,F,a8,rfl,b0,Z⟩:=ry;rw[show a8=[]from Z];have fk:flat dk=I/\flat dv=I:=by simpa [flat,d_]using fd.1
  have o1:OR (J dk) (J M):=λz W=>by cases W;exact⟨fk.1,_,rfl,a9⟩
  have o2:OR (J dv) (J F):=λz W=>by cases W;exact⟨fk.2,_,rfl,b0⟩
  have c1:=sC l bd hq r o1 o2 k3 k4 k5;have ke:=iM.ok c1;rw[eM (G h _ _ _ l) (show wK (mh (ki 5) (mh (ki 6) wH)) 2 (.tup [M,F]) [J v0,J v1,J v2,J (.loc a),J (.loc w),ck,cv,cst,ci,cf] h=.nx [J v0,J v1,J v2,J (.loc a),J (.loc w),J M,J F,cst,ci,cf] h from rfl)]
  split at e
  .rename_i x y ps u s1 ee
   rw[ee]at ke;obtain⟨v,h1,em,kb,pn,_,rz,_⟩:=ke;have I1:=l.kb a7 kb pn
   split at e
   .rename_i ai
    obtain⟨S,wl,_,_⟩:=ai
    split at e
    .rename_i ab i2 f2 s2 ei
     have rv:Rp 0 [] [] (.tup [x,y,ps,.tup u]) v:=Rp.fq S (rz rfl);have bm:flat x=I/\flat y=I/\flat ps=I/\d_ u=I:=by simpa [flat,d_]using S
     have B:=rv;obtain⟨us,rfl,ru⟩:=rv;obtain⟨X,t1,rfl,b1,R,t2,rfl,b3,P,t3,rfl,a1,u4,t4,rfl,a0,al⟩:=ru;rw[show t4=[]from al]at B em;obtain⟨i,rfl,r4⟩:=a0;obtain⟨h2,L,H,e2,C,q4,q5⟩:=nB (it:=⟨i,[]⟩) (λ_=>dD.mpr trivial) bd hq r o1 o2 S B (pv:=P) rfl a1 u i rd _ _ _ _ h1 s1 bm.2.2.2 r4 k4 k5 I1 ei;obtain⟨E,ew,rw'⟩:=C.wx;have b2:E.length=wk.length:=rw'.length;have ap:=aG ew;have I3:SwI q h0 (h2.set w (.lst (E++[.tup [X,R,P,.tup i]]))) s2 a ms ab w (wk++[.tup [x,y,ps,.tup u]]):=by
      have wge:=C.wge;refine⟨by rw[Na];exact C.len,λj hj nq=>(n8 (by ext)).trans (C.mv j hj nq),?_,C.gr.keep λj hj=>n8 λz=>C.wno (by rw[z];exact hj),⟨_,x4 ap,rw'.app ⟨_,_,rfl,B,rfl⟩⟩,?_,wge,C.wno⟩
      .have:=C.pen
       unfold bc at this ⊢;rw[n8 (by ext)];exact this
      .exact kR C.wf S
     have o3:OR (J (.tup [x,y,ps,.tup u])) (J (.tup [X,R,P,.tup i])):=λz W=>by cases W;exact⟨S,_,rfl,B⟩
     obtain⟨h4,ak,a5,a2,Q,ar,a6,e4,I4⟩:=vF G bd hq r cs xr ab _ _ _ _ (J M) (J F) _ _ _ _ s2 fd.2 rr o3 q4 q5 I3 e;refine⟨h4,ak,a5,a2,Q,ar,a6,?_,I4⟩;have b:Eo [J v0,J v1,J v2,J (.loc a),J (.loc w),J M,J F,cst,ci,cf] h=.nx [J v0,J v1,J v2,J (.loc a),J (.loc w),J M,J F,J (.tup [X,R,P,.tup i]),L,H] (h2.set w (.lst (E++[.tup [X,R,P,.tup i]]))):=by unfold Eo;rw[bK,eQ,em,aw,MM.ax,bK,eR];have i3:cS (aA be (am 7) (mC (.int 3))) ([J v0,J v1,J v2,J (.loc a),J (.loc w),J M,J F,cst,ci,cf].set 7 (J (.tup [X,R,P,.tup i]))) h1=.ok ⟨i,[]⟩ h1:=rfl;rw[i3,aw];refine(congrArg (λz:SOut=>z.then _) e2).trans ?_;rw[MM.ax,lF,yS];simp only[pr,pg,Out.bind_ok,cN,fN,ew,ph ew (show E.length<1000 by ext)];rfl
     rw[b];exact e4
    .cases e
   .cases e
  .cases e
  .cases e
def vP{it:MIt}{cx:va}(Q:∀h s rd wk,SwI q h0 h s a ms rd w wk->it.ok h)(bd:∀o∈O,o<h0.length)(hq:q∈O)(r:Rps q h0 O [sh,od,kn] [v0,v1,v2]):
  ∀(ds:SV)(xs:SM)(rd:List Rd)(wk:SV)(dst di df:So)(ck cv cst ci cf:Ss)(h:MH)(s:b_),d_ ds=I->Rps 0 [] [] ds xs->OR dst cst->OR di ci->OR df cf->SwI q h0 h s a ms rd w wk->eZ sh od kn ds rd wk dst di df s=.exc cx s' ->
  ∃h' an al Z',wM it (wK (mh (ki 5) (mh (ki 6) wH)) 2) Eo xs [J v0,J v1,J v2,J (.loc a),J (.loc w),ck,cv,cst,ci,cf] h=.exc cx Z' h'/\SwI q h0 h' s' a ms an w al
 |[],xs,rd,wk,dst,di,df,ck,cv,cst,ci,cf,h,s,fd,rx,k3,k4,k5,u,e=>by
  unfold eZ at e;cases e
 |c::cs,xs,rd,wk,dst,di,df,ck,cv,cst,ci,cf,h,s,fd,rx,k3,k4,k5,u,e=>by
  have U:=bd q hq;simp only[d_,Bw]at fd;obtain⟨dk,dv,rfl⟩:=uw (by rw[e];exact λz=>nomatch z);unfold eZ at e;obtain⟨vx,xr,rfl,ar,rr⟩:=rx;obtain⟨ys,rfl,ry⟩:=ar;obtain⟨F,yr,rfl,a5,C,a4,rfl,a7,W⟩:=ry;rw[show a4=[]from W];have fk:flat dk=I/\flat dv=I:=by simpa [flat,d_]using fd.1
  have o1:OR (J dk) (J F):=λz R=>by cases R;exact⟨fk.1,_,rfl,a5⟩
  have o2:OR (J dv) (J C):=λz R=>by cases R;exact⟨fk.2,_,rfl,a7⟩
  have c1:=sC u bd hq r o1 o2 k3 k4 k5;have ke:=iM.ok c1;rw[eM (Q h _ _ _ u) (show wK (mh (ki 5) (mh (ki 6) wH)) 2 (.tup [F,C]) [J v0,J v1,J v2,J (.loc a),J (.loc w),ck,cv,cst,ci,cf] h=.nx [J v0,J v1,J v2,J (.loc a),J (.loc w),J F,J C,cst,ci,cf] h from rfl)]
  split at e
  .rename_i x y Z l s1 ee
   rw[ee]at ke;obtain⟨v,L,em,kb,pn,_,rz,_⟩:=ke;have I1:=u.kb U kb pn
   split at e
   .rename_i ab
    obtain⟨P,wl,_,_⟩:=ab
    split at e
    .rename_i X i2 f2 s2 ei
     have rv:Rp 0 [] [] (.tup [x,y,Z,.tup l]) v:=Rp.fq P (rz rfl);have a6:flat x=I/\flat y=I/\flat Z=I/\d_ l=I:=by simpa [flat,d_]using P
     have B:=rv;obtain⟨us,rfl,ru⟩:=rv;obtain⟨S,t1,rfl,a8,M,t2,rfl,bm,H,t3,rfl,a0,u4,t4,rfl,as,ak⟩:=ru;rw[show t4=[]from ak]at B em;obtain⟨i,rfl,r4⟩:=as;obtain⟨h2,a3,a1,e2,E,q4,q5⟩:=nB (it:=⟨i,[]⟩) (λ_=>dD.mpr trivial) bd hq r o1 o2 P B (pv:=H) rfl a0 l i rd _ _ _ _ L s1 a6.2.2.2 r4 k4 k5 I1 ei;obtain⟨G,ew,rw'⟩:=E.wx;have a9:G.length=wk.length:=rw'.length;have ap:=aG ew;have I3:SwI q h0 (h2.set w (.lst (G++[.tup [S,M,H,.tup i]]))) s2 a ms X w (wk++[.tup [x,y,Z,.tup l]]):=by
      have wge:=E.wge;refine⟨by rw[Na];exact E.len,λj hj nq=>(n8 (by ext)).trans (E.mv j hj nq),?_,E.gr.keep λj hj=>n8 λz=>E.wno (by rw[z];exact hj),⟨_,x4 ap,rw'.app ⟨_,_,rfl,B,rfl⟩⟩,?_,wge,E.wno⟩
      .have:=E.pen
       unfold bc at this ⊢;rw[n8 (by ext)];exact this
      .exact kR E.wf P
     have o3:OR (J (.tup [x,y,Z,.tup l])) (J (.tup [S,M,H,.tup i])):=λz R=>by cases R;exact⟨P,_,rfl,B⟩
     obtain⟨h4,ai,a2,Z4,e4,I4⟩:=vP Q bd hq r cs xr X _ _ _ _ (J F) (J C) _ _ _ _ s2 fd.2 rr o3 q4 q5 I3 e;refine⟨h4,ai,a2,Z4,?_,I4⟩;have b:Eo [J v0,J v1,J v2,J (.loc a),J (.loc w),J F,J C,cst,ci,cf] h=.nx [J v0,J v1,J v2,J (.loc a),J (.loc w),J F,J C,J (.tup [S,M,H,.tup i]),a3,a1] (h2.set w (.lst (G++[.tup [S,M,H,.tup i]]))):=by unfold Eo;rw[bK,eQ,em,aw,MM.ax,bK,eR];have i3:cS (aA be (am 7) (mC (.int 3))) ([J v0,J v1,J v2,J (.loc a),J (.loc w),J F,J C,cst,ci,cf].set 7 (J (.tup [S,M,H,.tup i]))) L=.ok ⟨i,[]⟩ L:=rfl;rw[i3,aw];refine(congrArg (λz:SOut=>z.then _) e2).trans ?_;rw[MM.ax,lF,yS];simp only[pr,pg,Out.bind_ok,cN,fN,ew,ph ew (show G.length<1000 by ext)];rfl
     rw[b];exact e4
    .cases e
   .cases e
  .rename_i c s1 ee
   cases e;rw[ee]at ke;obtain⟨L,em,kb,pn⟩:=ke;have b:Eo [J v0,J v1,J v2,J (.loc a),J (.loc w),J F,J C,cst,ci,cf] h=.exc cx [J v0,J v1,J v2,J (.loc a),J (.loc w),J F,J C,cst,ci,cf] L:=by unfold Eo;rw[bK,eQ,em];rfl
   rw[b];exact⟨L,rd,wk,_,rfl,u.kb U kb pn⟩
  .cases e
def qL{L:Nat}{r:Rd}{xs:SM}(g:Gr h L a ms rd)(hL:L<=h.length)(u:d_ r.2=I)(l:Rps 0 [] [] r.2 xs):Gr ((h++[mo r.1 xs]).set a (.lst (ms.map .loc++[.loc h.length]))) L a (ms++[h.length]) (rd++[r]):=by
 have F:=aG g.top;have nd:=g.nd;have lt:=g.lt;rw[x6]at nd;refine⟨by rw[x4 (by simp;ext),Jw];rfl,by simp[g.len],?_,λm j=>?_,λi x ex=>?_⟩
 .rw[<-Ox,Op];refine⟨g.nd,by simp,λx C y E=>?_⟩
  have:=lt x C
  have:y=h.length:=by simpa using E
  ext
 .rw[<-Ox]at j;rcases Ci.mp j with z|z
  .exact g.ge m z
  .have:m=h.length:=by simpa using z
   ext
 .have gl:=g.len;by_cases z:i<rd.length
  .rw[qs z]at ex;obtain⟨f,m,ys,e1,e2,e3⟩:=g.row i x ex;have ne:a≠m:=λy=>nd.1 (y▸BA e1);exact⟨f,m,ys,by rw[qs (by ext)];exact e1,by rw[n8 ne,qs (aG e2)];exact e2,e3⟩
  .rw[BL (by ext)]at ex;have B:i-rd.length=0:=by
    have:=(qi.mp ex).1
    simp at this;ext
   rw[B]at ex;cases ex;refine⟨u,h.length,xs,?_,?_,l⟩
   .rw[BL (by ext),show i-ms.length=0 by ext];rfl
   .rw[n8 (by ext)];simp
def qh{it:MIt}(B:∀h,it.ok h):∀(i:SV)(j:SM)(rd u:List Rd)(ms:SU)(z:Ss)(h:MH),hJ i=J rd->Rps q h0 O i j->Gr h h0.length a ms u->h0.length<=h.length->(∀n:Nat,n<h0.length->h[n]?=h0[n]?)->ms.length+i.length<1000 ->
  ∃h' y,A_ it a (ki 0) m_ (sk wh (aj (am 0) f_)) j [z] h=.ok () h'/\Gr h' h0.length a y (u++rd)/\h0.length<=h'.length/\∀n:Nat,n<h0.length->h'[n]?=h0[n]?
 |[],j,rd,u,ms,z,h,e,r,g,hl,kp,C=>by
  unfold hJ at e;cases e;rw[show j=[]from r,Ju];exact⟨h,ms,ku (B h),g,hl,kp⟩
 |d::i,j,rd,u,ms,z,h,e,r,g,hl,kp,C=>by
  unfold hJ at e
  split at e
  .rename_i l t ed W
   split at e
   .rename_i F
    cases e;obtain⟨v,U,rfl,X,Q⟩:=r;obtain⟨E,S,rk⟩:=ze X ed;obtain⟨H,s2⟩:=mV rk;have g2:=qL g (r:=(J (l.map (·.1)),l.map (·.2))) (xs:=E.map (·.2)) hl F (Rps.fq F s2);have L:=g.ge a (by simp);obtain⟨h',y,Z,G,M,k'⟩:=qh B i U t _ _ (J v) _ W Q g2 (by simp;ext) (λn R=>by rw[n8 (by ext),qs (by ext)];exact kp n R) (by simp at C ⊢;ext);refine⟨h',y,?_,by rw[J0]at G;exact G,M,k'⟩;have P:wh [v] h=.ok (.loc h.length) (h++[mo (J (l.map (·.1))) (E.map (·.2))]):=by simp only[wh,S,H];rfl
    rw[kI (Z1:=[J v]) (h1:=h) (h2:=h) (v:=.loc h.length) (h3:=h++[mo (J (l.map (·.1))) (E.map (·.2))]) (ys:=ms.map .loc) (B h) rfl rfl (by simp[P]) (by rw[qs (aG g.top)];exact g.top) (by simp at C ⊢;ext)];exact Z
   .cases e
  .cases e
end
def uB{q:Nat}{h:MH}{O:SU}{j:SV}{xs:SM}(r:Rps q h O j xs):Rps q h O (br j) (c8 xs):=by
 refine sO (by simp[br,c8,r.length]) λi d v e1 e2=>?_;unfold br at e1;unfold c8 at e2;rw[r6,Jp]at e1 e2
 cases a:j[i]? with
 |none=>rw[a]at e1;cases e1
 |some x =>
  obtain⟨y,l,u⟩:=r.get a;rw[a]at e1;rw[l]at e2;simp at e1 e2;subst e1 e2;exact⟨_,rfl,_,_,rfl,rfl,_,_,rfl,u,rfl⟩
def iU{i:SV}(f:d_ i=I):d_ (br i)=I:=by
 have:∀(a:SV),(∀d∈a,flat d=I)->d_ a=I:=λa=>by
  induction a with
  |nil=>intro;rfl
  |cons z a l=>intro h;simp only[d_,Bw];exact⟨h z (by simp),l λd hd=>h d (pj _ hd)⟩
 refine this _ λd hd=>?_;unfold br at hd;obtain⟨p,j,rfl⟩:=se.mp hd
 have:=mK f (List.fst_mem_of_mem_zipIdx j)
 simp[flat,d_,this]
def lT:Fn where
 m:=cU
 p:=λds s=>match ds with
  |[sh,.lst od,kn]=>if d_ od=I then N3 [sh,.lst od,kn] s else .bad
  |_=>.bad
 fr:=I
 ok {q h O vs ds s} bd hq pn r:=by
  split
  .rename_i sh od kn
   split
   .rename_i fo
    unfold N3;split
    .rename_i n L bm a8 an
     cases an;split
     .rename_i rd er
      split
      .rename_i lr
       split
       .rename_i wk s' eg
        have S:=r;obtain⟨v0,t0,rfl,M,v1,t1,rfl,U,C,t2,rfl,as,Q⟩:=r;rw[show t2=[]from Q]at S ⊢;obtain⟨ys,rfl,ry⟩:=M;obtain⟨E,u1,rfl,a0,y2,u2,rfl,Z,X⟩:=ry;rw[show u2=[]from X]at S ⊢;obtain⟨l,rfl,rr⟩:=Z;obtain⟨y,B,rfl,nO,G,ro⟩:=U;have ab:q<h.length:=bd q hq;obtain⟨u,H,e1,W,l1,k1⟩:=qh (q:=q) (h0:=h) (O:=O) (a:=h.length) (it:=⟨l,[]⟩) (λ_=>dD.mpr trivial) L l rd [] [] Y (h++[.lst []]) er rr ⟨by simp,rfl,by simp,λm R=>by simp at R;ext,λi r e=>by simp at e⟩ (by simp) (λn Q=>qs Q) (by simp;ext);have c3:bM 3 (bO 1 [] (cS (aA be (am 0) (mC (.int 1)))) (ki 0) m_ (sk wh (aj (am 0) f_))) [J (.tup [E,.tup l]),J (.loc y),J C,Y,Y,Y,Y,Y,Y,Y] h=.nx [J (.tup [E,.tup l]),J (.loc y),J C,J (.loc h.length),Y,Y,Y,Y,Y,Y] u:=by rw[eQ,gN];have i1:cS (aA be (am 0) (mC (.int 1))) [J (.tup [E,.tup l]),J (.loc y),J C,Y,Y,Y,Y,Y,Y,Y] h=.ok ⟨l,[]⟩ h:=rfl;rw[i1,Out.bind_ok];refine(congrArg (λz:Out Unit=>(z.bind _).go _ _) e1).trans ?_;rfl
        have I0:SwI q h (u++[.lst []]) s h.length H rd u.length []:=by
         have l0:h.length<=u.length:=l1;refine⟨by simp;ext,λj P nq=>by rw[qs (by ext)];exact k1 j P,?_,(by simpa using W:Gr u h.length h.length H rd).keep λm R=>qs ((by simpa using W:Gr u h.length h.length H rd).lt m R),⟨[],by simp,rfl⟩,rfl,l0,λz=>?_⟩
         .unfold bc;rw[qs (by ext),k1 q ab];exact pn
         .have:=(by simpa using W:Gr u h.length h.length H rd).lt _ z
          ext
        obtain⟨h2,a1,a9,a3,a2,a7,a6,e2,F⟩:=vF (it:=⟨c8 B,[(y,B)]⟩) (wk':=wk) (s':=s') (λh' s' ar ap ai=>by
         intro p hp
         have:p=(y,B):=by simpa using hp
         subst this
         exact(ai.mv y (aG G) λz=>nO (z▸hq)).trans G) bd hq S (br od) (c8 B) rd [] Y Y Y Y Y Y Y Y (u++[.lst []]) s (iU fo) (Rps.fq (iU fo) (uB ro)) (λ_ z=>by cases z) (λ_ z=>by cases z) (λ_ z=>by cases z) I0 eg
        obtain⟨ak,ew,rw'⟩:=F.wx;have wge:=F.wge;have run:cU [.tup [E,.tup l],.loc y,C] h=.ok (.loc u.length) h2:=by
         unfold cU;rw[eV (by rfl)]
         unfold qb;rw[show bv 10 [.tup [E,.tup l],.loc y,C]=[J (.tup [E,.tup l]),J (.loc y),J C,Y,Y,Y,Y,Y,Y,Y]from rfl];rw[bK,c3,MM.ax,bK];have c4:bM 4 (gG f_) [J (.tup [E,.tup l]),J (.loc y),J C,J (.loc h.length),Y,Y,Y,Y,Y,Y] u=.nx [J (.tup [E,.tup l]),J (.loc y),J C,J (.loc h.length),J (.loc u.length),Y,Y,Y,Y,Y] (u++[.lst []]):=by rw[eQ,ve,fN,Out.bind_ok,lz (by simp)];rfl
         rw[c4,MM.ax,bK,eR];have c5:n5 (aj (am 1) f_) [J (.tup [E,.tup l]),J (.loc y),J C,J (.loc h.length),J (.loc u.length),Y,Y,Y,Y,Y] (u++[.lst []])=.ok ⟨c8 B,[(y,B)]⟩ (u++[.lst []]):=by have e9:(u++[MO.lst []])[y]?=J (.lst B):=(I0.mv y (aG G) λz=>nO (z▸hq)).trans G;unfold n5;simp only[cN,pr,pg,Out.bind_ok,fN,bT,e9]
         rw[c5,aw];refine(congrArg (λz:SOut=>(z.then _).fin) e2).trans ?_;rfl
        have al:Rps q h2 O wk ak:=Rps.fq F.wf rw';refine⟨.loc u.length,h2,run,⟨F.len,λj P nq=>F.mv j P nq⟩,F.pen,⟨u.length,ak,rfl,λz=>by have:=bd _ z;ext,ew,al⟩,λ_ k a5 e=>?_⟩
        cases k with
        |none=>cases e;exact⟨_,_,rfl,wge,ew,Rps.fq F.wf rw'⟩
        |some _=>cases e
       .rename_i cx s' eg
        have S:=r;obtain⟨v0,t0,rfl,M,v1,t1,rfl,U,C,t2,rfl,as,Q⟩:=r;rw[show t2=[]from Q]at S ⊢;obtain⟨ys,rfl,ry⟩:=M;obtain⟨E,u1,rfl,a0,y2,u2,rfl,Z,X⟩:=ry;rw[show u2=[]from X]at S ⊢;obtain⟨l,rfl,rr⟩:=Z;obtain⟨y,B,rfl,nO,G,ro⟩:=U;have ab:q<h.length:=bd q hq;obtain⟨u,H,e1,W,l1,k1⟩:=qh (q:=q) (h0:=h) (O:=O) (a:=h.length) (it:=⟨l,[]⟩) (λ_=>dD.mpr trivial) L l rd [] [] Y (h++[.lst []]) er rr ⟨by simp,rfl,by simp,λm R=>by simp at R;ext,λi r e=>by simp at e⟩ (by simp) (λn Q=>qs Q) (by simp;ext);have c3:bM 3 (bO 1 [] (cS (aA be (am 0) (mC (.int 1)))) (ki 0) m_ (sk wh (aj (am 0) f_))) [J (.tup [E,.tup l]),J (.loc y),J C,Y,Y,Y,Y,Y,Y,Y] h=.nx [J (.tup [E,.tup l]),J (.loc y),J C,J (.loc h.length),Y,Y,Y,Y,Y,Y] u:=by rw[eQ,gN];have i1:cS (aA be (am 0) (mC (.int 1))) [J (.tup [E,.tup l]),J (.loc y),J C,Y,Y,Y,Y,Y,Y,Y] h=.ok ⟨l,[]⟩ h:=rfl;rw[i1,Out.bind_ok];refine(congrArg (λz:Out Unit=>(z.bind _).go _ _) e1).trans ?_;rfl
        have I0:SwI q h (u++[.lst []]) s h.length H rd u.length []:=by
         have l0:h.length<=u.length:=l1;refine⟨by simp;ext,λj P nq=>by rw[qs (by ext)];exact k1 j P,?_,(by simpa using W:Gr u h.length h.length H rd).keep λm R=>qs ((by simpa using W:Gr u h.length h.length H rd).lt m R),⟨[],by simp,rfl⟩,rfl,l0,λz=>?_⟩
         .unfold bc;rw[qs (by ext),k1 q ab];exact pn
         .have:=(by simpa using W:Gr u h.length h.length H rd).lt _ z
          ext
        obtain⟨h2,a1,a4,Z2,e2,F⟩:=vP (it:=⟨c8 B,[(y,B)]⟩) (cx:=cx) (s':=s') (λh' s' ar ap ai=>by
         intro p hp
         have:p=(y,B):=by simpa using hp
         subst this
         exact(ai.mv y (aG G) λz=>nO (z▸hq)).trans G) bd hq S (br od) (c8 B) rd [] Y Y Y Y Y Y Y Y (u++[.lst []]) s (iU fo) (Rps.fq (iU fo) (uB ro)) (λ_ z=>by cases z) (λ_ z=>by cases z) (λ_ z=>by cases z) I0 eg
        have run:cU [.tup [E,.tup l],.loc y,C] h=.exc cx h2:=by
         unfold cU;rw[eV (by rfl)]
         unfold qb;rw[show bv 10 [.tup [E,.tup l],.loc y,C]=[J (.tup [E,.tup l]),J (.loc y),J C,Y,Y,Y,Y,Y,Y,Y]from rfl];rw[bK,c3,MM.ax,bK];have c4:bM 4 (gG f_) [J (.tup [E,.tup l]),J (.loc y),J C,J (.loc h.length),Y,Y,Y,Y,Y,Y] u=.nx [J (.tup [E,.tup l]),J (.loc y),J C,J (.loc h.length),J (.loc u.length),Y,Y,Y,Y,Y] (u++[.lst []]):=by rw[eQ,ve,fN,Out.bind_ok,lz (by simp)];rfl
         rw[c4,MM.ax,bK,eR];have c5:n5 (aj (am 1) f_) [J (.tup [E,.tup l]),J (.loc y),J C,J (.loc h.length),J (.loc u.length),Y,Y,Y,Y,Y] (u++[.lst []])=.ok ⟨c8 B,[(y,B)]⟩ (u++[.lst []]):=by have e9:(u++[MO.lst []])[y]?=J (.lst B):=(I0.mv y (aG G) λz=>nO (z▸hq)).trans G;unfold n5;simp only[cN,pr,pg,Out.bind_ok,fN,bT,e9]
         rw[c5,aw];refine(congrArg (λz:SOut=>(z.then _).fin) e2).trans ?_;rfl
        exact⟨h2,run,⟨F.len,λj P nq=>F.mv j P nq⟩,F.pen⟩
       .trivial
      .trivial
     .trivial
    .trivial
   .trivial
  .trivial
def jk:Xd []:=(aF (sG (ah dR (aa (aX (aa (ae h_ (ac 0) (xC (.int 0))) (aa (aX a_) a_))) (aa (ac 1) a_))))
 (aN (ah lT (aa (ac 0) (aa (ac 1) (aa DF a_))))))
def dL:Fn:=bB 2 2 jk
def ya{a:SV}{s:b_}(h:a.length=2):dL.p a s=(jk.p (k_ 2 a) s).fin:=aW h
def tR:Xe []:=(aX (aa (ac 0) (aa (n4 bZ (aa (bh 1 [0] (bL (ac 2)) (ws':=[]) (lf 0) oh (ah cz (aa (ac 0) (aa (n4 Fx (aa (ac 1) a_)) a_)))) a_)) a_)))
def N4:nr:=jD (fu d4 (aj (aA be (am 2) (am 7)) (aj (am 8) (aj (aA jj (cq (aj (cq (aj (am 3) (aj (am 4) f_))) f_)) (am 5)) f_))))
def N5:nr:=iz (cS (aA jj (cq (aj (cq (aj (am 3) (aj (mC (.tup [.int 1,.int 1])) f_))) f_)) (am 6))) (wK (mh (ki 7) (mh (ki 8) wH)) 2) N4
def wY:nr:=cj (bM 2 (bO 1 [] (dJ (aj (am 0) f_)) (ki 0) m_ B8))
 (cj (iz (cS (am 1)) (wK (mh (ki 3) (mh (ki 4) (mh (ki 5) (mh (ki 6) wH)))) 4) N5)
 (du tR.m))
def fZ:SM->MH->SH:=cE 9 2 wY
def Mt(rd:List Rd)(n a:D):ay:=[J n,J a,J (cO rd),Y,Y,Y,Y,Y,Y]
def jR(i:D):SV->List Rd->b_->Option (List Rd×b_)
 |[],rd,s=>J (rd,s)
 |.tup [.int j,u]::r,rd,s=>(match wG rd.length j with
  |some n=>(match iK rd n u i s with
   |some (a,l)=>jR i r a l
   |none=>Y)
  |none=>Y)
 |_,_,_=>Y
def Ep:SV->List Rd->b_->Option (List Rd×b_)
 |[],rd,s=>J (rd,s)
 |.tup [v,p,.tup j,.tup i]::r,rd,s=>if j.length<900/\i.length<900 then (match jR (.tup (.tup [v,p]::j)) (.tup [v,.tup [.int 1,.int 1]]::i) rd s with
  |some (a,l)=>Ep r a l
  |none=>Y)else Y
 |_,_,_=>Y
def N6(j:SV)(s:b_):PR D:=match j with
 |[.int n,.lst a]=>if d_ a=I/\0<=n/\n<900 then (match Ep a (List.replicate n.toNat (J [],[])) s with
  |some (rd,i)=>(match tR.p (Mt rd (.int n) (.lst a)) i with
   |.ok d l=>if flat d=I then .ok d l else .bad
   |_=>.bad)
  |none=>.bad)else .bad
 |_=>.bad
structure PbI(q:Nat)(h0 h:MH)(s:b_)(a:Nat)(ms:SU)(rd:List Rd):Prop where
 len:h0.length<=h.length
 mv:∀n:Nat,n<h0.length->n≠q->h[n]?=h0[n]?
 pen:bc h q s
 gr:Gr h h0.length a ms rd
section
variable{q:Nat}{h0 h h':MH}{s s':b_}{a:Nat}{ms:SU}{rd rd':List Rd}{O:SU}{n wk:D}{v0 v1:PV}
def PbI.kb(i:PbI q h0 h s a ms rd)(z:q<h0.length)(k:KB q h h')(pn:bc h' q s'):PbI q h0 h' s' a ms rd:=by have l:=i.len;exact⟨n_ i.len k.len,λn y u=>(k.keep n (by ext) u).trans (i.mv n y u),pn,i.gr.keep λm j=>k.keep m (i.gr.lt m j) (by have:=i.gr.ge m j;ext)⟩
def Mu{e3 e4 e5 e6 e7 e8:Ss}(j:PbI q h0 h s a ms rd)(bd:∀o∈O,o<h0.length)(C:q∈O)(r:Rps q h0 O [n,wk] [v0,v1]):PU.Cx q h h.length O O [] [J v0,J v1,J (.loc a),e3,e4,e5,e6,e7,e8] (Mt rd n wk) s:=by
 have l:=j.len;have mv:Mv O h0 O h:=⟨λn F y=>j.mv n F λz=>y (z▸C),λo u=>.inl u⟩;have B:=r.mv mv;refine⟨λo u=>by have:=bd o u;ext,λo u=>u,λo u=>by have:=bd o u;ext,C,l_ _,j.pen,rfl,λi d e _=>?_,λi d e E=>by cases E⟩
 match i,e with
 |0,e=>cases e;obtain⟨v,e,q⟩:=B.get (i:=0) rfl;cases e;exact⟨_,rfl,q⟩
 |1,e=>cases e;obtain⟨v,e,q⟩:=B.get (i:=1) rfl;cases e;exact⟨_,rfl,q⟩
 |2,e=>cases e;exact⟨_,rfl,j.gr.rp λm G y=>by have:=j.gr.ge m G;have:=bd m y;ext⟩
 |3,e=>cases e
 |4,e=>cases e
 |5,e=>cases e
 |6,e=>cases e
 |7,e=>cases e
 |8,e=>cases e
 |n+9,e=>simp[Mt]at e
def zS{n m:Nat}{g ps:D}{C pv:PV}(i:PbI q h0 h s a ms rd)(bd:∀o∈O,o<h0.length)(G:q∈O)(em:ms[n]?=J m)(S:Rp 0 [] [] g C)(rp:Rp 0 [] [] ps pv)(e:iK rd n g ps s=J (rd',s')):
  ∃h',d4 [.loc m,C,pv] h=.ok .non h'/\PbI q h0 h' s' a ms rd':=by
 unfold iK at e
 split at e
 .rename_i r P
  split at e
  .rename_i E s1 eb
   split at e
   .rename_i ks R e0
    split at e
    .rename_i Z
     obtain⟨fd,H,fp⟩:=Z;cases e;obtain⟨fr,m',xs,l,eh,Q⟩:=i.gr.row n r P;rw[em]at l;cases l;have L:=pj a (BA em);have W:=i.gr.ge m L;obtain⟨h',e1,X,kp,pn,O',U,z,y⟩:=sL (B:=bF) (n:=5) (np:=3) (m:=m) (k:=r.1) (k':=J ks) (ds:=r.2) (ds':=R) (as:=[g,ps]) (vs:=[C,pv]) (λo ho=>by have:=bd o ho;ext) G i.pen eh fr Q (by simp[d_,H,fp]) ⟨_,_,rfl,S,_,_,rfl,rp,rfl⟩ rfl (by decide) xM eb e0;have M:=bd q G;exact⟨h',e1,n_ i.len X,λj u F=>(kp j (by have:=i.len;ext) (by ext) F).trans (i.mv j u F),pn,i.gr.put em fd z (Rps.fq fd y) λj u ne=>kp j (i.gr.lt j u) ne (by have:=i.gr.ge j u;ext)⟩
    .cases e
   .cases e
  .cases e
 .cases e
def AZ{l c:D}{u:SV}{z:List Rd×b_}(e:jR l (c::u) rd s=J z):∃j x,c=.tup [.int j,x]:=by
 unfold jR at e
 split at e
 .rename_i i;cases i
 .rename_i i;cases i;exact⟨_,_,rfl⟩
 .cases e
def Er{x:D}{xs:SV}{z:List Rd×b_}(j:Ep (x::xs) rd s=J z):∃v p u l,x=.tup [v,p,.tup u,.tup l]:=by
 unfold Ep at j
 split at j
 .rename_i i;cases i
 .rename_i i;cases i;exact⟨_,_,_,_,rfl⟩
 .cases j
def FE{x y:PV}{xs:SM}{e0:Ss}{Z:p_}{m1 m2 m3:Mx PV}(u:m1 Z h=.ok x h)(B:m2 Z h=.ok y h)(z:m3 Z h=.ok (.tup xs) h)(l:xs.length<900):aA jj (cq (aj (cq (aj m1 (aj m2 f_))) f_)) m3 Z h=.ok (.tup (.tup [x,y]::xs)) h:=by
 have i:lw [PV.tup [x,y]] h=.ok (.tup [.tup [x,y]]) h:=by unfold lw;rw[e_ (n_ (show _<=1000 by simp) (by decide))]
 have t2:lw [x,y] h=.ok (.tup [x,y]) h:=by unfold lw;rw[e_ (n_ (show _<=1000 by simp) (by decide))]
 have j:jj (.tup [.tup [x,y]]) (.tup xs) h=.ok (.tup (.tup [x,y]::xs)) h:=by show(if [PV.tup [x,y]]≠[]then lw ([PV.tup [x,y]]++xs) h else .bad)=_;rw[e_ (by simp)];unfold lw;rw[e_ (n_ (show _<=1000 by simp;ext) (by decide))];rfl
 simp[cq,u,B,z,i,t2,j]
def vY{it:MIt}{v p:D}{L:SV}{u pv:PV}{i:SM}{e6:Ss}(G:∀h,it.ok h)(bd:∀o∈O,o<h0.length)(hq:q∈O)(rv:Rp 0 [] [] v u)(rp:Rp 0 [] [] p pv)(F:Rps 0 [] [] L i)(lr:L.length<900):
  ∀(P:SV)(xs:SM)(rd:List Rd)(Q H:Ss)(h:MH)(s:b_),d_ P=I->Rps 0 [] [] P xs->PbI q h0 h s a ms rd->jR (.tup (.tup [v,p]::L)) P rd s=J (rd',s') ->
  ∃h' C E,wM it (wK (mh (ki 7) (mh (ki 8) wH)) 2) N4 xs [J v0,J v1,J (.loc a),J u,J pv,J (.tup i),e6,Q,H] h=.nx [J v0,J v1,J (.loc a),J u,J pv,J (.tup i),e6,C,E] h'/\PbI q h0 h' s' a ms rd'
 |[],xs,rd,Q,H,h,s,fd,S,l,z=>by
  unfold jR at z;cases z;rw[show xs=[]from S];exact⟨h,Q,H,gH (G h),l⟩
 |x::P,xs,rd,Q,H,h,s,fd,S,l,z=>by
  obtain⟨j,df,rfl⟩:=AZ z;simp only[d_,Bw]at fd;unfold jR at z;obtain⟨vx,xr,rfl,W,rr⟩:=S;obtain⟨ys,rfl,ry⟩:=W;obtain⟨y1,yr,rfl,U,B,R,rfl,X,M⟩:=ry;rw[show R=[]from M,show y1=PV.int j from U]
  split at z
  .rename_i n en
   split at z
   .rename_i ab s2 ea
    have nl:n<rd.length:=(L2.j8 en).2.1;obtain⟨m,hm⟩:∃m,ms[n]?=J m:=⟨ms[n]'(by rw[l.gr.len];exact nl),zL _⟩;obtain⟨h1,e1,I1⟩:=zS (ps:=.tup (.tup [v,p]::L)) (pv:=.tup (.tup [u,pv]::i)) l bd hq hm X ⟨_,rfl,_,_,rfl,⟨_,rfl,_,_,rfl,rv,_,_,rfl,rp,rfl⟩,F⟩ ea;obtain⟨h2,C,E,e2,I2⟩:=vY G bd hq rv rp F lr P xr ab _ _ h1 s2 fd.2 rr I1 z;refine⟨h2,C,E,?_,I2⟩;have ai:nw (ms.map PV.loc) j=J (.loc m):=by unfold nw;rw[xg,l.gr.len,en,F5,r6,hm];rfl
    have rl:i.length=L.length:=F.length;rw[eM (G h) (show wK (mh (ki 7) (mh (ki 8) wH)) 2 (.tup [.int j,B]) [J v0,J v1,J (.loc a),J u,J pv,J (.tup i),e6,Q,H] h=.nx [J v0,J v1,J (.loc a),J u,J pv,J (.tup i),e6,J (.int j),J B] h from rfl)];have ak:N4 [J v0,J v1,J (.loc a),J u,J pv,J (.tup i),e6,J (.int j),J B] h=.nx [J v0,J v1,J (.loc a),J u,J pv,J (.tup i),e6,J (.int j),J B] h1:=by
     have b1:aA be (am 2) (am 7) [J v0,J v1,J (.loc a),J u,J pv,J (.tup i),e6,J (.int j),J B] h=.ok (.loc m) h:=by simp[fE l.gr.top,ai]
     have b2:=FE (h:=h) (Z:=[J v0,J v1,J (.loc a),J u,J pv,J (.tup i),e6,J (.int j),J B]) (m1:=am 3) (m2:=am 4) (m3:=am 5) (e0:=Y) (x:=u) (y:=pv) (xs:=i) rfl rfl rfl (by ext);unfold N4;rw[lF,sU,cN,b1,Out.bind_ok,cN,show am 8 [J v0,J v1,J (.loc a),J u,J pv,J (.tup i),e6,J (.int j),J B] h=.ok B h from rfl,Out.bind_ok,cN,b2,Out.bind_ok,fN];simp only[Out.bind_ok];rw[e1];rfl
    rw[ak];exact e2
   .cases z
  .cases z
def yF{it:MIt}(F:∀h s rd,PbI q h0 h s a ms rd->it.ok h)(bd:∀o∈O,o<h0.length)(hq:q∈O):
  ∀(M:SV)(xs:SM)(rd:List Rd)(e3 e4 e5 Q B z:Ss)(h:MH)(s:b_),d_ M=I->Rps 0 [] [] M xs->PbI q h0 h s a ms rd->Ep M rd s=J (rd',s') ->
  ∃h' E R ab ak G H,wM it (wK (mh (ki 3) (mh (ki 4) (mh (ki 5) (mh (ki 6) wH)))) 4) N5 xs [J v0,J v1,J (.loc a),e3,e4,e5,Q,B,z] h=.nx [J v0,J v1,J (.loc a),E,R,ab,ak,G,H] h'/\PbI q h0 h' s' a ms rd'
 |[],xs,rd,e3,e4,e5,Q,B,z,h,s,fd,rx,l,u=>by
  unfold Ep at u;cases u;rw[show xs=[]from rx];exact⟨h,e3,e4,e5,Q,B,z,gH (F h _ _ l),l⟩
 |x::M,xs,rd,e3,e4,e5,Q,B,z,h,s,fd,rx,l,u=>by
  obtain⟨v,p,rs,cs,rfl⟩:=Er u;simp only[d_,Bw]at fd;have fk:flat v=I/\flat p=I/\d_ rs=I/\d_ cs=I:=by simpa [flat,d_]using fd.1
  unfold Ep at u;obtain⟨vx,xr,rfl,U,rr⟩:=rx;obtain⟨us,rfl,ru⟩:=U;obtain⟨C,t1,rfl,L,P,t2,rfl,ai,u3,t3,rfl,X,u4,t4,rfl,W,S⟩:=ru;rw[show t4=[]from S];obtain⟨j,rfl,r3⟩:=X;obtain⟨i,rfl,r4⟩:=W
  split at u
  .rename_i lc
   split at u
   .rename_i al s2 e2
    have cl:i.length=cs.length:=r4.length;obtain⟨h1,G,H,e1,I1⟩:=vY (it:=⟨.tup [C,.tup [.int 1,.int 1]]::i,[]⟩) (v0:=v0) (v1:=v1) (e6:=J (.tup i)) (λ_=>dD.mpr trivial) bd hq L ai r3 lc.1 (.tup [v,.tup [.int 1,.int 1]]::cs) (.tup [C,.tup [.int 1,.int 1]]::i) rd B z h s (by simp[d_,flat,fk.1,fk.2.2.2]) ⟨_,_,rfl,⟨_,rfl,_,_,rfl,L,_,_,rfl,⟨_,rfl,_,_,rfl,rfl,_,_,rfl,rfl,rfl⟩,rfl⟩,r4⟩ l e2;obtain⟨h2,f3,f4,f5,f6,f7,f8,E,I2⟩:=yF F bd hq M xr al _ _ _ _ _ _ h1 s2 fd.2 rr I1 u;refine⟨h2,f3,f4,f5,f6,f7,f8,?_,I2⟩;rw[eM (F h _ _ l) (show wK (mh (ki 3) (mh (ki 4) (mh (ki 5) (mh (ki 6) wH)))) 4 (.tup [C,P,.tup j,.tup i]) [J v0,J v1,J (.loc a),e3,e4,e5,Q,B,z] h=.nx [J v0,J v1,J (.loc a),J C,J P,J (.tup j),J (.tup i),B,z] h from rfl)];have b2:=FE (h:=h) (Z:=[J v0,J v1,J (.loc a),J C,J P,J (.tup j),J (.tup i),B,z]) (m1:=am 3) (m2:=mC (.tup [.int 1,.int 1])) (m3:=am 6) (e0:=Y) (x:=C) (y:=.tup [.int 1,.int 1]) (xs:=i) rfl rfl rfl (by ext);have b:N5 [J v0,J v1,J (.loc a),J C,J P,J (.tup j),J (.tup i),B,z] h=.nx [J v0,J v1,J (.loc a),J C,J P,J (.tup j),J (.tup i),G,H] h1:=by unfold N5;rw[eR,qg,b2,Out.bind_ok];exact e1
    rw[b];exact E
   .cases u
  .cases u
def yZ{it:MIt}(u:∀h,it.ok h):∀(xs:SM)(i:List Rd)(ms:SU)(z:Ss)(h:MH),Gr h h0.length a ms i->h0.length<=h.length->(∀j:Nat,j<h0.length->h[j]?=h0[j]?)->ms.length+xs.length<1000 ->
  ∃h' l,A_ it a (ki 0) m_ B8 xs [z] h=.ok () h'/\Gr h' h0.length a l (i++List.replicate xs.length (J [],[]))/\h0.length<=h'.length/\∀j:Nat,j<h0.length->h'[j]?=h0[j]?
 |[],i,ms,z,h,g,hl,kp,y=>⟨h,ms,ku (u h),by simpa using g,hl,kp⟩
 |x::xs,i,ms,z,h,g,hl,kp,y=>by
  have H:=qL g (r:=(J [],[])) (xs:=[]) hl rfl rfl;have C:=g.ge a (by simp);obtain⟨h',l,F,L,E,G⟩:=yZ u xs _ _ (J x) _ H (by simp;ext) (λj B=>by rw[n8 (by ext),qs (by ext)];exact kp j B) (by simp at y ⊢;ext);refine⟨h',l,?_,by rw[BN,F2,List.append_cons];exact L,E,G⟩;rw[kI (Z1:=[J x]) (h1:=h) (h2:=h) (v:=.loc h.length) (h3:=h++[mo (J []) []]) (ys:=ms.map .loc) (u h) rfl rfl rfl (by rw[qs (aG g.top)];exact g.top) (by simp at y ⊢;ext)];exact F
end
def iT:Fn where
 m:=fZ
 p:=N6
 fr:=I
 ok {q h O vs ds s} bd hq pn r:=by
  unfold N6;split
  .rename_i n wk
   split
   .rename_i cn
    obtain⟨S,n0,n9⟩:=cn;split
    .rename_i rd s1 Q
     split
     .rename_i d s2 ed
      split
      .rename_i fd
       have M:=r;obtain⟨v0,t0,rfl,H,v1,t1,rfl,L,G⟩:=r;rw[show t1=[]from G]at M ⊢;rw[show v0=PV.int n from H]at M ⊢;obtain⟨l,u,rfl,W,E,ro⟩:=L;obtain⟨k,rfl⟩:∃k:Nat,n=(k:Int):=⟨n.toNat,by ext⟩;rw[B2]at Q;have C:q<h.length:=bd q hq;obtain⟨y,ms,e1,g1,l1,k1⟩:=yZ (h0:=h) (a:=h.length) (it:=⟨bD 0 k,[]⟩) (λ_=>dD.mpr trivial) (bD 0 k) [] [] Y (h++[.lst []]) ⟨by simp,rfl,by simp,λm hm=>by simp at hm;ext,λi r e=>by simp at e⟩ (by simp) (λn G=>qs G) (by rw[MM.c9];simp;ext);rw[MM.c9,J4]at g1;have R:PbI q h y s h.length ms (List.replicate k (J [],[])):=⟨l1,λj F _=>k1 j F,by unfold bc;rw[k1 q C];exact pn,g1⟩
       obtain⟨h2,f3,f4,f5,f6,f7,f8,em,U⟩:=yF (v0:=.int (k:Int)) (v1:=.loc l) (it:=⟨u,[(l,u)]⟩) (λh' s' ai P=>by
        intro p hp
        have:p=(l,u):=by simpa using hp
        subst this
        exact(P.mv l (aG E) λz=>W (z▸hq)).trans E) bd hq wk u _ Y Y Y Y Y Y y s S (Rps.fq S ro) R Q
       have Z:=tR.ok (Mu (e3:=f3) (e4:=f4) (e5:=f5) (e6:=f6) (e7:=f7) (e8:=f8) U bd hq M);rw[ed]at Z;obtain⟨v,h3,e3,kb,B,_,rz,_⟩:=Z;have X:=U.kb C kb B;have run:fZ [.int (k:Int),.loc l] h=.ok v h3:=by
        unfold fZ;rw[eV (by rfl)];unfold wY;rw[show bv 9 [.int (k:Int),.loc l]=[J (.int (k:Int)),J (.loc l),Y,Y,Y,Y,Y,Y,Y]from rfl];have c2:bM 2 (bO 1 [] (dJ (aj (am 0) f_)) (ki 0) m_ B8) [J (.int (k:Int)),J (.loc l),Y,Y,Y,Y,Y,Y,Y] h=.nx [J (.int (k:Int)),J (.loc l),J (.loc h.length),Y,Y,Y,Y,Y,Y] y:=by rw[eQ,gN,DA (n:=k) (h1:=h) rfl (by ext),Out.bind_ok];refine(congrArg (λz:Out Unit=>(z.bind _).go _ _) e1).trans ?_;rfl
        rw[bK,c2,MM.ax,bK,eR];have c3:cS (am 1) [J (.int (k:Int)),J (.loc l),J (.loc h.length),Y,Y,Y,Y,Y,Y] y=.ok ⟨u,[(l,u)]⟩ y:=by rw[qg];show uq (.loc l) y=_;exact qX ((R.mv l (aG E) λz=>W (z▸hq)).trans E)
        rw[c3,aw];refine(congrArg (λz:SOut=>(z.then _).fin) em).trans ?_;rw[MM.ax,qF,e3];rfl
       refine⟨v,h3,run,⟨X.len,λj F nq=>X.mv j F nq⟩,B,Rp.fq fd (rz rfl),λ_ kk ab e=>?_⟩;rw[e]at fd;cases kk<;>simp[dl,flat]at fd
      .trivial
     .trivial
    .trivial
   .trivial
  .trivial
def qy{h:MH}{p:Nat}{o:MO}(a:p<h.length):(h.set p o)[p]?=J o:=x4 a
def Ry:wG 3 2=J 2:=i5 (n:=3) (m:=2) (by decide)
def Sb:wG 3 1=J 1:=i5 (n:=3) (m:=1) (by decide)
def kH(s:b_)(a:Int)(M:0<a)(hl:a.natAbs.log2<9000):∃x:Int×Int,(0<=x.1/\x.1<a)/\∀(h:MH)(p:Nat),bc h p s->cg [.loc p,.int a] h=.ok (.int x.1) (h.set p (.lst [.int s.1,.int x.2,.int (s.2.2+1)])):=by
 obtain⟨m,c,t⟩:=s;have j:a≠0:=by ext
 have st:∀n:Int,0<=n.fmod a/\n.fmod a<a:=λn=>by
  rw[MZ n (by ext)];exact⟨J5 n j,JZ n M⟩
 by_cases y:m=1
 .subst y;refine⟨(c.fmod a,c.fdiv a),st c,λh p e=>?_⟩;have e:h[p]?=J (.lst [.int 1,.int c,.int t]):=e;have u:p<h.length:=(qi.mp e).1;have e2:(h.set p (.lst [.int 1,.int c,.int (t+1)]))[p]?=J (.lst [.int 1,.int c,.int (t+1)]):=qy u;unfold cg;refine(eV (by rfl)).trans ?_;unfold x3;simp[bv,List.replicate,fE e,kX e,Ry,fE e2,gQ j,uY j,kX e2,Sb]
 .have l:∀n k:Int,0<k->0<=n.fmod k/\n.fmod k<k:=λn k F=>by
   rw[MZ n (by ext)];exact⟨J5 n (by ext),JZ n F⟩
  generalize B:((c+40503*(t+1)+1)*48271).fmod 2147483647=A;have O:=l ((c+40503*(t+1)+1)*48271) 2147483647 (by decide);rw[B]at O;generalize z:(A*(A.fmod 65521+(t+1)+3)).fmod 2147483629=C;have L:=l (A*(A.fmod 65521+(t+1)+3)) 2147483629 (by decide);rw[z]at L;refine⟨((((C*(C.fmod 8191+7)).fmod 2147483563).fdiv 64).fmod a,c),st _,λh p e=>?_⟩;have e:h[p]?=J (.lst [.int m,.int c,.int t]):=e;have u:p<h.length:=(qi.mp e).1;have e2:(h.set p (.lst [.int m,.int c,.int (t+1)]))[p]?=J (.lst [.int m,.int c,.int (t+1)]):=qy u;have G:-(2^64)<A/\A<2^64:=by ext
  have P:-(2^64)<C/\C<2^64:=by ext
  have H:∀{i:Int}{h:MH},lx (.int 40503) (.int i) h=.ok (.int (40503*i)) h:=iW (by decide);have E:∀{i:Int}{h:MH},lx (.int i) (.int 48271) h=.ok (.int (i*48271)) h:=Dq (by decide);unfold cg;refine(eV (by rfl)).trans ?_;unfold x3;simp[bv,List.replicate,fE e,kX e,Ry,fE e2,y,H,E,gQ,B,iW G,z,iW P,uY (show(64:Int)≠0 by decide),gQ j]
open Classical in
def nK(s:b_)(a:Int):Int×Int:=if z:0<a/\a.natAbs.log2<9000 then(kH s a z.1 z.2).choose else(0,0)
def oM(a:SV):SF:=match a with
 |[.pen,.int i]=>J i
 |_=>Y
def wF{a:SV}{i:Int}(e:oM a=J i):a=[.pen,.int i]:=by
 unfold oM at e
 split at e
 .cases e;rfl
 .cases e
open Classical in
def aU:Fn where
 m:=cg
 p:=λi s=>match oM i with
  |some a=>if 0<a/\a.natAbs.log2<9000 then .ok (.int (nK s a).1) (s.1,(nK s a).2,s.2.2+1)else .bad
  |none=>.bad
 fr:=I
 ok {q h O vs i s} bd hq pn r:=by
  cases e:oM i with
  |none=>trivial
  |some a =>
   have:=wF e
   subst this;dsimp only;by_cases z:0<a/\a.natAbs.log2<9000
   .rw[e_ z];obtain⟨x,t,rfl,B,y,C,rfl,E,j⟩:=r;rw[show x=PV.loc q from B,show y=PV.int a from E,show C=[]from j];have k:=(kH s a z.1 z.2).choose_spec.2 h q pn;have l:nK s a=(kH s a z.1 z.2).choose:=by unfold nK;rw[dif_pos z]
    rw[<-l]at k;refine⟨_,_,k,⟨by simp,λn F u=>n8 (Ne.symm u)⟩,qy (aG pn),rfl,λ_ k i e=>by cases k<;>cases e⟩
   .rw[h8 z];trivial
open Classical in
theorem bV{s:b_}{size:Int}(l:0<size)(hl:size<=2000000000):∃d i,0<=d/\d<size/\aU.p [.pen,.int size] s=.ok (.int d) i:=by
 have a:size.natAbs.log2<9000:=by
  have u:size.natAbs<=2000000000:=by ext
  have y:size.natAbs.log2<31:=(Nat.log2_lt (by ext)).mpr (by ext);ext
 have z:0<size/\size.natAbs.log2<9000:=⟨l,a⟩;have j:nK s size=(kH s size z.1 z.2).choose:=by unfold nK;rw[dif_pos z]
 have k:=(kH s size z.1 z.2).choose_spec.1;rw[<-j]at k;exact⟨_,_,k.1,k.2,by show(if 0<size/\size.natAbs.log2<9000 then _ else _)=_;rw[e_ z]⟩
def fY:Xd []:=(aF (pV 2 3 (aa (n4 qj (aa (ac 0) a_)) (aa (n4 qj (aa (ac 1) a_)) a_)))
 (aF (Lw 2000000 (xB (ae HG (ac 3) (xC (.int 0)))) (pV 2 3 (aa (ac 3) (aa (ae jP (ac 2) (ac 3)) a_))) pN)
 (aF (s_ (xB (ae Fw (ac 1) (xC (.int 0)))) (aP 2 (u_ lH (ac 2))) io)
 (aN (aX (aa (ae DI (ac 0) (ac 2)) (aa (ae DI (ac 1) (ac 2)) a_)))))))
def bi:Fn:=bB 4 2 fY
def uR{a:SV}{s:b_}(h:a.length=2):bi.p a s=(fY.p (k_ 4 a) s).fin:=aW h
def fF(F:Fn):Xd []:=(aF (s_ (xB (ae (JJ T) (ac 1) (xC .non))) (aN (ae (JJ T) (ac 0) (xC .non))) io)
 (aF (s_ (xB (u_ (ba ["list","tuple"]) (ac 1))) (aF (s_ (w9 (bA (xB (u_ (ba ["list","tuple"]) (ac 0)))) (xB (ae wV (u_ (ba ["list"]) (ac 0)) (u_ (ba ["list"]) (ac 1))))) (aN (xC (.bl T))) io)
 (aN (eO (ae y6 (n4 dP (aa (ac 0) a_)) (n4 dP (aa (ac 1) a_))) (n4 qJ (aa (bh 2 [] (cR iZ (aa (ac 0) (aa (ac 1) a_))) (ws':=[]) (Bq (rg (lf 0) (rg (lf 1) Bp)) 2) oh (ah F (aa (ac 0) (aa (ac 1) a_)))) a_))))) io)
 (aN (eO (u_ (ba ["int"]) (ac 0)) (eO (nE (u_ (ba ["bool"]) (ac 0))) (ae y6 (ac 0) (ac 1)))))))
def dm:Nat->Fn
 |0=>wR (cE 2 2 λ_ _=>.bad)
 |n+1=>bB 2 2 (fF (dm n))
def lY{n:Nat}{a:SV}{s:b_}(h:a.length=2):(dm (n+1)).p a s=((fF (dm n)).p (k_ 2 a) s).fin:=aW h
def dh:Fn:=dm 8
def gf:Xd []:=(aF (aP 1 (ah aU (aa (ac 0) (aa (xC (.int 8)) a_))))
 (aF (s_ (xB (ae y6 (ac 1) (xC (.int 7)))) (aN (ah bi (aa (ae bC (ae jn (ah aU (aa (ac 0) (aa (ae jn (ae bn (xC (.int 2)) (ae tL (xC (.int 10)) (xC (.int 6)))) (xC (.int 1))) a_))) (ae tL (xC (.int 10)) (xC (.int 6)))) (xC (.int 1))) (aa (ae bC (xC (.int 1)) (ah aU (aa (ac 0) (aa (ae jn (ae tL (xC (.int 10)) (xC (.int 6))) (xC (.int 1))) a_)))) a_)))) io)
 (aN (ah bi (aa (ae jn (ah aU (aa (ac 0) (aa (xC (.int 13)) a_))) (xC (.int 6))) (aa (ae bC (xC (.int 1)) (ah aU (aa (ac 0) (aa (ae h_ (dQ (aa (xC (.int 1)) (aa (xC (.int 1)) (aa (xC (.int 5)) a_)))) (ae jP (ac 1) (xC (.int 3)))) a_)))) a_))))))
def dN:Fn:=bB 2 1 gf
def uN{a:SV}{s:b_}(h:a.length=1):dN.p a s=(gf.p (k_ 2 a) s).fin:=aW h
def jf:Xd []:=(aF (s_ (xB (ae y6 (ah aU (aa (ac 0) (aa (xC (.int 16)) a_))) (xC (.int 15)))) (aN (xC (.int 12))) io)
 (aN (ae h_ (dQ (aa (xC (.int 4)) (aa (xC (.int 3)) (aa (xC (.int 5)) (aa (xC (.int 2)) (aa (xC (.int 6)) (aa (xC (.int 1)) (aa (xC (.int 0)) (aa (xC (.int 3)) a_))))))))) (ah aU (aa (ac 0) (aa (xC (.int 8)) a_))))))
def jt:Fn:=bB 1 1 jf
def xR{a:SV}{s:b_}(h:a.length=1):jt.p a s=(jf.p (k_ 1 a) s).fin:=aW h
def ic:Xd [2]:=(aF (iN 2 (dQ a_))
 (aF (iu (cR Fy (aa (ac 1) a_)) (lf 3) (Cg Bi 2 (aa (ah aU (aa (ac 0) (aa (ae bC (ac 3) (xC (.int 1))) a_))) (aa (ac 3) a_))))
 (nF 2)))
def eB:Fn:=bB 4 2 ic
def xo{a:SV}{s:b_}(h:a.length=2):eB.p a s=(ic.p (k_ 4 a) s).fin:=aW h
def ji:Xd [3]:=(aF (aP 2 (ae bC (xC (.int 1)) (ah aU (aa (ac 0) (aa (xC (.int 4)) a_)))))
 (aF (iN 3 (dQ a_))
 (aF (iu (cR Fy (aa (ac 1) a_)) (lf 4) (aF (aP 5 (bh 1 [0,2,4] (cR Fy (aa (ac 1) a_)) (ws':=[]) (lf 0) (xB (ae Fw (ah aU (aa (ac 1) (aa (ae h_ (dQ (aa (ac 2) (aa (xC (.int 4)) a_))) (n4 im (aa (ae y6 (ac 0) (ac 3)) a_))) a_))) (ae h_ (dQ (aa (xC (.int 1)) (aa (xC (.int 3)) a_))) (n4 im (aa (ae y6 (ac 0) (ac 3)) a_))))) (aX (aa (ac 0) (aa (ah dN (aa (ac 1) a_)) a_)))))
 (Cg q0 3 (aa (n4 bZ (aa (bh 2 [] (bL (ac 5)) (ws':=[]) (Bq (rg (lf 0) (rg (lf 1) Bp)) 2) (xB (ae wV (ae h_ (ac 1) (xC (.int 0))) (xC (.int 0)))) (aX (aa (ac 0) (aa (ac 1) a_)))) a_)) a_))))
 (aN (n4 bZ (aa (ac 3) a_))))))
def ja:Fn:=bB 6 2 ji
def xJ{a:SV}{s:b_}(h:a.length=2):ja.p a s=(ji.p (k_ 6 a) s).fin:=aW h
def ju:Xd []:=(aN (ah bi (aa (ae bC (ae bn (ae h_ (ac 0) (xC (.int 0))) (ae h_ (ac 1) (xC (.int 1)))) (ae bn (ae h_ (ac 1) (xC (.int 0))) (ae h_ (ac 0) (xC (.int 1))))) (aa (ae bn (ae h_ (ac 0) (xC (.int 1))) (ae h_ (ac 1) (xC (.int 1)))) a_))))
def fL:Fn:=bB 2 2 ju
def xK{a:SV}{s:b_}(h:a.length=2):fL.p a s=(ju.p (k_ 2 a) s).fin:=aW h
def hZ:Xd []:=(aN (ah bi (aa (ae bn (ae h_ (ac 0) (xC (.int 0))) (ae h_ (ac 1) (xC (.int 0)))) (aa (ae bn (ae h_ (ac 0) (xC (.int 1))) (ae h_ (ac 1) (xC (.int 1)))) a_))))
def bR:Fn:=bB 2 2 hZ
def xu{a:SV}{s:b_}(h:a.length=2):bR.p a s=(hZ.p (k_ 2 a) s).fin:=aW h
def g9:Xd []:=(aF (s_ (LI (ac 1)) (aN (aX (aa (ae bn (ae bC (xC (.int 1)) (ah aU (aa (ac 0) (aa (xC (.int 255)) a_)))) (ae jn (xC (.int 1)) (ae bn (xC (.int 2)) (ah aU (aa (ac 0) (aa (xC (.int 2)) a_)))))) (aa (xC (.int 1)) a_)))) io)
 (aF (aP 2 (ae jn (ah aU (aa (ac 0) (aa (xC (.int 12)) a_))) (xC (.int 6))))
 (aN (ah bi (aa (ae bC (ac 2) (n4 im (aa (ae Py (ac 2) (xC (.int 0))) a_))) (aa (ae bC (xC (.int 1)) (ah aU (aa (ac 0) (aa (xC (.int 4)) a_)))) a_))))))
def cF:Fn:=bB 3 2 g9
def xD{a:SV}{s:b_}(h:a.length=2):cF.p a s=(g9.p (k_ 3 a) s).fin:=aW h
def ia:Xd [6]:=(aF (aP 4 (ae y6 (ah aU (aa (ac 0) (aa (xC (.int 8)) a_))) (xC (.int 7))))
 (aF (aP 5 (ae h_ (dQ (aa (ac 1) (aa (xC (.int 3)) a_))) (n4 im (aa (ae HG (ac 1) (xC (.int 6))) a_))))
 (aF (iN 6 (dQ a_))
 (aF (iu (cR iE (aa (ac 2) a_)) (Bq (rg (lf 7) (rg (lf 8) Bp)) 2) (aF (aP 9 (n4 fR (aa (x2 (ac 2) (xz (ae bC (ac 7) (xC (.int 1)))) xw) a_)))
 (aF (aP 10 (bh 1 [0,4,3] (bL (ac 9)) (ws':=[]) (lf 0) (xB (ae y6 (ah aU (aa (ac 1) (aa (ac 3) a_))) (xC (.int 0)))) (aX (aa (ac 0) (aa (ah cF (aa (ac 1) (aa (ac 2) a_))) a_)))))
 (aF (aP 11 (bh 1 [0,4,3] (bL (ac 9)) (ws':=[]) (lf 0) (xB (ae y6 (ah aU (aa (ac 1) (aa (ac 3) a_))) (xC (.int 0)))) (aX (aa (ac 0) (aa (ah cF (aa (ac 1) (aa (ac 2) a_))) a_)))))
 (Cg q0 6 (aa (aX (aa (ac 8) (aa (ah cF (aa (ac 0) (aa (ac 4) a_))) (aa (n4 bZ (aa (x2 (ac 10) (xz (u_ lH (ac 5))) xw) a_)) (aa (n4 bZ (aa (x2 (ac 11) xw (xz (ac 5))) a_)) a_))))) a_))))))
 (nF 6)))))
def hX:Fn:=bB 12 4 ia
def xq{a:SV}{s:b_}(h:a.length=4):hX.p a s=(ia.p (k_ 12 a) s).fin:=aW h
def ib:Xd []:=(aN (eO (u_ (ba ["int"]) (ac 0)) (nE (u_ (ba ["bool"]) (ac 0)))))
def bQ:Fn:=bB 1 1 ib
def wW{a:SV}{s:b_}(h:a.length=1):bQ.p a s=(ib.p (k_ 1 a) s).fin:=aW h
def dY:Xd []:=(aF (s_ (w9 (bA (xB (u_ (ba ["tuple"]) (ac 0)))) (w9 (xB (ae wV (n4 dP (aa (ac 0) a_)) (xC (.int 2)))) (w9 (bA (xB (ah bQ (aa (ae h_ (ac 0) (xC (.int 0))) a_)))) (bA (xB (ah bQ (aa (ae h_ (ac 0) (xC (.int 1))) a_))))))) (aN (xC (.bl T))) io)
 (aN (eO (ae wV (ae h_ (ac 0) (xC (.int 0))) (xC (.int 0))) (eO (ae HG (ae h_ (ac 0) (xC (.int 1))) (xC (.int 0))) (ae y6 (ah bi (aa (ae h_ (ac 0) (xC (.int 0))) (aa (ae h_ (ac 0) (xC (.int 1))) a_))) (ac 0))))))
def bI:Fn:=bB 1 1 dY
def pT{a:SV}{s:b_}(h:a.length=1):bI.p a s=(dY.p (k_ 1 a) s).fin:=aW h
def dX:Xd []:=(aF (s_ (bA (xB (u_ (ba ["tuple"]) (ac 0)))) (aN (xC (.bl T))) io)
 (aF (aP 2 (u_ lH (xC (.int 1))))
 (aF (iu (bL (ac 0)) (lf 3) (aF (s_ (w9 (bA (xB (u_ (ba ["tuple"]) (ac 3)))) (w9 (xB (ae wV (n4 dP (aa (ac 3) a_)) (xC (.int 2)))) (w9 (bA (xB (ah bQ (aa (ae h_ (ac 3) (xC (.int 0))) a_)))) (xB (ae (NM I) (ae h_ (ac 3) (xC (.int 0))) (ac 1)))))) (aN (xC (.bl T))) io)
 (aF (s_ (w9 (xB (ae JI (ae h_ (ac 3) (xC (.int 0))) (ac 2))) (bA (xB (ah bI (aa (ae h_ (ac 3) (xC (.int 1))) a_))))) (aN (xC (.bl T))) io)
 (aP 2 (ae h_ (ac 3) (xC (.int 0)))))))
 (aN (xC (.bl I))))))
def bS:Fn:=bB 4 2 dX
def qk{a:SV}{s:b_}(h:a.length=2):bS.p a s=(dX.p (k_ 4 a) s).fin:=aW h
def fh:Xd []:=(aF (s_ (w9 (bA (xB (u_ (ba ["list"]) (ac 0)))) (xB (ae wV (n4 dP (aa (ac 0) a_)) (n4 dP (aa (ac 1) a_))))) (aN (xC (.bl T))) io)
 (aF (iu (cR iE (aa (ac 1) a_)) (Bq (rg (lf 2) (rg (lf 3) Bp)) 2) (aF (aP 4 (ae h_ (ac 0) (ac 2)))
 (aF (s_ (w9 (bA (xB (u_ (ba ["tuple"]) (ac 4)))) (w9 (xB (ae wV (n4 dP (aa (ac 4) a_)) (xC (.int 4)))) (w9 (bA (xB (ah bQ (aa (ae h_ (ac 4) (xC (.int 0))) a_)))) (xB (ae wV (ae h_ (ac 4) (xC (.int 0))) (ac 3)))))) (aN (xC (.bl T))) io)
 (aF (s_ (w9 (bA (xB (ah bI (aa (ae h_ (ac 4) (xC (.int 1))) a_)))) (bA (xB (ah bS (aa (ae h_ (ac 4) (xC (.int 2))) (aa (x2 (ac 1) (xz (ae bC (ac 2) (xC (.int 1)))) xw) a_)))))) (aN (xC (.bl T))) io)
 (s_ (bA (xB (ah bS (aa (ae h_ (ac 4) (xC (.int 3))) (aa (x2 (ac 1) (xz (ae bC (ac 2) (xC (.int 1)))) xw) a_))))) (aN (xC (.bl T))) io)))))
 (aN (xC (.bl I)))))
def d3:Fn:=bB 5 2 fh
def tW{a:SV}{s:b_}(h:a.length=2):d3.p a s=(fh.p (k_ 5 a) s).fin:=aW h
def ul:Xe []:=(ah fL (aa (ae h_ (ae h_ (ac 2) (ac 7)) (ac 9)) (aa (ah bR (aa (ac 8) (aa (ac 10) a_))) a_)))
def sR:Xe []:=(aX (aa (ac 0) (aa (n4 bZ (aa (bh 1 [] (bL (ac 2)) (ws':=[]) (lf 0) oh (n4 bZ (aa (bh 2 [] (cR iE (aa (ac 0) a_)) (ws':=[]) (Bq (rg (lf 0) (rg (lf 1) Bp)) 2) (xB (ae wV (ac 1) (aX (aa (xC (.int 0)) (aa (xC (.int 1)) a_))))) (aX (aa (ac 0) (aa (ac 1) a_)))) a_))) a_)) a_)))
def Es:nr:=pX ul.m (G7 (aA be (am 2) (am 7)) (am 9))
def Et:nr:=iz (cS (aA jj (cq (aj (cq (aj (am 3) (aj (am 4) f_))) f_)) (am 5))) (wK (mh (ki 9) (mh (ki 10) wH)) 2) Es
def Eu:nr:=iz (cS (aA jj (cq (aj (cq (aj (am 3) (aj (cq (aj (mC (.int 1)) (aj (mC (.int 1)) f_))) f_))) f_)) (am 6))) (wK (mh (ki 7) (mh (ki 8) wH)) 2) Et
def Iy:Mx PV:=cq (aj (mC (.int 0)) (aj (mC (.int 1)) f_))
def qo:nr:=cj (bM 2 (bO 1 [0] (dJ (aj (am 0) f_)) (ki 0) m_ (bO 1 [] (dJ (aj (am 1) f_)) (ki 0) m_ Iy)))
 (cj (iz (cS (am 1)) (wK (mh (ki 3) (mh (ki 4) (mh (ki 5) (mh (ki 6) wH)))) 4) Eu)
 (du sR.m))
def dB:SM->MH->SH:=cE 11 2 qo
structure C8 where
 (c0 c1 c2 c3 c4 c5 c6 c7:So)
def mE(rd:List Rd)(n a:D)(c:C8):ay:=[J n,J a,J (cO rd),c.c0,c.c1,c.c2,c.c3,c.c4,c.c5,c.c6,c.c7]
def pK(n u:D)(rd:List Rd)(c:C8)(s:b_):Option (List Rd×b_):=match ul.p (mE rd n u c) s,c.c4,c.c6 with
 |.ok d l,J (.int i),J (.int j)=>(match wG rd.length i with
  |some x=>(match rd[x]? with
   |some (Y,a)=>(match wG a.length j with
    |some y=>if flat d=I then J (rd.set x (Y,a.set y d),l)else Y
    |none=>Y)
   |_=>Y)
  |none=>Y)
 |_,_,_=>Y
def CM(n j:D):SV->List Rd->C8->b_->Option (List Rd×C8×b_)
 |[],rd,c,s=>J (rd,c,s)
 |.tup [l,i]::r,rd,c,s=>(match pK n j rd { c with c6:=J l,c7:=J i} s with
  |some (a,u)=>CM n j r a { c with c6:=J l,c7:=J i} u
  |none=>Y)
 |_,_,_,_=>Y
def CN(n i v p:D)(j:SV):SV->List Rd->C8->b_->Option (List Rd×C8×b_)
 |[],rd,c,s=>J (rd,c,s)
 |.tup [u,y]::r,rd,c,s=>(match CM n i (.tup [v,p]::j) rd { c with c4:=J u,c5:=J y} s with
  |some (a,z,l)=>CN n i v p j r a z l
  |none=>Y)
 |_,_,_,_=>Y
def Ev(n l:D):SV->List Rd->C8->b_->Option (List Rd×C8×b_)
 |[],rd,c,s=>J (rd,c,s)
 |.tup [v,p,.tup j,.tup i]::r,rd,c,s=>if j.length<900/\i.length<900 then (match CN n l v p j (.tup [v,.tup [.int 1,.int 1]]::i) rd { c with c0:=J v,c1:=J p,c2:=J (.tup j),c3:=J (.tup i)} s with
  |some (a,y,u)=>Ev n l r a y u
  |none=>Y)else Y
 |_,_,_,_=>Y
def N7(j:SV)(s:b_):PR D:=match j with
 |[.int n,.lst a]=>if d_ a=I/\0<=n/\n<900 then (match Ev (.int n) (.lst a) a (List.replicate n.toNat (Y,List.replicate n.toNat (.tup [.int 0,.int 1]))) ⟨Y,Y,Y,Y,Y,Y,Y,Y⟩ s with
  |some (rd,c,i)=>(match sR.p (mE rd (.int n) (.lst a) c) i with
   |.ok d l=>if flat d=I then .ok d l else .bad
   |_=>.bad)
  |none=>.bad)else .bad
 |_=>.bad
structure MuI(q:Nat)(h0 h:MH)(s:b_)(a:Nat)(ms:SU)(rd:List Rd):Prop where
 len:h0.length<=h.length
 mv:∀n:Nat,n<h0.length->n≠q->h[n]?=h0[n]?
 pen:bc h q s
 gr:Gr h h0.length a ms rd
structure E8 where
 (e0 e1 e2 e3 e4 e5 e6 e7:Ss)
def sE(i j:PV)(a:Nat)(e:E8):p_:=[J i,J j,J (.loc a),e.e0,e.e1,e.e2,e.e3,e.e4,e.e5,e.e6,e.e7]
structure O8(c:C8)(e:E8):Prop where
 (o0:OR c.c0 e.e0) (o1:OR c.c1 e.e1) (o2:OR c.c2 e.e2) (o3:OR c.c3 e.e3) (o4:OR c.c4 e.e4) (o5:OR c.c5 e.e5) (o6:OR c.c6 e.e6) (o7:OR c.c7 e.e7)
def rq:∀{a:SV}{d:D}{i:Nat},d_ a=I->flat d=I->d_ (a.set i d)=I
 |[],_,_,f,_=>f
 |x::a,d,0,f,g=>by
  simp only[d_,Bw,q_]at f ⊢;exact⟨g,f.2⟩
 |x::a,d,i+1,f,g=>by
  simp only[d_,Bw,r_]at f ⊢;exact⟨f.1,rq f.2 g⟩
def OR.of{d:D}{v:PV}(f:flat d=I)(r:Rp 0 [] [] d v):OR (J d) (J v):=λz a=>by cases a;exact⟨f,_,rfl,r⟩
section
variable{q:Nat}{h0 h h':MH}{s s':b_}{a:Nat}{ms:SU}{rd rd':List Rd}{O:SU}{n wk:D}{v0 v1:PV}{c c':C8}{e e':E8}
def MuI.kb(i:MuI q h0 h s a ms rd)(z:q<h0.length)(k:KB q h h')(pn:bc h' q s'):MuI q h0 h' s' a ms rd:=by have l:=i.len;exact⟨n_ i.len k.len,λn y u=>(k.keep n (by ext) u).trans (i.mv n y u),pn,i.gr.keep λm j=>k.keep m (i.gr.lt m j) (by have:=i.gr.ge m j;ext)⟩
def FF(j:MuI q h0 h s a ms rd)(bd:∀o∈O,o<h0.length)(E:q∈O)(r:Rps q h0 O [n,wk] [v0,v1])(o:O8 c e):PU.Cx q h h.length O O [] (sE v0 v1 a e) (mE rd n wk c) s:=by
 have l:=j.len;have mv:Mv O h0 O h:=⟨λn G B=>j.mv n G λz=>B (z▸E),λo u=>.inl u⟩;have C:=r.mv mv;have one:∀{x:So}{y:Ss}{d:D},OR x y->x=J d->∃v,J y=J (J v)/\Rp q h O d v:=λ{x y d} o e=>by
  obtain⟨f,v,e2,r⟩:=o d e;exact⟨v,by rw[e2],Rp.fq f r⟩
 refine⟨λo u=>by have:=bd o u;ext,λo u=>u,λo u=>by have:=bd o u;ext,E,l_ _,j.pen,rfl,λi d e _=>?_,λi d e F=>by cases F⟩
 match i,e with
 |0,e=>cases e;obtain⟨v,e,q⟩:=C.get (i:=0) rfl;cases e;exact⟨_,rfl,q⟩
 |1,e=>cases e;obtain⟨v,e,q⟩:=C.get (i:=1) rfl;cases e;exact⟨_,rfl,q⟩
 |2,e=>cases e;exact⟨_,rfl,j.gr.rp λm H B=>by have:=j.gr.ge m H;have:=bd m B;ext⟩
 |3,e=>exact one o.o0 (by injection e)
 |4,e=>exact one o.o1 (by injection e)
 |5,e=>exact one o.o2 (by injection e)
 |6,e=>exact one o.o3 (by injection e)
 |7,e=>exact one o.o4 (by injection e)
 |8,e=>exact one o.o5 (by injection e)
 |9,e=>exact one o.o6 (by injection e)
 |10,e=>exact one o.o7 (by injection e)
 |n+11,e=>simp[mE]at e
def AW(B:MuI q h0 h s a ms rd)(bd:∀o∈O,o<h0.length)(G:q∈O)(r:Rps q h0 O [n,wk] [v0,v1])(o:O8 c e)(u:pK n wk rd c s=J (rd',s')):∃h',Es (sE v0 v1 a e) h=.nx (sE v0 v1 a e) h'/\MuI q h0 h' s' a ms rd':=by
 have C:=bd q G;unfold pK at u
 split at u
 .rename_i d s1 i j ed ei ej
  split at u
  .rename_i x ex
   split at u
   .rename_i E P
    split at u
    .rename_i y F
     split at u
     .rename_i fd
      cases u;have k:=ul.ok (FF B bd G r o);rw[ed]at k;obtain⟨v,l,em,kb,pn,_,rz,_⟩:=k;have z:=B.kb C kb pn;obtain⟨Z,m,xs,e1,e2,e3⟩:=z.gr.row x _ P;have e2:l[m]?=J (.lst xs):=e2;obtain⟨_,_,e4,r4⟩:=o.o4 _ ei;obtain⟨_,_,R,S⟩:=o.o6 _ ej;have Q:=aG e2;have M:=pj a (BA e1);have X:=z.gr.ge m M;have xl:xs.length=E.length:=e3.length;have yl:y<E.length:=(L2.j8 F).2.1;have U:Rp 0 [] [] d v:=Rp.fq fd (rz rfl);have H:nw (ms.map PV.loc) i=J (.loc m):=by unfold nw;rw[xg,z.gr.len,ex,F5,r6,e1];rfl
      refine⟨l.set m (.lst (xs.set y v)),?_,by rw[Na];exact z.len,λj L W=>(n8 (by ext)).trans (z.mv j L W),?_,z.gr.put (r':=(Y,E.set y d)) e1 ?_ (x4 Q) (e3.set y U) λj _ ne=>n8 (Ne.symm ne)⟩
      .unfold Es pX Ap;rw[em];have g:G7 (aA be (am 2) (am 7)) (am 9) v (sE v0 v1 a e) l=.nx (sE v0 v1 a e) (l.set m (.lst (xs.set y v))):=by
        rw[Hk];have b1:aA be (am 2) (am 7) (sE v0 v1 a e) l=.ok (.loc m) l:=by
         rw[Dp];have z1:am 2 (sE v0 v1 a e) l=.ok (.loc a) l:=rfl;have z2:am 7 (sE v0 v1 a e) l=.ok (.int i) l:=by show am 7 [J v0,J v1,J (.loc a),e.e0,e.e1,e.e2,e.e3,e.e4,e.e5,e.e6,e.e7] l=_;rw[e4,show _=PV.int i from r4];rfl
         rw[z1,Out.bind_ok,z2,Out.bind_ok,fE z.gr.top,H];rfl
        have z3:am 9 (sE v0 v1 a e) l=.ok (.int j) l:=by show am 9 [J v0,J v1,J (.loc a),e.e0,e.e1,e.e2,e.e3,e.e4,e.e5,e.e6,e.e7] l=_;rw[R,show _=PV.int j from S];rfl
        rw[b1,aw,Hj,z3,aw,kX e2,xl,F];rfl
       dsimp only;rw[g]
      .have:=z.pen
       unfold bc at this ⊢;rw[n8 (by ext)];exact this
      .exact rq Z fd
     .cases u
    .cases u
   .cases u
  .cases u
 .cases u
def Ew{x:D}{xs:SV}{z:List Rd×C8×b_}(j:CM n wk (x::xs) rd c s=J z):∃y w,x=.tup [y,w]:=by
 unfold CM at j
 split at j
 .rename_i i;cases i
 .rename_i i;cases i;exact⟨_,_,rfl⟩
 .cases j
def Ex{v p x:D}{l xs:SV}{z:List Rd×C8×b_}(j:CN n wk v p l (x::xs) rd c s=J z):∃y w,x=.tup [y,w]:=by
 unfold CN at j
 split at j
 .rename_i i;cases i
 .rename_i i;cases i;exact⟨_,_,rfl⟩
 .cases j
def Ey{x:D}{xs:SV}{z:List Rd×C8×b_}(j:Ev n wk (x::xs) rd c s=J z):∃v p u l,x=.tup [v,p,.tup u,.tup l]:=by
 unfold Ev at j
 split at j
 .rename_i i;cases i
 .rename_i i;cases i;exact⟨_,_,_,_,rfl⟩
 .cases j
def vQ{x y:D}{v:PV}(r:Rp 0 [] [] (.tup [x,y]) v):∃a b,v=.tup [a,b]/\Rp 0 [] [] x a/\Rp 0 [] [] y b:=by obtain⟨ys,rfl,z⟩:=r;obtain⟨E,B,rfl,j,C,u,rfl,l,i⟩:=z;rw[show u=[]from i];exact⟨_,_,rfl,j,l⟩
def zO{it:MIt}(l:∀h,it.ok h)(bd:∀o∈O,o<h0.length)(S:q∈O)(r:Rps q h0 O [n,wk] [v0,v1]):∀(u:SV)(xs:SM)(rd:List Rd)(c:C8)(e:E8)(h:MH)(s:b_),d_ u=I->Rps 0 [] [] u xs->O8 c e->MuI q h0 h s a ms rd->CM n wk u rd c s=J (rd',c',s') ->
  ∃h' y z,wM it (wK (mh (ki 9) (mh (ki 10) wH)) 2) Es xs (sE v0 v1 a e) h=.nx (sE v0 v1 a { e with e6:=y,e7:=z}) h'/\MuI q h0 h' s' a ms rd'/\O8 c' { e with e6:=y,e7:=z}/\c'.c0=c.c0/\c'.c1=c.c1/\c'.c2=c.c2/\c'.c3=c.c3
 |[],xs,rd,c,e,h,s,fd,C,o,j,i=>by
  unfold CM at i;cases i;rw[show xs=[]from C];exact⟨h,e.e6,e.e7,gH (l h),j,o,rfl,rfl,rfl,rfl⟩
 |x::u,xs,rd,c,e,h,s,fd,C,o,j,i=>by
  obtain⟨M,P,rfl⟩:=Ew i;simp only[d_,Bw]at fd;have R:flat M=I/\flat P=I:=by simpa [flat,d_]using fd.1
  unfold CM at i;obtain⟨vx,xr,rfl,F,W⟩:=C;obtain⟨L,B,rfl,E,G⟩:=vQ F
  split at i
  .rename_i H s2 e2
   have Q:O8 { c with c6:=J M,c7:=J P} { e with e6:=J L,e7:=J B}:=⟨o.o0,o.o1,o.o2,o.o3,o.o4,o.o5,OR.of R.1 E,OR.of R.2 G⟩;obtain⟨h1,e1,I1⟩:=AW j bd S r Q e2;obtain⟨Z,y,z,e3,U,X,k⟩:=zO l bd S r u xr H _ _ h1 s2 fd.2 W Q I1 i;refine⟨Z,y,z,?_,U,X,k⟩;rw[eM (l h) (show wK (mh (ki 9) (mh (ki 10) wH)) 2 (.tup [L,B]) (sE v0 v1 a e) h=.nx (sE v0 v1 a { e with e6:=J L,e7:=J B}) h from rfl),e1];exact e3
  .cases i
def xI{it:MIt}{v p:D}{C:SV}{j pv:PV}{i:SM}(z:∀h,it.ok h)(bd:∀o∈O,o<h0.length)(hq:q∈O)(r:Rps q h0 O [n,wk] [v0,v1])(fv:flat v=I)(fp:flat p=I)(fr:d_ C=I)(rv:Rp 0 [] [] v j)(rp:Rp 0 [] [] p pv)(u:Rps 0 [] [] C i)(lr:C.length<900):
  ∀(F:SV)(xs:SM)(rd:List Rd)(c:C8)(e:E8)(h:MH)(s:b_),d_ F=I->Rps 0 [] [] F xs->O8 c e->MuI q h0 h s a ms rd->e.e0=J j->e.e1=J pv->e.e2=J (.tup i)->CN n wk v p C F rd c s=J (rd',c',s') ->
  ∃h' e4 e5 G H,wM it (wK (mh (ki 7) (mh (ki 8) wH)) 2) Et xs (sE v0 v1 a e) h=.nx (sE v0 v1 a { e with e4:=e4,e5:=e5,e6:=G,e7:=H}) h'/\MuI q h0 h' s' a ms rd'/\O8 c' { e with e4:=e4,e5:=e5,e6:=G,e7:=H}
 |[],xs,rd,c,e,h,s,fd,M,o,y,z0,z1,W,l=>by
  unfold CN at l;cases l;rw[show xs=[]from M];exact⟨h,e.e4,e.e5,e.e6,e.e7,gH (z h),y,o⟩
 |x::F,xs,rd,c,e,h,s,fd,M,o,y,z0,z1,W,l=>by
  obtain⟨di,df,rfl⟩:=Ex l;simp only[d_,Bw]at fd;have fk:flat di=I/\flat df=I:=by simpa [flat,d_]using fd.1
  unfold CN at l;obtain⟨vx,xr,rfl,S,rr⟩:=M;obtain⟨E,B,rfl,P,X⟩:=vQ S
  split at l
  .rename_i Z c2 s2 e2
   have o2:O8 { c with c4:=J di,c5:=J df} { e with e4:=J E,e5:=J B}:=⟨o.o0,o.o1,o.o2,o.o3,OR.of fk.1 P,OR.of fk.2 X,o.o6,o.o7⟩;have rl:i.length=C.length:=u.length;obtain⟨h1,G,H,e1,I1,o3,_⟩:=zO (it:=⟨.tup [j,pv]::i,[]⟩) (λ_=>dD.mpr trivial) bd hq r (.tup [v,p]::C) (.tup [j,pv]::i) rd _ _ h s (by simp[d_,flat,fv,fp,fr]) ⟨_,_,rfl,⟨_,rfl,_,_,rfl,rv,_,_,rfl,rp,rfl⟩,u⟩ o2 y e2;obtain⟨h2,R,ab,U,L,e3,I2,o4⟩:=xI z bd hq r fv fp fr rv rp u lr F xr Z _ _ h1 s2 fd.2 rr o3 I1 z0 z1 W l;refine⟨h2,R,ab,U,L,?_,I2,o4⟩;rw[eM (z h) (show wK (mh (ki 7) (mh (ki 8) wH)) 2 (.tup [E,B]) (sE v0 v1 a e) h=.nx (sE v0 v1 a { e with e4:=J E,e5:=J B}) h from rfl)];have Q:cS (aA jj (cq (aj (cq (aj (am 3) (aj (am 4) f_))) f_)) (am 5)) (sE v0 v1 a { e with e4:=J E,e5:=J B}) h=.ok ⟨.tup [j,pv]::i,[]⟩ h:=by
    unfold sE;dsimp only;rw[z0,z1,W];have t1:lw [PV.tup [j,pv]] h=.ok (.tup [.tup [j,pv]]) h:=by unfold lw;rw[e_ (n_ (show _<=1000 by simp) (by decide))]
    have t2:lw [j,pv] h=.ok (.tup [j,pv]) h:=by unfold lw;rw[e_ (n_ (show _<=1000 by simp) (by decide))]
    have t3:jj (.tup [.tup [j,pv]]) (.tup i) h=.ok (.tup (.tup [j,pv]::i)) h:=by show(if [PV.tup [j,pv]]≠[]then lw ([PV.tup [j,pv]]++i) h else .bad)=_;rw[e_ (by simp)];unfold lw;rw[e_ (n_ (show _<=1000 by simp;ext) (by decide))];rfl
    simp[cq,t1,t2,t3]
   have b:Et (sE v0 v1 a { e with e4:=J E,e5:=J B}) h=.nx (sE v0 v1 a { e with e4:=J E,e5:=J B,e6:=G,e7:=H}) h1:=by unfold Et;rw[eR,Q,aw];exact e1
   rw[b];exact e3
  .cases l
def yu{it:MIt}(C:∀h s rd,MuI q h0 h s a ms rd->it.ok h)(bd:∀o∈O,o<h0.length)(hq:q∈O)(r:Rps q h0 O [n,wk] [v0,v1]):
  ∀(H:SV)(xs:SM)(rd:List Rd)(c:C8)(e:E8)(h:MH)(s:b_),d_ H=I->Rps 0 [] [] H xs->O8 c e->MuI q h0 h s a ms rd->Ev n wk H rd c s=J (rd',c',s') ->
  ∃h' e',wM it (wK (mh (ki 3) (mh (ki 4) (mh (ki 5) (mh (ki 6) wH)))) 4) Eu xs (sE v0 v1 a e) h=.nx (sE v0 v1 a e') h'/\MuI q h0 h' s' a ms rd'/\O8 c' e'
 |[],xs,rd,c,e,h,s,fd,R,o,u,y=>by
  unfold Ev at y;cases y;rw[show xs=[]from R];exact⟨h,e,gH (C h _ _ u),u,o⟩
 |x::H,xs,rd,c,e,h,s,fd,R,o,u,y=>by
  obtain⟨v,p,rs,Q,rfl⟩:=Ey y;simp only[d_,Bw]at fd;have z:flat v=I/\flat p=I/\d_ rs=I/\d_ Q=I:=by simpa [flat,d_]using fd.1
  unfold Ev at y;obtain⟨vx,xr,rfl,U,rr⟩:=R;obtain⟨us,rfl,ru⟩:=U;obtain⟨j,Z,rfl,B,E,t2,rfl,G,u3,t3,rfl,P,u4,t4,rfl,L,W⟩:=ru;rw[show t4=[]from W];have F:=P;have M:=L;obtain⟨l,rfl,r3⟩:=P;obtain⟨i,rfl,r4⟩:=L
  split at y
  .rename_i lc
   split at y
   .rename_i X c2 s2 e2
    have o2:O8 { c with c0:=J v,c1:=J p,c2:=J (.tup rs),c3:=J (.tup Q)} { e with e0:=J j,e1:=J E,e2:=J (.tup l),e3:=J (.tup i)}:=⟨OR.of z.1 B,OR.of z.2.1 G,OR.of (by simp[flat,z.2.2.1]) F,OR.of (by simp[flat,z.2.2.2]) M,o.o4,o.o5,o.o6,o.o7⟩;have cl:i.length=Q.length:=r4.length;obtain⟨h1,e4,e5,e6,e7,e1,I1,o3⟩:=xI (it:=⟨.tup [j,.tup [.int 1,.int 1]]::i,[]⟩) (λ_=>dD.mpr trivial) bd hq r z.1 z.2.1 z.2.2.1 B G r3 lc.1 (.tup [v,.tup [.int 1,.int 1]]::Q) (.tup [j,.tup [.int 1,.int 1]]::i) rd _ _ h s (by simp[d_,flat,z.1,z.2.2.2]) ⟨_,_,rfl,⟨_,rfl,_,_,rfl,B,_,_,rfl,⟨_,rfl,_,_,rfl,rfl,_,_,rfl,rfl,rfl⟩,rfl⟩,r4⟩ o2 u rfl rfl rfl e2;obtain⟨h2,e',e3,I2,o4⟩:=yu C bd hq r H xr X _ _ h1 s2 fd.2 rr o3 I1 y;refine⟨h2,e',?_,I2,o4⟩;rw[eM (C h _ _ u) (show wK (mh (ki 3) (mh (ki 4) (mh (ki 5) (mh (ki 6) wH)))) 4 (.tup [j,E,.tup l,.tup i]) (sE v0 v1 a e) h=.nx (sE v0 v1 a { e with e0:=J j,e1:=J E,e2:=J (.tup l),e3:=J (.tup i)}) h from rfl)];have S:cS (aA jj (cq (aj (cq (aj (am 3) (aj (cq (aj (mC (.int 1)) (aj (mC (.int 1)) f_))) f_))) f_)) (am 6)) (sE v0 v1 a { e with e0:=J j,e1:=J E,e2:=J (.tup l),e3:=J (.tup i)}) h=.ok ⟨.tup [j,.tup [.int 1,.int 1]]::i,[]⟩ h:=by
     unfold sE;dsimp only;have t0:lw [PV.int 1,.int 1] h=.ok (.tup [.int 1,.int 1]) h:=by unfold lw;rw[e_ (n_ (show _<=1000 by simp) (by decide))]
     have Z:lw [PV.tup [j,.tup [.int 1,.int 1]]] h=.ok (.tup [.tup [j,.tup [.int 1,.int 1]]]) h:=by unfold lw;rw[e_ (n_ (show _<=1000 by simp) (by decide))]
     have t2:lw [j,.tup [.int 1,.int 1]] h=.ok (.tup [j,.tup [.int 1,.int 1]]) h:=by unfold lw;rw[e_ (n_ (show _<=1000 by simp) (by decide))]
     have t3:jj (.tup [.tup [j,.tup [.int 1,.int 1]]]) (.tup i) h=.ok (.tup (.tup [j,.tup [.int 1,.int 1]]::i)) h:=by show(if [PV.tup [j,.tup [.int 1,.int 1]]]≠[]then lw ([PV.tup [j,.tup [.int 1,.int 1]]]++i) h else .bad)=_;rw[e_ (by simp)];unfold lw;rw[e_ (n_ (show _<=1000 by simp;ext) (by decide))];rfl
     simp[cq,t0,Z,t2,t3]
    have b:Eu (sE v0 v1 a { e with e0:=J j,e1:=J E,e2:=J (.tup l),e3:=J (.tup i)}) h=.nx (sE v0 v1 a { e with e0:=J j,e1:=J E,e2:=J (.tup l),e3:=J (.tup i),e4:=e4,e5:=e5,e6:=e6,e7:=e7}) h1:=by unfold Eu;rw[eR,S,aw];exact e1
    rw[b];exact e3
   .cases y
  .cases y
def ym{it:MIt}(i:∀h,it.ok h):∀(xs ys:SM)(z:Ss)(h:MH)(m:Nat),m=h.length->ys.length+xs.length<1000->A_ it m (ki 0) m_ Iy xs [z] (h++[.lst ys])=.ok () (h++[.lst (ys++List.replicate xs.length (.tup [.int 0,.int 1]))])
 |[],ys,z,h,m,j,hl=>by rw[ku (i _)];simp
 |x::xs,ys,z,h,m,j,hl=>by
  subst j;have u:Iy [J x] (h++[.lst ys])=.ok (.tup [.int 0,.int 1]) (h++[.lst ys]):=by unfold Iy cq;simp[lw,sizeLine]
  rw[kI (Z1:=[J x]) (h1:=h++[.lst ys]) (h2:=h++[.lst ys]) (h3:=h++[.lst ys]) (i _) rfl rfl u Fj (by simp at hl;ext)];have l:(h++[MO.lst ys]).set h.length (.lst (ys++[.tup [.int 0,.int 1]]))=h++[.lst (ys++[.tup [.int 0,.int 1]])]:=by simp
  rw[l,ym i xs _ (J x) h _ rfl (by simp at hl ⊢;ext),BN,F2,J0];rfl
def we{it:MIt}{n:Nat}(H:n<900)(u:∀h,it.ok h):∀(xs:SM)(i:List Rd)(ms:SU)(z:Ss)(h:MH),Gr h h0.length a ms i->h0.length<=h.length->(∀j:Nat,j<h0.length->h[j]?=h0[j]?)->ms.length+xs.length<1000 ->
  ∃h' l,A_ it a (ki 0) m_ (bO 1 [] (dJ (aj (am 1) f_)) (ki 0) m_ Iy) xs [z,J (.int (n:Int))] h=.ok () h'/\Gr h' h0.length a l (i++List.replicate xs.length (Y,List.replicate n (.tup [.int 0,.int 1])))/\h0.length<=h'.length/\∀j:Nat,j<h0.length->h'[j]?=h0[j]?
 |[],i,ms,z,h,g,hl,kp,y=>⟨h,ms,ku (u h),by simpa using g,hl,kp⟩
 |x::xs,i,ms,z,h,g,hl,kp,y=>by
  have rep:∀k:Nat,d_ (List.replicate k (D.tup [.int 0,.int 1]))=I/\Rps 0 [] [] (List.replicate k (D.tup [.int 0,.int 1])) (List.replicate k (.tup [.int 0,.int 1])):=λk=>by
   induction k with
   |zero=>exact⟨rfl,rfl⟩
   |succ k B=>exact⟨by simp[F2,d_,flat,B.1],_,_,rfl,⟨_,rfl,_,_,rfl,rfl,_,_,rfl,rfl,rfl⟩,B.2⟩
  have M:=qL g (r:=(Y,List.replicate n (.tup [.int 0,.int 1]))) (xs:=List.replicate n (.tup [.int 0,.int 1])) hl (rep n).1 (rep n).2;have E:=g.ge a (by simp);obtain⟨h',l,e',P,F,L⟩:=we H u xs _ _ (J x) _ M (by simp;ext) (λj C=>by rw[n8 (by ext),qs (by ext)];exact kp j C) (by simp at y ⊢;ext);refine⟨h',l,?_,by rw[BN,F2,List.append_cons];exact P,F,L⟩;have G:bO 1 [] (dJ (aj (am 1) f_)) (ki 0) m_ Iy [J x,J (.int (n:Int))] h=.ok (.loc h.length) (h++[.lst (List.replicate n (.tup [.int 0,.int 1]))]):=by rw[gN,DA (n:=n) (h1:=h) rfl (by ext),Out.bind_ok];refine(congrArg (λz:Out Unit=>z.bind _) (ym (it:=⟨bD 0 n,[]⟩) (λ_=>dD.mpr trivial) (bD 0 n) [] Y h h.length rfl (by rw[MM.c9];simp;ext))).trans ?_;rw[MM.c9,J4];rfl
  rw[kI (Z1:=[J x,J (.int (n:Int))]) (h1:=h) (h2:=h) (v:=.loc h.length) (h3:=h++[mo Y (List.replicate n (.tup [.int 0,.int 1]))]) (ys:=ms.map .loc) (u h) rfl rfl G (by rw[qs (aG g.top)];exact g.top) (by simp at y ⊢;ext)];exact e'
end
def dH:Fn where
 m:=dB
 p:=N7
 fr:=I
 ok {q h O vs ds s} bd hq pn r:=by
  unfold N7;split
  .rename_i n wk
   split
   .rename_i cn
    obtain⟨S,n0,n9⟩:=cn;split
    .rename_i rd c s1 Q
     split
     .rename_i d s2 ed
      split
      .rename_i fd
       have F:=r;obtain⟨v0,t0,rfl,L,v1,t1,rfl,M,H⟩:=r;rw[show t1=[]from H]at F ⊢;rw[show v0=PV.int n from L]at F ⊢;obtain⟨u,l,rfl,W,E,ro⟩:=M;obtain⟨k,rfl⟩:∃k:Nat,n=(k:Int):=⟨n.toNat,by ext⟩;rw[B2]at Q;have C:q<h.length:=bd q hq;obtain⟨y,ms,e1,g1,l1,k1⟩:=we (h0:=h) (a:=h.length) (n:=k) (it:=⟨bD 0 k,[]⟩) (by ext) (λ_=>dD.mpr trivial) (bD 0 k) [] [] Y (h++[.lst []]) ⟨by simp,rfl,by simp,λm hm=>by simp at hm;ext,λi r e=>by simp at e⟩ (by simp) (λn H=>qs H) (by rw[MM.c9];simp;ext);rw[MM.c9,J4]at g1;have R:MuI q h y s h.length ms (List.replicate k (Y,List.replicate k (.tup [.int 0,.int 1]))):=⟨l1,λj G _=>k1 j G,by unfold bc;rw[k1 q C];exact pn,g1⟩;have o0:O8 ⟨Y,Y,Y,Y,Y,Y,Y,Y⟩ ⟨Y,Y,Y,Y,Y,Y,Y,Y⟩:=⟨λ_ z=>(by cases z),λ_ z=>(by cases z),λ_ z=>(by cases z),λ_ z=>(by cases z),λ_ z=>(by cases z),λ_ z=>(by cases z),λ_ z=>(by cases z),λ_ z=>(by cases z)⟩
       obtain⟨h2,e2,em,U,o2⟩:=yu (it:=⟨l,[(u,l)]⟩) (λh' s' ai P=>by
        intro p hp
        have:p=(u,l):=by simpa using hp
        subst this
        exact(P.mv u (aG E) λz=>W (z▸hq)).trans E) bd hq F wk l _ _ _ y s S (Rps.fq S ro) o0 R Q
       have Z:=sR.ok (FF U bd hq F o2);rw[ed]at Z;obtain⟨v,h3,e3,kb,B,_,rz,_⟩:=Z;have X:=U.kb C kb B;have run:dB [.int (k:Int),.loc u] h=.ok v h3:=by
        unfold dB;rw[eV (by rfl)];unfold qo;rw[show bv 11 [.int (k:Int),.loc u]=[J (.int (k:Int)),J (.loc u),Y,Y,Y,Y,Y,Y,Y,Y,Y]from rfl];have c2:bM 2 (bO 1 [0] (dJ (aj (am 0) f_)) (ki 0) m_ (bO 1 [] (dJ (aj (am 1) f_)) (ki 0) m_ Iy)) [J (.int (k:Int)),J (.loc u),Y,Y,Y,Y,Y,Y,Y,Y,Y] h=.nx (sE (.int (k:Int)) (.loc u) h.length ⟨Y,Y,Y,Y,Y,Y,Y,Y⟩) y:=by rw[eQ,gN,DA (n:=k) (h1:=h) rfl (by ext),Out.bind_ok];refine(congrArg (λz:Out Unit=>(z.bind _).go _ _) e1).trans ?_;rfl
        rw[bK,c2,MM.ax,bK,eR];have c3:cS (am 1) (sE (.int (k:Int)) (.loc u) h.length ⟨Y,Y,Y,Y,Y,Y,Y,Y⟩) y=.ok ⟨l,[(u,l)]⟩ y:=by rw[qg];show uq (.loc u) y=_;exact qX ((R.mv u (aG E) λz=>W (z▸hq)).trans E)
        rw[c3,aw];refine(congrArg (λz:SOut=>(z.then _).fin) em).trans ?_;rw[MM.ax,qF,e3];rfl
       refine⟨v,h3,run,⟨X.len,λj G nq=>X.mv j G nq⟩,B,Rp.fq fd (rz rfl),λ_ kk ab e=>?_⟩;rw[e]at fd;cases kk<;>simp[dl,flat]at fd
      .trivial
     .trivial
    .trivial
   .trivial
  .trivial
def cb(F:Fn):Xd []:=(aF (s_ (xB (ae ub (ac 0) (dQ a_))) (aN (aX (aa (xC (.int 1)) (aa (xC (.int 1)) a_)))) io)
 (aF (aP 1 (aX (aa (xC (.int 0)) (aa (xC (.int 1)) a_))))
 (aF (iu (cR iE (aa (ae h_ (ac 0) (xC (.int 0))) a_)) (Bq (rg (lf 2) (rg (lf 3) Bp)) 2) (aF (aP 4 (ah bR (aa (ac 3) (aa (ah F (aa (bh 1 [2] (bL (x2 (ac 0) (xz (xC (.int 1))) xw)) (ws':=[]) (lf 0) oh (ae bC (x2 (ac 0) xw (xz (ac 1))) (x2 (ac 0) (xz (ae bC (ac 1) (xC (.int 1)))) xw))) a_)) a_))))
 (aP 1 (ah fL (aa (ac 1) (aa (ah bR (aa (ac 4) (aa (aX (aa (ae jn (xC (.int 1)) (ae bn (xC (.int 2)) (ae jP (ac 2) (xC (.int 2))))) (aa (xC (.int 1)) a_))) a_))) a_))))))
 (aN (ac 1)))))
def bg:Nat->Fn
 |0=>wR (cE 5 1 λ_ _=>.bad)
 |n+1=>bB 5 1 (cb (bg n))
def jp{n:Nat}{a:SV}{s:b_}(h:a.length=1):(bg (n+1)).p a s=((cb (bg n)).p (k_ 5 a) s).fin:=aW h
def b8:Fn:=bg 8
def dE:Xd [3]:=(aF (iN 3 (dQ a_))
 (aF (iu (bL (x2 (ac 1) xw (xz (ac 2)))) (lf 4) (aF (aP 5 (n4 pP (aa (ae h_ (ae h_ (ac 0) (xC (.int 1))) (ac 4)) a_)))
 (Cg q0 3 (aa (bh 1 [5] (bL (x2 (ac 1) xw (xz (ac 2)))) (ws':=[]) (lf 0) oh (BF (ac 1) (aa (ac 0) (aa (aX (aa (xC (.int 0)) (aa (xC (.int 1)) a_))) a_)))) a_))))
 (nF 3)))
def bW:Fn:=bB 6 3 dE
def pH{a:SV}{s:b_}(h:a.length=3):bW.p a s=(dE.p (k_ 6 a) s).fin:=aW h
def gb:Xd []:=(aF (aP 2 (xC .non))
 (aF (sA "NoPivot" "place" 2 3 (aP 2 (ah dL (aa (ac 0) (aa (n4 m4 (aa (ac 1) a_)) a_)))))
 (aN (ac 2))))
def cA:Fn:=bB 4 2 gb
def uW{a:SV}{s:b_}(h:a.length=2):cA.p a s=(gb.p (k_ 4 a) s).fin:=aW h
def cZ:Xd []:=(aF (aP 1 (ae bC (xC (.int 1)) (ah aU (aa (ac 0) (aa (xC (.int 4)) a_)))))
 (aF (aP 2 (aX (aa (ac 1) (aa (ah ja (aa (ac 0) (aa (ac 1) a_))) a_))))
 (aF (aP 3 (ah eB (aa (ac 0) (aa (ac 1) a_))))
 (aF (aP 4 (ah cA (aa (ac 2) (aa (ac 3) a_))))
 (aF (aP 5 (aX (aa (xC (.int 1)) (aa (xC (.int 1)) a_))))
 (aF (iu (cR Fy (aa (ac 1) a_)) (lf 6) (aF (aP 7 (ah b8 (aa (ah bW (aa (ac 2) (aa (ac 3) (aa (ae bC (ac 6) (xC (.int 1))) a_)))) a_)))
 (aF (s_ (xB (ae y6 (ae h_ (ac 7) (xC (.int 0))) (xC (.int 0)))) (aN (ah dh (aa (ac 4) (aa (aX (aa (ae h_ (ac 3) (ac 6)) (aa (xC .non) a_))) a_)))) io)
 (aF (s_ (xB (u_ (ba ["list"]) (ac 4))) (s_ (w9 (bA (xB (ah d3 (aa (ac 4) (aa (ac 3) a_))))) (xB (ae wV (ah bR (aa (ae h_ (ae h_ (ac 4) (ac 6)) (xC (.int 1))) (aa (ac 5) a_))) (ac 7)))) (aN (xC (.bl T))) io) io)
 (aP 5 (ac 7))))))
 (aF (s_ (w9 (bA (xB (u_ (ba ["list"]) (ac 4)))) (xB (ae wV (ah dH (aa (ac 1) (aa (ac 4) a_))) (ac 2)))) (aN (xC (.bl T))) io)
 (aN (ah dh (aa (ah iT (aa (ac 1) (aa (ac 4) a_))) (aa (ac 2) a_)))))))))))
def ce:Fn:=bB 8 1 cZ
def oH{a:SV}{s:b_}(h:a.length=1):ce.p a s=(cZ.p (k_ 8 a) s).fin:=aW h
def ie:Xd []:=(aF (aP 1 (ah jt (aa (ac 0) a_)))
 (aF (aP 2 (ah hX (aa (ac 0) (aa (ac 1) (aa (ah eB (aa (ac 0) (aa (ac 1) a_))) (aa (ae bC (ae bC (xC (.int 1)) (ah aU (aa (ac 0) (aa (xC (.int 4)) a_)))) (ae bn (xC (.int 2)) (n4 im (aa (ae y6 (ac 1) (xC (.int 12))) a_)))) a_))))))
 (aF (aP 3 (n4 m4 (aa (ac 2) a_)))
 (aN (eO (ah dh (aa (ah iT (aa (ac 1) (aa (ac 3) a_))) (aa (ah dH (aa (ac 1) (aa (ac 2) a_))) a_))) (eO (ae y6 (ac 3) (ac 2)) (ah ce (aa (ac 0) a_))))))))
def dI:Fn:=bB 4 1 ie
def xx{a:SV}{s:b_}(h:a.length=1):dI.p a s=(ie.p (k_ 4 a) s).fin:=aW h
def Cz:nr:=(du (sk BX (aj (bO 1 [0] (dJ (aj (sk BW (aj (mC (.int 1)) (aj (sk Bn (aj (sk sw (aj (am 0) f_)) (aj (mC (.int 10)) f_))) f_))) f_)) (ki 0) m_ (fu dI.m (aj (fu iX (aj (am 1) (aj (am 0) f_))) f_))) f_)))
def B5:SM->MH->SH:=cE 1 1 Cz
abbrev jz:=dI.m
def uT:dI.m=jz:=rfl
end
def uu{lo:Int}{c:Nat}:(d6 lo c).length=c:=by simp[d6]
def tK{c i:Nat}{x:D}(h:(d6 0 c)[i]?=J x):x=.int (i:Int)/\i<c:=by unfold d6 at h;rw[r6,Bt]at h;obtain⟨k,j,rfl⟩:=h;obtain⟨a,b⟩:=qi.mp j;simp at a b;subst b;exact⟨by simp,a⟩
def nk{j:SU}{env:ay}{s s1:b_}{o:Fv}{i:Nat}{a:Xs j}{l:j.contains i=I}{u:a.fz=I}{as ds ds':SV}{r:D}(e1:a.p env s=.ok as s1)(e2:env[i]?=J (J (.lst ds)))(e3:o.p ds as=J (r,ds')):(Cg o i a l u).p env s=.nx (env.set i (J (.lst ds'))) s1:=by rw[LD,yQ e1 e2 e3]
abbrev nD(t b:Int):D:=.tup [.int t,.int b]
def lL{a b:Int}(j:0<=a)(i:0<=b):Int.gcd b (a % b)=Int.gcd a b:=by obtain⟨m,rfl⟩:=QK j;obtain⟨n,rfl⟩:=QK i;show Nat.gcd n (m % n)=Nat.gcd m n;rw[Nat.gcd_comm m n,Nat.gcd_rec n m,Nat.gcd_comm]
def lG{a b:Int}(i:0<b):jP.p (.int a) (.int b)=J (.int (a % b)):=by rw[DN (by ext),MZ _ (by ext)]
def sQ{a b:Int}(i:b≠0):DI.p (.int a) (.int b)=J (.int (a.fdiv b)):=e_ i
def nN{a b:Int}(i:0<b):DI.p (.int a) (.int b)=J (.int (a/b)):=by rw[sQ (by ext),Int.fdiv_eq_ediv_of_nonneg _ (by ext)]
def Iz{a:Int}:(if a<0 then -a else a)=(a.natAbs:Int):=by split<;>ext
def zP{a:Int}:qj.p [.int a]=J (.int (a.natAbs:Int)):=by show J (D.int (if a<0 then -a else a))=_;rw[Iz]
def FG{a:SU}{N:Nat}{t:Xt a}{b:Xd a}(i:∀{Z h n},cD t.m b.m n Z h≠.bad->G9 t.m b.m Z h=cD t.m b.m n Z h){env:ay}{s:b_}:(Lw N t b i).p env s=eJ t.p b.p N env s:=rfl
def tV{b r:Int}(a:0<r)(l:r<b):0<=b % r/\b % r<r/\2*(b % r)<b:=by
 have u:=J5 b (show r≠0 by ext);have y:=JZ b a;have z:=Int.mul_ediv_add_emod b r;have i:1<=b/r:=by rw[Int.le_ediv_iff_mul_le a];ext
 have j:r*1<=r*(b/r):=Int.mul_le_mul_of_nonneg_left i (by ext);ext
def fT{a:Int}(h:0<=a):((Int.gcd a 0:Nat):Int)=a:=by rw[Int.gcd_zero_right];ext
abbrev Ez:Xt []:=xB (ae HG (ac 3) (xC (.int 0)))
abbrev EA:Xd []:=pV 2 3 (aa (ac 3) (aa (ae jP (ac 2) (ac 3)) a_))
def Mw{x y:So}{a b:Int}{n:Nat}{s:b_}(i:0<b):eJ Ez.p EA.p (n+1) [x,y,J (.int a),J (.int b)] s=eJ Ez.p EA.p n [x,y,J (.int b),J (.int (a % b))] s:=by rw[eJ];simp[lG i,i,PR.bl]
def IA{x y:So}{a:Int}{n:Nat}{s:b_}:eJ Ez.p EA.p (n+1) [x,y,J (.int a),J (.int 0)] s=.nx [x,y,J (.int a),J (.int 0)] s:=by rw[eJ];simp[PR.bl]
def EB{x y:So}{s:b_}:∀(k n:Nat)(a b:Int),0<=a->0<=b->b<2^k->2*k+1<=n->eJ Ez.p EA.p n [x,y,J (.int a),J (.int b)] s=.nx [x,y,J (.int (Int.gcd a b)),J (.int 0)] s:=by
 intro k
 induction k with
 |zero =>
  intro n a b l j u F;obtain⟨m,rfl⟩:∃m,n=m+1:=⟨n-1,by ext⟩
  have:b=0:=by simp at u;ext
  subst this;rw[IA,fT l]
 |succ k G =>
  intro n a b l j u F;obtain⟨m,rfl⟩:∃m,n=m+1+1:=⟨n-2,by ext⟩;by_cases e:b=0
  .subst e;rw[IA,fT l]
  .have i:0<b:=by ext
   rw[Mw i,<-lL l j];have z:=J5 a e;have B:=JZ a i;generalize a % b=r at z B ⊢;by_cases E:r=0
   .subst E;rw[IA,fT j]
   .obtain⟨C,L,H⟩:=tV (b:=b) (r:=r) (by ext) B;rw[Mw (by ext),<-lL j z];refine G m r (b % r) z C ?_ (by ext);rw[Int.pow_succ]at u;ext
abbrev qD(q:Rat):D:=nD q.num (q.den:Int)
def sz(q:Rat):Nat:=max (q.num.natAbs.log2+1) (q.den.log2+1)
def zu(n:Nat):n<2^(n.log2+1):=Nat.lt_log2_self
def bU(q:Rat):q.num.natAbs<2^sz q:=vv (zu _) (JW (by decide) (Nat.le_max_left _ _))
def bj(q:Rat):q.den<2^sz q:=vv (zu _) (JW (by decide) (Nat.le_max_right _ _))
def uo{n k:Nat}(a:0<k)(h:n<2^k):n.log2+1<=k:=by
 rcases Nat.eq_zero_or_pos n with e|e
 .subst e;simp only[Nat.log2_zero];ext
 .exact (Nat.log2_lt (by ext)).mpr h
def My{q:Rat}{k:Nat}(a:0<k)(i:q.num.natAbs<2^k)(j:q.den<2^k):sz q<=k:=Nat.max_le.mpr ⟨uo a i,uo a j⟩
def ui(q:Rat):0<sz q:=vv (Nat.succ_pos _) (Nat.le_max_left _ _)
def qO(t:Int)(b:Nat)(a:b≠0):(Rat.divInt t b).num=t/(Nat.gcd t.natAbs b:Int)/\(Rat.divInt t b).den=b/Nat.gcd t.natAbs b:=by rw[Rat.divInt_ofNat];unfold mkRat;rw[dif_neg a,Rat.normalize_eq];exact⟨rfl,rfl⟩
def EC{t:Int}{g:Nat}:(t/(g:Int)).natAbs<=t.natAbs:=Int.natAbs_ediv_le_natAbs t g
def md{t:Int}{b k:Nat}(i:b≠0)(j:0<k)(a:t.natAbs<2^k)(l:b<2^k):sz (Rat.divInt t b)<=k:=by
 obtain⟨e1,e2⟩:=qO t b i;refine My j ?_ ?_
 .rw[e1];exact M7 EC a
 .rw[e2];exact M7 (Nat.div_le_self _ _) l
def nP(p q:Rat):p+q=Rat.divInt (p.num*q.den+q.num*p.den) ((p.den*q.den:Nat):Int):=by
 have:=Rat.divInt_add_divInt p.num q.num (d₁:=p.den) (d₂:=q.den) (by have:=p.den_nz;ext) (by have:=q.den_nz;ext)
 rw[Rat.num_divInt_den,Rat.num_divInt_den]at this;rw[this];push_cast;rfl
def km(p q:Rat):p*q=Rat.divInt (p.num*q.num) ((p.den*q.den:Nat):Int):=by
 have:=Rat.divInt_mul_divInt p.num q.num (d₁:=p.den) (d₂:=q.den)
 rw[Rat.num_divInt_den,Rat.num_divInt_den]at this;rw[this];push_cast;rfl
def cH{a b j k:Nat}(i:a<2^j)(l:b<2^k):a*b<2^(j+k):=by rw[Nat.pow_add];exact Oy i l
def IB{a b c d:Int}{j k:Nat}(l:a.natAbs<2^j)(y:b.natAbs<2^k)(u:c.natAbs<2^k)(i:d.natAbs<2^j):(a*b+c*d).natAbs<2^(j+k+1):=by have e1:=cH l y;have e2:=cH u i;have e3:=Int.natAbs_add_le (a*b) (c*d);rw[Cj,Cj]at e3;rw[Nat.add_comm k j]at e2;rw[OB];ext
def zl(p q:Rat):sz (p+q)<=sz p+sz q+1:=by
 rw[nP];refine md (J6 p.den_nz q.den_nz) (by ext) ?_ ?_
 .exact IB (bU p) (by simpa using bj q) (bU q) (by simpa using bj p)
 .have:=cH (bj p) (bj q)
  rw[OB];ext
def kq(p q:Rat):sz (p*q)<=sz p+sz q:=by rw[km];refine md (J6 p.den_nz q.den_nz) (by have:=ui p;ext) ?_ (cH (bj p) (bj q));rw[Cj];exact cH (bU p) (bU q)
def yX(p:Rat):sz (-p)=sz p:=by unfold sz;rw[Rat.neg_num,Rat.neg_den,Int.natAbs_neg]
local macro_rules | `(tactic| simp! [$a,*]) => `(tactic| simp only [$a,*, Pb, af, ao, aq, au])
local macro_rules | `(tactic| dsimp! [$a,*]) => `(tactic| simp only [$a,*, Pb, Pf, Pg, ao])
def jg{t:Int}{b k:Nat}{s:b_}(u:b≠0)(C:b<2^k)(E:k<=950000):bi.p [.int t,.int (b:Int)] s=.ok (qD (Rat.divInt t b)) s:=by
 obtain⟨e1,e2⟩:=qO t b u;have i:((b:Nat):Int)<2^k:=by
  have:=Int.ofNat_lt.mpr C
  simpa using this
 have j:0<(Nat.gcd t.natAbs b:Int):=by
  have:0<Nat.gcd t.natAbs b:=QJ _ (by ext)
  ext
 rw[uR (by rfl)];unfold fY;have e0:k_ 4 [D.int t,.int (b:Int)]=[J (.int t),J (.int (b:Int)),Y,Y]:=rfl;have q:=EB (x:=J (.int t)) (y:=J (.int (b:Int))) (s:=s) k 2000000 (t.natAbs:Int) ((b:Int).natAbs:Int) (by ext) (by ext) (by simpa using i) (by ext);rw[e0];simp![aB,HL,bz,zP,Pf,Pg,r_,q_,PU.ax];rw[FG pN];refine(congrArg (λz:PS=>(z.then _).fin) q).trans ?_;rw[Int.gcd_natCast_natCast,Oo];have l:=nN (a:=t) j;have B:=nN (a:=(b:Int)) j;rw[qD,e1,e2];simp[PR.bl,show ¬(b:Int)<0 by ext,l,B]
def vA{a:Int}{k:Nat}(h:a.natAbs<2^k)(i:k<=1000000):Builtin.Int.intBits a<=2^20:=by
 unfold Builtin.Int.intBits;rcases Nat.eq_zero_or_pos k with e|e
 .subst e
  have:a.natAbs=0:=by simpa using h
  rw[this];split<;>simp
 .have:=uo e h
  split<;>ext
def bG{a b:Int}{j k:Nat}(l:a.natAbs<2^j)(y:b.natAbs<2^k)(i:j<=1000000:=by ext)(u:k<=1000000:=by ext):bn.p (.int a) (.int b)=J (.int (a*b)):=e_ (IntMulOk.of_bits (vA l i) (vA y u))
def z0{x y:D}:nw [x,y] 0=J x:=rfl
def z1{x y:D}:nw [x,y] 1=J y:=rfl
def zw{p q:Rat}{s:b_}(h:sz p+sz q<=900000):fL.p [qD p,qD q] s=.ok (qD (p+q)) s:=by
 have y:=bU p;have u:=bj p;have z:=bU q;have i:=bj q;rw[xK (by rfl)];unfold ju;rw[show k_ 2 [qD p,qD q]=[J (qD p),J (qD q)]from rfl];have l:=jg (t:=p.num*q.den+q.num*p.den) (b:=p.den*q.den) (s:=s) (J6 p.den_nz q.den_nz) (cH (bj p) (bj q)) (by ext);rw[<-nP,Jx]at l
 simp![bo,aC,aD,aT,aJ,kP,z0,z1,Pf,bG (b:=(q.den:Int)) (k:=sz q) y (by simpa using i),bG (b:=(p.den:Int)) (k:=sz p) z (by simpa using u),bP,l,Pg,PU.bq,bG (a:=(p.den:Int)) (b:=(q.den:Int)) (j:=sz p) (k:=sz q) (by simpa using u) (by simpa using i)]
def nL{p q:Rat}{s:b_}(h:sz p+sz q<=900000):bR.p [qD p,qD q] s=.ok (qD (p*q)) s:=by have i:=bU p;have y:=bj p;have z:=bU q;have u:=bj q;rw[xu (by rfl)];unfold hZ;rw[show k_ 2 [qD p,qD q]=[J (qD p),J (qD q)]from rfl];have l:=jg (t:=p.num*q.num) (b:=p.den*q.den) (s:=s) (J6 p.den_nz q.den_nz) (cH (bj p) (bj q)) (by ext);rw[<-km,Jx]at l;simp![bo,aC,aD,aT,aJ,kP,z0,z1,Pf,bG i z,bG (a:=(p.den:Int)) (b:=(q.den:Int)) (j:=sz p) (k:=sz q) (by simpa using y) (by simpa using u),l,Pg,PU.bq]
def AI{t:Int}{b:Nat}(a:b≠0)(i:t.natAbs<=1000000)(j:b<=1000000):sz (Rat.divInt t b)<=20:=md a (by decide) (by ext) (by ext)
def rD{t b:Int}{s:b_}(i:1<=b)(a:t.natAbs<=1000000)(j:b<=1000000):∃q:Rat,bi.p [.int t,.int b] s=.ok (qD q) s/\sz q<=20:=by obtain⟨n,rfl⟩:=kM (show 0<=b by ext);exact⟨_,jg (k:=20) (by ext) (by ext) (by ext),AI (by ext) a (by ext)⟩
abbrev N8:Xt []:=xB (ae wV (ac 1) (xC (.int 0)))
abbrev N9:Xd []:=(aF (aP 2 (ae jP (ac 0) (ac 1))) (aF (aP 0 (ac 1)) (aP 1 (ac 2))))
def Rz{x:So}{a b:Int}{n:Nat}{s:b_}(i:0<b):eJ N8.p N9.p (n+1) [J (.int a),J (.int b),x] s=eJ N8.p N9.p n [J (.int b),J (.int (a % b)),J (.int (a % b))] s:=by rw[eJ];simp[lG i,PR.bl,show ¬b=0 by ext]
def Qw{x:So}{a:Int}{n:Nat}{s:b_}:eJ N8.p N9.p (n+1) [J (.int a),J (.int 0),x] s=.nx [J (.int a),J (.int 0),x] s:=by rw[eJ];simp[PR.bl]
def IC{s:b_}:∀(k n:Nat)(a b:Int)(x:So),0<=a->0<=b->b<2^k->2*k+1<=n->∃B,eJ N8.p N9.p n [J (.int a),J (.int b),x] s=.nx [J (.int (Int.gcd a b)),J (.int 0),B] s:=by
 intro k
 induction k with
 |zero =>
  intro n a b x l j u F;obtain⟨m,rfl⟩:∃m,n=m+1:=⟨n-1,by ext⟩
  have:b=0:=by simp at u;ext
  subst this;exact⟨x,by rw[Qw,fT l]⟩
 |succ k G =>
  intro n a b x l j u F;obtain⟨m,rfl⟩:∃m,n=m+1+1:=⟨n-2,by ext⟩;by_cases e:b=0
  .subst e;exact⟨x,by rw[Qw,fT l]⟩
  .have i:0<b:=by ext
   rw[Rz i,<-lL l j];have y:=J5 a e;have z:=JZ a i;generalize a % b=r at y z ⊢;by_cases E:r=0
   .subst E;exact⟨_,by rw[Qw,fT j]⟩
   .obtain⟨C,L,H⟩:=tV (b:=b) (r:=r) (by ext) z;rw[Rz (by ext),<-lL j y];refine G m r (b % r) _ y C ?_ (by ext);rw[Int.pow_succ]at u;ext
def Mz{a k:Nat}(h:a<2^k):((a:Nat):Int)<2^k:=by
 have:=Int.ofNat_lt.mpr h
 simpa using this
def AS{a b k:Nat}{s:b_}(i:b<2^k)(l:k<=950000):cu.p [.int (a:Int),.int (b:Int)] s=.ok (.int (Nat.gcd a b:Int)) s:=by rw[mI (by rfl)];unfold cw;obtain⟨j,q⟩:=IC (s:=s) k 2000000 (a:Int) (b:Int) Y (by ext) (by ext) (Mz i) (by ext);rw[show k_ 3 [D.int (a:Int),.int (b:Int)]=[J (.int (a:Int)),J (.int (b:Int)),Y]from rfl,aB,FG pN];refine(congrArg (λz:PS=>(z.then _).fin) q).trans ?_;simp
def vp{i:Int}{s:b_}:cY.p [.int i] s=.ok (.bl I) s:=by rw[uK (by rfl)];unfold fW;have e1:(ba ["int"]).p (.int i)=J (.bl I):=rfl;have e2:(ba ["bool"]).p (.int i)=J (.bl T):=rfl;rw[show k_ 1 [D.int i]=[J (.int i)]from rfl];dsimp![bo,kj,eP,e1,e2,PR.bl,if_true,vZ,Nc,PU.bq]
def ID{t b:Int}(a:b≠0):Rat.divInt t b=Rat.divInt (if b<0 then -t else t) (b.natAbs:Nat):=by
 split
 .have:((b.natAbs:Nat):Int) = -b:=by ext
  rw[this];exact(Rat.neg_divInt_neg t b).symm
 .have:((b.natAbs:Nat):Int)=b:=by ext
  rw[this]
def zk{t:Int}{g:Nat}(hg:0<g)(hd:(g:Int) ∣ t):t.fdiv (-(g:Int))=(-t)/(g:Int):=by
 obtain⟨c,rfl⟩:=hd;have a:(g:Int)≠0:=by ext
 have e1:((g:Int)*c).fdiv (-(g:Int)) = -c:=by rw[show(g:Int)*c=(-(g:Int))*(-c) by rw[Int.neg_mul_neg],Int.mul_fdiv_cancel_left _ (by ext)]
 rw[e1,<-Int.mul_neg,Int.mul_ediv_cancel_left _ a]
def g8{t b:Int}{k:Nat}{s:b_}(y:b≠0)(E:b.natAbs<2^k)(C:k<=950000):bH.p [.int t,.int b] s=.ok (qD (Rat.divInt t b)) s:=by
 have u:b.natAbs≠0:=by ext
 have B:0<Nat.gcd t.natAbs b.natAbs:=QJ _ (by ext);have sh:=AS (a:=t.natAbs) (s:=s) E C;rw[ID y];obtain⟨e1,e2⟩:=qO (if b<0 then -t else t) b.natAbs u;have F:(if b<0 then -t else t).natAbs=t.natAbs:=by split<;>simp
 rw[F]at e1 e2;rw[sJ (by rfl)];unfold ff;rw[show k_ 3 [D.int t,.int b]=[J (.int t),J (.int b),Y]from rfl];simp![aB,bw,iO,cW,bE,aC,vp,PR.bl,BR,wj,if_false,Pg,bf,PU.ax,aD,aT,aJ,dM,cr,Pf,decide_eq_false y,aV,bz,zP,sh,r_,q_,yx];have G:(Nat.gcd t.natAbs b.natAbs:Int) ∣ t:=Int.ofNat_dvd_left.mpr (Nat.gcd_dvd_left _ _);have H:(Nat.gcd t.natAbs b.natAbs:Int) ∣ b:=Int.ofNat_dvd_left.mpr (Nat.gcd_dvd_right _ _);by_cases z:b<0
 .rw[decide_eq_true z];have l:DI.p (.int t) (.int (-(Nat.gcd t.natAbs b.natAbs:Int)))=J (.int ((-t)/(Nat.gcd t.natAbs b.natAbs:Int))):=by rw[sQ (by ext),zk B G]
  have i:DI.p (.int b) (.int (-(Nat.gcd t.natAbs b.natAbs:Int)))=J (.int ((-b)/(Nat.gcd t.natAbs b.natAbs:Int))):=by rw[sQ (by ext),zk B H]
  have e3:(-b:Int)=(b.natAbs:Nat):=by ext
  rw[qD,e1,e2,e_ z];have j:lH.p (.int (Nat.gcd t.natAbs b.natAbs:Int))=J (.int (-(Nat.gcd t.natAbs b.natAbs:Int))):=rfl;simp[l,i,e3,j]
 .rw[decide_eq_false z];have l:=nN (a:=t) (b:=(Nat.gcd t.natAbs b.natAbs:Int)) (by ext);have i:=nN (a:=b) (b:=(Nat.gcd t.natAbs b.natAbs:Int)) (by ext);have e3:((b.natAbs:Nat):Int)=b:=by ext
  rw[qD,e1,e2,h8 z];simp[l,i,e3]
def jX(a:Nat)(i:List Rat):Nat:=i.foldl (λa q=>a*q.den/Nat.gcd a q.den) a
def nY{a:Nat}{q:Rat}{i:List Rat}:jX a (q::i)=jX (Nat.lcm a q.den) i:=rfl
def vV:∀(i:List Rat)(a:Nat),a ∣ jX a i/\∀q∈i,q.den ∣ jX a i
 |[],a=>⟨Nat.dvd_refl _,by simp⟩
 |q::i,a=>by
  rw[nY];obtain⟨l,u⟩:=vV i (Nat.lcm a q.den);refine⟨Nat.dvd_trans (Nat.dvd_lcm_left _ _) l,λp j=>?_⟩;rcases qd.mp j with rfl|j
  .exact Nat.dvd_trans (Nat.dvd_lcm_right _ _) l
  .exact u p j
def qE:∀(i:List Rat)(a:Nat),0<a->0<jX a i
 |[],a,h=>h
 |q::i,a,h=>by rw[nY];exact qE i _ (Nat.lcm_pos h (Nat.pos_of_ne_zero q.den_nz))
def JQ(a:List Rat):Nat:=(a.map sz).sum
def tT{q:Rat}{a:List Rat}:JQ (q::a)=sz q+JQ a:=by simp[JQ]
def zx:∀(i:List Rat)(a k:Nat),a<2^k->jX a i<2^(k+JQ i)
 |[],a,k,h=>by simpa [JQ,jX]using h
 |q::i,a,k,h=>by
  rw[nY,tT];have j:Nat.lcm a q.den<2^(k+sz q):=M7 (Nat.div_le_self _ _) (cH h (bj q))
  have:=zx i _ _ j
  rwa [Nat.add_assoc]at this
def MB{p q:Rat}{s:b_}(h:sz p+sz q<=900000):fb.p [qD p,qD q] s=.ok (qD (p+q)) s:=by
 have l:=bU p;have i:=bU q;have dp:=bj p;have a:=bj q;have e1:bn.p (.int p.num) (.int (q.den:Int))=J (.int (p.num*q.den)):=bG (j:=sz p) (k:=sz q) l (by simpa using a);have e2:bn.p (.int q.num) (.int (p.den:Int))=J (.int (q.num*p.den)):=bG (j:=sz q) (k:=sz p) i (by simpa using dp);have e3:bn.p (.int (p.den:Int)) (.int (q.den:Int))=J (.int ((p.den:Int)*q.den)):=bG (j:=sz p) (k:=sz q) (by simpa using dp) (by simpa using a);have u:((p.den:Int)*q.den)≠0:=J7 (by have:=p.den_nz;ext) (by have:=q.den_nz;ext);have dl:((p.den:Int)*q.den).natAbs<2^(sz p+sz q):=by rw[Cj];exact cH (by simpa using dp) (by simpa using a)
 have nn:=g8 (t:=p.num*q.den+q.num*p.den) (s:=s) u dl (by ext);rw[Ek (by rfl)];unfold lZ;rw[show k_ 2 [qD p,qD q]=[J (qD p),J (qD q)]from rfl];simp![bo,aC,aD,aT,aJ,kP,z0,z1,Pf,e1,e2,e3,bP,nn,Pg,PU.bq];rw[nP p q,Jx]
def IE{p q:Rat}{s:b_}(h:sz p+sz q<=900000):dZ.p [qD p,qD q] s=.ok (qD (p*q)) s:=by
 have l:=bU p;have i:=bU q;have dp:=bj p;have a:=bj q;have e1:bn.p (.int p.num) (.int q.num)=J (.int (p.num*q.num)):=bG (j:=sz p) (k:=sz q) l i;have e3:bn.p (.int (p.den:Int)) (.int (q.den:Int))=J (.int ((p.den:Int)*q.den)):=bG (j:=sz p) (k:=sz q) (by simpa using dp) (by simpa using a);have u:((p.den:Int)*q.den)≠0:=J7 (by have:=p.den_nz;ext) (by have:=q.den_nz;ext);have dl:((p.den:Int)*q.den).natAbs<2^(sz p+sz q):=by rw[Cj];exact cH (by simpa using dp) (by simpa using a)
 have nn:=g8 (t:=p.num*q.num) (s:=s) u dl (by ext);rw[Bf (by rfl)];unfold kN;rw[show k_ 2 [qD p,qD q]=[J (qD p),J (qD q)]from rfl];simp![bo,aC,aD,aT,aJ,kP,z0,z1,Pf,e1,e3,nn,Pg,PU.bq];rw[km p q,Jx]
def EF(p q:Rat):p-q=Rat.divInt (p.num*q.den-q.num*p.den) ((p.den*q.den:Nat):Int):=by rw[Rat.sub_eq_add_neg,nP,Rat.neg_num,Rat.neg_den];congr 1;rw[Int.neg_mul,Int.sub_eq_add_neg]
def IF{p q:Rat}{s:b_}(h:sz p+sz q<=900000):j7.p [qD p,qD q] s=.ok (qD (p-q)) s:=by
 have l:=bU p;have i:=bU q;have dp:=bj p;have a:=bj q;have e1:bn.p (.int p.num) (.int (q.den:Int))=J (.int (p.num*q.den)):=bG (j:=sz p) (k:=sz q) l (by simpa using a);have e2:bn.p (.int q.num) (.int (p.den:Int))=J (.int (q.num*p.den)):=bG (j:=sz q) (k:=sz p) i (by simpa using dp);have e3:bn.p (.int (p.den:Int)) (.int (q.den:Int))=J (.int ((p.den:Int)*q.den)):=bG (j:=sz p) (k:=sz q) (by simpa using dp) (by simpa using a);have u:((p.den:Int)*q.den)≠0:=J7 (by have:=p.den_nz;ext) (by have:=q.den_nz;ext);have dl:((p.den:Int)*q.den).natAbs<2^(sz p+sz q):=by rw[Cj];exact cH (by simpa using dp) (by simpa using a)
 have nn:=g8 (t:=p.num*q.den-q.num*p.den) (s:=s) u dl (by ext);rw[AU (by rfl)];unfold kh;rw[show k_ 2 [qD p,qD q]=[J (qD p),J (qD q)]from rfl];simp![bo,aC,aD,aT,aJ,kP,z0,z1,Pf,e1,e2,e3,i4,nn,Pg,PU.bq];rw[EF p q,Jx]
def EH{p q:Rat}:p/q=Rat.divInt (p.num*q.den) ((p.den:Int)*q.num):=by rw[Rat.div_def,Rat.inv_def,km];have a:=Rat.num_divInt_den p;have e:Rat.divInt p.num p.den*Rat.divInt (q.den:Int) q.num=Rat.divInt (p.num*q.den) ((p.den:Int)*q.num):=Rat.divInt_mul_divInt ..;rw[<-km,<-e,a]
def MC{p q:Rat}{s:b_}(a:q≠0)(h:sz p+sz q<=900000):i6.p [qD p,qD q] s=.ok (qD (p/q)) s:=by
 have l:=bU p;have i:=bU q;have dp:=bj p;have y:=bj q;have e1:bn.p (.int p.num) (.int (q.den:Int))=J (.int (p.num*q.den)):=bG (j:=sz p) (k:=sz q) l (by simpa using y);have e3:bn.p (.int (p.den:Int)) (.int q.num)=J (.int ((p.den:Int)*q.num)):=bG (j:=sz p) (k:=sz q) (by simpa using dp) i;have u:q.num≠0:=λz=>a (Rat.num_eq_zero.mp z);have B:((p.den:Int)*q.num)≠0:=J7 (by have:=p.den_nz;ext) u;have dl:((p.den:Int)*q.num).natAbs<2^(sz p+sz q):=by rw[Cj];exact cH (by simpa using dp) i
 have nn:=g8 (t:=p.num*q.den) (s:=s) B dl (by ext);rw[En (by rfl)];unfold mD;rw[show k_ 2 [qD p,qD q]=[J (qD p),J (qD q)]from rfl];simp![bo,aC,aD,aT,aJ,kP,z0,z1,Pf,e1,e3,nn,Pg,PU.bq];rw[EH]
def IG{s:b_}:∃(n:Nat)(L:b_),jt.p [.pen] s=.ok (.int (n:Int)) L/\(n<=6\/n=12):=by
 obtain⟨a,F,S,R,O⟩:=bV (s:=s) (size:=16) (by decide) (by decide);rw[xR (by rfl)];unfold jf;rw[show k_ 1 [D.pen]=[J .pen]from rfl,aB,bw];dsimp![bE,aD,aC,af,aT,aJ,aq,O,dM,cr,wj,if_false,Pl,decide_eq_true_eq];by_cases z:a=15
 .exact⟨12,F,by rw[e_ z];rfl,.inr rfl⟩
 .obtain⟨b,Q,H,U,P⟩:=bV (s:=F) (size:=8) (by decide) (by decide);have G:∀{u j i E l B y C:D}{s:b_},(if [u,j,i,E,l,B,y,C].length<=100000 then PR.ok (D.lst [u,j,i,E,l,B,y,C]) s else .bad)=.ok (.lst [u,j,i,E,l,B,y,C]) s:=λ{u j i E l B y C s}=>e_ (by simp);obtain⟨m,M,em⟩:∃m:Nat,m<=6/\nw [D.int 4,.int 3,.int 5,.int 2,.int 6,.int 1,.int 0,.int 3] b=J (.int (m:Int)):=by
   obtain⟨k,rfl⟩:=kM H
   have:k<8:=by ext
   match k,this with
   |0,_=>exact⟨4,by decide,rfl⟩
   |1,_=>exact⟨3,by decide,rfl⟩
   |2,_=>exact⟨5,by decide,rfl⟩
   |3,_=>exact⟨2,by decide,rfl⟩
   |4,_=>exact⟨6,by decide,rfl⟩
   |5,_=>exact⟨1,by decide,rfl⟩
   |6,_=>exact⟨0,by decide,rfl⟩
   |7,_=>exact⟨3,by decide,rfl⟩
  refine⟨m,Q,?_,.inl M⟩;rw[h8 z,bf,PU.ax];dsimp![bo,aD,hV,af,aC,aT,aJ,aq,G,P,ld,em,PU.bq]
def Sm(q:Rat):Prop:=q≠0/\∃z:Int,q=Rat.divInt z 12/\z.natAbs<=3060
def vd{w:Bool}{s:b_}:∃q O,cF.p [.pen,.bl w] s=.ok (qD q) O/\Sm q:=by
 rw[xD (by rfl)];unfold g9;rw[show k_ 3 [D.pen,.bl w]=[J .pen,J (.bl w),Y]from rfl,aB,bw];have tw:∀{s:b_},(LI (ac 1):Xt []).p [J .pen,J (.bl w),Y] s=.ok w s:=λ{s}=>by cases w<;>rfl
 rw[tw,Pg]
 cases w with
 |true =>
  obtain⟨a,B,Q,H,C⟩:=bV (s:=s) (size:=255) (by decide) (by decide);obtain⟨b,u,L,U,E⟩:=bV (s:=B) (size:=2) (by decide) (by decide);have M:bn.p (.int 2) (.int b)=J (.int (2*b)):=bG (j:=4) (k:=4) (by decide) (by ext);have F:bn.p (.int (1+a)) (.int (1-2*b))=J (.int ((1+a)*(1-2*b))):=bG (j:=10) (k:=4) (by ext) (by ext);have t2:∀{x y:D}{s:b_},(if [x,y].length<=100000 then PR.ok (D.tup [x,y]) s else .bad)=.ok (.tup [x,y]) s:=λ{x y s}=>e_ (by simp);have tl:((1+a)*(1-2*b))≠0/\((1+a)*(1-2*b)).natAbs<=255:=by
   have:b=0\/b=1:=by ext
   rcases this with rfl|rfl<;>ext
  generalize W:(1+a)*(1-2*b)=l at F tl;have eq:qD (l:Rat)=.tup [.int l,.int 1]:=by simp[qD,nD]
  refine⟨(l:Rat),u,?_,?_,12*l,?_,by ext⟩
  .rw[eq,e_ rfl];dsimp![bo,bJ,af,aD,aT,aJ,aC,aq,C,E,bP,i4,M,F,t2,PU.kG,PU.bq]
  .exact λz=>tl.1 (by exact_mod_cast z)
  .rw[Rat.divInt_eq_div];push_cast
   grind
 |false =>
  rw[h8 (by simp),bf,PU.ax,aB,aV];obtain⟨a,B,Q,H,C⟩:=bV (s:=s) (size:=12) (by decide) (by decide);obtain⟨b,u,L,U,E⟩:=bV (s:=B) (size:=4) (by decide) (by decide);dsimp![aD,aC,af,aT,aJ,aq,C,i4,r_,q_,PU.ax];obtain⟨t,S,G,tl⟩:∃t:Int,(a-6+if decide (0<=a-6)=I then 1 else 0)=t/\t≠0/\t.natAbs<=6:=by refine⟨_,rfl,?_,?_⟩<;>(simp only[decide_eq_true_eq];split<;>ext)
  obtain⟨c,P⟩:=kM (i:=1+b) (by ext);have R:=jg (t:=t) (b:=c) (k:=4) (s:=u) (by ext) (by ext) (by decide);refine⟨Rat.divInt t c,u,?_,?_,t*((12/c:Nat):Int),?_,?_⟩
  .simp![bo,aC,aD,bz,aT,aJ,HJ,Pf,pe,bP,S,E,P,R,Pg,PU.bq]
  .intro z;rw[Rat.divInt_eq_div]at z;have c0:((c:Int):Rat)≠0:=by
    have:(c:Int)≠0:=by ext
    exact_mod_cast this
   have:(t:Rat)=0:=by grind
   exact G (by exact_mod_cast this)
  .have:c=1\/c=2\/c=3\/c=4:=by ext
   rw[Rat.divInt_eq_div,Rat.divInt_eq_div];rcases this with rfl|rfl|rfl|rfl<;>(push_cast;grind)
  .have:c=1\/c=2\/c=3\/c=4:=by ext
   rcases this with rfl|rfl|rfl|rfl<;>simp<;>ext
def A8{s:b_}:∃q L,dN.p [.pen] s=.ok (qD q) L/\sz q<=20:=by
 obtain⟨w,C,S,W,E⟩:=bV (s:=s) (size:=8) (by decide) (by decide);rw[uN (by rfl)];unfold gf;rw[show k_ 2 [D.pen]=[J .pen,Y]from rfl];by_cases F:w=7
 .subst F;obtain⟨a,y,M,G,B⟩:=bV (s:=C) (size:=2*10^6-1) (by decide) (by decide);obtain⟨b,i,H,R,u⟩:=bV (s:=y) (size:=10^6-1) (by decide) (by decide);obtain⟨q,l,z⟩:=rD (t:=a-10^6+1) (b:=1+b) (s:=i) (by ext) (by ext) (by ext);refine⟨q,i,?_,z⟩;have P:tL.p (.int 10) (.int 6)=J (.int (10^6)):=e_ ⟨by decide,by decide,by decide⟩;have Q:bn.p (.int 2) (.int (10^6))=J (.int (2*10^6)):=bG (j:=2) (k:=20) (by decide) (by decide);simp![aB,aV,aC,aT,aJ,E,Pg,r_,q_,PU.ax,bw,bE,aD,dM,cr,Pf,PR.bl,decide_true,if_true,bo,wj,if_false,P,Q,i4,B,bP,u,l,PU.kG,PU.bq]
 .obtain⟨m,em,O,U⟩:∃m:Int,nw [D.int 1,.int 1,.int 5] (w % 3)=J (.int m)/\0<m/\m<=5:=by
   obtain e|e | e:w % 3=0\/w % 3=1\/w % 3=2:=by ext
   .rw[e];exact⟨1,rfl,by decide,by decide⟩
   .rw[e];exact⟨1,rfl,by decide,by decide⟩
   .rw[e];exact⟨5,rfl,by decide,by decide⟩
  obtain⟨a,y,M,G,B⟩:=bV (s:=C) (size:=13) (by decide) (by decide);obtain⟨b,i,H,R,u⟩:=bV (s:=y) (size:=m) O (by ext);obtain⟨q,l,z⟩:=rD (t:=a-6) (b:=1+b) (s:=i) (by ext) (by ext) (by ext);refine⟨q,i,?_,z⟩;simp![aB,aV,aC,aT,aJ,E,Pg,r_,q_,PU.ax,bw,bE,aD,dM,cr,Pf,PR.bl,decide_eq_false F,if_true,bo,wj,if_false,lG (show(0:Int)<3 by decide),hV,BN,Jv,show(0+1+1+1:Nat)<=100000 by decide,ld,em,i4,B,bP,u,l,bf,PU.bq]
structure On(n:Nat)(ns:SU):Prop where
 n12:n<=12
 pm:ns.Perm (List.range n)
def On.len{n:Nat}{ns:SU}(o:On n ns):ns.length=n:=by have:=o.pm.length_eq;simpa using this
def On.nd{n:Nat}{ns:SU}(o:On n ns):ns.Nodup:=o.pm.symm.nodup F6
def On.lt{n:Nat}{ns:SU}(o:On n ns):∀x∈ns,x<n:=λx a=>by simpa using o.pm.mem_iff.mp a
abbrev inD'(x:Nat):D:=.int (x:Int)
abbrev j_(ns:SU):D:=.lst (ns.map inD')
def vi{n:Nat}{s:b_}(C:n<=12):∃ns l,eB.p [.pen,.int (n:Int)] s=.ok (j_ ns) l/\On n ns:=by
 rw[xo (by rfl)];unfold ic;have e0:k_ 4 [D.pen,.int (n:Int)]=[J .pen,J (.int (n:Int)),Y,Y]:=rfl;obtain⟨u,l,e,z,i,rfl,pm⟩:=kF (g:=(lf 3:Xg [2]).p) (b:=(Cg Bi 2 (aa (ah aU (aa (ac 0) (aa (ae bC (ac 3) (xC (.int 1))) a_))) (aa (ac 3) a_)):Xd [2]).p)
  (λj env l=>∃z i,env=[J .pen,J (.int (n:Int)),J (j_ i),z]/\i.Perm (List.range j)) (d6 0 n) 0 [J .pen,J (.int (n:Int)),J (.lst []),Y] s ⟨Y,[],rfl,by simp⟩ (λj env l d ⟨z,i,G,pm⟩ hd=>by
   rw[E7]at pm ⊢;subst G;obtain⟨rfl,H⟩:=tK hd;have B:i.length=j:=by have:=pm.length_eq;simpa using this
   obtain⟨d,y,E,L,F⟩:=bV (s:=l) (size:=(j:Int)+1) (by ext) (by ext);obtain⟨k,rfl⟩:=kM E;refine⟨[J .pen,J (.int (n:Int)),J (j_ i),J (.int (j:Int))],[J .pen,J (.int (n:Int)),J (j_ (i.take k++j::i.drop k)),J (.int (j:Int))],y,rfl,?_,_,i.take k++j::i.drop k,rfl,?_⟩
   .rw[nk (s1:=y) (as:=[.int (k:Int),.int (j:Int)]) (ds:=i.map inD') (ds':=(i.take k++j::i.drop k).map inD') (r:=.non) (by simp[F]) rfl (by
     rw[ye (by simp;ext) (by simp;ext)];simp)]
    rfl
   .have:(i.take k++j::i.drop k).Perm (j::i):=by
     have:=List.perm_middle (a:=j) (l₁:=i.take k) (l₂:=i.drop k)
     rwa [List.take_append_drop]at this
    refine this.trans ((pm.cons _).trans ?_);rw[List.range_succ]
    exact(List.perm_append_singleton _ _).symm)
 rw[uu,E7]at pm;refine⟨i,l,?_,C,pm⟩;have st:(iN 2 (dQ a_):Xd [2]).p [J .pen,J (.int (n:Int)),Y,Y] s=.nx [J .pen,J (.int (n:Int)),J (.lst []),Y] s:=by simp[pd]
 rw[e0,aB,st,PU.ax,aB,gp,hU,af];simp only[au,ao,Pb,aq];rw[sH (by ext),B2,Pf,Pg,e,PU.ax,pY (d:=j_ i) rfl,PU.bq]
def pf(n:Nat)(ns:SU)(k:Nat):SU:=(List.range n).filter λx=>decide (x∈ns.drop (k+1))
def cG{n:Nat}{ns:SU}{k x:Nat}(o:On n ns):x∈pf n ns k↔x∈ns.drop (k+1):=by unfold pf;rw[BO,decide_eq_true_eq,E6];exact⟨λh=>h.2,λh=>⟨o.lt x (Jq h),h⟩⟩
def gO{n:Nat}{ns:SU}{k:Nat}(o:On n ns):(pf n ns k).Perm (ns.drop (k+1)) :=
 (List.perm_ext_iff_of_nodup (F6.filter _) (o.nd.sublist (Ot _ _))).mpr λx=>cG o
def kJ{n:Nat}{ns:SU}{k:Nat}:(pf n ns k).Pairwise (·<·):=QO.filter _
def re{ns:SS}(hl:ns.length<64):fR.p [.lst (ns.map .int)]=J (.lst ((ip ns).map .int)):=by
 have e:∀ns:SS,lO (ns.map .int)=J ns:=λns=>by
  induction ns with
  |nil=>rfl
  |cons i k a=>rw[nc,lO,a];rfl
 show(sy (ns.map .int)).map _=_;simp only[sy,e];rw[e_ hl];rfl
def qA{n:Nat}{ns:SU}{k:Nat}(o:On n ns)(j:k<n):fR.p [.lst (d9 (ns.map inD') (J ((k:Int)+1)) Y)]=J (j_ (pf n ns k)):=by
 have i:=o.len;have n12:=o.n12;have e1:d9 (ns.map inD') (J ((k:Int)+1)) Y=((ns.drop (k+1)).map λ(x:Nat)=>(x:Int)).map .int:=by unfold d9;rw[HT.lE,xg,show(k:Int)+1=((k+1:Nat):Int) by ext,HT.mY,J3 (by ext),wu,<-Nf];exact M2 (by simp)
 rw[e1,re (by simp;ext)];have e2:ip ((ns.drop (k+1)).map λ(x:Nat)=>(x:Int))=(pf n ns k).map λ(x:Nat)=>(x:Int) :=
  jO (oE _) (kJ.map (S:=(·<=·)) _ (λa b h=>by ext)) ((jy _).trans ((gO o).symm.map _))
 rw[e2,wu];rfl
abbrev Pt:=Nat×Rat
abbrev lb(p:Pt):D:=.tup [.int (p.1:Int),qD p.2]
structure Wk where
 (v:Nat) (p:Rat) (r c:List Pt)
abbrev n7(w:Wk):D:=.tup [.int (w.v:Int),qD w.p,.tup (w.r.map lb),.tup (w.c.map lb)]
structure PtS(ls:SU)(ps:List Pt):Prop where
 sub:(ps.map (·.1)).Sublist ls
 sm:∀p∈ps,Sm p.2
structure WkOk(n:Nat)(ns:SU)(k:Nat)(w:Wk):Prop where
 v:ns[k]?=J w.v
 p:Sm w.p
 r:PtS (pf n ns k) w.r
 c:PtS (pf n ns k) w.c
def oJ{g:D->ay->Option ay}{t:ay->b_->PR Bool}{e:ay->b_->PR D}(S:ay->Prop):∀(j:SU)(env:ay)(s:b_),S env ->
  (∀x∈j,∀env s,S env->∃a,g (inD' x) env=J a/\S a/\∃b B,t a s=.ok b B/\(b=I->∃q E,e a B=.ok (lb (x,q)) E/\Sm q)) ->
  ∃l G,dz g t e (j.map inD') env s=.ok (l.map lb) G/\PtS j l
 |[],env,s,F,i=>⟨[],s,rfl,⟨List.Sublist.slnil,λ_ h=>nomatch h⟩⟩
 |x::j,env,s,F,i=>by
  obtain⟨a,e1,z,b,B,e2,e3⟩:=i x (by simp) env s F;have rest:=λy L=>i y (pj x L);rw[nc,dz,e1];dsimp only;rw[e2,Pb]
  cases b with
  |true =>
   obtain⟨q,E,e4,H⟩:=e3 rfl;obtain⟨l,C,e5,u⟩:=oJ S j a E z rest;refine⟨(x,q)::l,C,by simp only[if_true,e4,Pb,e5,nc],⟨u.sub.cons₂ _,λp h=>?_⟩⟩;rcases qd.mp h with rfl|h
   .exact H
   .exact u.sm p h
  |false =>
   obtain⟨l,C,e5,u⟩:=oJ S j a B z rest;exact⟨l,C,by simp only[wj,if_false,e5],⟨u.sub.cons _,u.sm⟩⟩
def PtS.of{j:SU}{a i:List Pt}(h:PtS j a)(s:i.Sublist a):PtS j i:=⟨(s.map _).trans h.sub,λp l=>h.sm p (s.subset l)⟩
def u5{ps:List Pt}{lo hi:SF}:∃a:List Pt,d9 (ps.map lb) lo hi=a.map lb/\a.Sublist ps:=by unfold d9;exact⟨(ps.drop _).take _,by rw[List.map_take,Nf],(List.take_sublist _ _).trans (Ot _ _)⟩
abbrev Qx:Xe [6]:=(bh 1 [0,4,3] (bL (ac 9)) (ws':=[]) (lf 0) (xB (ae y6 (ah aU (aa (ac 1) (aa (ac 3) a_))) (xC (.int 0)))) (aX (aa (ac 0) (aa (ah cF (aa (ac 1) (aa (ac 2) a_))) a_))))
def MD{env:ay}{a:SU}{w:Bool}{sm:Int}{s:b_}(e0:env[0]?=J (J .pen))(e4:env[4]?=J (J (.bl w)))(e3:env[3]?=J (J (.int sm)))(E:env[9]?=J (J (j_ a)))(C:0<sm)(Q:sm<=100)(hl:a.length<=100):∃j l,Qx.p env s=.ok (.lst (j.map lb)) l/\PtS a j:=by
 have t2:∀{x y:D}{s:b_},(if [x,y].length<=100000 then PR.ok (D.tup [x,y]) s else .bad)=.ok (.tup [x,y]) s:=λ{x y s}=>e_ (by simp);have fm:(([0,4,3]:SU).map λi=>(env[i]?).getD Y)=[J .pen,J (.bl w),J (.int sm)]:=by simp[e0,e4,e3]
 obtain⟨j,l,e,L⟩:=oJ (g:=(lf 0:Xg []).p) (t:=(xB (ae y6 (ah aU (aa (ac 1) (aa (ac 3) a_))) (xC (.int 0))):Xt []).p) (e:=(aX (aa (ac 0) (aa (ah cF (aa (ac 1) (aa (ac 2) a_))) a_)):Xe []).p) (λv=>∃z,v=z::[J .pen,J (.bl w),J (.int sm)]) a (wv 1 [0,4,3] env) s ⟨Y,by unfold wv;rw[fm];rfl⟩ (λx S u s ⟨z,F⟩=>by
  subst F;obtain⟨d,B,R,P,M⟩:=bV (s:=s) (size:=sm) C (by ext);refine⟨_,rfl,⟨J (inD' x),rfl⟩,_,B,by simp![bE,aD,aC,q_,aT,aJ,M,dM,cr,Pf,Pl];rfl,λ_=>?_⟩;obtain⟨q,G,O,H⟩:=vd (w:=w) (s:=B)
  exact⟨q,G,by simp![bJ,q_,aC,O,t2],H⟩)
 refine⟨j,l,?_,L⟩;show(bh 1 [0,4,3] (bL (ac 9)) (ws':=[]) (lf 0) _ _:Xe [6]).p env s=_;rw[kC,dU,DJ E,Pb];show(PR.of (J (a.map inD')) s).bind _=_;rw[Pf,Pb,e_ (by simp;ext),e]
 try rfl
abbrev RB:Xd [6]:=(aF (aP 9 (n4 fR (aa (x2 (ac 2) (xz (ae bC (ac 7) (xC (.int 1)))) xw) a_)))
 (aF (aP 10 Qx)
 (aF (aP 11 Qx)
 (Cg q0 6 (aa (aX (aa (ac 8) (aa (ah cF (aa (ac 0) (aa (ac 4) a_))) (aa (n4 bZ (aa (x2 (ac 10) (xz (u_ lH (ac 5))) xw) a_)) (aa (n4 bZ (aa (x2 (ac 11) xw (xz (ac 5))) a_)) a_))))) a_)))))
abbrev FH(n:Nat)(ns:SU)(sm most:Int)(w:Bool)(ks:List Wk)(z7 z8 z9 z10 z11:So):ay:=[J .pen,J (.int (n:Int)),J (j_ ns),J (.int sm),J (.bl w),J (.int most),J (.lst (ks.map n7)),z7,z8,z9,z10,z11]
def Qy{n:Nat}{ns:SU}{sm most:Int}{w:Bool}{ks:List Wk}{k x:Nat}{z9 z10 z11:So}{s:b_}(o:On n ns)(O:ns[k]?=J x)(H:0<sm)(P:sm<=100)(kl:ks.length<=100):
  ∃M Z l C W,RB.p (FH n ns sm most w ks (J (.int (k:Int))) (J (inD' x)) z9 z10 z11) s=.nx (FH n ns sm most w (ks++[M]) (J (.int (k:Int))) (J (inD' x)) Z l C) W/\WkOk n ns k M:=by
 have ol:=o.len;have n12:=o.n12;have kn:k<n:=by have:=(qi.mp O).1;ext
 have lt:=qA o kn;have Q:(pf n ns k).length<=100:=by have:=(gO (k:=k) o).length_eq;simp at this;ext
 obtain⟨j,R,e1,F⟩:=MD (env:=FH n ns sm most w ks (J (.int (k:Int))) (J (inD' x)) (J (j_ (pf n ns k))) z10 z11) (s:=s) rfl rfl rfl rfl H P Q;obtain⟨G,s2,e2,B⟩:=MD (env:=FH n ns sm most w ks (J (.int (k:Int))) (J (inD' x)) (J (j_ (pf n ns k))) (J (.lst (j.map lb))) z11) (s:=R) rfl rfl rfl rfl H P Q;obtain⟨q,L,e3,E⟩:=vd (w:=w) (s:=s2);obtain⟨i,U,hr⟩:=u5 (ps:=j) (lo:=J (-most)) (hi:=Y);obtain⟨a,S,X⟩:=u5 (ps:=G) (lo:=Y) (hi:=J most);have en:lH.p (.int most)=J (.int (-most)):=rfl;have t4:∀{x y z u:D}{s:b_},(if [x,y,z,u].length<=100000 then PR.ok (D.tup [x,y,z,u]) s else .bad)=.ok (.tup [x,y,z,u]) s:=λ{x y z u s}=>e_ (by simp);refine⟨⟨x,q,i,a⟩,J (j_ (pf n ns k)),J (.lst (j.map lb)),J (.lst (G.map lb)),L,?_,⟨O,E,F.of hr,B.of X⟩⟩;rw[aB,aV];simp![bz,g6,g7,aD,aT,aJ,bP,Pf,gU,gR,lt,Pg,r_,q_,PU.ax];rw[aB,aV];rw[e1,Pg,PU.ax];simp only[r_,q_];rw[aB,aV,e2,Pg,PU.ax];simp only[r_,q_]
 rw[nk (s1:=L) (as:=[n7 ⟨x,q,i,a⟩]) (ds:=ks.map n7) (ds':=ks.map n7++[n7 ⟨x,q,i,a⟩]) (r:=.non) (by
  simp![bJ,aC,e3,bz,g6,g7,eP,en,Pf,gU,gR,U,S,eG,t4]) rfl (mP (by simp;ext))]
 simp only[r_,q_];unfold FH;rw[Jw];rfl
def EJ{n:Nat}{ns:SU}{sm:Int}{s:b_}(o:On n ns)(S:0<sm)(h1:sm<=100):∃L C,hX.p [.pen,.int (n:Int),j_ ns,.int sm] s=.ok (.lst (L.map n7)) C/\(L:List Wk).length=n/\∀(k:Nat)(w:Wk),L[k]?=J w->WkOk n ns k w:=by
 have ol:=o.len;have n12:=o.n12;obtain⟨a,F,a0,a9,qa⟩:=bV (s:=s) (size:=8) (by decide) (by decide);obtain⟨i,em⟩:∃m:Int,nw [D.int (n:Int),.int 3] (if decide ((6:Int)<(n:Int))=I then 1 else 0)=J (.int m):=by
  by_cases z:(6:Int)<(n:Int)
  .exact⟨3,by simp only[z,decide_true,if_true];rfl⟩
  .exact⟨n,by simp only[z,decide_false,wj,if_false];rfl⟩
 have W:∀{x y:D}{s:b_},(if [x,y].length<=100000 then PR.ok (D.lst [x,y]) s else .bad)=.ok (.lst [x,y]) s:=λ{x y s}=>e_ (by simp);obtain⟨Q,s2,e,l,G,H,E,u,B,rfl,kl,P⟩:=kF (g:=(Bq (rg (lf 7) (rg (lf 8) Bp)) 2:Xg [6]).p) (b:=RB.p)
  (λj env C=>∃l G H E u B,env=FH n ns sm i (decide (a=7)) l G H E u B/\(l:List Wk).length=j/\∀(k:Nat)(w:Wk),l[k]?=J w->WkOk n ns k w) (br (ns.map inD')) 0 (FH n ns sm i (decide (a=7)) [] Y Y Y Y Y) F ⟨[],_,_,_,_,_,rfl,rfl,λ(k:Nat) w h=>by simp at h⟩ (λj env C d ⟨l,G,H,E,u,B,hE,kl,P⟩ hd=>by
   rw[E7]at kl ⊢;subst hE;have O:j<ns.length:=by have:=(qi.mp hd).1;simpa [br]using this
   obtain⟨x,R⟩:∃x,ns[j]?=J x:=⟨ns[j],zL O⟩;have M:d=.tup [.int (j:Int),inD' x]:=by unfold br at hd;rw[r6,Jp,r6,R]at hd;simp at hd;exact hd.symm
   subst M;obtain⟨X,y9,Z,ab,U,e,hw⟩:=Qy (most:=i) (w:=decide (a=7)) (ks:=l) (z9:=E) (z10:=u) (z11:=B) (s:=C) o R S h1 (by ext);refine⟨_,_,U,rfl,e,l++[X],_,_,_,_,_,rfl,by simp[kl],λk w h=>?_⟩;by_cases z:k<l.length
   .rw[qs z]at h;exact P k w h
   .have zz:k=j:=by
     have:=(qi.mp h).1
     simp at this;ext
    subst zz;rw[BL (by ext),show k-l.length=0 by ext]at h;cases h
    exact hw)
 refine⟨l,s2,?_,by rw[kl];simp[br,ol],P⟩;rw[xq (by rfl)];unfold ia;rw[show k_ 12 [D.pen,.int (n:Int),j_ ns,.int sm]=[J .pen,J (.int (n:Int)),J (j_ ns),J (.int sm),Y,Y,Y,Y,Y,Y,Y,Y]from rfl];rw[aB,aV];dsimp![aD,aC,af,aT,aJ,aq,qa,dM,cr,wj,if_false,r_,q_,PU.ax];rw[aB,aV];simp![aD,hV,aT,aJ,W,bz,HI,Pf,pe,ld,em,Pg,r_,q_,PU.ax];rw[aB];have st:(iN 6 (dQ a_):Xd [6]).p [J .pen,J (.int (n:Int)),J (j_ ns),J (.int sm),J (.bl (decide (a=7))),J (.int i),Y,Y,Y,Y,Y,Y] F=.nx (FH n ns sm i (decide (a=7)) [] Y Y Y Y Y) F:=by simp[pd]
 rw[st,PU.ax,aB,gp,hU,af];dsimp![au,aq,DO];refine(congrArg (λz:PS=>(z.then _).fin) e).trans ?_;rw[PU.ax,pY (d:=.lst (l.map n7)) rfl,PU.bq]
def mS{α:Type}{g:D->ay->Option ay}{t:ay->b_->PR Bool}{e:ay->b_->PR D}{s:b_}(S:ay->Prop)(item j:α->D)(p:α->Bool):∀(l:List α)(env:ay),S env ->
  (∀x∈l,∀env,S env->∃a,g (item x) env=J a/\S a/\t a s=.ok (p x) s/\(p x=I->e a s=.ok (j x) s))->dz g t e (l.map item) env s=.ok ((l.filter p).map j) s
 |[],env,C,i=>rfl
 |x::l,env,C,i=>by
  obtain⟨a,e1,z,e2,e3⟩:=i x (by simp) env C;have B:=mS S item j p l a z λy E=>i y (pj _ E);rw[nc,dz,e1];dsimp only;rw[e2]
  cases u:p x with
  |true=>simp only[Pb,if_true,e3 u,B,M0 u,nc]
  |false=>simp only[Pb,wj,if_false,B,M1 (show ¬p x=I by simp[u])]
def i9{α:Type}{ws ws':SU}{env:ay}{s s0:b_}{fm:SU}{i:Xi ws}{t:Xt ws'}{e:Xe ws'}{l:List α}(item a:α->D)(p:α->Bool)(C:i.p env s0=.ok (l.map item) s)(hl:l.length<=100000)(j:∀x∈l,t.p (J (item x)::fm.map λi=>(env[i]?).getD Y) s=.ok (p x) s/\(p x=I->e.p (J (item x)::fm.map λi=>(env[i]?).getD Y) s=.ok (a x) s))(B:ws'.contains 0=T:=by exact ys rfl)(hw:Ce 1 fm ws=ws':=by exact ys rfl)(u:e.fz=I:=by exact ys rfl):
  (bh 1 fm i (lf 0 B) t e hw u).p env s0=.ok (.lst ((l.filter p).map a)) s:=by
 rw[kC,C,Pb,e_ (by simpa using hl)]
 have:=mS (g:=(lf 0 B:Xg ws').p) (t:=t.p) (e:=e.p) (s:=s) (λv=>∃z,v=z::fm.map λi=>(env[i]?).getD Y) item a p l (wv 1 fm env) ⟨Y,rfl⟩ λx E y ⟨z,u⟩=>by
  subst u;exact⟨_,rfl,⟨J (item x),rfl⟩,j x E⟩
 rw[this]
def xH{α:Type}{ws ws':SU}{env:ay}{s s0:b_}{fm:SU}{i:Xi ws}{t:Xt ws'}{e:Xe ws'}{l:List α}(A B:α->D)(a:α->D)(p:α->Bool)(G:i.p env s0=.ok (l.map λx=>.tup [A x,B x]) s)(hl:l.length<=100000)(j:∀x∈l,t.p (J (A x)::J (B x)::fm.map λi=>(env[i]?).getD Y) s=.ok (p x) s/\(p x=I->e.p (J (A x)::J (B x)::fm.map λi=>(env[i]?).getD Y) s=.ok (a x) s))(E:ws'.contains 0=T:=by exact ys rfl)(F:ws'.contains 1=T:=by exact ys rfl)(hw:Ce 2 fm ws=ws':=by exact ys rfl)(u:e.fz=I:=by exact ys rfl):
  (bh 2 fm i (Bq (rg (lf 0 E) (rg (lf 1 F) Bp)) 2) t e hw u).p env s0=.ok (.lst ((l.filter p).map a)) s:=by
 rw[kC,G,Pb,e_ (by simpa using hl)]
 have:=mS (g:=(Bq (rg (lf 0 E) (rg (lf 1 F) Bp)) 2:Xg ws').p) (t:=t.p) (e:=e.p) (s:=s) (λv=>∃y z,v=y::z::fm.map λi=>(env[i]?).getD Y) (λx=>.tup [A x,B x]) a p l (wv 2 fm env) ⟨Y,Y,rfl⟩ λx H C ⟨y,z,u⟩=>by
  subst u;exact⟨_,rfl,⟨J (A x),J (B x),rfl⟩,j x H⟩
 rw[this]
def Cm(m:Nat)(q:Rat):Prop:=∃z:Int,q=Rat.divInt z 144/\z.natAbs<=m
def Cm.mono{m a:Nat}{q:Rat}(h:Cm m q)(i:m<=a):Cm a q:=let⟨z,e,j⟩:=h;⟨z,e,by ext⟩
def Cm.zero(m:Nat):Cm m 0:=⟨0,by decide +kernel,by simp⟩
def Cm.add{m a:Nat}{p q:Rat}(h:Cm m p)(i:Cm a q):Cm (m+a) (p+q):=by
 obtain⟨z,rfl,j⟩:=h;obtain⟨y,rfl,l⟩:=i;refine⟨z+y,?_,by ext⟩;rw[Rat.divInt_eq_div,Rat.divInt_eq_div,Rat.divInt_eq_div];push_cast
 grind
def Tw(q:Rat):Prop:=∃z:Int,q=Rat.divInt z 12/\z.natAbs<=3060
def Sm.tw{q:Rat}(h:Sm q):Tw q:=h.2
def Tw.one:Tw 1:=⟨12,by decide +kernel,by decide⟩
def Tw.zero:Tw 0:=⟨0,by decide +kernel,by decide⟩
def Tw.mul{p q:Rat}(h:Tw p)(i:Tw q):Cm 9363600 (p*q):=by
 obtain⟨z,rfl,a⟩:=h;obtain⟨y,rfl,j⟩:=i;refine⟨z*y,?_,?_⟩
 .rw[Rat.divInt_eq_div,Rat.divInt_eq_div,Rat.divInt_eq_div];push_cast
  grind
 .rw[Cj];exact n_ (Nat.mul_le_mul a j) (by decide)
structure Sd(n:Nat)(w:Wk):Prop where
 v:w.v<n
 p:Tw w.p
 r:∀q∈w.r,q.1<n/\Tw q.2
 c:∀q∈w.c,q.1<n/\Tw q.2
 lr:w.r.length<=12
 lc:w.c.length<=12
def jo(g:Nat->Nat->Rat)(i j:Nat)(q:Rat):Nat->Nat->Rat:=λa b=>if a=i/\b=j then q else g a b
def bx(n:Nat)(g:Nat->Nat->Rat):List Rd:=(List.range n).map λi=>(Y,(List.range n).map λj=>qD (g i j))
def tE{n i:Nat}{g:Nat->Nat->Rat}(a:i<n):(bx n g)[i]?=J (Y,(List.range n).map λj=>qD (g i j)):=by unfold bx;simp[a]
def Ai{n i j:Nat}{g:Nat->Nat->Rat}{q:Rat}(z:i<n)(y:j<n):(bx n g).set i (Y,((List.range n).map λj=>qD (g i j)).set j (qD q))=bx n (jo g i j q):=by
 unfold bx;apply F4;intro a;by_cases u:a<n
 .by_cases e:i=a
  .subst e;rw[x4 (by simpa using z)];simp only[r6,Jr u,CG,Option.some.injEq,Prod.mk.injEq,true_and];apply F4;intro b;by_cases l:b<n
   .by_cases e:j=b
    .subst e;rw[x4 (by simpa using y)];simp[l,jo]
    .rw[n8 e];simp[l,jo,Ne.symm e]
   .rw[BM (by simp;ext),BM (by simp;ext)]
  .rw[n8 e];simp only[r6,Jr u,CG,Option.some.injEq,Prod.mk.injEq,true_and];refine CF λb _=>?_;simp[jo,Ne.symm e]
 .rw[BM (by simp;ext),BM (by simp;ext)]
def EK{n i:Nat}{g:Nat->Nat->Rat}(a:i<n):h_.p (cO (bx n g)) (.int (i:Int))=J (.lst ((List.range n).map λj=>qD (g i j))):=by show nw ((bx n g).map λr=>dl r.1 r.2) (i:Int)=_;exact L2.cK (by rw[r6,tE a];rfl)
def MF{n i j:Nat}{wk:D}{g:Nat->Nat->Rat}{f x:Rat}{c:C8}{s:b_}(a:i<n)(l:j<n)(e4:c.c4=J (inD' i))(e5:c.c5=J (qD f))(u:c.c6=J (inD' j))(G:c.c7=J (qD x))(F:sz f+sz x<=900000)(C:sz (g i j)+sz (f*x)<=900000):
  pK (.int (n:Int)) wk (bx n g) c s=J (bx n (jo g i j (g i j+f*x)),s):=by
 have y:nw ((List.range n).map λj=>qD (g i j)) (j:Int)=J (qD (g i j)):=L2.cK (by simp[l]);have B:=nL (p:=f) (q:=x) (s:=s) F;have H:=zw (p:=g i j) (q:=f*x) (s:=s) C;have L:ul.p (mE (bx n g) (.int (n:Int)) wk c) s=.ok (qD (g i j+f*x)) s:=by unfold ul mE;rw[e4,e5,u,G];simp![aC,aD,EK a,Pf,ld,y,B,H]
 have E:wG (bx n g).length (i:Int)=J i:=by unfold bx;simp only[xg,Js];exact MM.i5 a
 have z:wG ((List.range n).map λj=>qD (g i j)).length (j:Int)=J j:=by simp only[xg,Js];exact MM.i5 l
 unfold pK;rw[L,e4,u];dsimp only;rw[E];dsimp only;rw[tE a];dsimp only;rw[z];dsimp only;rw[e_ (by rfl:flat (qD (g i j+f*x))=I),Ai a l]
def gA(g:Nat->Nat->Rat)(i:Nat)(f:Rat)(a:List Pt):Nat->Nat->Rat:=a.foldl (λg p=>jo g i p.1 (g i p.1+f*p.2)) g
def pA(g:Nat->Nat->Rat)(i a:List Pt):Nat->Nat->Rat:=i.foldl (λg p=>gA g p.1 p.2 a) g
def rC{f:Rat}{i a b:Nat}(h:a≠i):∀{j:List Pt}{g:Nat->Nat->Rat},gA g i f j a b=g a b
 |[],g=>rfl
 |p::j,g=>by
  show gA (jo g i p.1 (g i p.1+f*p.2)) i f j a b=_;rw[rC h];exact h8 λz=>h z.1
def FI{n i:Nat}{wk:D}{f:Rat}{s:b_}(u:i<n):∀(a:List Pt)(g:Nat->Nat->Rat)(c:C8),(∀p∈a,p.1<n/\sz f+sz p.2<=900000/\sz (g i p.1)+sz (f*p.2)<=900000)->(a.map (·.1)).Nodup->c.c4=J (inD' i)->c.c5=J (qD f) ->
  ∃j,CM (.int (n:Int)) wk (a.map lb) (bx n g) c s=J (bx n (gA g i f a),j,s)
 |[],g,c,l,nd,e4,e5=>⟨c,rfl⟩
 |p::a,g,c,l,nd,e4,e5=>by
  obtain⟨H,E,G⟩:=l p (by simp);rw[nc,x6]at nd;have e:=MF (wk:=wk) (c:={ c with c6:=J (inD' p.1),c7:=J (qD p.2)}) (s:=s) u H e4 e5 rfl rfl E G
  obtain⟨j,e2⟩:=FI u a (jo g i p.1 (g i p.1+f*p.2)) { c with c6:=J (inD' p.1),c7:=J (qD p.2)} (λq y=>by
   obtain⟨B,C,F⟩:=l q (pj _ y);refine⟨B,C,?_⟩;have ne:¬q.1=p.1:=λz=>nd.1 (z▸se.mpr ⟨q,y,rfl⟩)
   have:jo g i p.1 (g i p.1+f*p.2) i q.1=g i q.1:=h8 λz=>ne z.2
   rw[this];exact F) nd.2 e4 e5
  refine⟨j,?_⟩;rw[nc,CM,e];exact e2
def FJ{n v:Nat}{wk:D}{p:Rat}{rs:List Pt}{s:b_}(l:(((v,p)::rs).map (·.1)).Nodup):∀(a:List Pt)(g:Nat->Nat->Rat)(c:C8),(a.map (·.1)).Nodup->(∀q∈a,q.1<n/\∀r∈(v,p)::rs,r.1<n/\sz q.2+sz r.2<=900000/\sz (g q.1 r.1)+sz (q.2*r.2)<=900000) ->
  ∃H,CN (.int (n:Int)) wk (.int (v:Int)) (qD p) (rs.map lb) (a.map lb) (bx n g) c s=J (bx n (pA g a ((v,p)::rs)),H,s)
 |[],g,c,nd,i=>⟨c,rfl⟩
 |q::a,g,c,nd,i=>by
  obtain⟨F,M⟩:=i q (by simp);rw[nc,x6]at nd;obtain⟨u,e1⟩:=FI (wk:=wk) (s:=s) (f:=q.2) F ((v,p)::rs) g { c with c4:=J (inD' q.1),c5:=J (qD q.2)} M l rfl rfl
  obtain⟨O,e2⟩:=FJ l a (gA g q.1 q.2 ((v,p)::rs)) u nd.2 (λx y=>by
   obtain⟨B,C⟩:=i x (pj _ y);refine⟨B,λr hr=>?_⟩;obtain⟨L,G,E⟩:=C r hr;refine⟨L,G,?_⟩;have ne:x.1≠q.1:=λz=>nd.1 (z▸se.mpr ⟨x,y,rfl⟩)
   rw[rC ne];exact E)
  refine⟨O,?_⟩;rw[nc,CN];have j:CM (.int (n:Int)) wk (.tup [.int (v:Int),qD p]::rs.map lb) (bx n g) { c with c4:=J (inD' q.1),c5:=J (qD q.2)} s=J (bx n (gA g q.1 q.2 ((v,p)::rs)),u,s):=e1;rw[j];exact e2
def gy(g:Nat->Nat->Rat)(w:Wk):Nat->Nat->Rat:=pA g ((w.v,1)::w.c) ((w.v,w.p)::w.r)
structure N_(w:Wk):Prop where
 r:(w.v::w.r.map (·.1)).Nodup
 c:(w.v::w.c.map (·.1)).Nodup
structure Se(n:Nat)(g:Nat->Nat->Rat)(w:Wk):Prop where
 d:N_ w
 lr:w.r.length<=12
 lc:w.c.length<=12
 ok:∀q∈(w.v,(1:Rat))::w.c,q.1<n/\∀r∈(w.v,w.p)::w.r,r.1<n/\sz q.2+sz r.2<=900000/\sz (g q.1 r.1)+sz (q.2*r.2)<=900000
def EL(n:Nat):List Wk->(Nat->Nat->Rat)->Prop
 |[],_=>True
 |w::a,g=>Se n g w/\EL n a (gy g w)
def FK{n:Nat}{wk:D}{s:b_}:∀(a:List Wk)(g:Nat->Nat->Rat)(c:C8),EL n a g ->
  ∃l,Ev (.int (n:Int)) wk (a.map n7) (bx n g) c s=J (bx n (a.foldl gy g),l,s)
 |[],g,c,hw=>⟨c,rfl⟩
 |w::a,g,c,hw=>by
  obtain⟨h,hr⟩:=hw;obtain⟨j,e1⟩:=FJ (wk:=wk) (s:=s) (v:=w.v) (p:=w.p) (rs:=w.r) h.d.r ((w.v,1)::w.c) g { c with c0:=J (.int (w.v:Int)),c1:=J (qD w.p),c2:=J (.tup (w.r.map lb)),c3:=J (.tup (w.c.map lb))} h.d.c h.ok;obtain⟨u,e2⟩:=FK a (gy g w) j hr;refine⟨u,?_⟩;rw[nc,Ev,e_ ⟨by have:=h.lr;simp;ext,by have:=h.lc;simp;ext⟩];have i:CN (.int (n:Int)) wk (.int (w.v:Int)) (qD w.p) (w.r.map lb) (.tup [.int (w.v:Int),.tup [.int 1,.int 1]]::w.c.map lb) (bx n g) { c with c0:=J (.int (w.v:Int)),c1:=J (qD w.p),c2:=J (.tup (w.r.map lb)),c3:=J (.tup (w.c.map lb))} s=J (bx n (gy g w),j,s):=e1;rw[i];exact e2
def cC(n:Nat)(f:Nat->Rat):List Pt:=((List.range n).filter λj=>!decide (f j=0)).map λj=>(j,f j)
def w_(n:Nat)(g:Nat->Nat->Rat):D:=.tup [.int (n:Int),.tup ((List.range n).map λi=>.tup ((cC n (g i)).map lb))]
def oj{a:Bool}{p q:Rat}:zT a (qD p) (qD q)=J (.bl (if a then !decide (p=q)else decide (p=q))):=by
 have e:(p.num=q.num/\(p.den:Int)=q.den)↔p=q:=⟨λh=>Rat.ext h.1 (by ext),λh=>by subst h;exact⟨rfl,rfl⟩⟩
 have:PyData.eqvAll [PyData.int p.num,.int p.den] [.int q.num,.int q.den]=decide (p=q):=by rw[show PyData.eqvAll [PyData.int p.num,.int p.den] [.int q.num,.int q.den]=decide ([p.num,(p.den:Int)]=[q.num,(q.den:Int)])from jV [p.num,(p.den:Int)] [q.num,(q.den:Int)]];exact decide_eq_decide.mpr (by simpa using e)
 simp only[zT,qD,nD,py,BY,CG];rw[e_ ⟨⟨by simp[AF,wT],by simp[AF,wT]⟩,by simp[SeqAt.shaped,PyData.canLay0,PyData.canLayAll0,PyData.depth,PyData.depthAll],by simp[SeqAt.shaped,PyData.canLay0,PyData.canLayAll0,PyData.depth,PyData.depthAll]⟩];simp only[PyData.eqv,this]
def fD:∀{a:SV},(∀d∈a,flat d=I)->d_ a=I
 |[],_=>rfl
 |d::a,h=>by
  simp only[d_,Bw];exact⟨h d (by simp),fD λx i=>h x (pj _ i)⟩
def nZ(a:List Pt):d_ (a.map lb)=I:=fD λd hd=>by
 obtain⟨p,_,rfl⟩:=se.mp hd;rfl
def qe(w:Wk):flat (n7 w)=I:=by simp[flat,d_,nZ]
def vK{n:Nat}{g:Nat->Nat->Rat}:flat (w_ n g)=I:=by
 have:d_ ((List.range n).map λi=>D.tup ((cC n (g i)).map lb))=I:=fD λd hd=>by
  obtain⟨i,_,rfl⟩:=se.mp hd;simp[flat,nZ]
 simp[w_,flat,d_,this]
def IH{n:Nat}{f:Nat->Rat}:br ((List.range n).map λj=>qD (f j))=(List.range n).map λj=>.tup [inD' j,qD (f j)]:=by
 apply F4;intro i;unfold br;rw[r6,Jp,r6,r6];by_cases h:i<n
 .simp[h]
 .simp[h]
def Qz{n:Nat}{u:D}{g:Nat->Nat->Rat}{c:C8}{s:b_}(E:n<=12):sR.p (mE (bx n g) (.int (n:Int)) u c) s=.ok (w_ n g) s:=by
 have t2:∀{x y:D}{s:b_},(if [x,y].length<=100000 then PR.ok (D.tup [x,y]) s else .bad)=.ok (.tup [x,y]) s:=λ{x y s}=>e_ (by simp);have inn:∀(f:Nat->Rat)(s:b_),(n4 bZ (aa (bh 2 [] (cR iE (aa (ac 0) a_)) (ws':=[]) (Bq (rg (lf 0) (rg (lf 1) Bp)) 2) (xB (ae wV (ac 1) (aX (aa (xC (.int 0)) (aa (xC (.int 1)) a_))))) (aX (aa (ac 0) (aa (ac 1) a_)))) a_):Xe []).p [J (.lst ((List.range n).map λj=>qD (f j)))] s=.ok (.tup ((cC n f).map lb)) s:=λf s=>by
  have q:=xH (ws:=[]) (ws':=[]) (env:=[J (.lst ((List.range n).map λj=>qD (f j)))]) (s:=s) (s0:=s) (fm:=[]) (i:=cR iE (aa (ac 0) a_)) (t:=xB (ae wV (ac 1) (aX (aa (xC (.int 0)) (aa (xC (.int 1)) a_))))) (e:=aX (aa (ac 0) (aa (ac 1) a_))) (l:=List.range n) (λj=>inD' j) (λj=>qD (f j)) (λj=>lb (j,f j)) (λj=>!decide (f j=0)) (by
   simp only[hU,af,ao,Pb,aq,DO,Pf,IH]) (by simp;ext) (λj B=>⟨by
    simp![bE,aD,bJ,aT,aJ,t2,gq];rw[show(D.tup [.int 0,.int 1])=qD 0 from rfl,oj];rfl,λ_=>by
    simp![bJ,t2]⟩)
  rw[bz,af,q];simp only[Pb,aq,eG,Pf,cC,wu];rfl
 have a:=i9 (ws:=[]) (ws':=[]) (env:=mE (bx n g) (.int (n:Int)) u c) (s:=s) (s0:=s) (fm:=[]) (i:=bL (ac 2)) (t:=oh) (e:=(n4 bZ (aa (bh 2 [] (cR iE (aa (ac 0) a_)) (ws':=[]) (Bq (rg (lf 0) (rg (lf 1) Bp)) 2) (xB (ae wV (ac 1) (aX (aa (xC (.int 0)) (aa (xC (.int 1)) a_))))) (aX (aa (ac 0) (aa (ac 1) a_)))) a_))) (l:=List.range n) (λi=>.lst ((List.range n).map λj=>qD (g i j))) (λi=>.tup ((cC n (g i)).map lb)) (λ_=>I) (by
  rw[dU];show(PR.ok (cO (bx n g)) s).bind _=_;rw[Pb];show PR.of (J ((bx n g).map λr=>dl r.1 r.2)) s=_;rw[Pf];unfold bx
  rw[wu];rfl) (by simp;ext) (λi C=>⟨rfl,λ_=>inn (g i) s⟩)
 unfold sR;rw[bJ,af];show(((PR.ok (D.int (n:Int)) s).bind _).bind _)=_;rw[Pb,af,bz,af,a];simp only[Pb,aq,eG,Pf,t2];have z:(List.range n).filter (λ_=>I)=List.range n:=JY.mpr (by simp);rw[z];rfl
def II{n:Nat}{a:List Wk}{s:b_}(i:n<=12)(hl:a.length<=12)(hw:EL n a λ_ _=>0):dH.p [.int (n:Int),.lst (a.map n7)] s=.ok (w_ n (a.foldl gy λ_ _=>0)) s:=by
 obtain⟨c,e⟩:=FK (wk:=.lst (a.map n7)) (s:=s) a (λ_ _=>0) ⟨Y,Y,Y,Y,Y,Y,Y,Y⟩ hw;have j:bx n (λ_ _=>0)=List.replicate n (Y,List.replicate n (.tup [.int 0,.int 1])):=by unfold bx;rw[Oz,Oz,Js];rfl
 have l:d_ (a.map n7)=I:=fD λd hd=>by
  obtain⟨w,_,rfl⟩:=se.mp hd;exact qe w
 show N7 [.int (n:Int),.lst (a.map n7)] s=_;unfold N7;dsimp only;rw[e_ ⟨l,by ext,by ext⟩,B2,<-j,e];dsimp only;rw[Qz i];dsimp only;rw[e_ vK]
def ky(a:SU):SS:=a.map λ(k:Nat)=>(k:Int)
def vl(a:SU)(f:Nat->Rat):SV:=a.map λk=>qD (f k)
structure Kf(ks:SU)(f:Nat->Rat):Prop where
 nd:ks.Nodup
 off:∀j,j∉ks->f j=0
def wN{f:Nat->Rat}{j:Nat}:∀{ks:SU},vr (ky ks) (vl ks f) (j:Int)=if j∈ks then J (qD (f j))else Y
 |[]=>rfl
 |k::ks=>by
  have a:=wN (f:=f) (j:=j) (ks:=ks);show(if(k:Int)=(j:Int)then J (qD (f k))else vr (ky ks) (vl ks f) (j:Int))=_;by_cases e:k=j
  .subst e;simp
  .rw[h8 (by ext),a];simp[Ne.symm e]
def d7(f:Nat->Rat)(j:Nat)(q:Rat):Nat->Rat:=λa=>if a=j then q else f a
def ins(a:SU)(j:Nat):SU:=if j∈a then a else a++[j]
def IJ{f:Nat->Rat}{j:Nat}{q:Rat}{a:SU}(h:j∉a):vl a (d7 f j q)=vl a f:=by unfold vl;refine CF λk i=>?_;simp[d7,show k≠j from λz=>h (z▸i)]
def zo{f:Nat->Rat}{j:Nat}{q:Rat}:∀{a:SU},a.Nodup->i_ (ky a) (vl a f) (j:Int) (qD q)=(ky (ins a j),vl (ins a j) (d7 f j q))
 |[],_=>by simp[ky,vl,i_,ins,d7]
 |k::a,nd=>by
  rw[x6]at nd;have l:=zo (f:=f) (j:=j) (q:=q) nd.2;show(if(k:Int)=(j:Int)then((k:Int)::ky a,qD q::vl a f)else((k:Int)::(i_ (ky a) (vl a f) (j:Int) (qD q)).1,qD (f k)::(i_ (ky a) (vl a f) (j:Int) (qD q)).2))=_;by_cases e:k=j
  .subst e;rw[e_ rfl]
   have:ins (k::a) k=k::a:=by simp[ins]
   rw[this];show _=((k:Int)::ky a,qD (d7 f k q k)::vl a (d7 f k q));rw[IJ nd.1];simp[d7]
  .rw[h8 (by ext),l];have i:ins (k::a) j=k::ins a j:=by
    unfold ins;by_cases m:j∈a
    .simp[m]
    .simp[m,Ne.symm e]
   rw[i];show _=((k:Int)::ky (ins a j),qD (d7 f j q k)::vl (ins a j) (d7 f j q));simp[d7,e]
def Kf.put{l:SU}{f:Nat->Rat}{j:Nat}{q:Rat}(h:Kf l f):Kf (ins l j) (d7 f j q):=by
 unfold ins;constructor
 .split
  .exact h.nd
  .rename_i z
   rw[Op];refine⟨h.nd,by simp,λa i b u e=>z ?_⟩;rw[List.mem_singleton]at u;rw[<-u,<-e];exact i
 .intro a i;unfold d7
  split at i
  .rename_i z
   rw[h8 (λe=>i (by rw[e];exact z))];exact h.off a i
  .have:a∉l/\a≠j:=by simpa using i
   rw[h8 this.2];exact h.off a this.1
abbrev Bu(ks:SU)(f:Nat->Rat):D:=.dic T (ky ks) (vl ks f)
def nt{a:SU}{f:Nat->Rat}{j:Nat}(h:Kf a f):(vr (ky a) (vl a f) (j:Int)).getD (qD 0)=qD (f j):=by
 rw[wN];split
 .rfl
 .rename_i z;rw[h.off j z];rfl
def qM(f:Nat->Rat)(a:Rat)(i:List Pt):Nat->Rat:=i.foldl (λf p=>d7 f p.1 (f p.1+a*p.2)) f
def tH(a:SU)(i:List Pt):SU:=i.foldl (λa p=>ins a p.1) a
def EM{ks:SU}{j:Nat}:(ins ks j).length<=ks.length+1:=by unfold ins;split<;>simp
abbrev RC:Xd [0]:=(li 0 (ac 3) (ah fb (aa (BF (ac 0) (aa (ac 3) (aa (Br 0 1) a_))) (aa (ah dZ (aa (ac 1) (aa (ac 4) a_))) a_))))
def FL{a:Rat}{P:So}{s:b_}:∀(l:List Pt)(i:SU)(f:Nat->Rat)(B y:So),(∀p∈l,sz a+sz p.2<=900000/\sz (f p.1)+sz (a*p.2)<=900000)->(l.map (·.1)).Nodup->Kf i f->i.length+l.length<=90000 ->
  (∃E F,BE (Bq (rg (lf 3) (rg (lf 4) Bp)) 2:Xg [0]).p RC.p (l.map lb) [J (Bu i f),J (qD a),P,B,y] s=.nx [J (Bu (tH i l) (qM f a l)),J (qD a),P,E,F] s)/\Kf (tH i l) (qM f a l)/\(tH i l).length<=i.length+l.length
 |[],i,f,B,y,G,nd,u,hl=>⟨⟨B,y,rfl⟩,u,l_ _⟩
 |p::l,i,f,B,y,G,nd,u,hl=>by
  obtain⟨C,O⟩:=G p (by simp);rw[nc,x6]at nd;have S:i.length+(l.length+1)<=90000:=hl;have L:=IE (p:=a) (q:=p.2) (s:=s) C;have U:=MB (p:=f p.1) (q:=a*p.2) (s:=s) O;have R:=nt (j:=p.1) u;have X:=EM (ks:=i) (j:=p.1)
  obtain⟨⟨E,F,e⟩,C,M⟩:=FL (P:=P) (s:=s) l (ins i p.1) (d7 f p.1 (f p.1+a*p.2)) (J (inD' p.1)) (J (qD p.2)) (λx H=>by
   obtain⟨W,Q⟩:=G x (pj _ H);refine⟨W,?_⟩;have ne:¬x.1=p.1:=λz=>nd.1 (z▸se.mpr ⟨x,H,rfl⟩)
   rw[show d7 f p.1 (f p.1+a*p.2) x.1=f x.1 from h8 ne];exact Q) nd.2 u.put (by ext)
  refine⟨⟨E,F,?_⟩,C,n_ M (by simp;ext)⟩;have b:RC.p [J (Bu i f),J (qD a),P,J (inD' p.1),J (qD p.2)] s=.nx [J (Bu (ins i p.1) (d7 f p.1 (f p.1+a*p.2))),J (qD a),P,J (inD' p.1),J (qD p.2)] s:=by
   rw[DX,Aj (v:=qD (f p.1+a*p.2)) (s1:=s) (s2:=s) (j:=(p.1:Int)) (ks:=ky i) (ds:=vl i f) (by
    simp![aC,nM,show ∀(e:ay)(s:b_),(Br 0 1:Xe [0]).p e s=.ok (D.tup [.int 0,.int 1]) s from λ_ _=>rfl];rw[show D.tup [.int 0,.int 1]=qD 0 from rfl,R]
    simp only[Pb,L,U]) (by rfl) rfl (by simp[ky];ext),zo u.nd]
   rfl
  rw[nc,fK (show(Bq (rg (lf 3) (rg (lf 4) Bp)) 2:Xg [0]).p (lb p) [J (Bu i f),J (qD a),P,B,y]=J [J (Bu i f),J (qD a),P,J (inD' p.1),J (qD p.2)]from rfl),b];exact e
structure St where
 (K:Nat->SU) (F:Nat->Nat->Rat)
def qr(n:Nat)(x:St):List Rd:=(List.range n).map λi=>(J (ky (x.K i)),vl (x.K i) (x.F i))
structure B0(n t z:Nat)(R:SU)(x:St):Prop where
 kf:∀i,i<n->Kf (x.K i) (x.F i)
 kl:∀i,(x.K i).length<=t
 sz:∀i∈R,∀j∈R,sz (x.F i j)<=z
def St.put(x:St)(i:Nat)(j:SU)(f:Nat->Rat):St:=⟨λa=>if a=i then j else x.K a,λa=>if a=i then f else x.F a⟩
def zF{n i:Nat}{x:St}(a:i<n):(qr n x)[i]?=J (J (ky (x.K i)),vl (x.K i) (x.F i)):=by unfold qr;simp[a]
def IK{n i:Nat}{x:St}{j:SU}{f:Nat->Rat}(u:i<n):(qr n x).set i (J (ky j),vl j f)=qr n (x.put i j f):=by
 unfold qr;apply F4;intro a;by_cases l:a<n
 .by_cases e:i=a
  .subst e;rw[x4 (by simpa using u)];simp[l,St.put]
  .rw[n8 e];simp[l,St.put,Ne.symm e]
 .rw[BM (by simp;ext),BM (by simp;ext)]
def kA{n i:Nat}{x:St}(a:i<n):h_.p (cO (qr n x)) (.int (i:Int))=J (Bu (x.K i) (x.F i)):=by show nw ((qr n x).map λr=>dl r.1 r.2) (i:Int)=_;exact L2.cK (by rw[r6,zF a];rfl)
def St.add(x:St)(i:Nat)(a:Rat)(j:List Pt):St:=x.put i (tH (x.K i) j) (qM (x.F i) a j)
def vC{a:SU}{f:Nat->Rat}:d_ (vl a f)=I:=fD λd hd=>by
 unfold vl at hd;obtain⟨k,_,rfl⟩:=se.mp hd;rfl
def u6{n i t:Nat}{x:St}{a:Rat}{j:List Pt}{s:b_}(kf:∀i,i<n->Kf (x.K i) (x.F i))(kl:∀i,(x.K i).length<=t)(l:i<n)(H:∀p∈j,sz a+sz p.2<=900000/\sz (x.F i p.1)+sz (a*p.2)<=900000)(nd:(j.map (·.1)).Nodup)(L:j.length<=12)(O:t<=9000):
  iK (qr n x) i (qD a) (.tup (j.map lb)) s=J (qr n (x.add i a j),s)/\(∀b,b<n->Kf ((x.add i a j).K b) ((x.add i a j).F b))/\∀b,((x.add i a j).K b).length<=t+12:=by
 have y:=kl i;obtain⟨⟨E,G,e⟩,B,M⟩:=FL (P:=J (.tup (j.map lb))) (s:=s) j (x.K i) (x.F i) Y Y H nd (kf i l) (by ext);refine⟨?_,λb u=>?_,λb=>?_⟩
 .unfold iK;rw[zF l];dsimp only;have C:bF.p (k_ 5 [dl (J (ky (x.K i))) (vl (x.K i) (x.F i)),qD a,.tup (j.map lb)]) s=.nx [J (Bu (tH (x.K i) j) (qM (x.F i) a j)),J (qD a),J (.tup (j.map lb)),E,G] s:=by
   unfold bF;rw[show k_ 5 [dl (J (ky (x.K i))) (vl (x.K i) (x.F i)),qD a,.tup (j.map lb)]=[J (Bu (x.K i) (x.F i)),J (qD a),J (.tup (j.map lb)),Y,Y]from rfl,gp,dU];dsimp![au,show(D.tup (j.map lb)).items=J (j.map lb)from rfl];exact e
  rw[C];simp only[Jo];rw[e_ ⟨vC,rfl,by simp[flat,nZ]⟩,IK l];rfl
 .unfold St.add St.put;dsimp only;by_cases z:b=i
  .rw[e_ z,e_ z];exact B
  .rw[h8 z,h8 z];exact kf b u
 .unfold St.add St.put;dsimp only;by_cases z:b=i
  .rw[e_ z];ext
  .rw[h8 z];have:=kl b;ext
def Bk(a:SU)(f:Nat->Rat):List Pt:=(a.filter λj=>!decide (f j=0)).map λj=>(j,f j)
def IL{a:SU}(e:ay)(s:b_):(Br 0 1:Xe a).p e s=.ok (qD 0) s:=rfl
def FM{a:SU}{f:Nat->Rat}{j:Nat}(h:Kf a f)(i:f j≠0):mF.p (Bu a f) (.int (j:Int))=J (qD (f j)):=by show vr (ky a) (vl a f) (j:Int)=_;rw[wN,e_ (Classical.byContradiction λz=>i (h.off j z))]
def u7{a ls:SU}{f:Nat->Rat}{s:b_}(h:Kf a f)(hl:ls.length<=100):cz.p [Bu a f,j_ ls] s=.ok (.tup ((Bk ls f).map lb)) s:=by
 have t2:∀{x y:D}{s:b_},(if [x,y].length<=100000 then PR.ok (D.tup [x,y]) s else .bad)=.ok (.tup [x,y]) s:=λ{x y s}=>e_ (by simp)
 have q:=i9 (ws:=[]) (ws':=[]) (env:=[J (Bu a f),J (j_ ls)]) (s:=s) (s0:=s) (fm:=[0]) (i:=bL (ac 1)) (t:=xB (ae wV (BF (ac 1) (aa (ac 0) (aa (Br 0 1) a_))) (Br 0 1))) (e:=aX (aa (ac 0) (aa (ae mF (ac 1) (ac 0)) a_))) (l:=ls) (λj=>inD' j) (λj=>lb (j,f j)) (λj=>!decide (f j=0)) (by
  simp only[dU,au,ao,Pb];rfl) (by ext) (λj B=>⟨by
   simp![bE,aD,nM,IL,nc,Jz,Jo,Jt,gq];rw[nt h,oj];rfl,λz=>by
   have u:f j≠0:=by simpa using z
   simp![bJ,aD,nc,Jz,Jo,Jt,FM h u,Pf,t2]⟩)
 rw[uL (by rfl)];unfold gh;rw[show k_ 2 [Bu a f,j_ ls]=[J (Bu a f),J (j_ ls)]from rfl,bo,bz,af,q];simp only[Pb,aq,eG,Pf,Pg,PU.bq,Bk,wu];rfl
def IM{n t z v:Nat}{R:SU}{x:St}{a:SU}{s:b_}(h:B0 n t z R x)(hv:v<n)(hl:a.length<=100)(C:∀i∈a,i<n)(F:v∈R)(U:∀i∈a,i∈R)(M:z<=400000)(pv:x.F v v≠0):
  fS.p [cO (qr n x),inD' v,j_ a] s=.ok (n7 ⟨v,x.F v v,Bk a (x.F v),(a.filter λi=>!decide (x.F i v=0)).map λi=>(i,x.F i v/x.F v v)⟩) s:=by
 have t2:∀{x y:D}{s:b_},(if [x,y].length<=100000 then PR.ok (D.tup [x,y]) s else .bad)=.ok (.tup [x,y]) s:=λ{x y s}=>e_ (by simp);have P:∀{x y z u:D}{s:b_},(if [x,y,z,u].length<=100000 then PR.ok (D.tup [x,y,z,u]) s else .bad)=.ok (.tup [x,y,z,u]) s:=λ{x y z u s}=>e_ (by simp)
 have q:=i9 (ws:=[]) (ws':=[]) (env:=[J (cO (qr n x)),J (inD' v),J (j_ a),J (qD (x.F v v)),Y]) (s:=s) (s0:=s) (fm:=[3,1,0]) (i:=bL (ac 2)) (t:=xB (ae wV (BF (ae h_ (ac 3) (ac 0)) (aa (ac 2) (aa (Br 0 1) a_))) (Br 0 1))) (e:=aX (aa (ac 0) (aa (ah i6 (aa (ae mF (ae h_ (ac 3) (ac 0)) (ac 2)) (aa (ac 1) a_))) a_))) (l:=a) (λi=>inD' i) (λi=>lb (i,x.F i v/x.F v v)) (λi=>!decide (x.F i v=0)) (by
  simp only[dU,au,ao,Pb];rfl) (by ext) (λi E=>⟨by
   have B:=C i E;simp![bE,aD,nM,IL,nc,Jz,Jo,QL,Jt,kA B,Pf,gq];rw[nt (h.kf i B),oj];rfl,λO=>by
   have B:=C i E;have G:x.F i v≠0:=by simpa using O
   have S:=MC (p:=x.F i v) (q:=x.F v v) (s:=s) pv (by have:=h.sz i (U i E) v F;have:=h.sz v F v F;ext)
   simp![bJ,aC,aD,nc,Jz,Jo,QL,Jt,kA B,Pf,FM (h.kf i B) G,S,t2]⟩)
 have L:=u7 (s:=s) (ls:=a) (h.kf v hv) hl;have Q:=nt (j:=v) (h.kf v hv);have e0:zT T (qD (x.F v v)) (qD 0)=J (.bl T):=by rw[oj];simp[pv]
 rw[oY (by rfl)];unfold fO;rw[show k_ 5 [cO (qr n x),inD' v,j_ a]=[J (cO (qr n x)),J (inD' v),J (j_ a),Y,Y]from rfl];rw[aB,aV];simp![nM,aD,kA hv,Pf,IL,Q,Pg,r_,q_,PU.ax];rw[aB,bw];dsimp![bE,aD,au,IL,dM,e0,Pl,wj,if_false,bf,PU.ax];rw[aB,aV];rw[show(bh 1 [3,1,0] (bL (ac 2)) (ws':=[]) (lf 0) (xB (ae wV (BF (ae h_ (ac 3) (ac 0)) (aa (ac 2) (aa (Br 0 1) a_))) (Br 0 1))) (aX (aa (ac 0) (aa (ah i6 (aa (ae mF (ae h_ (ac 3) (ac 0)) (ac 2)) (aa (ac 1) a_))) a_))):Xe []).p [J (cO (qr n x)),J (inD' v),J (j_ a),J (qD (x.F v v)),Y] s=_ from q];simp only[Pg,r_,q_,PU.ax];simp![bo,bJ,aC,aD,kA hv,Pf,L,bz,eG,P,Pg,PU.bq,wu];have H:(((a.filter λi=>!decide (x.F i v=0)).map λi=>(i,x.F i v/x.F v v)):List Pt).map lb=(a.filter λi=>!decide (x.F i v=0)).map λi=>lb (i,x.F i v/x.F v v):=by rw[wu];rfl
 unfold n7;rw[H]
def iw(a:List Pt)(j:Nat):Rat:=((a.find? λp=>p.1==j).map (·.2)).getD 0
def eI{j:Nat}:iw [] j=0:=rfl
def aQ{p:Pt}{a:List Pt}{j:Nat}:iw (p::a) j=if p.1=j then p.2 else iw a j:=by
 unfold iw;rw[Nb];by_cases h:p.1=j
 .simp[h]
 .have e:(p.1==j)=T:=by simpa using h
  rw[e,h8 h]
def dg{a:List Pt}{j:Nat}(h:j∉a.map (·.1)):iw a j=0:=by
 induction a with
 |nil=>rfl
 |cons p a i =>
  rw[nc,qd,not_or]at h;rw[aQ,h8 (λe=>h.1 e.symm),i h.2]
def wg{a:Rat}{j:Nat}:∀{i:List Pt}{f:Nat->Rat},(i.map (·.1)).Nodup->qM f a i j=f j+a*iw i j
 |[],f,_=>by show f j=_;rw[eI];grind
 |p::i,f,nd=>by
  rw[nc,x6]at nd;show qM (d7 f p.1 (f p.1+a*p.2)) a i j=_;rw[wg nd.2,aQ];unfold d7;by_cases e:p.1=j
  .subst e;rw[e_ rfl,e_ rfl,dg nd.1];grind
  .rw[h8 (Ne.symm e),h8 e]
def rm{f:Rat}{i a b:Nat}:∀{j:List Pt}{g:Nat->Nat->Rat},(j.map (·.1)).Nodup->gA g i f j a b=g a b+if a=i then f*iw j b else 0
 |[],g,_=>by show g a b=_;rw[eI];split<;>grind
 |p::j,g,nd=>by
  rw[nc,x6]at nd;show gA (jo g i p.1 (g i p.1+f*p.2)) i f j a b=_;rw[rm nd.2,aQ];unfold jo;by_cases l:a=i
  .subst l;by_cases u:b=p.1
   .subst u;rw[e_ ⟨rfl,rfl⟩,e_ rfl,e_ rfl,e_ rfl,dg nd.1];grind
   .rw[h8 (λz=>u z.2),e_ rfl,e_ rfl,h8 (Ne.symm u)]
  .rw[h8 (λz=>l z.1),h8 l,h8 l]
def mM{rs:List Pt}(j:(rs.map (·.1)).Nodup){a b:Nat}:∀{cs:List Pt}{g:Nat->Nat->Rat},(cs.map (·.1)).Nodup->pA g cs rs a b=g a b+iw cs a*iw rs b
 |[],g,_=>by show g a b=_;rw[eI];grind
 |p::cs,g,nd=>by
  rw[nc,x6]at nd;show pA (gA g p.1 p.2 rs) cs rs a b=_;rw[mM j nd.2,rm j,aQ];by_cases i:a=p.1
  .subst i;rw[e_ rfl,e_ rfl,dg nd.1];grind
  .rw[h8 i,h8 (Ne.symm i)];grind
def cl(w:Wk)(i:Nat):Rat:=iw ((w.v,1)::w.c) i
def rw'(w:Wk)(j:Nat):Rat:=iw ((w.v,w.p)::w.r) j
def jU(a:List Wk)(i j:Nat):Rat:=(a.map λw=>cl w i*rw' w j).sum
def bY{w:Wk}{a:List Wk}{i j:Nat}:jU (w::a) i j=cl w i*rw' w j+jU a i j:=by simp[jU]
def vI{i j:Nat}:∀{a:List Wk}{g:Nat->Nat->Rat},(∀w∈a,N_ w)->a.foldl gy g i j=g i j+jU a i j
 |[],g,_=>by show g i j=g i j+0;grind
 |w::a,g,h=>by
  have hw:=h w (by simp);show a.foldl gy (gy g w) i j=_;rw[vI λx l=>h x (pj _ l),bY];unfold gy;rw[mM (rs:=(w.v,w.p)::w.r) hw.r (cs:=(w.v,1)::w.c) hw.c];show g i j+cl w i*rw' w j+_=_
  grind
def jS{n:Nat}{f:Nat->Rat}:(cC n f).map (·.1)=(List.range n).filter λj=>!decide (f j=0):=by unfold cC;rw[wu];exact(CF (g:=id) λ_ _=>rfl).trans (List.map_id _)
def B1(n:Nat)(g:Nat->Nat->Rat):St:=⟨λi=>(List.range n).filter λj=>!decide (g i j=0),λi j=>if j<n then g i j else 0⟩
def AJ{n:Nat}{g:Nat->Nat->Rat}(G:n<=12):hJ ((List.range n).map λi=>.tup ((cC n (g i)).map lb))=J (qr n (B1 n g)):=by
 have one:∀i,DQ (.tup ((cC n (g i)).map lb))=J ((cC n (g i)).map λp=>((p.1:Int),qD p.2)):=λi=>by
  have B:∀u:List Pt,hR (u.map lb)=J (u.map λp=>((p.1:Int),qD p.2)):=λu=>by
   induction u with
   |nil=>rfl
   |cons p u y=>rw[nc,hR,y];rfl
  unfold DQ;dsimp only;rw[B];dsimp only;rw[e_];rw[wu]
  have:((cC n (g i)).map ((·.1)∘λp:Pt=>((p.1:Int),qD p.2)))=((cC n (g i)).map (·.1)).map λ(k:Nat)=>(k:Int):=by rw[wu];rfl
  rw[this,jS];exact(F6.filter _).map (λ(k:Nat)=>(k:Int)) (λa b h=>by ext)
 have gen:∀l:SU,(∀i∈l,i<n)->hJ (l.map λi=>.tup ((cC n (g i)).map lb))=J (l.map λi=>(J (ky ((B1 n g).K i)),vl ((B1 n g).K i) ((B1 n g).F i))):=λl=>by
  induction l with
  |nil=>intro;rfl
  |cons i l y =>
   intro h;rw[nc,hJ,one i,y λx E=>h x (pj _ E)];dsimp only;have e1:((cC n (g i)).map λp=>((p.1:Int),qD p.2)).map (·.1)=ky ((B1 n g).K i):=by rw[wu];show _=((List.range n).filter λj=>!decide (g i j=0)).map _;rw[<-jS,wu];rfl
   have e2:((cC n (g i)).map λp=>((p.1:Int),qD p.2)).map (·.2)=vl ((B1 n g).K i) ((B1 n g).F i):=by
    rw[wu];unfold cC vl B1;rw[wu];refine CF λj z=>?_
    have:j<n:=by simpa using(BO.mp z).1
    simp[this]
   rw[e1,e2,e_ vC,nc]
 exact gen _ λi C=>by simpa using C
def IN{n z:Nat}{R:SU}{g:Nat->Nat->Rat}(u:1<=z)(hg:∀i j,sz (g i j)<=z):B0 n n z R (B1 n g):=by
 refine⟨λi y=>⟨F6.filter _,λj a=>?_⟩,λi=>?_,λi _ j _=>?_⟩
 .unfold B1 at a ⊢;dsimp only at a ⊢;split
  .rename_i l
   refine Classical.byContradiction λz=>a ?_;exact BO.mpr ⟨E6.mpr l,by simpa using z⟩
  .rfl
 .unfold B1;dsimp only
  have:=E5 (λj=>!decide (g i j=0)) (List.range n)
  simpa using this
 .unfold B1;dsimp only;split
  .exact hg i j
  .rw[show Law.sz 0=1 by decide +kernel];exact u
def ir(ns:SU)(k:Nat):Nat:=ns.getD k 0
def av(ns:SU)(g:Nat->Nat->Rat):Nat->Nat->Nat->Rat
 |0=>g
 |k+1=>λi j=>av ns g k i j-av ns g k i (ir ns k)/av ns g k (ir ns k) (ir ns k)*av ns g k (ir ns k) j
def kr(n:Nat)(ns:SU)(g:Nat->Nat->Rat)(k:Nat):Wk :=
 ⟨ir ns k,av ns g k (ir ns k) (ir ns k),Bk (pf n ns k) (av ns g k (ir ns k)),((pf n ns k).filter λi=>!decide (av ns g k i (ir ns k)=0)).map λi=>(i,av ns g k i (ir ns k)/av ns g k (ir ns k) (ir ns k))⟩
structure Em(n z m:Nat)(ns:SU)(g:Nat->Nat->Rat):Prop where
 o:On n ns
 mn:m<=n
 off:∀i j,¬(i<n/\j<n)->g i j=0
 pv:∀k,k<m->av ns g k (ir ns k) (ir ns k)≠0
 si:∀k i j,k<=m->sz (av ns g k i j)<=z
 z0:z<=200000
abbrev El(n z:Nat)(ns:SU)(g:Nat->Nat->Rat):Prop:=Em n z n ns g
def j6{n k:Nat}{ns:SU}(o:On n ns)(a:k<n):ns[k]?=J (ir ns k):=by
 have:=o.len
 unfold ir;rw[JT,zL (by ext)];rfl
def fM{k v:Nat}{ns:SU}(a:ns[k]?=J v):ns.drop k=v::ns.drop (k+1):=by obtain⟨h,rfl⟩:=qi.mp a;exact Jn h
def IQ(q:Rat):sz q⁻¹<=sz q:=by
 by_cases h:q=0
 .subst h;rw[show(0:Rat)⁻¹=0 by simp];exact l_ _
 .have a:q.num≠0:=λz=>h (Rat.num_eq_zero.mp z);rw[Rat.inv_def,ID a];refine md (by ext) (ui q) ?_ (bU q)
  have:=bj q
  split<;>ext
def IR(p q:Rat):sz (p/q)<=sz p+sz q:=by rw[Rat.div_def];exact n_ (kq p q⁻¹) (Nat.add_le_add_left (IQ q) _)
def qB{f:Nat->Rat}{p:Nat->Bool}{j:Nat}:∀{ls:SU},iw ((ls.filter p).map λi=>(i,f i)) j=if j∈ls/\p j=I then f j else 0
 |[]=>by simp[eI]
 |l::ls=>by
  have u:=qB (f:=f) (p:=p) (j:=j) (ls:=ls);by_cases a:p l=I
  .rw[M0 a,nc,aQ,u];by_cases e:l=j
   .subst e;simp[a]
   .simp[e,Ne.symm e]
  .rw[M1 a,u];by_cases e:l=j
   .subst e;simp[a]
   .simp[Ne.symm e]
section
variable{n z m:Nat}{ns:SU}{g:Nat->Nat->Rat}
def Em.zero(h:Em n z m ns g):∀(k:Nat),k<=m->∀i j,(i∉ns.drop k\/j∉ns.drop k)->av ns g k i j=0
 |0,_,i,j,a=>by
  refine h.off i j λ⟨C,y⟩=>?_;rw[Nd]at a;rcases a with q|q
  .exact q (h.o.pm.mem_iff.mpr (E6.mpr C))
  .exact q (h.o.pm.mem_iff.mpr (E6.mpr y))
 |k+1,G,i,j,a=>by
  have l:=Em.zero h k (by ext);have F:=h.pv k (by ext);have B:=fM (j6 h.o (show k<n by have:=h.mn;ext));show av ns g k i j-av ns g k i (ir ns k)/av ns g k (ir ns k) (ir ns k)*av ns g k (ir ns k) j=0;have u:∀x,x∉ns.drop (k+1)->x=ir ns k\/x∉ns.drop k:=λx E=>by
   by_cases e:x=ir ns k
   .exact .inl e
   .exact .inr (by rw[B,qd];exact λq=>q.elim e E)
  rcases a with q|q<;>rcases u _ q with e|e
  .rw[e];grind
  .rw[l i j (.inl e),l i _ (.inl e)];grind
  .rw[e];grind
  .rw[l i j (.inr e),l _ j (.inr e)];grind
def mR{k x:Nat}(o:On n ns)(a:k<n):x∈ns.drop k↔x=ir ns k\/x∈pf n ns k:=by rw[fM (j6 o a),qd,cG o]
def w8{k:Nat}(o:On n ns)(a:k<n):ir ns k∉pf n ns k:=λm=>by
 have nd:=o.nd.sublist (Ot k ns);rw[fM (j6 o a),x6]at nd;exact nd.1 ((cG o).mp m)
def Em.rw(h:Em n z m ns g){k j:Nat}(a:k<m):rw' (kr n ns g k) j=av ns g k (ir ns k) j:=by
 unfold rw' kr Bk;dsimp only;rw[aQ,qB];by_cases e:ir ns k=j
 .rw[e_ e,e]
 .rw[h8 e];by_cases m:j∈pf n ns k
  .by_cases q:av ns g k (ir ns k) j=0
   .simp[q]
   .simp[m,q]
  .rw[h8 λz=>m z.1];exact(h.zero k (by ext) _ j (.inr λq=>((mR h.o (vv a h.mn)).mp q).elim (λz=>e z.symm) m)).symm
def Em.cl(h:Em n z m ns g){k i:Nat}(a:k<m):cl (kr n ns g k) i=av ns g k i (ir ns k)/av ns g k (ir ns k) (ir ns k):=by
 have j:=h.pv k a;unfold Law.cl kr;dsimp only;rw[aQ,qB (f:=λi=>av ns g k i (ir ns k)/av ns g k (ir ns k) (ir ns k))];by_cases e:ir ns k=i
 .rw[e_ e,<-e];grind
 .rw[h8 e];by_cases m:i∈pf n ns k
  .by_cases q:av ns g k i (ir ns k)=0
   .simp[q];grind
   .simp[m,q]
  .rw[h8 λz=>m z.1,h.zero k (by ext) i _ (.inl λq=>((mR h.o (vv a h.mn)).mp q).elim (λz=>e z.symm) m)]
   grind
def xT{f:Nat->Rat}{a:SU}:(a.map λi=>((i,f i):Pt)).map (·.1)=a:=by rw[wu];exact(CF (g:=id) λ_ _=>rfl).trans (List.map_id _)
def QA{k:Nat}(o:On n ns)(j:k<n):N_ (kr n ns g k):=by
 have a:∀(p:Nat->Bool)(f:Nat->Rat),(ir ns k::(((pf n ns k).filter p).map λi=>((i,f i):Pt)).map (·.1)).Nodup:=λp f=>by
  rw[xT,x6];exact⟨λm=>w8 o j (BO.mp m).1,(kJ.imp λh=>x5 h).sublist List.filter_sublist⟩
 exact⟨a _ _,a _ _⟩
def v4{k:Nat}(o:On n ns):(pf n ns k).length<=12:=by
 have:=(gO (k:=k) o).length_eq
 have:=o.len
 have:=o.n12
 simp at *;ext
def yN{k x:Nat}(o:On n ns)(h:x∈pf n ns k):x<n:=o.lt x (Jq ((cG o).mp h))
def Em.w_c(h:Em n z m ns g){k:Nat}(l:k<m):∀q∈(ir ns k,(1:Rat))::(kr n ns g k).c,q.1<n/\sz q.2<=2*z:=λq a=>by
 have z1:=h.si k (ir ns k) (ir ns k) (by ext);have u:=ui (av ns g k (ir ns k) (ir ns k));rcases qd.mp a with rfl|a
 .refine⟨h.o.lt _ (BA (j6 h.o (vv l h.mn))),?_⟩;show sz 1<=_;rw[show sz 1=1 by decide +kernel];ext
 .obtain⟨i,j,rfl⟩:=se.mp a;refine⟨yN h.o (BO.mp j).1,n_ (IR _ _) ?_⟩
  have:=h.si k i (ir ns k) (by ext)
  ext
def Em.w_r(h:Em n z m ns g){k:Nat}(u:k<m):∀q∈(ir ns k,(kr n ns g k).p)::(kr n ns g k).r,q.1<n/\sz q.2<=z:=λq a=>by
 rcases qd.mp a with rfl|a
 .exact⟨h.o.lt _ (BA (j6 h.o (vv u h.mn))),h.si k _ _ (by ext)⟩
 .have a:q∈((pf n ns k).filter λj=>!decide (av ns g k (ir ns k) j=0)).map λj=>(j,av ns g k (ir ns k) j):=a;obtain⟨i,l,rfl⟩:=se.mp a;exact⟨yN h.o (BO.mp l).1,h.si k _ _ (by ext)⟩
def yB(p q:Rat):sz (p-q)<=sz p+sz q+1:=by rw[Rat.sub_eq_add_neg,<-yX q];exact zl p (-q)
def El.mu(h:El n z ns g)(F:z<=150000):∀(m k:Nat)(G:Nat->Nat->Rat),k+m=n->(∀i j,G i j=g i j-av ns g k i j) ->
  EL n ((List.range' k m).map (kr n ns g)) G/\∀i j,((List.range' k m).map (kr n ns g)).foldl gy G i j=g i j
 |0,k,G,E,u=>⟨trivial,λi j=>by
  show G i j=_;have Q:=h.o.len
  rw[u,Em.zero h k (by ext) i j (.inl (by rw[Og (by ext)];exact Cb))];grind⟩
 |m+1,k,G,E,u=>by
  have l:k<n:=by ext
  have d:=QA (g:=g) h.o l;have nx:∀i j,gy G (kr n ns g k) i j=g i j-av ns g (k+1) i j:=λi j=>by
   unfold gy;rw[mM (rs:=((kr n ns g k).v,(kr n ns g k).p)::(kr n ns g k).r) d.r (cs:=((kr n ns g k).v,1)::(kr n ns g k).c) d.c];show G i j+Law.cl (kr n ns g k) i*rw' (kr n ns g k) j=_;rw[Em.cl h l,Em.rw h l,u];show _=g i j-(av ns g k i j-_)
   grind
  obtain⟨a,b⟩:=El.mu h F m (k+1) (gy G (kr n ns g k)) (by ext) nx;have z0:=h.z0;have B:=v4 (k:=k) h.o;refine⟨⟨⟨d,?_,?_,λq y=>⟨(Em.w_c h l q y).1,λr hr=>⟨(Em.w_r h l r hr).1,?_,?_⟩⟩⟩,a⟩,b⟩
  .unfold kr Bk;rw[xg];exact n_ (E5 _ _) B
  .unfold kr;rw[xg];exact n_ (E5 _ _) B
  .have:=(Em.w_c h l q y).2;have:=(Em.w_r h l r hr).2;ext
  .have L:=(Em.w_c h l q y).2;have O:=(Em.w_r h l r hr).2;have P:=kq q.2 r.2;have M:=yB (g q.1 r.1) (av ns g k q.1 r.1);have C:=h.si 0 q.1 r.1 (by ext);have H:=h.si k q.1 r.1 (by ext);have C:sz (g q.1 r.1)<=z:=C;rw[u];ext
def El.mult(h:El n z ns g)(l:z<=150000){s:b_}:dH.p [.int (n:Int),.lst (((List.range n).map (kr n ns g)).map n7)] s=.ok (w_ n g) s:=by
 obtain⟨a,b⟩:=h.mu l n 0 (λ_ _=>0) (by ext) λi j=>by show(0:Rat)=g i j-g i j;grind
 rw[<-M5]at a b
 have:=II (s:=s) h.o.n12 (by simpa using h.o.n12) a
 rw[this];congr 2;funext i j;exact b i j
end
def lv{a:SU}{f g:Nat->Rat}(h:∀j∈a,f j=g j):Bk a f=Bk a g:=by
 unfold Bk;have e:(a.filter λj=>!decide (f j=0))=a.filter λj=>!decide (g j=0):=Ou λj i=>by rw[h j i]
 rw[e];exact CF λj i=>by rw[h j (BO.mp i).1]
def St.add_F{x:St}{i a b:Nat}{q:Rat}{j:List Pt}(nd:(j.map (·.1)).Nodup):(x.add i q j).F a b=x.F a b+if a=i then q*iw j b else 0:=by
 unfold St.add St.put;dsimp only;by_cases e:a=i
 .subst e;rw[e_ rfl,e_ rfl,wg nd]
 .rw[h8 e,h8 e];grind
def St.adds(x:St)(i a:List Pt):St:=i.foldl (λx p=>x.add p.1 (-p.2) a) x
def zi{j:List Pt}(l:(j.map (·.1)).Nodup){a b:Nat}:∀{i:List Pt}{x:St},(i.map (·.1)).Nodup->(x.adds i j).F a b=x.F a b-iw i a*iw j b
 |[],x,_=>by show x.F a b=_;rw[eI];grind
 |p::i,x,nd=>by
  rw[nc,x6]at nd;show((x.add p.1 (-p.2) j).adds i j).F a b=_;rw[zi l nd.2,St.add_F l,aQ];by_cases e:a=p.1
  .subst e;rw[e_ rfl,e_ rfl,dg nd.1];grind
  .rw[h8 e,h8 (Ne.symm e)];grind
def QB{rd:List Rd}{sh a:D}{b:Bool}{k v st f:So}{j:Int}{s:b_}:sB.p (gE rd sh a (.dic b [] []) k v st (J (.int j)) f) s=.ok I s:=rfl
def QC{rd:List Rd}{sh j a:D}{k v st i:So}{q:Rat}{s:b_}(h:sz q<=800000):nh.p (gE rd sh j a k v st i (J (qD q))) s=.ok (qD (-q)) s:=by
 have m:=IF (p:=0) (q:=q) (s:=s) (by rw[show sz 0=1 by decide +kernel];ext);unfold nh gE;simp![aC,IL,m];congr 2
 grind
def yR{x:St}{i b:Nat}{a:Rat}{j:List Pt}(h:b≠i):(x.add i a j).F b=x.F b:=h8 h
def yb{n z:Nat}{sh od:D}{b:Bool}{k v:So}{st:D}{l:List Pt}{s:b_}(hr:∀r∈l,sz r.2<=z)(E:(l.map (·.1)).Nodup)(lr:l.length<=12)(hz:z<=200000):∀(j:List Pt)(x:St)(t:Nat)(i f:So),(j.map (·.1)).Nodup->(∀p∈j,p.1<n/\sz p.2<=2*z/\∀r∈l,sz (x.F p.1 r.1)<=z)->(∀i,i<n->Kf (x.K i) (x.F i))->(∀i,(x.K i).length<=t)->t+12*j.length<=9000 ->
  (∃C y,jb sh od (.dic b [] []) k v st (.tup (l.map lb)) (j.map lb) (qr n x) i f s=J (qr n (x.adds j l),C,y,s))/\(∀i,i<n->Kf ((x.adds j l).K i) ((x.adds j l).F i))/\∀i,((x.adds j l).K i).length<=t+12*j.length
 |[],x,t,i,f,u,B,kf,kl,L=>⟨⟨i,f,rfl⟩,kf,kl⟩
 |p::j,x,t,i,f,u,B,kf,kl,L=>by
  obtain⟨O,px,P⟩:=B p (by simp);rw[nc,x6]at u;have Z:t+12*(j.length+1)<=9000:=L
  obtain⟨R,S,W⟩:=u6 (s:=s) (a:=-p.2) kf kl O (λr h=>by
   have h1:=hr r h;have H:=P r h;have G:=kq (-p.2) r.2;have h4:=yX p.2
   ext) E lr (by ext)
  obtain⟨⟨C,y,e⟩,H,G⟩:=yb (sh:=sh) (od:=od) (b:=b) (k:=k) (v:=v) (st:=st) (s:=s) hr E lr hz j (x.add p.1 (-p.2) l) (t+12) (J (inD' p.1)) (J (qD p.2)) u.2 (λq M=>by
   obtain⟨b1,X,U⟩:=B q (pj _ M);have ne:q.1≠p.1:=λz=>u.1 (z▸se.mpr ⟨q,M,rfl⟩);rw[yR ne]
   exact⟨b1,X,U⟩) S W (by ext)
  refine⟨⟨C,y,?_⟩,H,λi=>by rw[BN,show t+12*(j.length+1)=t+12+12*j.length by ext];exact G i⟩;have Q:wG (qr n x).length (p.1:Int)=J p.1:=by unfold qr;simp only[xg,Js];exact MM.i5 O
  rw[nc,jb,QB];dsimp only;rw[QC (by ext),Q];dsimp only;rw[R];exact e
def QD{n k v t z:Nat}{ns:SU}{x:St}{sh:D}{b:Bool}{st i f:So}{s:b_}(o:On n ns)(a:ns[k]?=J v)(h:B0 n t z (ns.drop k) x)(y:z<=400000)(pv:x.F v v≠0):
  iM.p (gE (qr n x) sh (j_ ns) (.dic b [] []) (J (inD' k)) (J (inD' v)) st i f) s=.ok (n7 ⟨v,x.F v v,Bk (pf n ns k) (x.F v),((pf n ns k).filter λi=>!decide (x.F i v=0)).map λi=>(i,x.F i v/x.F v v)⟩) s:=by
 have E:=o.len;have n12:=o.n12;have u:k<n:=by have:=(qi.mp a).1;ext
 have l:(pf n ns k).length<=100:=by have:=(gO (k:=k) o).length_eq;simp at this;ext
 have lt:=qA o u;have C:=IM (s:=s) h (o.lt v (BA a)) l (λi j=>o.lt i (Jq ((cG o).mp j))) (by rw[fM a];simp) (λi j=>by rw[fM a];exact pj _ ((cG o).mp j)) y pv;have B:(DW T).p (inD' v) (.dic b [] [])=J (.bl T):=rfl;unfold iM gE;rw[yy];simp![bE,aD,B,Pf,Pl,wj,if_false,aC,bz,g6,g7,gU,aT,aJ,bP,gR,lt,C]
abbrev IS(v:Nat):va:=⟨"NoPivot",[("place",.int (v:Int))]⟩
def MK{v:Nat}(h:v<12):gM "the pivot of the place " " is nought" (v:Int):=by
 unfold gM;revert v
 decide +kernel
def IT{n t z v:Nat}{R:SU}{x:St}{ls:SU}{s:b_}(h:B0 n t z R x)(hv:v<n)(a:v<12)(pv:x.F v v=0):fS.p [cO (qr n x),inD' v,j_ ls] s=.exc (IS v) s:=by
 have i:=nt (j:=v) (h.kf v hv);have e0:zT T (qD (x.F v v)) (qD 0)=J (.bl I):=by rw[oj];simp[pv]
 rw[oY (by rfl)];unfold fO;rw[show k_ 5 [cO (qr n x),inD' v,j_ ls]=[J (cO (qr n x)),J (inD' v),J (j_ ls),Y,Y]from rfl];rw[aB,aV];simp![nM,aD,kA hv,Pf,IL,i,Pg,r_,q_,PU.ax];rw[aB,bw];dsimp![bE,aD,au,IL,dM,e0,Pl,if_true];have l:(nH "NoPivot" "the pivot of the place " " is nought" "place" (aa (ac 1) a_):Xd []).p [J (cO (qr n x)),J (inD' v),J (j_ ls),J (qD (x.F v v)),Y] s=.rse (IS v) [J (cO (qr n x)),J (inD' v),J (j_ ls),J (qD (x.F v v)),Y] s:=e_ (MK a);rw[l];rfl
def QE{n k v t z:Nat}{ns:SU}{x:St}{sh:D}{b:Bool}{st i f:So}{s:b_}(o:On n ns)(a:ns[k]?=J v)(h:B0 n t z (ns.drop k) x)(pv:x.F v v=0):
  iM.p (gE (qr n x) sh (j_ ns) (.dic b [] []) (J (inD' k)) (J (inD' v)) st i f) s=.exc (IS v) s:=by
 have j:k<n:=by have:=(qi.mp a).1;have:=o.len;ext
 have lt:=qA o j;have u:=IT (s:=s) (ls:=pf n ns k) h (o.lt v (BA a)) (by have:=o.lt v (BA a);have:=o.n12;ext) pv;have l:(DW T).p (inD' v) (.dic b [] [])=J (.bl T):=rfl;unfold iM gE;rw[yy];simp![bE,aD,l,Pf,Pl,wj,if_false,aC,bz,g6,g7,gU,aT,aJ,bP,gR,lt,u]
def rB{k v:Nat}{ns:SU}(i:ns[k]?=J v):(br (ns.map inD')).drop k=.tup [inD' k,inD' v]::(br (ns.map inD')).drop (k+1):=by
 have a:=qi.mp i;have l:k<(br (ns.map inD')).length:=by simp[br,a.1]
 have e:(br (ns.map inD'))[k]?=J (.tup [inD' k,inD' v]):=by unfold br;rw[r6,Jp,r6,i];simp
 rw[Jn l];congr 1;rw[zL l]at e;exact Option.some.inj e
def Em.run{n z e:Nat}{ns:SU}{g:Nat->Nat->Rat}(h:Em n z e ns g){sh:D}{b:Bool}{s:b_}:∀(m k:Nat)(x:St)(t:Nat)(G:SV)(st i f:So),k+m=e->(∀i,i<n->Kf (x.K i) (x.F i))->(∀i,(x.K i).length<=t)->t+150*m<=9000->G.length=k->(∀i j,i∈ns.drop k->j∈ns.drop k->x.F i j=av ns g k i j) ->
  ∃H L P R,eZ sh (j_ ns) (.dic b [] []) ((br (ns.map inD')).drop k) (qr n x) G st i f s=eZ sh (j_ ns) (.dic b [] []) ((br (ns.map inD')).drop e) (qr n H) (G++((List.range' k m).map (kr n ns g)).map n7) L P R s/\(∀i,i<n->Kf (H.K i) (H.F i))/\(∀i,(H.K i).length<=t+150*m)/\∀i j,i∈ns.drop e->j∈ns.drop e->H.F i j=av ns g e i j
 |0,k,x,t,G,st,i,f,hk,kf,kl,ht,hl,l=>by
  have hk:k=e:=by ext
  subst hk;exact⟨x,st,i,f,by simp,kf,kl,l⟩
 |m+1,k,x,t,G,st,i,f,hk,kf,kl,ht,hl,l=>by
  have o:=h.o;have n12:=o.n12;have z0:=h.z0;have mn:=h.mn;have E:k<e:=by ext
  have C:k<n:=by ext
  have hv:=j6 o C;have p0:=h.pv k E;have u:ir ns k∈ns.drop k:=(mR o C).mpr (.inl rfl);have B:∀j∈pf n ns k,j∈ns.drop k:=λj F=>(mR o C).mpr (.inr F);have so:B0 n t z (ns.drop k) x:=⟨kf,kl,λi M j F=>by rw[l i j M F];exact h.si k i j (by ext)⟩;have e1:=QD (sh:=sh) (b:=b) (st:=st) (i:=i) (f:=f) (s:=s) o hv so (by ext) (by rw[l _ _ u u];exact p0);have er:Bk (pf n ns k) (x.F (ir ns k))=Bk (pf n ns k) (av ns g k (ir ns k)):=lv λj F=>l _ j u (B j F);have ec:(((pf n ns k).filter λi=>!decide (x.F i (ir ns k)=0)).map λi=>(i,x.F i (ir ns k)/x.F (ir ns k) (ir ns k)))=(kr n ns g k).c:=by
   unfold kr;dsimp only;have e:((pf n ns k).filter λi=>!decide (x.F i (ir ns k)=0))=(pf n ns k).filter λi=>!decide (av ns g k i (ir ns k)=0):=Ou λj F=>by rw[l j _ (B j F) u]
   rw[e];exact CF λj F=>by rw[l j _ (B j (BO.mp F).1) u,l _ _ u u]
  rw[er,ec,l _ _ u u]at e1;have e1:iM.p (gE (qr n x) sh (j_ ns) (.dic b [] []) (J (inD' k)) (J (inD' (ir ns k))) st i f) s=.ok (n7 (kr n ns g k)) s:=e1;have d:=QA (g:=g) o C;have dr:=x6.mp d.r;have dc:=x6.mp d.c;have ll:=v4 (k:=k) o;have lr:(kr n ns g k).r.length<=12:=by unfold kr Bk;rw[xg];exact n_ (E5 _ _) ll
  have lc:(kr n ns g k).c.length<=12:=by unfold kr;rw[xg];exact n_ (E5 _ _) ll
  have U:∀r∈(kr n ns g k).r,r.1∈pf n ns k:=λr hr=>by
   have hr:r∈((pf n ns k).filter λj=>!decide (av ns g k (ir ns k) j=0)).map λj=>(j,av ns g k (ir ns k) j):=hr;obtain⟨i,M,rfl⟩:=se.mp hr;exact(BO.mp M).1
  have X:∀r∈(kr n ns g k).c,r.1∈pf n ns k:=λr hr=>by
   obtain⟨i,M,rfl⟩:=se.mp hr;exact(BO.mp M).1
  obtain⟨⟨P,R,e2⟩,k2,l2⟩:=yb (sh:=sh) (od:=j_ ns) (b:=b) (k:=J (inD' k)) (v:=J (inD' (ir ns k))) (st:=n7 (kr n ns g k)) (s:=s) (λr hr=>(h.w_r E r (pj _ hr)).2) dr.2 lr z0 (kr n ns g k).c x t i f dc.2 (λp hp=>by
   obtain⟨a1,a2⟩:=h.w_c E p (pj _ hp)
   exact⟨a1,a2,λr hr=>so.sz _ (B _ (X p hp)) _ (B _ (U r hr))⟩) kf kl (by ext)
  obtain⟨H,L,i2,f2,ih,Z,ab,O⟩:=Em.run h (sh:=sh) (b:=b) (s:=s) m (k+1) (x.adds (kr n ns g k).c (kr n ns g k).r) (t+150) (G++[n7 (kr n ns g k)]) (J (n7 (kr n ns g k))) P R (by ext) k2 (λi=>n_ (l2 i) (by ext)) (by ext) (by simp[hl]) (λa c ha hc=>by
   have la:a∈pf n ns k:=(cG o).mpr ha;have lc:c∈pf n ns k:=(cG o).mpr hc;have ne:∀y,y∈pf n ns k->¬ir ns k=y:=λy hy e=>w8 o C (e▸hy);have S:=h.cl (i:=a) E;have Q:=h.rw (j:=c) E;unfold Law.cl at S;unfold rw' at Q;rw[aQ]at S Q;have S:=(h8 (ne a la)).symm.trans S;have Q:=(h8 (ne c lc)).symm.trans Q;rw[zi dr.2 dc.2,l a c (B a la) (B c lc),S,Q]
   rfl)
  refine⟨H,L,i2,f2,?_,Z,λi=>n_ (ab i) (by ext),O⟩;have ed:=rB (k:=k) (v:=ir ns k) (ns:=ns) hv;rw[ed,eZ,e1]
  show (if flat (n7 (kr n ns g k))=I/\G.length<1000/\flat (inD' k)=I/\flat (inD' (ir ns k))=I then (match jb sh (j_ ns) (.dic b [] []) (J (inD' k)) (J (inD' (ir ns k))) (n7 (kr n ns g k)) (.tup ((kr n ns g k).r.map lb)) ((kr n ns g k).c.map lb) (qr n x) i f s with
   |some (W,P,R,s2)=>eZ sh (j_ ns) (.dic b [] []) ((br (ns.map inD')).drop (k+1)) W (G++[n7 (kr n ns g k)]) (J (n7 (kr n ns g k))) P R s2
   |none=>.bad)else .bad)=_
  rw[e_ ⟨qe _,by ext,rfl,rfl⟩,e2];dsimp only;rw[ih];simp[M9]
def EN{n x:Nat}{s:b_}(h:x<n):eS.p [.int (n:Int),inD' x] s=.ok (.bl I) s:=by rw[uX (by rfl)];unfold fU;rw[show k_ 2 [.int (n:Int),inD' x]=[J (.int (n:Int)),J (inD' x)]from rfl];simp[vp,h]
def EO{n:Nat}{ns:SU}{s:b_}(o:On n ns):dR.p [.tup [.int (n:Int),.tup []],j_ ns] s=.ok .non s:=by
 have G:=o.len;have n12:=o.n12
 have q:=i9 (ws:=[]) (ws':=[]) (env:=[J (.tup [.int (n:Int),.tup []]),J (j_ ns)]) (s:=s) (s0:=s) (fm:=[0]) (i:=bL (ac 1)) (t:=oh) (e:=ah eS (aa (ae h_ (ac 1) (xC (.int 0))) (aa (ac 0) a_))) (l:=ns) (λj=>inD' j) (λ_=>.bl I) (λ_=>I) (by
  simp only[dU,au,ao,Pb];rfl) (by ext) (λj z=>⟨rfl,λ_=>by
   have u:h_.p (.tup [.int (n:Int),.tup []]) (.int 0)=J (.int (n:Int)):=rfl
   simp![aC,aD,aT,aJ,nc,Jz,Jo,Jt,u,Pf,EN (o.lt j z)]⟩)
 have y:qJ.p [.lst ((ns.filter λ_=>I).map λ_=>D.bl I)]=J (.bl I):=by
  have:∀l:SU,jT (l.map λ_=>D.bl I)=J (l.map λ_=>I):=λl=>by
   induction l with
   |nil=>rfl
   |cons a l C=>rw[nc,jT,C];rfl
  show((J ((ns.filter λ_=>I).map λ_=>D.bl I)).bind jT).map _=_;rw[F5,this,CG];congr 2;simp
 have E:fR.p [j_ ns]=J (.lst ((List.range n).map inD')):=by
  have e1:j_ ns=.lst ((ns.map λ(x:Nat)=>(x:Int)).map .int):=by rw[wu];rfl
  rw[e1,re (by simp;ext)];have e2:ip (ns.map λ(x:Nat)=>(x:Int))=(List.range n).map λ(x:Nat)=>(x:Int) :=
   jO (oE _) (QO.map (S:=(·<=·)) _ (λa b h=>by ext)) ((jy _).trans (o.pm.map _))
  rw[e2,wu];rfl
 have lr:Fx.p [.int (n:Int)]=J (.lst ((List.range n).map inD')):=by rw[Fz (by ext),B2];simp[d6]
 have eq:zT T (.lst ((List.range n).map inD')) (.lst ((List.range n).map inD'))=J (.bl I):=by
  have e1:(List.range n).map inD'=((List.range n).map λ(x:Nat)=>(x:Int)).map .int:=by rw[wu];rfl
  rw[e1,tJ];simp
 have B:fX.p [.tup [.int (n:Int),.tup []],j_ ns] s=.ok (.bl I) s:=by
  rw[uI (by rfl)];unfold gu;rw[show k_ 2 [.tup [.int (n:Int),.tup []],j_ ns]=[J (.tup [.int (n:Int),.tup []]),J (j_ ns)]from rfl];have F:(ba ["list"]).p (j_ ns)=J (.bl I):=by simp[dG]
  have u:h_.p (.tup [.int (n:Int),.tup []]) (.int 0)=J (.int (n:Int)):=rfl;rw[aB,bw];dsimp![cW,bE,eP,au,F,Pl,BR,wj,if_false,bf,PU.ax];rw[aB,bw,cW,bE,bz,af,q];simp only[Pb,aq,y,Pf,Pl,BR,Pg,wj,if_false,bf,PU.ax];simp![bo,aD,bz,E,Pf,aT,aJ,u,lr,dM,eq,Pg,PU.bq]
 rw[qw (by rfl)];unfold dS;rw[show k_ 2 [.tup [.int (n:Int),.tup []],j_ ns]=[J (.tup [.int (n:Int),.tup []]),J (j_ ns)]from rfl,bw];simp![cW,bE,aC,B,Pl,BR,Pg,wj,if_false,bf,PU.zd]
def Em.go{n z m:Nat}{ns:SU}{g:Nat->Nat->Rat}(h:Em n z m ns g)(G:m=n\/(m<n/\av ns g m (ir ns m) (ir ns m)=0)){s:b_}:eZ (w_ n g) (j_ ns) (.dic T [] []) (br (ns.map inD')) (qr n (B1 n g)) [] Y Y Y s=if m=n then .ok (((List.range n).map (kr n ns g)).map n7) s else .exc (IS (ir ns m)) s:=by
 have o:=h.o;have n12:=o.n12;have H:=o.len;have mn:=h.mn;have C:=IN (n:=n) (z:=z+1) (R:=ns) (g:=g) (by ext) (λi j=>by have:=h.si 0 i j (by ext);have:sz (g i j)<=z:=this;ext)
 obtain⟨x,st,i,f,e,kf,kl,l⟩:=h.run (sh:=w_ n g) (b:=T) (s:=s) m 0 (B1 n g) n [] Y Y Y (by ext) C.kf C.kl (by ext) rfl (λi j B u=>by
  have:j<n:=o.lt j (Jq u)
  unfold B1;dsimp only
  rw[e_ this];rfl)
 rw[Nd,J4,<-M5]at e;rw[e];rcases G with rfl|⟨E,F⟩
 .rw[e_ rfl,Og (by simp[br,H])];rfl
 .rw[h8 (by ext)];have hv:=j6 o E;have a:ir ns m∈ns.drop m:=(mR o E).mpr (.inl rfl);have y:B0 n (n+150*m) z (ns.drop m) x:=⟨kf,kl,λi B j u=>by rw[l i j B u];exact h.si m i j (l_ _)⟩;have e1:=QE (sh:=w_ n g) (b:=T) (st:=st) (i:=i) (f:=f) (s:=s) o hv y (by rw[l _ _ a a];exact F);rw[rB hv,eZ,e1]
def Em.struck{n z m:Nat}{ns:SU}{g:Nat->Nat->Rat}(h:Em n z m ns g)(u:m=n\/(m<n/\av ns g m (ir ns m) (ir ns m)=0)){s:b_}:dL.p [w_ n g,j_ ns] s=if m=n then .ok (.lst (((List.range n).map (kr n ns g)).map n7)) s else .exc (IS (ir ns m)) s:=by
 have o:=h.o;have n12:=o.n12;have B:=o.len;have go:=h.go u (s:=s);have a:d_ (ns.map inD')=I:=fD λd hd=>by
  obtain⟨x,_,rfl⟩:=se.mp hd;rfl
 have l:lT.p [w_ n g,j_ ns,.dic T [] []] s=if m=n then .ok (.lst (((List.range n).map (kr n ns g)).map n7)) s else .exc (IS (ir ns m)) s:=by
  show(if d_ (ns.map inD')=I then N3 [w_ n g,j_ ns,.dic T [] []] s else .bad)=_;rw[e_ a];unfold N3 w_;dsimp only;rw[AJ n12];dsimp only;rw[e_ (by simp;ext)];unfold w_ at go;rw[go];by_cases z:m=n
  .rw[e_ z,e_ z]
  .rw[h8 z,h8 z]
 have j:h_.p (w_ n g) (.int 0)=J (.int (n:Int)):=rfl;have t2:∀{x y:D}{s:b_},(if [x,y].length<=100000 then PR.ok (D.tup [x,y]) s else .bad)=.ok (.tup [x,y]) s:=λ{x y s}=>e_ (by simp);have i:∀{s:b_},(if([]:SV).length<=100000 then PR.ok (D.tup []) s else .bad)=.ok (.tup []) s:=λ{s}=>e_ (by decide);rw[ya (by rfl)];unfold jk;rw[show k_ 2 [w_ n g,j_ ns]=[J (w_ n g),J (j_ ns)]from rfl,aB,DL];simp![aC,bJ,aD,aT,aJ,j,Pf,i,t2,EO o,Pg,PU.ax];simp![bo,aC,HH,l];by_cases z:m=n
 .simp only[e_ z];rfl
 .simp only[h8 z];rfl
def iV{l:Nat}{a:SU}{f:Nat->Rat}:Bk (l::a) f=if f l=0 then Bk a f else(l,f l)::Bk a f:=by
 unfold Bk;rw[List.filter_cons];by_cases h:f l=0
 .simp[h]
 .simp[h]
def mq:∀{i:SU}{a:List Pt},i.Nodup->PtS i a->Bk i (iw a)=a
 |[],a,_,h=>by
  have:a=[]:=by simpa using List.sublist_nil.mp h.sub
  subst this;rfl
 |l::i,[],nd,h=>by
  rw[iV,e_ eI];exact mq (x6.mp nd).2 ⟨List.nil_sublist _,h.sm⟩
 |l::i,p::a,nd,h=>by
  rw[x6]at nd;have y:=h.sub;rw[nc]at y;by_cases e:p.1=l
  .subst e;have u:(a.map (·.1)).Sublist i:=(QP).mp y;have c0:iw (p::a) p.1=p.2:=by rw[aQ,e_ rfl]
   rw[iV,c0,h8 (h.sm p (by simp)).1]
   rw[lv (g:=iw a) (λj B=>by
    rw[aQ,h8 (λe:p.1=j=>nd.1 (by rw[e];exact B))])]
   rw[mq nd.2 ⟨u,λq C=>h.sm q (pj _ C)⟩]
  .have u:(p.1::a.map (·.1)).Sublist i:=by
    cases y with
    |cons _ s=>exact s
    |cons_cons _ s=>exact absurd rfl e
   have z:iw (p::a) l=0:=dg λm=>nd.1 (u.subset (by rw[nc]at m;exact m));rw[iV,e_ z];exact mq nd.2 ⟨u,h.sm⟩
def WkOk.dd{n:Nat}{ns:SU}{k:Nat}{w:Wk}(o:On n ns)(h:WkOk n ns k w):N_ w:=by
 have l:∀a:List Pt,PtS (pf n ns k) a->(w.v::a.map (·.1)).Nodup:=λa u=>by
  rw[x6];refine⟨λm=>?_,(kJ.imp λh=>x5 h).sublist u.sub⟩;have B:=(cG o).mp (u.sub.subset m);obtain⟨i,z,e⟩:=Oj B;rw[List.getElem_drop]at e;have y:=h.v
  have:k=k+1+i:=(J1 (i:=k) (j:=k+1+i) (qi.mp y).1 o.nd).mp (by rw[y,zL (by simp at z;ext),e])
  ext
 exact⟨l _ h.r,l _ h.c⟩
def WkOk.nn{n:Nat}{ns:SU}{k:Nat}{w:Wk}(o:On n ns)(h:WkOk n ns k w):Sd n w:=by
 have n12:=o.n12;have u:=o.len;have l:(pf n ns k).length<=12:=by have:=(gO (k:=k) o).length_eq;simp at this;ext
 have pt:∀a:List Pt,PtS (pf n ns k) a->(∀q∈a,q.1<n/\Tw q.2)/\a.length<=12:=λa i=>⟨λq j=>⟨o.lt _ (Jq ((cG o).mp (i.sub.subset (se.mpr ⟨q,j,rfl⟩)))),(i.sm q j).tw⟩,by have:=i.sub.length_le;simp at this;ext⟩;exact⟨o.lt _ (BA h.v),h.p.tw,(pt _ h.r).1,(pt _ h.c).1,(pt _ h.r).2,(pt _ h.c).2⟩
def WkOk.at0{n:Nat}{ns:SU}{k m:Nat}{w:Wk}{v:Nat}(o:On n ns)(h:WkOk n ns m w)(hv:ns[k]?=J v)(lt:k<m):cl w v=0/\rw' w v=0:=by
 have l:=(qi.mp hv).1;have ne:w.v≠v:=λe=>by
  have:=(J1 (i:=k) (j:=m) l o.nd).mp (by rw[hv,h.v,e])
  ext
 have y:v∉pf n ns m:=λz=>by
  obtain⟨i,u,e⟩:=Oj ((cG o).mp z);rw[List.getElem_drop]at e
  have:=(J1 (i:=k) (j:=m+1+i) l o.nd).mp (by rw[hv,zL (by simp at u;ext),e])
  ext
 have off:∀a:List Pt,PtS (pf n ns m) a->iw a v=0:=λa B=>dg λz=>y (B.sub.subset z);unfold cl rw';rw[aQ,aQ,h8 ne,h8 ne,off _ h.c,off _ h.r];exact⟨rfl,rfl⟩
def IU{n:Nat}{ns:SU}{k v j:Nat}(o:On n ns)(hv:ns[k]?=J v):∀(a:List Wk)(m:Nat),k<m->(∀i w,a[i]?=J w->WkOk n ns (m+i) w)->jU a v j=0/\jU a j v=0
 |[],m,_,_=>⟨rfl,rfl⟩
 |w::a,m,lt,h=>by
  have z:=(h 0 w rfl).at0 o hv lt;have l:=IU (j:=j) o hv a (m+1) (by ext) λi x e=>by
   have:=h (i+1) x (by simpa using e)
   rwa [show m+(i+1)=m+1+i by ext]at this
  rw[bY,bY,z.1,z.2,l.1,l.2]
  constructor<;>grind
def zg{n:Nat}{ns:SU}(o:On n ns){i j:Nat}:∀(B:List Wk)(k:Nat),(∀(m:Nat) w,B[m]?=J w->WkOk n ns (k+m) w)->Cm (9363600*B.length) (jU B i j)
 |[],k,h=>Cm.zero _
 |w::B,k,h=>by
  have nn:=(h 0 w rfl).nn o;have co:∀(y:List Pt)(a:Nat)(q:Rat),Tw q->(∀p∈y,Tw p.2)->Tw (iw ((a,q)::y) i)/\Tw (iw ((a,q)::y) j):=λy a q F C=>by
   have:∀z,Tw (iw ((a,q)::y) z):=λz=>by
    have:∀l:List Pt,(∀p∈l,Tw p.2)->Tw (iw l z):=λl=>by
     induction l with
     |nil=>intro;exact Tw.zero
     |cons p l E =>
      intro hl;rw[aQ];split
      .exact hl p (by simp)
      .exact E λx G=>hl x (pj _ G)
    exact this _ λp h=>(qd.mp h).elim (λe=>e▸F) (C p)
   exact⟨this i,this j⟩
  rw[bY,BN,Nat.mul_add,Nat.add_comm]
  exact ((co _ _ _ Tw.one λp C=>(nn.c p C).2).1.mul (co _ _ _ nn.p λp C=>(nn.r p C).2).2 |>.mono (by decide)).add (zg o B (k+1) λm u e=>by
   have:=h (m+1) u (by simpa using e)
   rwa [show k+(m+1)=k+1+m by ext]at this)
def Ov(e:Nat)(A:Nat->Nat->Rat):Prop:=∃E:Nat,E≠0/\E<2^e/\∀i j,∃a:Int,A i j=Rat.divInt a E/\a.natAbs<2^e
def Ov.sz{e:Nat}{A:Nat->Nat->Rat}(u:0<e)(h:Ov e A)(i j:Nat):sz (A i j)<=e:=by obtain⟨E,e0,e1,h⟩:=h;obtain⟨a,l,y⟩:=h i j;rw[l];exact md e0 u y e1
def Ov.step{e v:Nat}{A:Nat->Nat->Rat}(h:Ov e A)(hv:A v v≠0):Ov (2*e+1) λi j=>A i j-A i v/A v v*A v j:=by
 obtain⟨E,e0,e1,h⟩:=h;obtain⟨b,F,B⟩:=h v v;have R:((E:Int):Rat)≠0:=by
  have:(E:Int)≠0:=by ext
  exact_mod_cast this
 have C:b≠0:=λz=>hv (by rw[F,z];simp);have S:(b:Rat)≠0:=by exact_mod_cast C
 have X:2^(2*e+1)=2^e*2^e+2^e*2^e:=by rw[OB,Nat.two_mul,Nat.pow_add];ext
 have l:∀x y:Int,x.natAbs<2^e->y.natAbs<2^e->(x*y).natAbs<2^e*2^e:=λx y P Q=>by
  rw[Cj];exact Oy P Q
 refine⟨E*b.natAbs,J6 e0 (by ext),?_,λi j=>?_⟩
 .have:=Oy e1 B
  ext
 .obtain⟨a,O,M⟩:=h i j;obtain⟨c,G,H⟩:=h i v;obtain⟨d,L,hd⟩:=h v j;have u:A i j-A i v/A v v*A v j=Rat.divInt (a*b-c*d) ((E:Int)*b):=by
   rw[O,F,G,L];simp only[Rat.divInt_eq_div];push_cast
   grind
  have U:=l a b M B;have W:=l c d H hd;refine⟨if(E:Int)*b<0 then -(a*b-c*d)else a*b-c*d,?_,?_⟩
  .show A i j-A i v/A v v*A v j=_;rw[u,ID (J7 (by ext) C),Cj,Oo]
  .split<;>ext
def CO(e:Nat):Nat->Nat
 |0=>e
 |k+1=>2*CO e k+1
def EQ{e:Nat}(a:0<e):∀k,0<CO e k
 |0=>a
 |k+1=>by unfold CO;ext
def As{e k m:Nat}(h:k<=m):CO e k<=CO e m:=by
 induction m with
 |zero =>
  have:k=0:=by ext
  subst this;exact l_ _
 |succ m a =>
  by_cases z:k=m+1
  .subst z;exact l_ _
  .have:=a (by ext)
   show _<=2*CO e m+1;ext
def ML:∀k,k<=12->CO 27 k<=120000:=by decide
def FN{e m:Nat}{ns:SU}{g:Nat->Nat->Rat}(a:Ov e g)(pv:∀k,k<m->av ns g k (ir ns k) (ir ns k)≠0):∀k,k<=m->Ov (CO e k) (av ns g k)
 |0,_=>a
 |k+1,i=>(FN a pv k (by ext)).step (pv k (by ext))
structure Sh(e n:Nat)(g:Nat->Nat->Rat):Prop where
 off:∀i j,¬(i<n/\j<n)->g i j=0
 ov:Ov e g
def Sh.em{e n m:Nat}{ns:SU}{g:Nat->Nat->Rat}(h:Sh e n g)(l:0<e)(a:CO e n<=120000)(o:On n ns)(mn:m<=n)(pv:∀k,k<m->av ns g k (ir ns k) (ir ns k)≠0):Em n 120000 m ns g :=
 ⟨o,mn,h.off,pv,λk i j u=>n_ ((FN h.ov pv k u).sz (EQ l k) i j) (n_ (As (by ext)) a),by ext⟩
def zm(P:Nat->Prop):∀n,∃m,m<=n/\(∀k,k<m->P k)/\(m=n\/(m<n/\¬P m))
 |0=>⟨0,l_ _,λ_ h=>absurd h (Nat.not_lt_zero _),.inl rfl⟩
 |n+1=>by
  obtain⟨m,j,i,a⟩:=zm P n;rcases a with rfl|a
  .by_cases z:P m
   .exact⟨m+1,l_ _,λk l=>by
     by_cases e:k=m
     .rw[e];exact z
     .exact i k (by ext),.inl rfl⟩
   .exact⟨m,by ext,i,.inr ⟨by ext,z⟩⟩
  .exact⟨m,by ext,i,.inr ⟨by ext,a.2⟩⟩
structure Tn(n:Nat)(ns:SU)(ws:List Wk):Prop where
 o:On n ns
 hl:ws.length=n
 hw:∀(k:Nat) w,ws[k]?=J w->WkOk n ns k w
abbrev gW(ws:List Wk):Nat->Nat->Rat:=ws.foldl gy λ_ _=>0
section
variable{n:Nat}{ns:SU}{ws:List Wk}
def Tn.sum(t:Tn n ns ws)(i j:Nat):gW ws i j=jU ws i j:=by
 unfold gW
 rw[vI λw h=>by
  obtain⟨k,a⟩:=Oh h
  exact(t.hw k w a).dd t.o]
 grind
def Tn.rest(t:Tn n ns ws)(k:Nat):∀(i:Nat) w,(ws.drop k)[i]?=J w->WkOk n ns (k+i) w:=λi w e=>by
 rw[List.getElem?_drop]at e;exact t.hw _ w e
def WkOk.at'{k:Nat}{w:Wk}(o:On n ns)(h:WkOk n ns k w):w.v=ir ns k:=by
 have:=h.v
 unfold ir;rw[JT,this];rfl
def Tn.av(t:Tn n ns ws):∀k,k<=n->∀i j,av ns (gW ws) k i j=jU (ws.drop k) i j
 |0,_,i,j=>t.sum i j
 |k+1,C,i,j=>by
  have a:=Tn.av t k (by ext);have hl:=t.hl;obtain⟨w,hw⟩:∃w,ws[k]?=J w:=⟨_,zL (show k<ws.length by ext)⟩;have ok:=t.hw k w hw;have B:=ok.at' t.o;have z:ws.drop k=w::ws.drop (k+1):=by obtain⟨h,rfl⟩:=qi.mp hw;exact Jn h
  have u:=λj=>IU (j:=j) t.o ok.v (ws.drop (k+1)) (k+1) (by ext) (t.rest (k+1));have l:cl w w.v=1:=by unfold cl;rw[aQ,e_ rfl]
  have y:rw' w w.v=w.p:=by unfold rw';rw[aQ,e_ rfl]
  have E:w.p≠0:=ok.p.1;show Law.av ns (gW ws) k i j-Law.av ns (gW ws) k i (ir ns k)/Law.av ns (gW ws) k (ir ns k) (ir ns k)*Law.av ns (gW ws) k (ir ns k) j=_;rw[a,a,a,a,<-B,z,bY,bY,bY,bY,l,y,(u j).1,(u i).2,(u w.v).1]
  grind
def Tn.w(t:Tn n ns ws){k:Nat}{w:Wk}(hw:ws[k]?=J w):kr n ns (gW ws) k=w/\Law.av ns (gW ws) k (ir ns k) (ir ns k)≠0:=by
 have hl:=t.hl;have o:=t.o;have kl:=(qi.mp hw).1;have O:k<n:=by ext
 have ok:=t.hw k w hw;have H:=ok.at' o;have F:ws.drop k=w::ws.drop (k+1):=by obtain⟨h,rfl⟩:=qi.mp hw;exact Jn h
 have E:=λj=>IU (j:=j) o ok.v (ws.drop (k+1)) (k+1) (by ext) (t.rest (k+1));have u:cl w w.v=1:=by unfold cl;rw[aQ,e_ rfl]
 have B:rw' w w.v=w.p:=by unfold rw';rw[aQ,e_ rfl]
 have P:w.p≠0:=ok.p.1;have C:(pf n ns k).Nodup:=kJ.imp λh=>x5 h;have ne:∀j∈pf n ns k,¬w.v=j:=λj a e=>w8 o O (by rw[<-H,e];exact a);have l:Law.av ns (gW ws) k w.v w.v=w.p:=by rw[t.av k (by ext),F,bY,u,B,(E w.v).1];grind
 have G:∀j∈pf n ns k,Law.av ns (gW ws) k w.v j=iw w.r j:=λj a=>by
  rw[t.av k (by ext),F,bY,u,(E j).1];unfold rw';rw[aQ,h8 (ne j a)];grind
 have y:∀j∈pf n ns k,Law.av ns (gW ws) k j w.v=iw w.c j*w.p:=λj a=>by
  rw[t.av k (by ext),F,bY,B,(E j).2];unfold cl;rw[aQ,h8 (ne j a)];grind
 have M:Bk (pf n ns k) (Law.av ns (gW ws) k w.v)=w.r:=by rw[lv G];exact mq C ok.r
 have L:(((pf n ns k).filter λi=>!decide (Law.av ns (gW ws) k i w.v=0)).map λi=>(i,Law.av ns (gW ws) k i w.v/Law.av ns (gW ws) k w.v w.v))=w.c:=by
  refine Eq.trans ?_ (mq C ok.c);unfold Bk;have z:∀j∈pf n ns k,(Law.av ns (gW ws) k j w.v=0↔iw w.c j=0):=λj a=>by
   rw[y j a];constructor
   .intro q;grind
   .intro q;rw[q];grind
  have e:((pf n ns k).filter λi=>!decide (Law.av ns (gW ws) k i w.v=0))=(pf n ns k).filter λj=>!decide (iw w.c j=0):=Ou λj a=>by
   rw[decide_eq_decide.mpr (z j a)]
  rw[e];refine CF λj a=>?_;rw[y j (BO.mp a).1,l];congr 1
  grind
 unfold kr;rw[<-H,M,L,l];exact⟨rfl,P⟩
def Tn.eq(t:Tn n ns ws):(List.range n).map (kr n ns (gW ws))=ws:=by
 have hl:=t.hl;apply F4;intro k;by_cases h:k<n
 .have e:=zL (show k<ws.length by ext);rw[r6,Jr h,e,CG,(t.w e).1]
 .rw[BM (by simp;ext),BM (by ext)]
def Tn.sh(t:Tn n ns ws):Sh 27 n (gW ws):=by
 have hl:=t.hl;have n12:=t.o.n12;have u:∀(m:Nat) w,ws[m]?=J w->WkOk n ns (0+m) w:=λm w e=>by rw[E7];exact t.hw m w e
 constructor
 .intro i j h;rw[t.sum];unfold jU
  have:∀w∈ws,cl w i*rw' w j=0:=λw hw=>by
   obtain⟨k,B⟩:=Oh hw;have nn:=(t.hw k w B).nn t.o;have co:∀(y:List Pt)(q:Rat)(x:Nat),¬x<n->(∀p∈y,p.1<n/\Tw p.2)->iw ((w.v,q)::y) x=0:=λy q x G E=>dg λm=>by
    obtain⟨p,a,e⟩:=se.mp m;rcases qd.mp a with rfl|a
    .have:=nn.v;dsimp only at e;ext
    .have:=(E p a).1;ext
   by_cases z:i<n
   .rw[show rw' w j=0 from co _ _ _ (λq=>h ⟨z,q⟩) nn.r];grind
   .rw[show cl w i=0 from co _ _ _ z nn.c];grind
  rw[CF this]
  have:∀l:List Wk,(l.map λ_=>(0:Rat)).sum=0:=λl=>by
   induction l with
   |nil=>rfl
   |cons _ _ C=>rw[nc,List.sum_cons,C];grind
  exact this ws
 .refine⟨144,by decide,by decide,λi j=>?_⟩;obtain⟨z,e,F⟩:=zg t.o (i:=i) (j:=j) ws 0 u;exact⟨z,by rw[t.sum,e];rfl,by ext⟩
def Tn.el(t:Tn n ns ws):El n 120000 ns (gW ws):=t.sh.em (by ext) (ML _ t.o.n12) t.o (l_ _) λk a=>by
 have hl:=t.hl;exact(t.w (zL (show k<ws.length by ext))).2
end
def St.addp(x:St)(i a:List Pt):St:=i.foldl (λx q=>x.add q.1 q.2 a) x
def xS{ps:List Pt}(i:(ps.map (·.1)).Nodup){a b:Nat}:∀{cs:List Pt}{x:St},(cs.map (·.1)).Nodup->(x.addp cs ps).F a b=x.F a b+iw cs a*iw ps b
 |[],x,_=>by show x.F a b=_;rw[eI];grind
 |p::cs,x,nd=>by
  rw[nc,x6]at nd;show((x.add p.1 p.2 ps).addp cs ps).F a b=_;rw[xS i nd.2,St.add_F i,aQ];by_cases e:a=p.1
  .subst e;rw[e_ rfl,e_ rfl,dg nd.1];grind
  .rw[h8 e,h8 (Ne.symm e)];grind
def yW{n:Nat}{ps:List Pt}{s:b_}(y:(ps.map (·.1)).Nodup)(lr:ps.length<=12):∀(j:List Pt)(x:St)(t:Nat),(j.map (·.1)).Nodup->(∀q∈j,q.1<n/\∀r∈ps,sz q.2+sz r.2<=900000/\sz (x.F q.1 r.1)+sz (q.2*r.2)<=900000)->(∀i,i<n->Kf (x.K i) (x.F i))->(∀i,(x.K i).length<=t)->t+12*j.length<=9000 ->
  jR (.tup (ps.map lb)) (j.map lb) (qr n x) s=J (qr n (x.addp j ps),s)/\(∀i,i<n->Kf ((x.addp j ps).K i) ((x.addp j ps).F i))/\∀i,((x.addp j ps).K i).length<=t+12*j.length
 |[],x,t,l,u,kf,kl,B=>⟨rfl,kf,kl⟩
 |p::j,x,t,l,u,kf,kl,B=>by
  obtain⟨E,S⟩:=u p (by simp);rw[nc,x6]at l;have R:t+12*(j.length+1)<=9000:=B;obtain⟨H,L,M⟩:=u6 (s:=s) (a:=p.2) kf kl E (λr h=>S r h) y lr (by ext)
  obtain⟨e,P,O⟩:=yW (s:=s) y lr j (x.add p.1 p.2 ps) (t+12) l.2 (λq C=>by
   obtain⟨U,Q⟩:=u q (pj _ C);have ne:q.1≠p.1:=λz=>l.1 (z▸se.mpr ⟨q,C,rfl⟩);rw[yR ne]
   exact⟨U,Q⟩) L M (by ext)
  refine⟨?_,P,λi=>by rw[BN,show t+12*(j.length+1)=t+12+12*j.length by ext];exact O i⟩;have G:wG (qr n x).length (p.1:Int)=J p.1:=by unfold qr;simp only[xg,Js];exact MM.i5 E
  rw[nc,jR,G];dsimp only;rw[H];exact e
section
variable{n z:Nat}{ns:SU}{g:Nat->Nat->Rat}
def IV{k:Nat}(o:On n ns)(a:k<n):(pf n ns k).length<=11:=by
 have:=(gO (k:=k) o).length_eq
 have:=o.len
 have:=o.n12
 simp at *;ext
def El.pbw(h:El n z ns g)(P:z<=150000){s:b_}:∀(m k t:Nat)(x:St),k+m=n->(∀i j,x.F i j=g i j-av ns g k i j)->(∀i,i<n->Kf (x.K i) (x.F i))->(∀i,(x.K i).length<=t)->t+200*m<=9000 ->
  ∃l:St,Ep (((List.range' k m).map (kr n ns g)).map n7) (qr n x) s=J (qr n l,s)/\(∀i j,l.F i j=g i j)/\∀i,i<n->Kf (l.K i) (l.F i)
 |0,k,t,x,M,u,kf,kl,O=>⟨x,rfl,λi j=>by
  have X:=h.o.len
  rw[u,Em.zero h k (by ext) i j (.inl (by rw[Og (by ext)];exact Cb))];grind,kf⟩
 |m+1,k,t,x,M,u,kf,kl,O=>by
  have a:k<n:=by ext
  have d:=QA (g:=g) h.o a;have E:=IV h.o a;have lr:(kr n ns g k).r.length<=11:=by unfold kr Bk;rw[xg];exact n_ (E5 _ _) E
  have lc:(kr n ns g k).c.length<=11:=by unfold kr;rw[xg];exact n_ (E5 _ _) E
  obtain⟨e1,C,y⟩:=yW (n:=n) (ps:=((kr n ns g k).v,(kr n ns g k).p)::(kr n ns g k).r) (s:=s) d.r (by simp;ext) (((kr n ns g k).v,1)::(kr n ns g k).c) x t d.c (λq G=>⟨(Em.w_c h a q G).1,λr hr=>by
   have Z:=(Em.w_c h a q G).2;have U:=(Em.w_r h a r hr).2;refine⟨by ext,?_⟩;have S:=kq q.2 r.2;have R:=yB (g q.1 r.1) (av ns g k q.1 r.1);have W:sz (g q.1 r.1)<=z:=h.si 0 q.1 r.1 (by ext);have Q:=h.si k q.1 r.1 (by ext)
   rw[u];ext⟩) kf kl (by simp;ext)
  have nx:∀i j,(x.addp (((kr n ns g k).v,1)::(kr n ns g k).c) (((kr n ns g k).v,(kr n ns g k).p)::(kr n ns g k).r)).F i j=g i j-av ns g (k+1) i j:=λi j=>by
   rw[xS (ps:=((kr n ns g k).v,(kr n ns g k).p)::(kr n ns g k).r) d.r (cs:=((kr n ns g k).v,1)::(kr n ns g k).c) d.c];show x.F i j+Law.cl (kr n ns g k) i*rw' (kr n ns g k) j=_;rw[Em.cl h a,Em.rw h a,u];show _=g i j-(av ns g k i j-_)
   grind
  obtain⟨l,e2,H,L⟩:=El.pbw h P (s:=s) m (k+1) (t+200) _ (by ext) nx C (λi=>n_ (y i) (by simp;ext)) (by ext);refine⟨l,?_,H,L⟩;rw[M9,nc,nc,Ep,e_ ⟨by simp;ext,by simp;ext⟩];have B:jR (.tup (.tup [.int ((kr n ns g k).v:Int),qD (kr n ns g k).p]::(kr n ns g k).r.map lb)) (.tup [.int ((kr n ns g k).v:Int),.tup [.int 1,.int 1]]::(kr n ns g k).c.map lb) (qr n x) s=_:=e1;rw[B];exact e2
def QF{u:D}{x:St}{s:b_}(E:n<=12)(kf:∀i,i<n->Kf (x.K i) (x.F i)):tR.p (Mt (qr n x) (.int (n:Int)) u) s=.ok (w_ n x.F) s:=by
 have t2:∀{x y:D}{s:b_},(if [x,y].length<=100000 then PR.ok (D.tup [x,y]) s else .bad)=.ok (.tup [x,y]) s:=λ{x y s}=>e_ (by simp);have lr:Fx.p [.int (n:Int)]=J (j_ (List.range n)):=by rw[Fz (by ext),B2];simp[d6]
 have j:=i9 (ws:=[]) (ws':=[]) (env:=Mt (qr n x) (.int (n:Int)) u) (s:=s) (s0:=s) (fm:=[0]) (i:=bL (ac 2)) (t:=oh) (e:=ah cz (aa (ac 0) (aa (n4 Fx (aa (ac 1) a_)) a_))) (l:=List.range n) (λi=>Bu (x.K i) (x.F i)) (λi=>.tup ((cC n (x.F i)).map lb)) (λ_=>I) (by
  rw[dU];show(PR.ok (cO (qr n x)) s).bind _=_;rw[Pb];show PR.of (J ((qr n x).map λr=>dl r.1 r.2)) s=_;rw[Pf];unfold qr
  rw[wu];rfl) (by simp;ext) (λi B=>⟨rfl,λ_=>by
   have a:=E6.mp B;show(ah cz (aa (ac 0) (aa (n4 Fx (aa (ac 1) a_)) a_)):Xe []).p [J (Bu (x.K i) (x.F i)),J (.int (n:Int))] s=_;simp![aC,bz,lr,Pf]
   exact u7 (kf i a) (by simp;ext)⟩)
 unfold tR;rw[bJ,af];show(((PR.ok (D.int (n:Int)) s).bind _).bind _)=_;rw[Pb,af,bz,af,j];simp only[Pb,aq,eG,Pf,t2];have C:(List.range n).filter (λ_=>I)=List.range n:=JY.mpr (by simp);rw[C];rfl
def El.back(h:El n z ns g)(y:z<=150000){s:b_}:iT.p [.int (n:Int),.lst (((List.range n).map (kr n ns g)).map n7)] s=.ok (w_ n g) s:=by
 have n12:=h.o.n12;obtain⟨x,e,u,kf⟩:=h.pbw y (s:=s) n 0 0 ⟨λ_=>[],λ_ _=>0⟩ (by ext) (λi j=>by show(0:Rat)=g i j-g i j;grind) (λi _=>⟨List.nodup_nil,λ_ _=>rfl⟩) (λ_=>l_ _) (by ext);rw[<-M5]at e;have l:qr n ⟨λ_=>[],λ_ _=>0⟩=List.replicate n (J [],[]):=by unfold qr;rw[show(λi:Nat=>((J (ky ([]:SU)),vl ([]:SU) (λ_=>(0:Rat))):Rd))=λ_=>(J [],[])from rfl,Oz,Js]
 have B:d_ (((List.range n).map (kr n ns g)).map n7)=I:=fD λd hd=>by
  obtain⟨w,_,rfl⟩:=se.mp hd;exact qe w
 show N6 [.int (n:Int),.lst (((List.range n).map (kr n ns g)).map n7)] s=_;unfold N6;dsimp only;rw[e_ ⟨B,by ext,by ext⟩,B2,<-l,e];dsimp only;rw[QF n12 kf];dsimp only;have a:x.F=g:=by funext i j;exact u i j
 rw[a,e_ vK]
end
def ER(k:Nat)(d:D):Prop:=∀s,(dm k).p [d,d] s=.ok (.bl I) s
def mG{k:Nat}{i:Int}:ER (k+1) (.int i):=λs=>by
 rw[lY (by rfl)];unfold fF;simp[k_,dG,PR.bl,JJ]
def ES{k:Nat}{j:SV}(d:D){s:b_}(hl:j.length<=1000)(z:(cR iZ (aa (ac 0) (aa (ac 1) a_)):Xi []).p [J d,J d] s=.ok (lg j j) s)(h:∀x∈j,ER k x):
  (n4 qJ (aa (bh 2 [] (cR iZ (aa (ac 0) (aa (ac 1) a_))) (ws':=[]) (Bq (rg (lf 0) (rg (lf 1) Bp)) 2) oh (ah (dm k) (aa (ac 0) (aa (ac 1) a_)))) a_):Xe []).p [J d,J d] s=.ok (.bl I) s:=by
 have c:=LH (ws:=[]) (ws':=[]) (env:=[J d,J d]) (s:=s) (fm:=[]) (i:=cR iZ (aa (ac 0) (aa (ac 1) a_))) (t:=oh) (e:=ah (dm k) (aa (ac 0) (aa (ac 1) a_))) (ds:=lg j j) (λ_=>I) (λ_=>.bl I) z (by simp[lg];ext) (λx E=>by
  obtain⟨p,u,rfl⟩:=se.mp E;have e:p.1=p.2:=by rw[List.zip_eq_zipWith,List.zipWith_self]at u;obtain⟨x,_,rfl⟩:=se.mp u;rfl
  have B:=h p.1 (M_ u).1 s;rw[<-e]
  exact⟨_,_,rfl,rfl,λ_=>by simp[B]⟩)
 rw[yL]at c;have C:qJ.p [.lst ((lg j j).map λ_=>.bl I)]=J (.bl I):=by
  have:∀l:SV,jT (l.map λ_=>D.bl I)=J (l.map λ_=>I):=λl=>by
   induction l with
   |nil=>rfl
   |cons a l y=>rw[nc,jT,y];rfl
  show((J ((lg j j).map λ_=>D.bl I)).bind jT).map _=_;rw[F5,this,CG];congr 2;simp
 rw[bz,af,c];simp only[Pb,aq,C,Pf]
def uy{k:Nat}{a:SV}(hl:a.length<=1000)(h:∀x∈a,ER k x):ER (k+1) (.tup a):=λs=>by
 rw[lY (by rfl)];unfold fF;rw[show k_ 2 [D.tup a,.tup a]=[J (.tup a),J (.tup a)]from rfl];have c:=ES (D.tup a) (s:=s) hl (by simp) h;have i:(xB (ae (JJ T) (ac 1) (xC .non)):Xt []).p [J (.tup a),J (.tup a)] s=.ok T s:=rfl;have t2:(xB (u_ (ba ["list","tuple"]) (ac 1)):Xt []).p [J (.tup a),J (.tup a)] s=.ok I s:=by simp[dG,PR.bl]
 have l:(w9 (bA (xB (u_ (ba ["list","tuple"]) (ac 0)))) (xB (ae wV (u_ (ba ["list"]) (ac 0)) (u_ (ba ["list"]) (ac 1)))):Xt []).p [J (.tup a),J (.tup a)] s=.ok T s:=by simp[dG,PR.bl]
 have j:(ae y6 (n4 dP (aa (ac 0) a_)) (n4 dP (aa (ac 1) a_)):Xe []).p [J (.tup a),J (.tup a)] s=.ok (.bl I) s:=by simp
 rw[aB,bw,i];simp only[Pg,wj,if_false,bf,PU.ax];rw[aB,bw,t2];simp only[Pg,if_true];rw[aB,bw,l];simp only[Pg,wj,if_false,bf,PU.ax];rw[bo,kj];rw[j,Pl,Pb,e_ rfl,c];rfl
def oO{k:Nat}{a b:D}(l:ER k a)(j:ER k b):ER (k+1) (.tup [a,b]):=uy (by simp) λx i=>by
 simp only[qd,Cb,or_false]at i;rcases i with rfl|rfl
 .exact l
 .exact j
def IW{k:Nat}{l:List Pt}(h:l.length<=1000):ER (k+4) (.tup (l.map lb)):=uy (by rw[xg];exact h) λx a=>by
 obtain⟨p,_,rfl⟩:=se.mp a;exact oO mG (oO mG mG)
def IY{k:Nat}:ER (k+1) .non:=λs=>by
 rw[lY (by rfl)];unfold fF;simp[k_,dG,PR.bl,JJ]
def vb{n:Nat}{g:Nat->Nat->Rat}{s:b_}(j:n<=12):dh.p [w_ n g,w_ n g] s=.ok (.bl I) s :=
 oO (k:=7) mG (uy (k:=6) (by simp;ext) λx a=>by
  obtain⟨i,_,rfl⟩:=se.mp a
  exact IW (k:=2) (by
   have:(cC n (g i)).length<=n:=by unfold cC;rw[xg];exact n_ (E5 _ _) (by simp)
   ext)) s
def ET{v:Nat}{s:b_}:dh.p [.tup [inD' v,.non],.tup [inD' v,.non]] s=.ok (.bl I) s:=oO (k:=7) mG IY s
def f9(k:Nat)(d:D):Prop:=∃x,py d=J x/\AF d<=k/\x.canLay0=I/\x.depth<=k
def jc{i:Int}{k:Nat}:f9 k (.int i):=⟨.int i,rfl,by simp[AF],rfl,by simp[PyData.depth]⟩
def sI{k:Nat}{a:SV}(h:∀d∈a,f9 k d):∃xs,BY a=J xs/\wT a<=k/\PyData.canLayAll0 xs=I/\PyData.depthAll xs<=k:=by
 induction a with
 |nil=>exact⟨[],rfl,by simp[wT],rfl,by simp[PyData.depthAll]⟩
 |cons d a u =>
  obtain⟨xs,i,E,y,C⟩:=u λd hd=>h d (pj _ hd);obtain⟨x,l,z,j,B⟩:=h d (by simp);exact⟨x::xs,by simp[BY,i,l],by simp only[wT];ext,by simp[PyData.canLayAll0,y,j],by simp only[PyData.depthAll];ext⟩
def eD{k:Nat}{a:SV}(h:∀d∈a,f9 k d):f9 (k+1) (.tup a):=by obtain⟨xs,i,u,j,l⟩:=sI h;exact⟨.tuple xs,by simp[py,i],by simp only[AF];ext,by simpa [PyData.canLay0]using j,by simp only[PyData.depth];ext⟩
def Aa{k:Nat}{a:SV}(h:∀d∈a,f9 k d):f9 (k+1) (.lst a):=by obtain⟨xs,i,u,j,l⟩:=sI h;exact⟨.list xs,by simp[py,i],by simp only[AF];ext,by simpa [PyData.canLay0]using j,by simp only[PyData.depth];ext⟩
def oo{k:Nat}{t b:Int}:f9 (k+1) (nD t b):=eD λd hd=>by
 simp only[qd,Cb,or_false]at hd;rcases hd with rfl|rfl<;>exact jc
def rT{d:D}{a:Bool}(h:f9 60 d):zT a d d=J (.bl (!a)):=by obtain⟨x,l,j,i,u⟩:=h;unfold zT;rw[l];dsimp only;rw[e_ ⟨⟨j,j⟩,jN i (by ext),jN i (by ext)⟩,SeqAt.eqv_refl x i];cases a<;>rfl
def uc{k:Nat}{l:List Pt}:f9 (k+3) (.tup (l.map lb)):=eD λd hd=>by
 obtain⟨p,_,rfl⟩:=se.mp hd;refine eD λd hd=>?_;simp only[qd,Cb,or_false]at hd;rcases hd with rfl|rfl
 .exact jc
 .exact oo
def AG{a:List Wk}:f9 60 (.lst (a.map n7)):=Aa λd hd=>by
 obtain⟨w,_,rfl⟩:=se.mp hd;refine eD (k:=58) λd hd=>?_;simp only[qd,Cb,or_false]at hd;rcases hd with rfl|rfl|rfl|rfl
 .exact jc
 .exact oo
 .exact uc
 .exact uc
def EU{n:Nat}{g:Nat->Nat->Rat}:f9 60 (w_ n g):=by
 have j:∀p:Pt,f9 2 (lb p):=λp=>eD (k:=1) λd hd=>by
  simp only[qd,Cb,or_false]at hd;rcases hd with rfl|rfl
  .exact jc
  .exact oo
 have mono:∀{k m:Nat}{d:D},k<=m->f9 k d->f9 m d:=λ{k m d} h ⟨x,a,b,c,e⟩=>⟨x,a,n_ b h,c,n_ e h⟩;refine mono (show 5<=60 by decide) (eD (k:=4) λd hd=>?_);simp only[qd,Cb,or_false]at hd;rcases hd with rfl|rfl
 .exact jc
 .refine eD (k:=3) λd hd=>?_;obtain⟨i,_,rfl⟩:=se.mp hd;refine eD (k:=2) λd hd=>?_;obtain⟨p,_,rfl⟩:=se.mp hd;exact j p
def oy{i:Int}{s:b_}:bQ.p [.int i] s=.ok (.bl I) s:=by rw[wW (by rfl)];unfold ib;have e1:(ba ["int"]).p (.int i)=J (.bl I):=rfl;have e2:(ba ["bool"]).p (.int i)=J (.bl T):=rfl;rw[show k_ 1 [D.int i]=[J (.int i)]from rfl];dsimp![bo,kj,eP,e1,e2,PR.bl,if_true,vZ,Nc,PU.bq]
def FP{q:Rat}{s:b_}(y:q≠0)(E:sz q<=900000):bI.p [qD q] s=.ok (.bl I) s:=by
 have i:h_.p (qD q) (.int 0)=J (.int q.num):=rfl;have j:h_.p (qD q) (.int 1)=J (.int (q.den:Int)):=rfl;have B:(ba ["tuple"]).p (qD q)=J (.bl I):=rfl;have l:dP.p [qD q]=J (.int 2):=rfl;have u:¬q.num=0:=λz=>y (Rat.num_eq_zero.mp z);have C:=q.den_nz;have a:=jg (t:=q.num) (b:=q.den) (s:=s) C (bj q) (by ext);rw[Rat.num_divInt_den]at a;rw[pT (by rfl)];unfold dY;rw[show k_ 1 [qD q]=[J (qD q)]from rfl,aB,bw];dsimp![iO,cW,bE,eP,B,Pl,BR,wj,if_false,aD,bz,af,aq,l,aT,aJ,gq,cr,decide_true,if_true,i,j,aC,oy,bf,PU.ax];have gt:HG.p (.int (q.den:Int)) (.int 0)=J (.bl I):=by
  have:(0:Int)<q.den:=by ext
  show J (D.bl (decide _))=_;simp;ext
 dsimp![bo,kj,aD,aT,aJ,i,j,gq,cr,u,decide_false,Nc,if_true,Pl,gt,aC,af,aq,a,dM,oj,decide_true,wj,if_false,PU.bq]
structure Oa(ls:SU)(ps:List Pt):Prop where
 ris:(ps.map (·.1)).Pairwise (·<·)
 inn:∀p∈ps,p.1∈ls/\p.2≠0/\sz p.2<=900000
abbrev RD:Xd []:=(aF (s_ (w9 (bA (xB (u_ (ba ["tuple"]) (ac 3)))) (w9 (xB (ae wV (n4 dP (aa (ac 3) a_)) (xC (.int 2)))) (w9 (bA (xB (ah bQ (aa (ae h_ (ac 3) (xC (.int 0))) a_)))) (xB (ae (NM I) (ae h_ (ac 3) (xC (.int 0))) (ac 1)))))) (aN (xC (.bl T))) io)
 (aF (s_ (w9 (xB (ae JI (ae h_ (ac 3) (xC (.int 0))) (ac 2))) (bA (xB (ah bI (aa (ae h_ (ac 3) (xC (.int 1))) a_))))) (aN (xC (.bl T))) io)
 (aP 2 (ae h_ (ac 3) (xC (.int 0))))))
def FQ{P:So}{ls:SU}{s:b_}:∀(i:List Pt)(a:Int)(z:So),Oa ls i->(∀p∈i,a<(p.1:Int))->∃y j,BE (lf 3:Xg []).p RD.p (i.map lb) [P,J (j_ ls),J (.int a),z] s=.nx [P,J (j_ ls),y,j] s
 |[],a,z,_,_=>⟨_,_,rfl⟩
 |p::i,a,z,h,L=>by
  obtain⟨H,E,C⟩:=h.inn p (by simp);have hr:=List.pairwise_cons.mp h.ris;obtain⟨y,j,e⟩:=FQ (P:=P) (ls:=ls) (s:=s) i (p.1:Int) (J (lb p)) ⟨hr.2,λq u=>h.inn q (pj _ u)⟩ λq u=>by
   have:p.1<q.1:=hr.1 q.1 (se.mpr ⟨q,u,rfl⟩)
   ext
  have l:h_.p (lb p) (.int 0)=J (.int (p.1:Int)):=rfl;have F:h_.p (lb p) (.int 1)=J (qD p.2):=rfl;have M:(ba ["tuple"]).p (lb p)=J (.bl I):=rfl;have B:dP.p [lb p]=J (.int 2):=rfl;have O:=L p (by simp);have le:JI.p (.int (p.1:Int)) (.int a)=J (.bl T):=by show J (D.bl (decide _))=_;simp;ext
  have G:JK I (.int (p.1:Int)) (j_ ls)=J (.bl T):=by
   rw[HK (xs:=ls.map λ(x:Nat)=>(x:Int)) (by rw[wu];rfl)]
   have:(p.1:Int)∈ls.map λ(x:Nat)=>(x:Int):=se.mpr ⟨p.1,H,rfl⟩
   simp only[this,decide_true,BR,if_true]
  refine⟨y,j,?_⟩;rw[nc,fK (show(lf 3:Xg []).p (lb p) [P,J (j_ ls),J (.int a),z]=J [P,J (j_ ls),J (.int a),J (lb p)]from rfl)];have b:RD.p [P,J (j_ ls),J (.int a),J (lb p)] s=.nx [P,J (j_ ls),J (.int (p.1:Int)),J (lb p)] s:=by rw[aB,bw];simp![iO,cW,bE,eP,M,Pf,Pl,BR,wj,if_false,aD,bz,B,aT,aJ,gq,cr,decide_true,if_true,l,aC,oy,LG,G,Pg,bf,PU.ax];rw[aB,bw];simp![iO,cW,bE,Pf,Pl,BR,wj,if_false,aD,aT,aJ,l,F,le,aC,FP E C,Pg,bf,PU.ax];dsimp![aV,aD,au,aT,aJ,l,r_,q_]
  rw[b];exact e
def y0{i:SU}{a:List Pt}{s:b_}(h:Oa i a):bS.p [.tup (a.map lb),j_ i] s=.ok (.bl I) s:=by obtain⟨y,z,e⟩:=FQ (P:=J (.tup (a.map lb))) (s:=s) a (-1) Y h (λp _=>by ext);have l:(ba ["tuple"]).p (.tup (a.map lb))=J (.bl I):=rfl;have j:lH.p (.int 1)=J (.int (-1)):=rfl;rw[qk (by rfl)];unfold dX;rw[show k_ 4 [.tup (a.map lb),j_ i]=[J (.tup (a.map lb)),J (j_ i),Y,Y]from rfl,aB,bw];dsimp![cW,bE,eP,l,Pl,BR,wj,if_false,bf,PU.ax];rw[aB,aV];simp only[eP,aT,aJ,Pb,j,Pf,Pg,r_,q_,PU.ax];rw[aB,gp,dU];dsimp![yh];refine(congrArg (λz:PS=>(z.then _).fin) e).trans ?_;rfl
def IZ{ns:SU}{k:Nat}(a:k<ns.length):d9 (ns.map inD') (J ((k:Int)+1)) Y=(ns.drop (k+1)).map inD':=by unfold d9;rw[HT.lE,xg,show(k:Int)+1=((k+1:Nat):Int) by ext,HT.mY,J3 (by ext),<-Nf];exact M2 (by simp)
structure RE(ns:SU)(k:Nat)(w:Wk):Prop where
 v:ns[k]?=J w.v
 p:w.p≠0/\sz w.p<=900000
 r:Oa (ns.drop (k+1)) w.r
 c:Oa (ns.drop (k+1)) w.c
abbrev Sf:Xd []:=(aF (aP 4 (ae h_ (ac 0) (ac 2)))
 (aF (s_ (w9 (bA (xB (u_ (ba ["tuple"]) (ac 4)))) (w9 (xB (ae wV (n4 dP (aa (ac 4) a_)) (xC (.int 4)))) (w9 (bA (xB (ah bQ (aa (ae h_ (ac 4) (xC (.int 0))) a_)))) (xB (ae wV (ae h_ (ac 4) (xC (.int 0))) (ac 3)))))) (aN (xC (.bl T))) io)
 (aF (s_ (w9 (bA (xB (ah bI (aa (ae h_ (ac 4) (xC (.int 1))) a_)))) (bA (xB (ah bS (aa (ae h_ (ac 4) (xC (.int 2))) (aa (x2 (ac 1) (xz (ae bC (ac 2) (xC (.int 1)))) xw) a_)))))) (aN (xC (.bl T))) io)
 (s_ (bA (xB (ah bS (aa (ae h_ (ac 4) (xC (.int 3))) (aa (x2 (ac 1) (xz (ae bC (ac 2) (xC (.int 1)))) xw) a_))))) (aN (xC (.bl T))) io))))
def MN{ns:SU}{ws:List Wk}{s:b_}(hl:ws.length=ns.length)(H:ns.length<=12)(hw:∀(k:Nat) w,ws[k]?=J w->RE ns k w):d3.p [.lst (ws.map n7),j_ ns] s=.ok (.bl I) s:=by
 obtain⟨C,a,e,l,u,i,rfl,rfl⟩:=kF (g:=(Bq (rg (lf 2) (rg (lf 3) Bp)) 2:Xg []).p) (b:=Sf.p)
  (λj env a=>∃l u i,env=[J (.lst (ws.map n7)),J (j_ ns),l,u,i]/\a=s) (br (ns.map inD')) 0 [J (.lst (ws.map n7)),J (j_ ns),Y,Y,Y] s ⟨Y,Y,Y,rfl,rfl⟩ (λk env a d ⟨l,u,i,U,G⟩ hd=>by
   subst G;subst U;obtain⟨v,hv,rfl⟩:∃v,ns[k]?=J v/\d=.tup [inD' k,inD' v]:=by
    unfold br at hd;rw[r6,Jp,r6]at hd
    cases q:ns[k]? with
    |none=>rw[q]at hd;cases hd
    |some v=>rw[q]at hd;simp at hd;exact⟨v,rfl,hd.symm⟩
   have L:=(qi.mp hv).1;obtain⟨w,B⟩:∃w,ws[k]?=J w:=⟨ws[k]'(by ext),zL _⟩;have ok:=hw k w B;have E:w.v=v:=by have:=ok.v;rw[hv]at this;injection this with this;exact this.symm
   have e0:nw (ws.map n7) (k:Int)=J (n7 w):=L2.cK (by simp[B]);have y:(ba ["tuple"]).p (n7 w)=J (.bl I):=rfl;have F:dP.p [n7 w]=J (.int 4):=rfl;have Q:h_.p (n7 w) (.int 0)=J (.int (w.v:Int)):=rfl;have M:h_.p (n7 w) (.int 1)=J (qD w.p):=rfl;have R:h_.p (n7 w) (.int 2)=J (.tup (w.r.map lb)):=rfl;have P:h_.p (n7 w) (.int 3)=J (.tup (w.c.map lb)):=rfl;have ct:=IZ L;refine⟨[J (.lst (ws.map n7)),J (j_ ns),J (inD' k),J (inD' v),i],[J (.lst (ws.map n7)),J (j_ ns),J (inD' k),J (inD' v),J (n7 w)],a,rfl,?_,_,_,_,rfl,rfl⟩;rw[aB,aV];dsimp![aD,au,ld,e0,r_,q_,PU.ax];rw[aB,bw];simp![iO,cW,bE,eP,y,Pf,Pl,BR,wj,if_false,aD,bz,F,aT,aJ,gq,cr,decide_true,if_true,Q,aC,oy,E,Pg,bf,PU.ax];rw[aB,bw];simp![iO,cW,bE,Pf,Pl,BR,wj,if_false,aD,aT,aJ,M,R,aC,FP ok.p.1 ok.p.2,g6,g7,gU,bP,gR,ct,y0 ok.r,Pg,bf,PU.ax];rw[bw]
   simp![cW,bE,Pf,Pl,BR,wj,if_false,aD,aT,aJ,P,aC,g6,g7,gU,bP,gR,ct,y0 ok.c,Pg,bf])
 have y:(ba ["list"]).p (.lst (ws.map n7))=J (.bl I):=rfl;have O:dP.p [.lst (ws.map n7)]=J (.int (ns.length:Int)):=by show J (D.int _)=_;simp[hl]
 have S:dP.p [j_ ns]=J (.int (ns.length:Int)):=by show J (D.int _)=_;simp
 rw[tW (by rfl)];unfold fh;rw[show k_ 5 [.lst (ws.map n7),j_ ns]=[J (.lst (ws.map n7)),J (j_ ns),Y,Y,Y]from rfl,aB,bw];simp![iO,cW,bE,eP,y,Pf,Pl,BR,wj,if_false,aD,bz,O,S,gq,cr,decide_true,if_true,Pg,bf,PU.ax];rw[aB,gp,hU,af];dsimp![au,aq,DO];refine(congrArg (λz:PS=>(z.then _).fin) e).trans ?_;rfl
def El.wok{n z:Nat}{ns:SU}{g:Nat->Nat->Rat}(h:El n z ns g)(E:z<=150000):∀(k:Nat) w,((List.range n).map (kr n ns g))[k]?=J w->RE ns k w:=λk w e=>by
 have l:k<n:=by have:=(qi.mp e).1;simpa using this
 rw[r6,Jr l]at e;cases e;have o:=h.o;have pv:=h.pv k l;have ris:∀(p:Nat->Bool)(f:Nat->Rat),((((pf n ns k).filter p).map λi=>((i,f i):Pt)).map (·.1)).Pairwise (·<·):=λp f=>by
  rw[xT];exact kJ.sublist List.filter_sublist
 refine⟨j6 o l,⟨pv,?_⟩,⟨ris _ _,λq a=>?_⟩,⟨ris _ _,λq a=>?_⟩⟩
 .have:=h.si k (ir ns k) (ir ns k) (by ext)
  show sz (av ns g k (ir ns k) (ir ns k))<=_;ext
 .have C:=(Em.w_r h l q (pj _ a)).2;have a:q∈((pf n ns k).filter λj=>!decide (av ns g k (ir ns k) j=0)).map λj=>(j,av ns g k (ir ns k) j):=a;obtain⟨i,y,rfl⟩:=se.mp a;obtain⟨B,u⟩:=BO.mp y;exact⟨(cG o).mp B,by simpa using u,by ext⟩
 .have C:=(Em.w_c h l q (pj _ a)).2;obtain⟨i,y,rfl⟩:=se.mp a;obtain⟨B,u⟩:=BO.mp y;have u:av ns g k i (ir ns k)≠0:=by simpa using u
  refine⟨(cG o).mp B,λz=>u ?_,by ext⟩;show av ns g k i (ir ns k)=0;have z:av ns g k i (ir ns k)/av ns g k (ir ns k) (ir ns k)=0:=z
  grind
def mQ{Q:Rat->Prop}{g:D->ay->Option ay}{t:ay->b_->PR Bool}{e:ay->b_->PR D}(S:ay->Prop):∀(l:SU)(env:ay)(s:b_),S env ->
  (∀x∈l,∀env s,S env->∃a,g (inD' x) env=J a/\S a/\∃b z,t a s=.ok b z/\(b=I->∃q C,e a z=.ok (lb (x,q)) C/\Q q)) ->
  ∃(j:List Pt)(H:b_),dz g t e (l.map inD') env s=.ok (j.map lb) H/\(j.map (·.1)).Sublist l/\∀p∈j,Q p.2
 |[],env,s,G,i=>⟨[],s,rfl,List.Sublist.slnil,λ_ h=>nomatch h⟩
 |x::l,env,s,G,i=>by
  obtain⟨a,e1,u,b,z,e2,e3⟩:=i x (by simp) env s G;have rest:=λy M=>i y (pj x M);rw[nc,dz,e1];dsimp only;rw[e2,Pb]
  cases b with
  |true =>
   obtain⟨q,C,e4,L⟩:=e3 rfl;obtain⟨j,B,e5,F,E⟩:=mQ S l a C u rest;refine⟨(x,q)::j,B,by simp only[if_true,e4,Pb,e5,nc],F.cons_cons _,λp h=>?_⟩;rcases qd.mp h with rfl|h
   .exact L
   .exact E p h
  |false =>
   obtain⟨j,B,e5,F,E⟩:=mQ S l a z u rest;exact⟨j,B,by simp only[wj,if_false,e5],F.cons _,E⟩
def pQ:∀{i:SU}{a:List Pt},i.Nodup->(a.map (·.1)).Sublist i->Bk i (iw a)=a.filter λp=>!decide (p.2=0)
 |[],a,_,h=>by
  have:a=[]:=by simpa using List.sublist_nil.mp h
  subst this;rfl
 |l::i,[],nd,h=>by
  rw[iV,e_ eI];exact pQ (x6.mp nd).2 (List.nil_sublist _)
 |l::i,p::a,nd,h=>by
  rw[x6]at nd;have y:=h;rw[nc]at y;by_cases e:p.1=l
  .subst e;have u:(a.map (·.1)).Sublist i:=(QP).mp y;have c0:iw (p::a) p.1=p.2:=by rw[aQ,e_ rfl]
   have E:=pQ nd.2 u;have C:Bk i (iw (p::a))=Bk i (iw a):=lv λj B=>by
    rw[aQ,h8 (λe:p.1=j=>nd.1 (by rw[e];exact B))]
   rw[iV,c0,C,E];by_cases z:p.2=0
   .rw[e_ z,M1 (by simp[z])]
   .rw[h8 z,M0 (by simp[z])]
  .have u:(p.1::a.map (·.1)).Sublist i:=by
    cases y with
    |cons _ s=>exact s
    |cons_cons _ s=>exact absurd rfl e
   have z:iw (p::a) l=0:=dg λm=>nd.1 (u.subset (by rw[nc]at m;exact m));rw[iV,e_ z];exact pQ nd.2 u
abbrev dC(n:Nat)(f:Nat->Rat):D:=.tup ((cC n f).map lb)
abbrev RF:Xe [3]:=(bh 1 [0,2,4] (cR Fy (aa (ac 1) a_)) (ws':=[]) (lf 0) (xB (ae Fw (ah aU (aa (ac 1) (aa (ae h_ (dQ (aa (ac 2) (aa (xC (.int 4)) a_))) (n4 im (aa (ae y6 (ac 0) (ac 3)) a_))) a_))) (ae h_ (dQ (aa (xC (.int 1)) (aa (xC (.int 3)) a_))) (n4 im (aa (ae y6 (ac 0) (ac 3)) a_))))) (aX (aa (ac 0) (aa (ah dN (aa (ac 1) a_)) a_))))
def MP{n i:Nat}{sm:Int}{rs:D}{z5:So}{s:b_}(hn:n<=12)(E:0<sm)(O:sm<=4):∃(a:List Pt)(l:b_),RF.p [J .pen,J (.int (n:Int)),J (.int sm),J rs,J (inD' i),z5] s=.ok (.lst (a.map lb)) l/\(a.map (·.1)).Sublist (List.range n)/\∀p∈a,sz p.2<=20:=by
 have t2:∀{x y:D}{s:b_},(if [x,y].length<=100000 then PR.ok (D.tup [x,y]) s else .bad)=.ok (.tup [x,y]) s:=λ{x y s}=>e_ (by simp);have L:∀{x y:D}{s:b_},(if [x,y].length<=100000 then PR.ok (D.lst [x,y]) s else .bad)=.ok (.lst [x,y]) s:=λ{x y s}=>e_ (by simp)
 obtain⟨a,l,e,W,S⟩:=mQ (Q:=λq=>sz q<=20) (g:=(lf 0:Xg []).p) (t:=(xB (ae Fw (ah aU (aa (ac 1) (aa (ae h_ (dQ (aa (ac 2) (aa (xC (.int 4)) a_))) (n4 im (aa (ae y6 (ac 0) (ac 3)) a_))) a_))) (ae h_ (dQ (aa (xC (.int 1)) (aa (xC (.int 3)) a_))) (n4 im (aa (ae y6 (ac 0) (ac 3)) a_)))):Xt []).p) (e:=(aX (aa (ac 0) (aa (ah dN (aa (ac 1) a_)) a_)):Xe []).p) (λv=>∃z,v=z::[J .pen,J (.int sm),J (inD' i)]) (List.range n) (Y::[J .pen,J (.int sm),J (inD' i)]) s ⟨Y,rfl⟩ (λx hx u s ⟨z,P⟩=>by
  subst P;have eq:zT T (inD' x) (inD' i)=J (.bl (decide ((x:Int)=(i:Int)))):=by rw[cr];rfl
  obtain⟨j,M,C,em,F,b1⟩:∃z m:Int,h_.p (.lst [.int sm,.int 4]) (.int (if decide ((x:Int)=(i:Int))=I then 1 else 0))=J (.int z)/\h_.p (.lst [.int 1,.int 3]) (.int (if decide ((x:Int)=(i:Int))=I then 1 else 0))=J (.int m)/\0<z/\z<=4:=by
   by_cases y:(x:Int)=(i:Int)
   .exact⟨4,3,by rw[decide_eq_true y];rfl,by rw[decide_eq_true y];rfl,by decide,by decide⟩
   .exact⟨sm,1,by rw[decide_eq_false y];rfl,by rw[decide_eq_false y];rfl,E,O⟩
  obtain⟨d,B,d0,d1,X⟩:=bV (s:=s) (size:=j) F (by ext);refine⟨_,rfl,⟨J (inD' x),rfl⟩,decide (d<M),B,?_,λ_=>?_⟩
  .simp![bE,aD,aC,q_,hV,aT,aJ,L,bz,dM,eq,Pf,pe,C,X,em,yx,Pl]
  .obtain⟨q,R,Z,U⟩:=A8 (s:=B)
   exact⟨q,R,by simp![bJ,q_,aC,Z,t2],U⟩)
 refine⟨a,l,?_,W,S⟩;show(bh 1 [0,2,4] (cR Fy (aa (ac 1) a_)) (ws':=[]) (lf 0) _ _:Xe [3]).p _ s=_;rw[kC,hU,af];simp only[au,ao,Pb,aq];rw[sH (by ext),B2,Pf,Pb,e_ (by simp[d6];ext)];have H:d6 0 n=(List.range n).map inD':=by simp[d6]
 rw[H];have G:wv 1 [0,2,4] [J D.pen,J (.int (n:Int)),J (.int sm),J rs,J (inD' i),z5]=Y::[J .pen,J (.int sm),J (inD' i)]:=rfl;rw[G,e]
abbrev RG:Xd [3]:=(aF (aP 5 RF)
 (Cg q0 3 (aa (n4 bZ (aa (bh 2 [] (bL (ac 5)) (ws':=[]) (Bq (rg (lf 0) (rg (lf 1) Bp)) 2) (xB (ae wV (ae h_ (ac 1) (xC (.int 0))) (xC (.int 0)))) (aX (aa (ac 0) (aa (ac 1) a_)))) a_)) a_)))
structure Ob(n:Nat)(ps:List Pt):Prop where
 sub:(ps.map (·.1)).Sublist (List.range n)
 sz:∀p∈ps,sz p.2<=20
abbrev JR(n:Nat)(sm:Int)(fs:List (List Pt))(z4 z5:So):ay:=[J .pen,J (.int (n:Int)),J (.int sm),J (.lst (fs.map λps=>dC n (iw ps))),z4,z5]
def rw_b{n i:Nat}{sm:Int}{fs:List (List Pt)}{z5:So}{s:b_}(E:n<=12)(z:0<sm)(G:sm<=4)(hf:fs.length<=100):
  ∃(a:List Pt)(M:So)(C:b_),RG.p (JR n sm fs (J (inD' i)) z5) s=.nx (JR n sm (fs++[a]) (J (inD' i)) M) C/\Ob n a:=by
 have t2:∀{x y:D}{s:b_},(if [x,y].length<=100000 then PR.ok (D.tup [x,y]) s else .bad)=.ok (.tup [x,y]) s:=λ{x y s}=>e_ (by simp);obtain⟨a,j,e1,u,L⟩:=MP (n:=n) (i:=i) (sm:=sm) (rs:=.lst (fs.map λa=>dC n (iw a))) (z5:=z5) (s:=s) E z G;refine⟨a,J (.lst (a.map lb)),j,?_,u,L⟩;have O:a.length<=n:=by have:=u.length_le;simpa using this
 have q:=xH (ws:=[3]) (ws':=[]) (env:=JR n sm fs (J (inD' i)) (J (.lst (a.map lb)))) (s:=j) (s0:=j) (fm:=[]) (i:=bL (ac 5)) (t:=xB (ae wV (ae h_ (ac 1) (xC (.int 0))) (xC (.int 0)))) (e:=aX (aa (ac 0) (aa (ac 1) a_))) (l:=a) (λp=>inD' p.1) (λp=>qD p.2) lb (λp=>!decide (p.2=0)) (by
  simp only[dU,au,ao,Pb,jH,Pf]) (by ext) (λp u=>⟨by
   have H:h_.p (qD p.2) (.int 0)=J (.int p.2.num):=rfl;have F:(p.2.num=0)↔p.2=0:=Rat.num_eq_zero;simp only[bE,aD,au,ao,Pb,aT,aJ,H,Pf,gq,cr,if_true,Pl];congr 2;exact decide_eq_decide.mpr F,λ_=>by
   simp![bJ,t2]⟩)
 have B:dC n (iw a)=.tup ((a.filter λp=>!decide (p.2=0)).map lb):=by rw[<-pQ F6 u];rfl
 rw[aB,aV,e1,Pg];simp only[r_,q_,PU.ax]
 rw[nk (s1:=j) (as:=[dC n (iw a)]) (ds:=fs.map λa=>dC n (iw a)) (ds':=(fs.map λa=>dC n (iw a))++[dC n (iw a)]) (r:=.non) (by
  rw[af,bz,af,q]
  simp only[Pb,aq,eG,Pf,B]) rfl (mP (by simp;ext))]
 simp only[r_,q_];unfold JR;rw[Jw];rfl
abbrev gF(fs:List (List Pt))(i:Nat):Nat->Rat:=iw (fs.getD i [])
def v3{fs:List (List Pt)}{i:Nat}:fs.getD i []=[]\/fs.getD i []∈fs:=by
 rw[JT]
 cases e:fs[i]? with
 |none=>exact .inl rfl
 |some x=>exact .inr (BA e)
def EV{ps:List Pt}{j:Nat}:iw ps j=0\/∃p∈ps,p.2=iw ps j:=by
 induction ps with
 |nil=>exact .inl rfl
 |cons p ps i =>
  rw[aQ];split
  .exact .inr ⟨p,by simp,rfl⟩
  .rcases i with h|⟨q,a,l⟩
   .exact .inl h
   .exact .inr ⟨q,pj _ a,l⟩
def I_{i:List Rat}(h:∀q∈i,sz q<=20):JQ i<=20*i.length:=by
 induction i with
 |nil=>exact l_ _
 |cons q i l =>
  have a:=h q (by simp);have b:=l λx j=>h x (pj _ j);rw[tT,BN];ext
def MQ{n:Nat}{fs:List (List Pt)}(hn:n<=4)(hl:fs.length=n)(h:∀B∈fs,Ob n B):Sh 350 n (gF fs):=by
 constructor
 .intro i j G;rcases v3 (fs:=fs) (i:=i)with e|e
  .unfold gF;rw[e];rfl
  .by_cases M:i<n
   .exact dg λm=>G ⟨M,by simpa using(h _ e).sub.subset m⟩
   .unfold gF;rw[JT,BM (by ext)];rfl
 .have F:∀l:List (List Pt),(∀B∈l,Ob n B)->((l.flatten).map (·.2)).length<=4*l.length/\∀q∈(l.flatten).map (·.2),sz q<=20:=λl=>by
   induction l with
   |nil=>intro _;exact⟨l_ _,λq u=>nomatch u⟩
   |cons B l S =>
    intro hl;obtain⟨a,b⟩:=S λx W=>hl x (pj _ W);have o:=hl B (by simp)
    have:B.length<=n:=by have:=o.sub.length_le;simpa using this
    rw[List.flatten_cons,Jw];refine⟨by rw[F3,xg,BN];ext,λq u=>?_⟩;rcases Ci.mp u with u|u
    .obtain⟨p,C,rfl⟩:=se.mp u;exact o.sz p C
    .exact b q u
  obtain⟨kl,H⟩:=F fs h;generalize R:(fs.flatten).map (·.2)=y at kl H;have O:=zx y 1 1 (by decide);have Z:=qE y 1 (by decide);have a3:=I_ H;have P:jX 1 y<2^321:=vv O (JW (by decide) (by ext));have p1:2^321<2^350:=by decide +kernel
  refine⟨jX 1 y,by ext,by ext,λi j=>?_⟩;rcases EV (ps:=fs.getD i []) (j:=j)with z|⟨p,C,e⟩
  .exact⟨0,by rw[Rat.zero_divInt];exact z,by decide +kernel⟩
  .have L:p.2∈y:=by
    rw[<-R];refine se.mpr ⟨p,List.mem_flatten.mpr ⟨fs.getD i [],?_,C⟩,rfl⟩;rcases v3 (fs:=fs) (i:=i)with e|e
    .rw[e]at C;cases C
    .exact e
   obtain⟨c,E⟩:=(vV y 1).2 _ L;have u:=H _ L;show ∃a:Int,iw (fs.getD i []) j=Rat.divInt a (jX 1 y)/\a.natAbs<2^350;rw[<-e];generalize p.2=q at *;have c0:c≠0:=λz=>by rw[z]at E;ext
   refine⟨q.num*c,?_,?_⟩
   .rw[E,Jx];rw[Rat.divInt_mul_right (by ext)];exact(Rat.num_divInt_den q).symm
   .have X:q.num.natAbs<2^20:=vv (bU q) (JW (by decide) u);have U:c<2^321:=M7 (Nat.le_mul_of_pos_left c q.den_pos) (by rw[<-E];exact P);have Q:=cH X U;rw[Cj,Oo];exact vv Q (JW (by decide) (by decide))
def Ja{n:Nat}{s:b_}(M:n<=4):∃g B,ja.p [.pen,.int (n:Int)] s=.ok (.tup ((List.range n).map λi=>dC n (g i))) B/\Sh 350 n g:=by
 obtain⟨a,H,X,W,P⟩:=bV (s:=s) (size:=4) (by decide) (by decide);obtain⟨G,R,e,fs,F,C,rfl,u,E⟩:=kF (g:=(lf 4:Xg [3]).p) (b:=RG.p)
  (λj env B=>∃fs F C,env=JR n (1+a) fs F C/\(fs:List (List Pt)).length=j/\∀l∈fs,Ob n l) (d6 0 n) 0 (JR n (1+a) [] Y Y) H ⟨[],_,_,rfl,rfl,λ_ h=>nomatch h⟩ (λi env B d ⟨fs,F,C,S,u,E⟩ hd=>by
   rw[E7]at u ⊢;subst S;obtain⟨rfl,U⟩:=tK hd;obtain⟨l,Z,L,e,o⟩:=rw_b (n:=n) (i:=i) (sm:=1+a) (fs:=fs) (z5:=C) (s:=B) (by ext) (by ext) (by ext) (by ext);refine⟨_,_,L,rfl,e,fs++[l],_,_,rfl,by simp[u],λx y=>?_⟩;rcases Ci.mp y with y|y
   .exact E x y
   .have:x=l:=by simpa using y
    subst this;exact o)
 rw[uu,E7]at u;refine⟨gF fs,R,?_,MQ M u E⟩;have Q:(fs.map λl=>dC n (iw l))=(List.range n).map λi=>dC n (gF fs i):=by
  apply F4;intro k;by_cases O:k<n
  .rw[r6,r6,Jr O,zL (by ext)];show J (dC n (iw fs[k]))=J (dC n (iw (fs.getD k [])));rw[JT,zL (by ext)];rfl
  .rw[BM (by simp;ext),BM (by simp;ext)]
 rw[xJ (by rfl)];unfold ji;rw[show k_ 6 [D.pen,.int (n:Int)]=[J .pen,J (.int (n:Int)),Y,Y,Y,Y]from rfl,aB,aV];dsimp![aD,aT,aJ,aC,af,aq,P,bP,r_,q_,PU.ax];rw[aB,vW];simp only[hV,aq,Pb,Jv,CT,if_true,pd,Pg,r_,q_,PU.ax];rw[aB,gp,hU,af];simp only[au,ao,Pb,aq];rw[sH (by ext),B2,Pf,Pg];refine(congrArg (λz:PS=>(z.then _).fin) e).trans ?_;rw[PU.ax];simp![bo,bz,eG,Pf,Q,Pg,PU.bq]
def CA(f:List (List Rat)->Rat)(a:List (List Rat)):List Rat->Nat->Rat->Rat
 |[],_,w=>w
 |q::r,j,w=>CA f a r (j+1) (w+q*f (a.map λx=>x.take j++x.drop (j+1))*((1-2*((j % 2:Nat):Int):Int):Rat))
def q7:Nat->List (List Rat)->Rat
 |0,_=>1
 |_+1,[]=>1
 |m+1,r::a=>CA (q7 m) a r 0 0
def uh{α:Type}(l:List α)(f:α->D){k:Nat}(a:k<=l.length):d9 (l.map f) (J (k:Int)) Y=(l.drop k).map f:=by unfold d9;rw[HT.lE,xg,HT.mY,J3 a,Nf];exact M2 (by simp)
def yi{α:Type}(l:List α)(f:α->D){k:Nat}(a:k<=l.length):d9 (l.map f) Y (J (k:Int))=(l.take k).map f:=by unfold d9;rw[HT.lE,xg,HT.mY,J3 a,Nd,Nat.sub_zero,List.map_take]
abbrev ml(x:List Rat):D:=.lst (x.map qD)
def SB:Nat->Nat
 |0=>1
 |m+1=>(m+1)*(SB m+360)+1
def JS:Nat->List Rat->SV
 |_,[]=>[]
 |j,q::r=>.tup [inD' j,qD q]::JS (j+1) r
def zH:∀(r:List Rat)(j:Nat),((r.map qD).zipIdx j).map (λx=>D.tup [.int (x.2:Int),x.1])=JS j r
 |[],_=>rfl
 |q::r,j=>by rw[nc,List.zipIdx_cons,nc,JS,zH r (j+1)]
def Jb{r:List Rat}:br (r.map qD)=JS 0 r:=(zH r 0)
abbrev RI:Xe []:=(bh 1 [2] (bL (x2 (ac 0) (xz (xC (.int 1))) xw)) (ws':=[]) (lf 0) oh (ae bC (x2 (ac 0) xw (xz (ac 1))) (x2 (ac 0) (xz (ae bC (ac 1) (xC (.int 1)))) xw)))
abbrev RJ(F:Fn):Xd []:=(aF (aP 4 (ah bR (aa (ac 3) (aa (ah F (aa RI a_)) a_))))
 (aP 1 (ah fL (aa (ac 1) (aa (ah bR (aa (ac 4) (aa (aX (aa (ae jn (xC (.int 1)) (ae bn (xC (.int 2)) (ae jP (ac 2) (xC (.int 2))))) (aa (xC (.int 1)) a_))) a_))) a_)))))
def Mok(m:Nat)(a:List (List Rat)):Prop:=∀x∈a,x.length=m/\∀q∈x,sz q<=350
def Mok.minor{m j:Nat}{l:List (List Rat)}(h:Mok (m+1) l)(B:j<=m):Mok m (l.map λx=>x.take j++x.drop (j+1)):=λx u=>by
 obtain⟨y,z,rfl⟩:=se.mp u;obtain⟨a,b⟩:=h y z;refine⟨by simp;ext,λq i=>?_⟩;rcases Ci.mp i with i|i
 .exact b q (List.mem_of_mem_take i)
 .exact b q (Jq i)
abbrev FR(rows:D)(w:Rat)(z2 z3 z4:So):ay:=[J rows,J (qD w),z2,z3,z4]
def Jc{t:Int}:qD (t:Rat)=.tup [.int t,.int 1]:=by simp[qD,nD]
def MR{m j:Nat}{r:List Rat}{a:List (List Rat)}{w:Rat}{z3 z4:So}{s:b_}(hl:a.length<=100)(h:Mok (m+1) a)(C:j<=m)(F:m<=100):RI.p (FR (.lst ((r::a).map ml)) w (J (inD' j)) z3 z4) s=.ok (.lst ((a.map λx=>x.take j++x.drop (j+1)).map ml)) s:=by
 have u:((j:Int)+1)=((j+1:Nat):Int):=by ext
 have q:=i9 (ws:=[]) (ws':=[]) (env:=FR (.lst ((r::a).map ml)) w (J (inD' j)) z3 z4) (s:=s) (s0:=s) (fm:=[2]) (i:=bL (x2 (ac 0) (xz (xC (.int 1))) xw)) (t:=oh) (e:=(ae bC (x2 (ac 0) xw (xz (ac 1))) (x2 (ac 0) (xz (ae bC (ac 1) (xC (.int 1)))) xw))) (l:=a) ml (λx=>ml (x.take j++x.drop (j+1))) (λ_=>I) (by
  have c:=uh (r::a) ml (k:=1) (by simp);have c:d9 ((r::a).map ml) (J 1) Y=a.map ml:=c
  simp only[dU,g6,ao,Pb,g7,aT,aJ,gU,gR,Pf,c,jH]) (by ext) (λx z=>⟨rfl,λ_=>by
   have E:=(h x z).1;show(ae bC (x2 (ac 0) xw (xz (ac 1))) (x2 (ac 0) (xz (ae bC (ac 1) (xC (.int 1)))) xw):Xe []).p [J (ml x),J (inD' j)] s=_;have y:=yi x qD (k:=j) (by ext);have B:=uh x qD (k:=j+1) (by ext);simp only[aD,g6,au,ao,Pb,gU,g7,gR,Pf,y,aT,aJ,bP,u,B];rw[DM (by simp;ext),<-Jw]
   rfl⟩)
 rw[JY.mpr (by simp)]at q;rw[wu];exact q
def FS:∀(m f:Nat)(i:List (List Rat))(s:b_),i.length=m->Mok m i->m<=4->(bg (m+1+f)).p [.lst (i.map ml)] s=.ok (qD (q7 m i)) s/\sz (q7 m i)<=SB m
 |0,f,i,s,hl,h,W=>by
  have:i=[]:=QM.mp hl
  subst this;refine⟨?_,by show sz 1<=1;rw[show sz 1=1 by decide +kernel];exact l_ _⟩;have t2:∀{x y:D}{s:b_},(if [x,y].length<=100000 then PR.ok (D.tup [x,y]) s else .bad)=.ok (.tup [x,y]) s:=λ{x y s}=>e_ (by simp);have Q:ub.p (.lst []) (.lst [])=J (.bl I):=(HR rfl).trans (tJ (neg:=T) (xs:=[]) (ys:=[]));rw[show 0+1+f=f+1 by ext,jp (by rfl)];unfold cb;rw[show k_ 5 [D.lst (([]:List (List Rat)).map ml)]=[J (.lst []),Y,Y,Y,Y]from rfl,aB,bw];dsimp![bE,aD,hV,aq,Jv,CT,if_true,Q,Pl,bo,bJ,af,aT,aJ,t2,PU.kG,PU.bq];rfl
 |m+1,f,[],s,hl,h,W=>by simp at hl
 |m+1,f,r::l,s,hl,h,W=>by
  have hl:l.length=m:=by simpa using hl
  have hr:=h r (by simp);have C:Mok (m+1) l:=λx R=>h x (pj _ R);have ab:SB m<=6000:=by
   have:m=0\/m=1\/m=2\/m=3:=by ext
   rcases this with rfl|rfl|rfl|rfl<;>decide
  have t2:∀{x y:D}{s:b_},(if [x,y].length<=100000 then PR.ok (D.tup [x,y]) s else .bad)=.ok (.tup [x,y]) s:=λ{x y s}=>e_ (by simp);have go:∀(u:List Rat)(j:Nat)(w:Rat)(E F B:So),j+u.length=m+1->(∀q∈u,sz q<=350)->sz w<=j*(SB m+360)+1 ->
    (∃G H L,BE (Bq (rg (lf 2) (rg (lf 3) Bp)) 2:Xg []).p (RJ (bg (m+1+f))).p (JS j u) (FR (.lst ((r::l).map ml)) w E F B) s=.nx (FR (.lst ((r::l).map ml)) (CA (q7 m) l u j w) G H L) s)/\sz (CA (q7 m) l u j w)<=(m+1)*(SB m+360)+1:=λu=>by
   induction u with
   |nil =>
    intro j w E F B O P hw;refine⟨⟨E,F,B,rfl⟩,?_⟩
    have:j=m+1:=by simpa using O
    subst this;exact hw
   |cons q u ih =>
    intro j w E F B O P hw;have ai:j+(u.length+1)=m+1:=O;have S:=P q (by simp);obtain⟨e1,s1⟩:=FS m f (l.map λx=>x.take j++x.drop (j+1)) s (by simpa using hl) (C.minor (by ext)) (by ext);generalize Z:l.map (λx=>x.take j++x.drop (j+1))=M at e1 s1;have U:=MR (r:=r) (w:=w) (z3:=J (qD q)) (z4:=B) (s:=s) (by ext) C (show j<=m by ext) (by ext);rw[Z]at U;have jm:((j:Int) % 2)=((j % 2:Nat):Int):=by ext
    generalize X:(1-2*((j % 2:Nat):Int))=a;have T1:a=1\/a = -1:=by ext
    have sT:sz (a:Rat)<=1:=by
     rcases T1 with h|h<;>rw[h]
     .exact (by decide +kernel:sz ((1:Int):Rat)<=1)
     .exact (by decide +kernel:sz ((-1:Int):Rat)<=1)
    have a1:=kq q (q7 m M);have a2:=kq (q*q7 m M) (a:Rat);have a3:=zl w (q*q7 m M*(a:Rat));have j4:j*(SB m+360)<=4*(SB m+360):=Nat.mul_le_mul_right _ (by ext);have m1:=nL (p:=q) (q:=q7 m M) (s:=s) (by ext);have m2:=nL (p:=q*q7 m M) (q:=(a:Rat)) (s:=s) (by ext);have m3:=zw (p:=w) (q:=q*q7 m M*(a:Rat)) (s:=s) (by ext);have eT:qD (a:Rat)=.tup [.int a,.int 1]:=Jc;rw[eT]at m2;have em:bn.p (.int 2) (.int ((j % 2:Nat):Int))=J (.int (2*((j % 2:Nat):Int))):=bG (j:=4) (k:=4) (by decide) (by ext);have b:(RJ (bg (m+1+f))).p (FR (.lst ((r::l).map ml)) w (J (inD' j)) (J (qD q)) B) s=.nx (FR (.lst ((r::l).map ml)) (w+q*q7 m M*(a:Rat)) (J (inD' j)) (J (qD q)) (J (qD (q*q7 m M)))) s:=by rw[aB,aV,aC,af,au,au,au,ao,Pb,af,aC,af,U];simp only[Pb,aq,e1,m1,Pg,r_,q_,PU.ax];rw[aV];simp![aC,bJ,aD,aT,aJ,lG (show(0:Int)<2 by decide),jm,Pf,em,i4,X,t2,m2,m3,Pg,r_,q_]
    obtain⟨⟨G,H,L,e⟩,bd⟩:=ih (j+1) (w+q*q7 m M*(a:Rat)) (J (inD' j)) (J (qD q)) (J (qD (q*q7 m M))) (by ext) (λx R=>P x (pj _ R)) (by
     rw[Nat.add_mul,Nat.one_mul];ext)
    have ed:CA (q7 m) l (q::u) j w=CA (q7 m) l u (j+1) (w+q*q7 m M*(a:Rat)):=by rw[CA,Z,X]
    rw[ed];refine⟨⟨G,H,L,?_⟩,bd⟩;rw[JS,fK (show(Bq (rg (lf 2) (rg (lf 3) Bp)) 2:Xg []).p (.tup [inD' j,qD q]) (FR (.lst ((r::l).map ml)) w E F B)=J (FR (.lst ((r::l).map ml)) w (J (inD' j)) (J (qD q)) B)from rfl),b];exact e
  obtain⟨⟨G,H,L,e⟩,bd⟩:=go r 0 0 Y Y Y (by have:=hr.1;ext) hr.2 (by rw[show sz 0=1 by decide +kernel];ext);refine⟨?_,bd⟩;have Q:ub.p (.lst ((r::l).map ml)) (.lst [])=J (.bl T):=rfl;have ix:h_.p (.lst ((r::l).map ml)) (.int 0)=J (ml r):=L2.cK (xs:=(r::l).map ml) (j:=0) rfl;rw[show m+1+1+f=(m+1+f)+1 by ext,jp (by rfl)];unfold cb;rw[show k_ 5 [D.lst ((r::l).map ml)]=[J (.lst ((r::l).map ml)),Y,Y,Y,Y]from rfl,aB,bw];dsimp![bE,aD,hV,aq,Jv,CT,if_true,Q,Pl,wj,if_false,bf,PU.ax];rw[aB,aV];simp only[bJ,af,aT,aJ,Pb,aq,t2,Pg,r_,q_,PU.ax];rw[aB,gp,hU,af];dsimp![aD,aT,aJ,ix,aq,DO,Jb];refine(congrArg (λz:PS=>(z.then _).fin) e).trans ?_;rfl
def RK{a:Rat}:q7 1 [[a]]=a:=by simp[q7,CA];grind
def RL{a b c d:Rat}:q7 2 [[a,b],[c,d]]=a*d-b*c:=by simp[q7,CA];grind
def RM{a b c d e f g h i:Rat}:q7 3 [[a,b,c],[d,e,f],[g,h,i]]=a*(e*i-f*h)-b*(d*i-f*g)+c*(d*h-e*g):=by simp[q7,CA];grind
def Sg{a b c d e f g h i j k l m n o p:Rat}:q7 4 [[a,b,c,d],[e,f,g,h],[i,j,k,l],[m,n,o,p]]=a*(f*(k*p-l*o)-g*(j*p-l*n)+h*(j*o-k*n))-b*(e*(k*p-l*o)-g*(i*p-l*m)+h*(i*o-k*m))+c*(e*(j*p-l*n)-f*(i*p-l*m)+h*(i*n-j*m))-d*(e*(j*o-k*n)-f*(i*o-k*m)+g*(i*n-j*m)):=by simp[q7,CA];grind
def Si{a b x f:Rat}:q7 2 [[a,b],[x*a,f]]=a*q7 1 [[f-x*b]]:=by rw[RL,RK];grind
def Sj{a b c x f g y j k:Rat}:q7 3 [[a,b,c],[x*a,f,g],[y*a,j,k]]=a*q7 2 [[f-x*b,g-x*c],[j-y*b,k-y*c]]:=by rw[RM,RL];grind
def Sk{a b c d x f g h y j k l z n o p:Rat}:q7 4 [[a,b,c,d],[x*a,f,g,h],[y*a,j,k,l],[z*a,n,o,p]]=a*q7 3 [[f-x*b,g-x*c,h-x*d],[j-y*b,k-y*c,l-y*d],[n-z*b,o-z*c,p-z*d]]:=by rw[Sg,RM];grind
def iq(l:SU)(A:Nat->Nat->Rat):List (List Rat):=l.map λi=>l.map λj=>A i j
def QG{A:Nat->Nat->Rat}{v:Nat}:∀(l:SU),l.length<=3->(l≠[]->A v v≠0)->q7 (l.length+1) (iq (v::l) A)=A v v*q7 l.length (iq l λi j=>A i j-A i v/A v v*A v j)
 |[],_,_=>by
  show q7 1 [[A v v]]=A v v*1;rw[RK];grind
 |[x],_,h=>by
  have u:=h (by simp);have a:∀q:Rat,q/A v v*A v v=q:=λq=>by grind
  show q7 2 [[A v v,A v x],[A x v,A x x]]=A v v*q7 1 [[A x x-A x v/A v v*A v x]];rw[<-Si,a]
 |[x,y],_,h=>by
  have u:=h (by simp);have a:∀q:Rat,q/A v v*A v v=q:=λq=>by grind
  show q7 3 [[A v v,A v x,A v y],[A x v,A x x,A x y],[A y v,A y x,A y y]]=A v v*q7 2 [[A x x-A x v/A v v*A v x,A x y-A x v/A v v*A v y],[A y x-A y v/A v v*A v x,A y y-A y v/A v v*A v y]];rw[<-Sj,a,a]
 |[x,y,z],_,h=>by
  have u:=h (by simp);have a:∀q:Rat,q/A v v*A v v=q:=λq=>by grind
  show q7 4 [[A v v,A v x,A v y,A v z],[A x v,A x x,A x y,A x z],[A y v,A y x,A y y,A y z],[A z v,A z x,A z y,A z z]]=A v v*q7 3 [[A x x-A x v/A v v*A v x,A x y-A x v/A v v*A v y,A x z-A x v/A v v*A v z],[A y x-A y v/A v v*A v x,A y y-A y v/A v v*A v y,A y z-A y v/A v v*A v z],[A z x-A z v/A v v*A v x,A z y-A z v/A v v*A v y,A z z-A z v/A v v*A v z]];rw[<-Sk,a,a,a]
 |_::_::_::_::_,h,_=>by simp at h
section
variable{n:Nat}{ns:SU}{g:Nat->Nat->Rat}
abbrev Bl(ns:SU)(g:Nat->Nat->Rat)(k:Nat):Rat:=av ns g k (ir ns k) (ir ns k)
def qp(ns:SU)(g:Nat->Nat->Rat):Nat->Nat->Rat
 |_,0=>1
 |k,m+1=>Bl ns g k*qp ns g (k+1) m
def qK:∀(m k:Nat),qp ns g k (m+1)=qp ns g k m*Bl ns g (k+m)
 |0,k=>by show Bl ns g k*1=1*Bl ns g k;grind
 |m+1,k=>by
  show Bl ns g k*qp ns g (k+1) (m+1)=Bl ns g k*qp ns g (k+1) m*Bl ns g (k+(m+1));rw[qK m (k+1),show k+1+m=k+(m+1) by ext];grind
def FT:∀(m k:Nat),(∀i,k<=i->i<k+m->Bl ns g i≠0)->qp ns g k m≠0
 |0,k,_=>by show(1:Rat)≠0;decide +kernel
 |m+1,k,h=>by
  have a:=h k (l_ _) (by ext);have b:=FT m (k+1) λi j l=>h i (by ext) (by ext);intro z;have z:Bl ns g k*qp ns g (k+1) m=0:=z;rcases Rat.mul_eq_zero.mp z with z|z
  .exact a z
  .exact b z
def x0(o:On n ns)(a:n<=4):∀(m k:Nat),k+m<=n->(∀i,k<=i->i+1<k+m->Bl ns g i≠0)->q7 m (iq ((ns.drop k).take m) (av ns g k))=qp ns g k m
 |0,k,_,_=>rfl
 |m+1,k,B,h=>by
  have u:=o.len;have hv:=j6 o (show k<n by ext);have e:(ns.drop k).take (m+1)=ir ns k::(ns.drop (k+1)).take m:=by rw[fM hv];rfl
  have el:((ns.drop (k+1)).take m).length=m:=by simp;ext
  have c:=QG (A:=av ns g k) (v:=ir ns k) ((ns.drop (k+1)).take m) (by ext) λz=>h k (l_ _) (by
   have:m≠0:=λy=>z (by rw[y];rfl)
   ext)
  rw[el]at c;rw[e,c];show Bl ns g k*q7 m (iq ((ns.drop (k+1)).take m) (av ns g (k+1)))=_;rw[x0 o a m (k+1) (by ext) λi j l=>h i (by ext) (by ext)];rfl
def Jd(l:∀i j,¬(i<n/\j<n)->g i j=0)(i:Nat):Kf ((List.range n).filter λj=>!decide (g i j=0)) (g i) :=
 ⟨F6.filter _,λj a=>Classical.byContradiction λz=>a (BO.mpr ⟨E6.mpr (Classical.byContradiction λy=>z (l i j λw=>y w.2)),by simpa using z⟩)⟩
def An(i:Nat):pP.p [dC n (g i)]=J (Bu ((List.range n).filter λj=>!decide (g i j=0)) (g i)):=by
 have u:∀l:List Pt,hR (l.map lb)=J (l.map λp=>((p.1:Int),qD p.2)):=λl=>by
  induction l with
  |nil=>rfl
  |cons p l y=>rw[nc,hR,y];rfl
 have one:DQ (dC n (g i))=J ((cC n (g i)).map λp=>((p.1:Int),qD p.2)):=by
  unfold DQ;dsimp only;rw[u];dsimp only;rw[e_];rw[wu]
  have:((cC n (g i)).map ((·.1)∘λp:Pt=>((p.1:Int),qD p.2)))=((cC n (g i)).map (·.1)).map λ(k:Nat)=>(k:Int):=by rw[wu];rfl
  rw[this,jS];exact(F6.filter _).map (λ(k:Nat)=>(k:Int)) (λa b h=>by ext)
 show(DQ (dC n (g i))).map _=_;rw[one,CG,wu,wu];unfold cC;rw[wu,wu];rfl
abbrev Sl:Xe [3]:=(bh 1 [5] (bL (x2 (ac 1) xw (xz (ac 2)))) (ws':=[]) (lf 0) oh (BF (ac 1) (aa (ac 0) (aa (aX (aa (xC (.int 0)) (aa (xC (.int 1)) a_))) a_))))
abbrev RN:Xd [3]:=(aF (aP 5 (n4 pP (aa (ae h_ (ae h_ (ac 0) (xC (.int 1))) (ac 4)) a_))) (Cg q0 3 (aa Sl a_)))
abbrev FU(n:Nat)(g:Nat->Nat->Rat)(ns:SU)(k:Nat)(rs:List (List Rat))(z4 z5:So):ay:=[J (w_ n g),J (j_ ns),J (.int (k:Int)),J (.lst (rs.map ml)),z4,z5]
def EW{k:Nat}{s:b_}(o:On n ns)(W:k<=n)(M:∀i j,¬(i<n/\j<n)->g i j=0):bW.p [w_ n g,j_ ns,.int (k:Int)] s=.ok (.lst ((iq (ns.take k) g).map ml)) s:=by
 have X:=o.len;have n12:=o.n12;have t2:∀{x y:D}{s:b_},(if [x,y].length<=100000 then PR.ok (D.tup [x,y]) s else .bad)=.ok (.tup [x,y]) s:=λ{x y s}=>e_ (by simp);have ct:=yi ns inD' (k:=k) (by ext);have R:h_.p (w_ n g) (.int 1)=J (.tup ((List.range n).map λi=>dC n (g i))):=rfl;have go:∀(l:SU)(a:List (List Rat))(B u:So),(∀i∈l,i<n)->a.length+l.length<=100->∃C E,BE (lf 4:Xg [3]).p RN.p (l.map inD') (FU n g ns k a B u) s=.nx (FU n g ns k (a++l.map λi=>(ns.take k).map λj=>g i j) C E) s:=λl=>by
  induction l with
  |nil=>intro a B u _ _;exact⟨B,u,by simp⟩
  |cons i l L =>
   intro a B u hl hr;have H:a.length+(l.length+1)<=100:=hr;have F:=hl i (by simp);obtain⟨C,E,e⟩:=L (a++[(ns.take k).map λj=>g i j]) (J (inD' i)) (J (Bu ((List.range n).filter λj=>!decide (g i j=0)) (g i))) (λx Q=>hl x (pj _ Q)) (by simp;ext);refine⟨C,E,?_⟩;have G:h_.p (.tup ((List.range n).map λi=>dC n (g i))) (inD' i)=J (dC n (g i)):=by rw[kP];exact L2.cK (by rw[r6,Jr F];rfl)
   have kf:=Jd M i;generalize S:((List.range n).filter λj=>!decide (g i j=0))=K at *;have P:pP.p [dC n (g i)]=J (Bu K (g i)):=by rw[<-S];exact An i
   have q:=i9 (ws:=[3]) (ws':=[]) (env:=FU n g ns k a (J (inD' i)) (J (Bu K (g i)))) (s:=s) (s0:=s) (fm:=[5]) (i:=bL (x2 (ac 1) xw (xz (ac 2)))) (t:=oh) (e:=BF (ac 1) (aa (ac 0) (aa (aX (aa (xC (.int 0)) (aa (xC (.int 1)) a_))) a_))) (l:=ns.take k) inD' (λj=>qD (g i j)) (λ_=>I) (by
    simp only[dU,g6,au,ao,Pb,gU,g7,gR,Pf,ct,jH]) (by simp;ext) (λj U=>⟨rfl,λ_=>by
     show(BF (ac 1) (aa (ac 0) (aa (aX (aa (xC (.int 0)) (aa (xC (.int 1)) a_))) a_)):Xe []).p [J (inD' j),J (Bu K (g i))] s=_;have O:=nt (j:=j) kf;simp![nM,bJ,aT,aJ,t2]
     rw[show D.tup [.int 0,.int 1]=qD 0 from rfl,O]⟩)
   rw[JY.mpr (by simp)]at q;rw[nc,fK (show(lf 4:Xg [3]).p (inD' i) (FU n g ns k a B u)=J (FU n g ns k a (J (inD' i)) u)from rfl)];have b:RN.p (FU n g ns k a (J (inD' i)) u) s=.nx (FU n g ns k (a++[(ns.take k).map λj=>g i j]) (J (inD' i)) (J (Bu K (g i)))) s:=by
    rw[aB,aV];simp![bz,aD,aT,aJ,R,Pf,G,P,Pg,r_,q_,PU.ax]
    rw[nk (s1:=s) (as:=[ml ((ns.take k).map λj=>g i j)]) (ds:=a.map ml) (ds':=a.map ml++[ml ((ns.take k).map λj=>g i j)]) (r:=.non) (by
     rw[af,q,Pb,aq,Pb];unfold ml
     rw[wu];rfl) rfl (mP (by simp;ext))]
    simp only[r_,q_];unfold FU;rw[Jw];rfl
   rw[b];show BE _ _ _ _ _=_;rw[e,J0];rfl
 obtain⟨C,E,e⟩:=go (ns.take k) [] Y Y (λi F=>o.lt i (List.mem_of_mem_take F)) (by simp;ext);rw[J4]at e;rw[pH (by rfl)];unfold dE;rw[show k_ 6 [w_ n g,j_ ns,.int (k:Int)]=[J (w_ n g),J (j_ ns),J (.int (k:Int)),Y,Y,Y]from rfl,aB,vW];simp only[hV,aq,Pb,Jv,CT,if_true,pd,Pg,r_,q_,PU.ax];rw[aB,gp,dU];dsimp![g6,au,gU,g7,gR,ct,jH];refine(congrArg (λz:PS=>(z.then _).fin) e).trans ?_;rw[PU.ax,pY (d:=.lst ((iq (ns.take k) g).map ml)) rfl];rfl
abbrev mT(n:Nat)(ns:SU)(g:Nat->Nat->Rat):D:=.lst (((List.range n).map (kr n ns g)).map n7)
abbrev Oc:Xd []:=aP 2 (ah dL (aa (ac 0) (aa (n4 m4 (aa (ac 1) a_)) a_)))
def FV{x d:D}{s:b_}(hl:(ns.map inD').length<=100000)(e:∀s,(sA "NoPivot" "place" 2 3 Oc:Xd []).p [J x,J (j_ ns),J .non,Y] s=.nx [J x,J (j_ ns),J d,Y] s):cA.p [x,j_ ns] s=.ok d s:=by rw[uW (by rfl)];unfold gb;rw[show k_ 4 [x,j_ ns]=[J x,J (j_ ns),Y,Y]from rfl,aB,aV];simp only[aT,xN,Pg,r_,q_,PU.ax];rw[aB,e,PU.ax];simp only[bo,au,ao,Pg,PU.bq]
def FW{x:D}{s:b_}{r:PR D}(hl:(ns.map inD').length<=100000)(e:dL.p [x,j_ ns] s=r):Oc.p [J x,J (j_ ns),J .non,Y] s=r.go [J x,J (j_ ns),J .non,Y] λd env s=>.nx (env.set 2 (J d)) s:=by rw[aV,aC];simp![bz,vU hl,Pf,e]
def yO{x d:D}{s:b_}(hl:(ns.map inD').length<=100000)(e:∀s,dL.p [x,j_ ns] s=.ok d s):cA.p [x,j_ ns] s=.ok d s:=by refine FV hl λs=>?_;show(match Oc.p _ s with|.exc c e s=>_|.rse _ _ _=>_|r=>r)=_;rw[FW hl (e s)];rfl
def zN{x:D}{v:Nat}{s:b_}(hl:(ns.map inD').length<=100000)(e:∀s,dL.p [x,j_ ns] s=.exc (IS v) s):cA.p [x,j_ ns] s=.ok (.tup [inD' v,.non]) s:=by refine FV hl λs=>?_;show(match Oc.p _ s with|.exc c e s=>_|.rse _ _ _=>_|r=>r)=_;rw[FW hl (e s)];rfl
abbrev BI(n:Nat)(g:Nat->Nat->Rat)(ns:SU)(wk:D)(q:Rat)(z6 z7:So):ay:=[J .pen,J (.int (n:Int)),J (w_ n g),J (j_ ns),J wk,J (qD q),z6,z7]
abbrev Od:Xd []:=(s_ (xB (u_ (ba ["list"]) (ac 4))) (s_ (w9 (bA (xB (ah d3 (aa (ac 4) (aa (ac 3) a_))))) (xB (ae wV (ah bR (aa (ae h_ (ae h_ (ac 4) (ac 6)) (xC (.int 1))) (aa (ac 5) a_))) (ac 7)))) (aN (xC (.bl T))) io) io)
abbrev MU:Xd []:=(aF (aP 7 (ah b8 (aa (ah bW (aa (ac 2) (aa (ac 3) (aa (ae bC (ac 6) (xC (.int 1))) a_)))) a_)))
 (aF (s_ (xB (ae y6 (ae h_ (ac 7) (xC (.int 0))) (xC (.int 0)))) (aN (ah dh (aa (ac 4) (aa (aX (aa (ae h_ (ac 3) (ac 6)) (aa (xC .non) a_))) a_)))) io)
 (aF Od (aP 5 (ac 7)))))
def Je{k:Nat}(sh:Sh 350 n g)(a:(ns.take k).length=k):(iq (ns.take k) g).length=k/\Mok k (iq (ns.take k) g):=by refine⟨by unfold iq;rw[xg,a],λx u=>?_⟩;obtain⟨i,_,rfl⟩:=se.mp u;refine⟨by rw[xg,a],λq l=>?_⟩;obtain⟨j,_,rfl⟩:=se.mp l;exact sh.ov.sz (by decide) i j
def xW{k:Nat}{s:b_}(o:On n ns)(j:n<=4)(sh:Sh 350 n g)(C:k<n)(pv:∀i,i<k->Bl ns g i≠0):b8.p [.lst ((iq (ns.take (k+1)) g).map ml)] s=.ok (qD (qp ns g 0 (k+1))) s/\sz (qp ns g 0 (k+1))<=30000:=by
 have B:=o.len;have tl:(ns.take (k+1)).length=k+1:=by simp;ext
 obtain⟨u,l⟩:=Je (k:=k+1) sh tl;obtain⟨e,b⟩:=FS (k+1) (6-k) (iq (ns.take (k+1)) g) s u l (by ext);have a:=x0 (g:=g) o j (k+1) 0 (by ext) λi y z=>pv i (by ext);rw[Nd]at a;have a:q7 (k+1) (iq (ns.take (k+1)) g)=qp ns g 0 (k+1):=a;rw[a]at e b;rw[show k+1+1+(6-k)=8 by ext]at e;refine⟨e,n_ b ?_⟩
 have:k=0\/k=1\/k=2\/k=3:=by ext
 rcases this with rfl|rfl|rfl|rfl<;>decide
def QH{q:Rat}{a:Bool}:zT a (.int q.num) (.int 0)=J (.bl (if a then !decide (q=0)else decide (q=0))):=by
 rw[cr]
 have:decide (q.num=0)=decide (q=0):=decide_eq_decide.mpr Rat.num_eq_zero
 rw[this]
def vD{k:Nat}{a:D}{q:Rat}{u:So}{s:b_}(o:On n ns)(j:n<=4)(sh:Sh 350 n g)(y:k<n)(pv:∀i,i<k->Bl ns g i≠0)(r:Xd []):
  (aF (aP 7 (ah b8 (aa (ah bW (aa (ac 2) (aa (ac 3) (aa (ae bC (ac 6) (xC (.int 1))) a_)))) a_))) r).p (BI n g ns a q (J (inD' k)) u) s=r.p (BI n g ns a q (J (inD' k)) (J (qD (qp ns g 0 (k+1))))) s:=by
 have f:=EW (k:=k+1) (s:=s) o (by ext) sh.off;have h:=(xW (s:=s) o j sh y pv).1;have l:((k:Int)+1)=((k+1:Nat):Int):=by ext
 rw[aB,aV];simp![aC,aD,aT,aJ,bP,l,Pf,f,h,Pg,r_,q_,PU.ax]
def FX{k:Nat}{a:D}{q:Rat}{y:So}{s:b_}(o:On n ns)(j:n<=4)(sh:Sh 350 n g)(B:k<n)(pv:∀i,i<=k->Bl ns g i≠0)(u:Od.p (BI n g ns a q (J (inD' k)) (J (qD (qp ns g 0 (k+1))))) s=.nx (BI n g ns a q (J (inD' k)) (J (qD (qp ns g 0 (k+1))))) s):
  MU.p (BI n g ns a q (J (inD' k)) y) s=.nx (BI n g ns a (qp ns g 0 (k+1)) (J (inD' k)) (J (qD (qp ns g 0 (k+1))))) s:=by
 have l:=FT (ns:=ns) (g:=g) (k+1) 0 λi _ C=>pv i (by ext);rw[vD o j sh B (λi h=>pv i (by ext))];have z:∀q:Rat,h_.p (qD q) (.int 0)=J (.int q.num):=λ_=>rfl;rw[aB,bw];dsimp![bE,aD,au,aT,aJ,z,dM,QH,l,decide_false,wj,if_false,Pl,bf,PU.ax];rw[aB,u,PU.ax];simp only[aV,au,ao,Pg,r_,q_]
def MV{k:Nat}{q:Rat}{z:So}{s:b_}(o:On n ns)(l:n<=4)(sh:Sh 350 n g)(j:k<n)(pv:∀i,i<k->Bl ns g i≠0)(u:Bl ns g k=0):
  MU.p (BI n g ns (.tup [inD' (ir ns k),.non]) q (J (inD' k)) z) s=.rt (.bl I) s:=by
 have C:qp ns g 0 (k+1)=0:=by rw[qK,E7,u];grind
 rw[vD o l sh j pv,C];have B:h_.p (qD 0) (.int 0)=J (.int 0):=rfl;have a:nw (ns.map inD') (k:Int)=J (inD' (ir ns k)):=L2.cK (by rw[r6,j6 o j];rfl);have t2:∀{x y:D}{s:b_},(if [x,y].length<=100000 then PR.ok (D.tup [x,y]) s else .bad)=.ok (.tup [x,y]) s:=λ{x y s}=>e_ (by simp);rw[aB,bw];simp![bE,aD,aT,aJ,B,Pf,dM,cr,decide_true,wj,if_false,Pl,Pg,if_true,bo,aC,bJ,ld,a,xN,t2,ET,PU.kG]
def Jf{k m:Nat}{q h:Rat}{s:b_}:Od.p (BI n g ns (.tup [inD' m,.non]) q (J (inD' k)) (J (qD h))) s=.nx (BI n g ns (.tup [inD' m,.non]) q (J (inD' k)) (J (qD h))) s:=by have a:(ba ["list"]).p (.tup [inD' m,.non])=J (.bl T):=rfl;rw[bw];dsimp![bE,eP,au,a,Pl,wj,if_false,bf]
def Jg{k:Nat}{s:b_}(el:El n 120000 ns g)(j:k<n)(b:sz (qp ns g 0 k)<=30000):Od.p (BI n g ns (mT n ns g) (qp ns g 0 k) (J (inD' k)) (J (qD (qp ns g 0 (k+1))))) s=.nx (BI n g ns (mT n ns g) (qp ns g 0 k) (J (inD' k)) (J (qD (qp ns g 0 (k+1))))) s:=by
 have o:=el.o;have l:=o.len;have n12:=o.n12;have y:(ba ["list"]).p (mT n ns g)=J (.bl I):=rfl;have u:=MN (ns:=ns) (ws:=(List.range n).map (kr n ns g)) (s:=s) (by simp[l]) (by ext) (el.wok (by ext));have a:nw (((List.range n).map (kr n ns g)).map n7) (k:Int)=J (n7 (kr n ns g k)):=L2.cK (by simp[j]);have z:h_.p (n7 (kr n ns g k)) (.int 1)=J (qD (Bl ns g k)):=rfl;have B:sz (Bl ns g k)<=120000:=el.si k (ir ns k) (ir ns k) (by ext);have i:=nL (p:=Bl ns g k) (q:=qp ns g 0 k) (s:=s) (by ext);have eq:Bl ns g k*qp ns g 0 k=qp ns g 0 (k+1):=by rw[qK,E7];grind
 rw[eq]at i;rw[bw];dsimp![bE,eP,au,y,Pl,if_true];rw[bw];simp![iO,cW,bE,aC,u,Pl,BR,wj,if_false,aD,ld,a,Pf,aT,aJ,z,i,gq,oj,if_true,decide_true,Pg,bf]
def Jh{n:Nat}:d6 0 n=(List.range' 0 n).map inD':=by rw[<-M5];simp[d6]
def vN{s:b_}(el:El n 120000 ns g)(u:n<=4)(sh:Sh 350 n g):∀(m k:Nat)(l a:So),k+m=n->∃z y,BE (lf 6:Xg []).p MU.p ((List.range' k m).map inD') (BI n g ns (mT n ns g) (qp ns g 0 k) l a) s=.nx (BI n g ns (mT n ns g) (qp ns g 0 n) z y) s
 |0,k,l,a,B=>by
  have:k=n:=by ext
  subst this;exact⟨l,a,rfl⟩
 |m+1,k,l,a,B=>by
  have j:k<n:=by ext
  have b:sz (qp ns g 0 k)<=30000:=by
   cases k with
   |zero=>show sz 1<=_;rw[show sz 1=1 by decide +kernel];ext
   |succ k=>exact(xW (s:=s) el.o u sh (show k<n by ext) λi h=>el.pv i (by ext)).2
  obtain⟨z,y,e⟩:=vN (s:=s) el u sh m (k+1) (J (inD' k)) (J (qD (qp ns g 0 (k+1)))) (by ext);refine⟨z,y,?_⟩;rw[M9,nc,fK (show(lf 6:Xg []).p (inD' k) (BI n g ns (mT n ns g) (qp ns g 0 k) l a)=J (BI n g ns (mT n ns g) (qp ns g 0 k) (J (inD' k)) a)from rfl),FX el.o u sh j (λi h=>el.pv i (by ext)) (Jg el j b)];exact e
def yU{p:Nat}{s:b_}(o:On n ns)(l:n<=4)(sh:Sh 350 n g)(B:p<n)(pv:∀i,i<p->Bl ns g i≠0)(y:Bl ns g p=0):∀(m k:Nat)(j a:So),k+m=n->k<=p->BE (lf 6:Xg []).p MU.p ((List.range' k m).map inD') (BI n g ns (.tup [inD' (ir ns p),.non]) (qp ns g 0 k) j a) s=.rt (.bl I) s
 |0,k,j,a,C,u=>by ext
 |m+1,k,j,a,C,u=>by
  rw[M9,nc,fK (show(lf 6:Xg []).p (inD' k) (BI n g ns (.tup [inD' (ir ns p),.non]) (qp ns g 0 k) j a)=J (BI n g ns (.tup [inD' (ir ns p),.non]) (qp ns g 0 k) (J (inD' k)) a)from rfl)];by_cases z:k=p
  .subst z;rw[MV o l sh B pv y];rfl
  .rw[FX o l sh (by ext) (λi h=>pv i (by ext)) Jf];exact yU o l sh B pv y m (k+1) _ _ (by ext) (by ext)
def EX{s:b_}:∃H,ce.p [.pen] s=.ok (.bl I) H:=by
 obtain⟨a,G,a0,X,M⟩:=bV (s:=s) (size:=4) (by decide) (by decide);obtain⟨n,O⟩:∃n:Nat,1+a=(n:Int):=⟨(1+a).toNat,by ext⟩;have C:n<=4:=by ext
 obtain⟨g,Q,W,sh⟩:=Ja (n:=n) (s:=G) C;obtain⟨ns,j,S,o⟩:=vi (n:=n) (s:=Q) (by ext);have ol:=o.len;have hl:(ns.map inD').length<=100000:=by simp;ext
 have t2:∀{x y:D}{s:b_},(if [x,y].length<=100000 then PR.ok (D.tup [x,y]) s else .bad)=.ok (.tup [x,y]) s:=λ{x y s}=>e_ (by simp);have U:CO 350 n<=120000:=by
  have:n=0\/n=1\/n=2\/n=3\/n=4:=by ext
  rcases this with rfl|rfl|rfl|rfl|rfl<;>decide
 obtain⟨m,P,F,z⟩:=zm (λk=>Bl ns g k≠0) n;have em:=sh.em (by decide) U o P F;refine⟨j,?_⟩;have l:∀u,cA.p [w_ n g,j_ ns] j=.ok u j->ce.p [.pen] s=((BE (lf 6:Xg []).p MU.p ((List.range' 0 n).map inD') (BI n g ns u (qp ns g 0 0) Y Y) j).then (aF (s_ (w9 (bA (xB (u_ (ba ["list"]) (ac 4)))) (xB (ae wV (ah dH (aa (ac 1) (aa (ac 4) a_))) (ac 2)))) (aN (xC (.bl T))) io) (aN (ah dh (aa (ah iT (aa (ac 1) (aa (ac 4) a_))) (aa (ac 2) a_)))):Xd []).p).fin:=λu B=>by
  rw[oH (by rfl)];unfold cZ;rw[show k_ 8 [D.pen]=[J .pen,Y,Y,Y,Y,Y,Y,Y]from rfl,aB,aV];dsimp![aD,aT,aJ,aC,af,aq,M,bP,O,r_,q_,PU.ax];rw[aB,aV];simp![bJ,aC,W,t2,Pg,r_,q_,PU.ax];rw[aB,aV];simp![aC,S,Pg,r_,q_,PU.ax];have B:cA.p [.tup [.int (n:Int),.tup ((List.range n).map λi=>dC n (g i))],j_ ns] j=.ok u j:=B;rw[aB,aV];simp![aC,B,Pg,r_,q_,PU.ax];rw[aB,aV];simp only[bJ,af,aT,aJ,Pb,aq,t2,Pg,r_,q_,PU.ax];rw[aB,gp,hU,af];simp only[au,ao,Pb,aq];rw[sH (by ext),B2,Pf,Pg,Jh];rfl
 rcases z with rfl|⟨z,L⟩
 .have st:=yO (x:=w_ m g) (s:=j) hl λs=>by
   rw[em.struck (s:=s) (.inl rfl),e_ rfl]
  obtain⟨Z,y7,e⟩:=vN (s:=j) em C sh m 0 Y Y (by ext);rw[l _ st,e,PU.ax];have mu:=El.mult em (by ext) (s:=j);have pb:=El.back em (by ext) (s:=j);have sm:=vb (g:=g) (s:=j) o.n12;have R:(ba ["list"]).p (mT m ns g)=J (.bl I):=rfl;rw[aB,bw];simp![iO,cW,bE,eP,R,Pf,Pl,BR,wj,if_false,aD,aC,mu,gq,rT EU,Pg,bf,PU.ax];simp![bo,aC,pb,sm,Pg,PU.bq]
 .have E:Bl ns g m=0:=Classical.byContradiction L;have st:=zN (x:=w_ n g) (s:=j) hl λs=>by
   rw[em.struck (s:=s) (.inr ⟨z,E⟩),h8 (by ext)]
  rw[l _ st,yU o C sh z F E n 0 Y Y (by ext) (by ext)];rfl
end
def EY{s:b_}:∃C,dI.p [.pen] s=.ok (.bl I) C:=by
 obtain⟨n,u,G,R⟩:=IG (s:=s);have n12:n<=12:=by ext
 obtain⟨ns,M,O,o⟩:=vi (n:=n) (s:=u) n12;obtain⟨a,B,S,Q,L⟩:=bV (s:=M) (size:=4) (by decide) (by decide);obtain⟨c,y,c0,U⟩:∃c:Int,bn.p (.int 2) (.int (if decide ((n:Int)=12)=I then 1 else 0))=J (.int c)/\0<=c/\c<=2:=by
  by_cases z:(n:Int)=12
  .exact⟨2,by rw[decide_eq_true z,e_ rfl];exact bG (j:=4) (k:=4) (by decide) (by decide),by decide,by decide⟩
  .exact⟨0,by rw[decide_eq_false z,h8 (by simp)];exact bG (j:=4) (k:=4) (by decide) (by decide),by decide,by decide⟩
 obtain⟨l,i,F,hl,hw⟩:=EJ (n:=n) (ns:=ns) (sm:=1+a+c) (s:=B) o (by ext) (by ext);have t:Tn n ns l:=⟨o,hl,hw⟩;have pb:=El.back t.el (by ext) (s:=i);have mu:=El.mult t.el (by ext) (s:=i);rw[t.eq]at pb mu;have sm:=vb (g:=gW l) (s:=i) n12;obtain⟨E,P⟩:=EX (s:=i);have cl:m4.p [.lst (l.map n7)]=J (.lst (l.map n7)):=vU (by simp;ext);have H:zT T (.int (n:Int)) (.int 12)=J (.bl (decide ((n:Int)=12))):=by rw[cr];rfl
 refine⟨E,?_⟩;rw[xx (by rfl)];unfold ie;rw[show k_ 4 [D.pen]=[J .pen,Y,Y,Y]from rfl,aB,aV];simp only[aC,af,ao,Pb,aq,G,Pg,r_,q_,PU.ax];rw[aB,aV];simp![aC,O,aD,aT,aJ,L,bP,Pf,bz,dM,H,pe,y,F,Pg,r_,q_,PU.ax];rw[aB,aV];simp![bz,cl,Pf,Pg,r_,q_,PU.ax];simp![bo,kj,aC,pb,mu,sm,Pl,if_true,aD,dM,rT AG,Nc,Pf,P,Pg,PU.bq]
def xA{lo:Int}{c:Nat}{x:PV}(h:x∈bD lo c):∃i:Int,x=.int i/\lo<=i/\i<lo+c:=by unfold bD at h;obtain⟨k,a,rfl⟩:=se.mp h;rw[E6]at a;exact⟨_,rfl,by ext,by ext⟩
def wc{ns:SS}{k:Nat}(a:k<ns.length):nw (ns.map PV.int) (k:Int)=J (.int ns[k]):=L2.cK (by simp[a])
def uf{h:MH}:t_ (.int 10) (.int 18) h=.ok (.int (10^18)) h:=uC (by decide)
def AV{h:MH}:t_ (.int 10) (.int 15) h=.ok (.int (10^15)) h:=uC (by decide)
def A9{h:MH}{ns:SS}{k:Nat}(Z:k<64):∃m c:Int,iX [.frl (ns.map .int),.int k] h=.ok (.loc h.length) (h++[.lst [.int m,.int c,.int 0]]):=by
 unfold iX;have G:∀{i:Int}{h:MH},lx (.int 7919) (.int i) h=.ok (.int (7919*i)) h:=iW (by decide);have S:∀{i:Int}{h:MH},lx (.int 48271) (.int i) h=.ok (.int (48271*i)) h:=iW (by decide);have U:∀{i:Int}{h:MH},lx (.int 40009) (.int i) h=.ok (.int (40009*i)) h:=iW (by decide);have O:∀{a b c:PV}{h:MH},vR [a,b,c] h=.ok (.loc h.length) (h++[.lst [a,b,c]]):=lz (by simp)
 have fin:∀cell:Int,∃m c:Int,(cj (Cd (mB (aA B7 (sk BC (aj (am 2) f_)) (aA t_ (mC (.int 10)) (mC (.int 18))))) (du (gG (aj (mC (.int 1)) (aj (sk BC (aj (am 2) f_)) (aj (mC (.int 0)) f_))))) qx)
   (du (gG (aj (mC (.int 0)) (aj (aA jj (aA nz (am 2) (mC (.int 2147483587))) (aA lx (mC (.int 40009)) (am 1))) (aj (mC (.int 0)) f_)))))) [J (.frl (ns.map .int)),J (.int k),J (.int cell)] h=.rt (.loc h.length) (h++[.lst [.int m,.int c,.int 0]]):=λcell=>by
  by_cases z:(10:Int)^18<=(if cell<0 then -cell else cell)
  .exact⟨1,(if cell<0 then -cell else cell),by simp[uf,O,z,-Int.reducePow]⟩
  .exact⟨0,cell.fmod 2147483587+40009*k,by simp[uf,O,z,U,gQ,-Int.reducePow]⟩
 have B:∀cell:Int,∃m c:Int,((cj (Cd (mB (aA B7 (sk BC (aj (am 2) f_)) (aA t_ (mC (.int 10)) (mC (.int 18))))) (du (gG (aj (mC (.int 1)) (aj (sk BC (aj (am 2) f_)) (aj (mC (.int 0)) f_))))) qx)
   (du (gG (aj (mC (.int 0)) (aj (aA jj (aA nz (am 2) (mC (.int 2147483587))) (aA lx (mC (.int 40009)) (am 1))) (aj (mC (.int 0)) f_)))))) [J (.frl (ns.map .int)),J (.int k),J (.int cell)] h).fin=.ok (.loc h.length) (h++[.lst [.int m,.int c,.int 0]]):=λcell=>by
  obtain⟨m,c,q⟩:=fin cell;exact⟨m,c,by rw[q];rfl⟩
 have l:∀cell:Int,(cj (bM 2 (aA jj (aA lx (mC (.int 7919)) (am 1)) (mC (.int 11))))
 (Cd (mB (aA Cq (am 1) (sk Bn (aj (sk sw (aj (am 0) f_)) (aj (mC (.int 63)) f_))))) (bM 2 (aA be (am 0) (am 1))) (Cd (mB (aA Cr (sk sw (aj (am 0) f_)) (mC (.int 0)))) (bM 2 (aA jj (aA nz (aA be (am 0) (aA nz (am 1) (sk Bn (aj (sk sw (aj (am 0) f_)) (aj (mC (.int 63)) f_))))) (aA t_ (mC (.int 10)) (mC (.int 15)))) (aA lx (mC (.int 48271)) (am 1)))) qx))) [J (.frl (ns.map .int)),J (.int k),Y] h=.nx [J (.frl (ns.map .int)),J (.int k),J (.int cell)] h ->
   ∃m c:Int,cE 3 2 Bj [.frl (ns.map .int),.int k] h=.ok (.loc h.length) (h++[.lst [.int m,.int c,.int 0]]):=λcell q=>by
  obtain⟨m,c,X⟩:=B cell;refine⟨m,c,(eV (by rfl)).trans ?_⟩;rw[<-X];unfold Bj;simp only[bK]at q ⊢;have e0:bv 3 [PV.frl (ns.map .int),PV.int k]=[J (.frl (ns.map .int)),J (.int k),Y]:=rfl;rw[e0];generalize (bM 2 (aA jj (aA lx (mC (.int 7919)) (am 1)) (mC (.int 11)))) [J (.frl (ns.map .int)),J (.int k),Y] h=P at q ⊢
  cases P with
  |nx Z1 H =>
   simp only[MM.ax,bK]at q ⊢;rw[q];rfl
  |_=>cases q
 have u:∃j:Nat,(if(63:Int)<(ns.length:Int)then(63:Int)else(ns.length:Int))=(j:Int)/\j<=ns.length/\(0<ns.length->0<j):=by
  by_cases z:(63:Int)<(ns.length:Int)
  .exact⟨63,by rw[e_ z];rfl,by ext,by ext⟩
  .exact⟨ns.length,by rw[h8 z],by ext,by ext⟩
 obtain⟨j,el,F,y⟩:=u;by_cases H:k<j
 .refine l (ns[k]'(by ext)) ?_;simp[G,el,H,wc (show k<ns.length by ext)]
 .by_cases C:0<ns.length
  .have E:(j:Int)≠0:=by have:=y C;ext
   have L:k % j<ns.length:=vv (Nat.mod_lt _ (y C)) F;have W:(k:Int).fmod (j:Int)=((k % j:Nat):Int):=by rw[MZ _ (by ext)];rfl
   refine l ((ns[k % j]'L).fmod (10^15)+48271*k) ?_;have Q:((10:Int)^15)≠0:=by decide
   have M:=wc L;rw[Int.natCast_emod]at M;simp[G,el,H,C,gQ E,W,M,AV,gQ Q,S,-Int.reducePow]
  .have R:ns=[]:=QM.mp (by ext);refine l (7919*k+11) ?_;have z:¬((k:Int)<(j:Int)):=by ext
   simp[G,el,z,C]
def wS{h:MH}{p:Nat}{s:b_}(pn:bc h p s):∃a,jz [.loc p] h=.ok (.bl I) a/\∀n:Nat,n<h.length->n≠p->a[n]?=h[n]?:=by
 obtain⟨j,q⟩:=EY (s:=s)
 have k:=dI.ok (q:=p) (h:=h) (O:=[p]) (vs:=[.loc p]) (ds:=[.pen]) (s:=s) (λo i=>by
  have:o=p:=by simpa using i
  subst this;exact aG pn) (by simp) pn ⟨_,_,rfl,rfl,rfl⟩
 rw[q,uT]at k;obtain⟨v,a,e,kb,_,r,_⟩:=k;exact⟨a,by rw[e];rw[show v=PV.bl I from r],kb.2⟩
def EZ{h:MH}{n:Nat}{o a:MO}(e:h[n]?=J a):(h.set n o)[n]?=J o:=x4 (qi.mp e).1
def tO{ns:SS}{it:MIt}{n:Nat}(j:∀h,it.ok h):∀(xs:SM)(m:Nat)(z:Ss)(h:MH),(∀x∈xs,∃k:Nat,x=.int (k:Int)/\k<64)->h[n]?=J (.lst (List.replicate m (.bl I)))->m+xs.length<=100->∃i,A_ it n (ki 0) m_ (fu jz (aj (fu iX (aj (am 1) (aj (am 0) f_))) f_)) xs [z,J (.frl (ns.map .int))] h=.ok () i/\i[n]?=J (.lst (List.replicate (m+xs.length) (.bl I)))
 |[],m,z,h,u,e,hl=>⟨h,ku (j h),e⟩
 |x::xs,m,z,h,u,e,hl=>by
  have E:m+(xs.length+1)<=100:=hl;obtain⟨k,rfl,B⟩:=u x (by simp);obtain⟨a,b,qp⟩:=A9 (h:=h) (ns:=ns) (k:=k) B;obtain⟨l,F,kb⟩:=wS (h:=h++[.lst [.int a,.int b,.int 0]]) (p:=h.length) (s:=(a,b,0)) (by show(h++[MO.lst [.int a,.int b,.int 0]])[h.length]?=J (.lst [.int a,.int b,.int 0]);exact Fj);have H:n<h.length:=(qi.mp e).1;have e3:l[n]?=J (.lst (List.replicate m (.bl I))):=by rw[kb n (by simp;ext) (by ext)];exact Lf e
  obtain⟨i,q,C⟩:=tO (ns:=ns) j xs (m+1) (J (.int (k:Int))) (l.set n (.lst (List.replicate m (.bl I)++[.bl I]))) (λy G=>u y (pj _ G)) (by rw[EZ e3,List.replicate_succ']) (by ext);refine⟨i,?_,by rw[C,BN,show m+1+xs.length=m+(xs.length+1) by ext]⟩;rw[kI (Z:=[z,J (.frl (ns.map .int))]) (Z1:=[J (.int (k:Int)),J (.frl (ns.map .int))]) (h1:=h) (h2:=h) (v:=.bl I) (h3:=l) (ys:=List.replicate m (.bl I)) (j h) rfl rfl (by simp -implicitDefEqProofs [qp,F]) e3 (by simp;ext)];exact q
def CC(ns:SS)(H:ns.length<=63):∃C,B5 [.frl (ns.map .int)] []=.ok (.bl I) C:=by
 unfold B5;rw[eV (by rfl)];unfold Cz;rw[show bv 1 [PV.frl (ns.map .int)]=[J (.frl (ns.map .int))]from rfl];obtain⟨c,L,y⟩:∃c:Nat,c<=63/\(aj (sk BW (aj (mC (.int 1)) (aj (sk Bn (aj (sk sw (aj (am 0) f_)) (aj (mC (.int 10)) f_))) f_))) f_) [J (.frl (ns.map .int))] []=.ok [.int (c:Int)] []:=by
  have e:(aj (sk BW (aj (mC (.int 1)) (aj (sk Bn (aj (sk sw (aj (am 0) f_)) (aj (mC (.int 10)) f_))) f_))) f_) [J (.frl (ns.map .int))] []=.ok [.int (if(if(10:Int)<(ns.length:Int)then 10 else(ns.length:Int))>1 then(if(10:Int)<(ns.length:Int)then 10 else(ns.length:Int))else 1)] []:=by simp -implicitDefEqProofs
  have a:0<=(if(if(10:Int)<(ns.length:Int)then 10 else(ns.length:Int))>1 then(if(10:Int)<(ns.length:Int)then 10 else(ns.length:Int))else 1)/\(if(if(10:Int)<(ns.length:Int)then 10 else(ns.length:Int))>1 then(if(10:Int)<(ns.length:Int)then 10 else(ns.length:Int))else 1)<=63:=by constructor<;>(repeat' split)<;>ext
  generalize (if(if(10:Int)<(ns.length:Int)then 10 else(ns.length:Int))>1 then(if(10:Int)<(ns.length:Int)then 10 else(ns.length:Int))else 1)=i at e a;obtain⟨c,rfl⟩:=kM a.1;exact⟨c,by ext,e⟩
 have z:=DA y (by ext)
 obtain⟨j,G,E⟩:=tO (ns:=ns) (it:=⟨bD 0 c,[]⟩) (n:=0) (λ_=>dD.mpr trivial) (bD 0 c) 0 Y ([]++[.lst []]) (λx F=>by
  obtain⟨i,rfl,u,a⟩:=xA F;obtain⟨k,rfl⟩:=kM u
  exact⟨k,rfl,by ext⟩) rfl (by rw[MM.c9];ext)
 have B:bO 1 [0] (dJ (aj (sk BW (aj (mC (.int 1)) (aj (sk Bn (aj (sk sw (aj (am 0) f_)) (aj (mC (.int 10)) f_))) f_))) f_)) (ki 0) m_ (fu jz (aj (fu iX (aj (am 1) (aj (am 0) f_))) f_)) [J (.frl (ns.map .int))] []=.ok (.loc 0) j:=by rw[gN,z,Out.bind_ok];refine(congrArg (λo:Out Unit=>o.bind _) G).trans ?_;rfl
 have l:=xP E;refine⟨j,?_⟩;rw[qF,Hi,cN,B,Out.bind_ok,fN,Out.bind_ok,Out.bind_ok,l];rfl
end Law
namespace Law
open PySem.Spec PyProof.Rows L2 MM
set_option maxHeartbeats 4000000
def top(i:Nat):Stmt:=PySem.Challenge.pw_fewfills_k31_works_put_back.main.body.getD i (.Pass ⟨0,0,0,0⟩)
abbrev n6:Stmt:=Sa (top 4) 0
abbrev RQ:SQ:=["self","place"]
abbrev Oe:Str:="the pivot of the place "
abbrev BK:Str:=" is nought"
def E0{X:Cx}{C F B:Addr}(a:X.env.scope=ag n6)(hN:X.N=RQ)(E:X.ex=[])(z:Io X.K X.mg "FillError" F)(u:BH X.K X.mg "NoPivot" C F B "place"):PSs X (aE n6) (tP C Oe BK "place"):=by
 have l:X.N[0]?=J ("self":Str):=by rw[hN];rfl
 have j:X.N[1]?=J ("place":Str):=by rw[hN];rfl
 have i:JA X.env.scope "self":=by rw[a];exact .inl rfl
 have y:JA X.env.scope "place":=by rw[a];exact .inl rfl
 have hg:Gl X "FillError":=by unfold Gl Env.kindOf;rw[a];rfl
 exact tN (vh (AT hg z u (cV (kE l i) (cV (Ip (by decide +kernel) (kE j y)) jq)) rfl rfl rfl rfl) rfl) (qS (xY u E (kE l i) (kE j y) rfl))
def MX{P:Program}{w:World}{K:g_}{mg:Sn}{base:Heap}{C F a:Addr}{fd:FuncData}{k:Nat}(i:Fun K "__init__" "NoPivot.__init__" n6 a fd)(j:Io K mg "FillError" F)(u:BH K mg "NoPivot" C F a "place"):FnOk P w K mg base JC (k+1) a fd RQ (N0 C Oe BK "place") :=
 At i ⟨rfl,rfl,rfl,by decide +kernel,rfl,by decide +kernel,by decide +kernel⟩ λX e3 e4 l hN y=>E0 l hN y (e3▸e4▸j) (e3▸e4▸u)
def AY{K:g_}{F:Addr}{n:String}(q:PySem.W.excIn K F ij n=I):PySem.W.tailIn K ij (.ref F::ij)=I:=by
 unfold PySem.W.excIn at q
 split at q
 .rename_i dd l u a
  split at q
  .simp only[Bw,beq_iff_eq,Bool.not_eq_true']at q;obtain⟨⟨_,i⟩,j⟩:=q;unfold PySem.W.tailIn;rw[Bool.or_eq_true_iff];refine .inr ?_;dsimp only;rw[a];dsimp only;rw[i,j];rfl
  .cases q
 .cases q
structure Np(P:Program)(w:World)(K:g_)(mg:BS)(base:Heap):Prop where
 rp:Qt P w K mg base "NoPivot" Oe BK "place"
 t2:Qu K mg "NoPivot" "place" "FillError" []
def QI(K:g_):Prop:=∀(P:Program)(w:World)(mg:BS)(base:Heap),K.In base->base.Ns mainGlobals mg->Np P w K mg base
def Ji{K:g_}{a i L N :Addr}{nm qn:Str}{bs:SX}{sn:SQ}{sub:SX}{ab:Bool}{M:Option Bool}{dd:Sr}{k0 k1 k2 k3 k5:SD}{oc:Value}{od Q an:Sr}{sl R:Array (SD)}{kV dc pm X ct:Value}{U:Array DictEntry}{ep:Nat}(H:PySem.W.nsIn K mainGlobals "NoPivot"=J (J (.ref a)))(u:PySem.W.nsIn K mainGlobals "FillError"=J (J (.ref i)))(l:K.lookup a=J (excClassObj nm qn a N bs (.ref i::ij) I sn sub ab M dd k0 k1 k2 k3 k5 "ValueError.__new__"))(lN:K.lookup N=J ⟨oc,Q,.dict U ep,R⟩)(O:(U.all λe=>match e.key with|.str _ _=>I|_=>T)=I)(ni:PySem.W.nsIn K N "__init__"=J (J (.ref L)))(eF:PySem.W.excIn K i ij "ValueError.__new__"=I)(sa:PySem.W.findIn K (.ref a) "__setattr__"=J (J (.builtin "object.__setattr__")))(tk:PySem.W.takerIn K a "place"=J Y)(hg:PySem.W.specialIn K (.ref i) "__getattribute__"=J (J (.builtin "type.__getattribute__")))(hr:PySem.W.readsIn K i (.type "type")=I)(fc:PySem.W.findCls K (.ref i) (.type "type") "__init__"=J (.val (.builtin "ValueError.__init__")))(Z:K.lookup L=J ⟨.type "function",od,.func (PySem.W.fnOf "__init__" "NoPivot.__init__" (gD n6) (aE n6) (ag n6) .none kV dc pm an X ct),sl⟩)(cI:PySem.W.codeIn K X "NoPivot.__init__"=I)(kp:PySem.W.keepIn K (.ref L)=I)(hd:PySem.W.hasDictIn K a=I)(fi:PySem.W.findIn K (.ref a) "place"=J Y)(C:PySem.W.findIn K (.ref a) "__getattribute__"=J (J (.builtin "BaseException.__getattribute__")))(y:PySem.W.findIn K (.ref a) "__class__"=J (J (.builtin "object.__class__")))(E:PySem.W.findIn K (.ref a) "__getattr__"=J Y)(B:PySem.W.mroIn K a (.type "object")=J I)(z:PySem.W.mroIn K a (.type "BaseException")=J I):QI K:=λP w mg base kin ns=>by
 have no:PySem.W.nsOkIn K N=I:=by unfold PySem.W.nsOkIn;rw[lN];exact O
 have tl:PySem.W.tailIn K ij (.ref i::ij)=I:=AY eF;have F:=PySem.W.mg_of kin ns H;have j:=PySem.W.mg_of kin ns u;have G:Cw K a:=⟨C,y,E,B,z⟩;have S:BH K mg "NoPivot" a i L "place":=⟨F,⟨nm,qn,N,bs,sn,sub,ab,M,dd,k0,k1,k2,k3,k5,l,no,ni⟩,tl,sa,tk⟩;have W:=yD (x:="__init__") (qual:="NoPivot.__init__") (st:=n6) Z cI kp;exact⟨⟨a,i,L,"self","place",_,_,S,MX (k:=0) W ⟨j,hg,hr,fc⟩ S,W.binds λ_ _ _ _ _ _ us hl=>match us,hl with|[_,_],_=>rfl,Z,rfl⟩,⟨i,a,i,L,⟨j,eF⟩,S,⟨G,hd,fi⟩,Dr⟩,⟩
local macro_rules | `(tactic| contradiction)=>do let q <-[`w_var,`LM,`P0,`LN,`LW,`HX,`P1,`HY,`Qg,`L0,`Qd,`Me,`Ib,`Mb,`LO,`LP,`LQ,`HV,`DZ,`LR,`HW,`w_ifE,`LS,`LU,`LV,`P2,`P4,`P5,`Ig,`Mj,`Mk,`Qe,`L6,`Ic,`w_tchain,`Ie,`Qh,`Mf,`w_or,`Mh,`Mi,`Qk,`Qi,`Qj,`Ql,`Qm,`Qn,`Mm,`Ml,`Qo,`gJ,`cT,`Mn,`Ij,`Qp,`Mp,`Qq,`w_set,`Il,`Ii,`Qf,`Ay,`Bg,`Ik,`w_pass,`Mo,`A3,`Ix,`LX,`LY,`LZ,`Qa,`L4,`L5,`P6,`P7,`P8,`P9,`Qb,`Qc,`L7,`P_,`L8,`j_InD,`j_InnD,`L9,`L_,`Ma,`HZ,`D_,`Mc,`Ah,`H4,`Md,`H_,`Ea,`Ia].foldrM (λn t=>`(tactic| first | apply $(Lean.mkIdent n) | $t:tactic)) (<-`(tactic| fail));`(tactic| (first | assumption | ((with_reducible apply Ih);assumption;(intro env h;cases env;cases h;rfl)) | ((with_reducible apply Im);assumption;(intro env h;cases env;cases h;rfl)) | ((with_reducible apply Mq);assumption;(intro env h;cases env;cases h;rfl)) | with_reducible $q:tactic | exact rfl | decide +kernel | refine λY c=>⟨?_,?_,?_⟩ | (intro _;rfl) | exact λ_ _=>rfl | exact Ck _ | omega | exact⟨⟨rfl,rfl⟩,rfl,rfl,rfl⟩ | with_unfolding_all rfl | intro Y c d) <;> contradiction)
abbrev iS:Stmt:=top 8
abbrev dw:Stmt:=top 9
abbrev gV:Stmt:=top 10
abbrev pc:Stmt:=top 11
abbrev mZ:Stmt:=top 12
abbrev m8:Stmt:=top 13
abbrev oN:Stmt:=top 14
abbrev iI:Stmt:=top 16
abbrev iJ:Stmt:=top 17
abbrev fA:Stmt:=top 18
abbrev gX:Stmt:=top 20
abbrev iF:Stmt:=top 21
abbrev jE:Stmt:=top 22
abbrev fy:Stmt:=top 23
abbrev lS:SQ:=["sheet","order","known","rows","work","k","v","step","i","factor"]
abbrev lQ:SQ:=["enumerate","step_of","sorted","add_times","minus","NOUGHT"]
abbrev rV:SQ:=["sheet","order","known"]
def su(i:Sc X fy)(g:Gd X lS lQ k)(E:hI X)(C:Cal X "minus" ["a","b"] j7.m k)(j:Cal X "add_times" ["row","factor","parts"] d4 k)(l:Cal X "step_of" ["rows","v","later"] fS.m k)(z:Nn X "enumerate")(n12:Nn X "sorted")(u:Nn X "dict")(a:mJ X.K X.mg "NOUGHT" 0 1):Bx X (aE fy) qb :=
 (mm.h (BG (Bv (Rw g i 3 ["row"] [] ["dict"] [] (fj (BJ (kV g 0) aI)) λB y g=>⟨(y_ g 0),fQ,(NT g 0 (vL g) (y.n u) vy (aH (kV g 0) aS))⟩))
 (BG (FA g 4 (vu (zt aS)))
 (BG (Bv (ig g (Rv g 0 z (aH (kV g 1) aS)) (gw g (aZ (y_ g 5) (aZ (y_ g 6) eW))) (mm.h (BG (FA g 7 (vu (G0 (HP (xX T) (kV g 6) (kV g 2)) (zf (kV g 2) (kV g 6)) (DR g 1 l (aH (kV g 3) (aH (kV g 6) (aH (Ch g 2 rR n12 qW (aH (Fo (kV g 1) (vo (aR cL (kV g 5) aI)) vO) aS)) aS)))))))
 (BG (Bv (ig g (fj (BJ (kV g 7) aI)) (gw g (aZ (y_ g 8) (aZ (y_ g 9) eW))) (mm.h (Bz (Bv (nI (HP (xX I) (kV g 8) (kV g 2)) (mm.h (Bz (Bv (kB (DR g 3 j (aH (BJ (kV g 3) (kV g 8)) (aH (DR g 4 C (aH (tQ g (q:=5) rfl a) (aH (kV g 9) aS))) (aH (BJ (kV g 7) aI) aS)))))))) kD))))))
 (Bz (Bv (kB (Fl rH rM rN (kV g 4) (aH (kV g 7) aS))))))))))
 (Bz (CL (vu (kV g 4))))))))
abbrev lj:Stmt:=top 24
abbrev iG:Stmt:=top 25
abbrev oX:SQ:=["n","work","rows","v","pivot","row","column","i","factor"]
abbrev oS:SQ:=["range","ONE","add_times","tuple"]
abbrev wC:SQ:=["n","work"]
def wq(u:Sc X iG)(g:Gd X oX oS k)(G:hI X)(z:Cal X "parts_at" ["row","places"] cz.m k)(E:Cal X "add_times" ["row","factor","parts"] d4 k)(F:Nn X "list")(l:Nn X "range")(C:Nn X "tuple")(a:mJ X.K X.mg "ONE" 1 1):Bx X (aE iG) wY :=
 (mm.h (BG (Bv (Rw g u 2 ["v"] [] [] [] (NU g 0 l (aH (kV g 0) aS)) λB y g=>⟨(y_ g 0),fQ,vf⟩))
 (BG (Bv (ig g (fj (kV g 1)) (gw g (aZ (y_ g 3) (aZ (y_ g 4) (aZ (y_ g 5) (aZ (y_ g 6) eW))))) (mm.h (Bz (Bv (ig g (fj (aR cL (lR.h (BZ (aY (BZ (aY (vu (kV g 3)) (aY (vu (tQ g (q:=1) rfl a)) b7))) b7))) (kV g 6))) (gw g (aZ (y_ g 7) (aZ (y_ g 8) eW))) (mm.h (Bz (Bv (kB (DR g 2 E (aH (BJ (kV g 2) (kV g 7)) (aH (kV g 8) (aH (aR cL (lR.h (BZ (aY (BZ (aY (vu (kV g 3)) (aY (vu (kV g 4)) b7))) b7))) (kV g 5)) aS))))))))))))))
 (Bz (CL (BZ (aY (vu (kV g 0)) (aY (vu (NT g 3 lp C i7 (aH (NV g u ["row"] ["n"] ["parts_at","list","range"] [0] (fj (kV g 2)) λB y g=>⟨(y_ g 0),fQ,(DR g 0 (y.c z) (aH (kV g 0) (aH (sV g (i:=1) (j:=2) rfl (y.n F) rfl (y.n l) (aH (kV g 1) aS)) aS)))⟩) aS))) b7))))))))
abbrev nG:Stmt:=top 27
abbrev vz:SQ:=["_law_script","_law_k","_law_cell"]
abbrev u0:SQ:=["min","len","abs"]
abbrev E1:SQ:=["_law_script","_law_k"]
def E2(l:Sc X nG)(g:Gd X vz u0 k)(u:hI X)(j:Nn X "abs")(i:Nn X "len")(a:Nn X "min"):Bx X (aE nG) Bj :=
 (mm.h (BG (FA g 2 (vu (aR cL (aR hW aI (kV g 1)) aI)))
 (BG (Bv (nI (HP Fe (kV g 1) (Ch g 0 (ux g) a uA (aH (Ch g 1 lU i mr (aH (kV g 0) aS)) (aH aI aS)))) (mm.h (Bz (FA g 2 (vu (BJ (kV g 0) (kV g 1)))))) (mm.h (Bz (Bv (nI (HP Ff (Ch g 1 lU i mr (aH (kV g 0) aS)) aI) (mm.h (Bz (FA g 2 (vu (aR cL (aR eA (BJ (kV g 0) (aR eA (kV g 1) (Ch g 0 (ux g) a uA (aH (Ch g 1 lU i mr (aH (kV g 0) aS)) (aH aI aS))))) (aR uz aI aI)) (aR hW aI (kV g 1))))))) kD))))))
 (BG (Bv (nI (HP Fg (Ch g 2 sM j ue (aH (kV g 2) aS)) (aR uz aI aI)) (mm.h (Bz (CL (PY (aY (vu aI) (aY (vu (Ch g 2 sM j ue (aH (kV g 2) aS))) (aY (vu aI) b7))))))) kD))
 (Bz (CL (PY (aY (vu aI) (aY (vu (aR cL (aR eA (kV g 2) aI) (aR hW aI (kV g 1)))) (aY (vu aI) b7))))))))))
abbrev lu:Stmt:=top 28
abbrev sP:SQ:=["_law_pen_here","_law_size","_law_number_here","_law_drawn"]
abbrev tf:SQ:=[]
abbrev Ae:SQ:=["_law_pen_here","_law_size"]
def AN(a:Sc X lu)(g:Gd X sP tf k)(i:hI X):Bx X (aE lu) x3 :=
 (mm.h (BG (Bv (t6 (aR cL (BJ (kV g 0) aI) aI) (sY (kV g 0) aI)))
 (BG (Bv (nI (HP (sF g.room) (BJ (kV g 0) aI) aI) (mm.h (BG (FA g 3 (vu (aR eA (BJ (kV g 0) aI) (kV g 1))))
 (BG (Bv (t6 (aR (wL g.room) (BJ (kV g 0) aI) (kV g 1)) (sY (kV g 0) aI)))
 (Bz (CL (vu (kV g 3))))))) kD))
 (BG (FA g 2 (vu (aR eA (aR hW (aR cL (aR cL (BJ (kV g 0) aI) (aR hW aI (BJ (kV g 0) aI))) aI) aI) aI)))
 (BG (FA g 2 (vu (aR eA (aR hW (kV g 2) (aR cL (aR cL (aR eA (kV g 2) aI) (BJ (kV g 0) aI)) aI)) aI)))
 (Bz (CL (vu (aR eA (aR (wL g.room) (aR eA (aR hW (kV g 2) (aR cL (aR eA (kV g 2) aI) aI)) aI) aI) (kV g 1))))))))))
abbrev iD:Stmt:=top 29
abbrev sX:Stmt:=top 30
abbrev iL:Stmt:=top 31
abbrev lA:Stmt:=top 32
abbrev jK:Stmt:=top 33
abbrev k8:Stmt:=top 34
abbrev lB:Stmt:=top 35
abbrev jL:Stmt:=top 36
abbrev jA:Stmt:=top 37
abbrev jI:Stmt:=top 38
abbrev jw:Stmt:=top 39
abbrev fC:Stmt:=top 40
abbrev fB:Stmt:=top 41
abbrev gZ:Stmt:=top 42
abbrev eX:Stmt:=top 43
abbrev kx:SQ:=["_law_n","_law_work","_law_grid","_law_v","_law_pivot","_law_row","_law_column","_law_i","_law_factor","_law_j","_law_number_here"]
abbrev kL:SQ:=["range","_law_plus","_law_times","tuple"]
abbrev ql:SQ:=["_law_n","_law_work"]
def qu(a:Sc X eX)(g:Gd X kx kL k)(E:hI X)(B:Cal X "_law_times" ["_law_a","_law_b"] bR.m k)(u:Cal X "_law_plus" ["_law_a","_law_b"] fL.m k)(C:Nn X "enumerate")(l:Nn X "tuple")(j:Nn X "range"):Bx X (aE eX) qo :=
 (mm.h (BG (Bv (R9 g a 2 ["_law_i"] ["_law_n"] ["range"] [0] (NU g 0 j (aH (kV g 0) aS)) λi y a g=>⟨(y_ g 0),fQ,(NV g a ["_law_j"] [] [] [] (NU g 0 (y.n j) (aH (kV g 1) aS)) λi z g=>⟨(y_ g 0),fQ,(lR.h (BZ (aY (vu aI) (aY (vu aI) b7))))⟩)⟩))
 (BG (Bv (ig g (fj (kV g 1)) (gw g (aZ (y_ g 3) (aZ (y_ g 4) (aZ (y_ g 5) (aZ (y_ g 6) eW))))) (mm.h (Bz (Bv (ig g (fj (aR cL (lR.h (BZ (aY (BZ (aY (vu (kV g 3)) (aY (BZ (aY (vu aI) (aY (vu aI) b7))) b7))) b7))) (kV g 6))) (gw g (aZ (y_ g 7) (aZ (y_ g 8) eW))) (mm.h (Bz (Bv (ig g (fj (aR cL (lR.h (BZ (aY (BZ (aY (vu (kV g 3)) (aY (vu (kV g 4)) b7))) b7))) (kV g 5))) (gw g (aZ (y_ g 9) (aZ (y_ g 10) eW))) (mm.h (Bz (Bv (t6 (DR g 1 u (aH (BJ (BJ (kV g 2) (kV g 7)) (kV g 9)) (aH (DR g 2 B (aH (kV g 8) (aH (kV g 10) aS))) aS))) (sY (BJ (kV g 2) (kV g 7)) (kV g 9))))))))))))))))
 (Bz (CL (BZ (aY (vu (kV g 0)) (aY (vu (NT g 3 lp l i7 (aH (R8 g a ["_law_own"] [] ["tuple","enumerate"] [] (fj (kV g 2)) λi y a g=>⟨(y_ g 0),fQ,(NT g 0 lp (y.n l) i7 (aH (NV g a ["_law_j","_law_one"] [] [] [] (Rv g 1 (y.n C) (aH (kV g 0) aS)) λi z g=>⟨(gw g (aZ (y_ g 0) (aZ (y_ g 1) eW))),(v7 (HP (Fd g.room) (kV g 1) (lR.h (BZ (aY (vu aI) (aY (vu aI) b7)))))),(lR.h (BZ (aY (vu (kV g 0)) (aY (vu (kV g 1)) b7))))⟩) aS))⟩) aS))) b7))))))))
abbrev jB:Stmt:=top 44
abbrev eN:Stmt:=top 45
abbrev iP:Stmt:=top 46
abbrev d8:Stmt:=top 47
abbrev jM:Stmt:=top 48
abbrev o8:Stmt:=top 49
abbrev FY:SQ:=["_law_script"]
abbrev FZ:SQ:=["all","range","max","min","len"]
abbrev CD:SQ:=["_law_script"]
def MY(i:Sc X o8)(g:Gd X FY FZ k)(F:hI X)(j:Cal X "_law_pen" ["_law_script","_law_k"] iX k)(u:Cal X "_law_right" ["_law_pen_here"] dI.m k)(a:Nn X "range")(B:Nn X "len")(l:Nn X "min")(z:Nn X "max")(E:Nn X "all"):Bx X (aE o8) Cz :=
 (mm.h (Bz (CL (vu (Ch g 0 (yT g) E yo (aH (NV g i ["_law_k"] ["_law_script"] ["_law_right","_law_pen"] [0] (NU g 1 a (aH (Ch g 2 (Hc g) z HQ (aH aI (aH (Ch g 3 (ux g) l uA (aH (Ch g 4 lU B mr (aH (kV g 0) aS)) (aH aI aS))) aS))) aS)) λC y g=>⟨(y_ g 0),fQ,(DR g 0 (y.c u) (aH (DR g 1 (y.c j) (aH (kV g 1) (aH (kV g 0) aS))) aS))⟩) aS))))))
def Jj:gL "law" o8 CD:=λ_ _ _ _ _ _=>LK λ_=>rfl
abbrev kS:SQ:=["thing"]
def xn{K:g_}(c:Wc X P w K mg base kS kS 0 (ag iS))(d:hI X)(i:Zn K "isinstance")(j:Zn K "bool")(a:Zn K "int"):mm X (aE iS) fW.m:=by unfold fW;apply gJ<;>contradiction
abbrev eY:SQ:=["a","b","rest"]
def nQ{K:g_}(c:Wc X P w K mg base eY eY 0 (ag dw))(d:hI X):mm X (aE dw) cw.m:=by unfold cw;apply cT<;>contradiction
abbrev j3:SQ:=["top","bottom","shared"]
def uV{K:g_}(c:Wc X P w K mg base j3 j3 1 (ag gV))(d:hI X)(z0:Zn K "abs")(a:FnAt P w K mg base "greatest_shared" Ps1 cu.m 1)(i:FnAt P w K mg base "is_whole" Ps0 cY.m 1):mm X (aE gV) ff.m:=by unfold ff;apply cT<;>contradiction
abbrev t9:SQ:=["a","b"]
def Jk{K:g_}(c:Wc X P w K mg base t9 t9 2 (ag pc))(d:hI X)(a:FnAt P w K mg base "number_of" Ps2 bH.m 2):mm X (aE pc) lZ.m:=by unfold lZ;apply gJ<;>contradiction
abbrev qf:SQ:=["a","b"]
def E3{K:g_}(c:Wc X P w K mg base qf qf 2 (ag mZ))(d:hI X)(a:FnAt P w K mg base "number_of" Ps2 bH.m 2):mm X (aE mZ) kh.m:=by unfold kh;apply gJ<;>contradiction
abbrev qI:SQ:=["a","b"]
def E4{K:g_}(c:Wc X P w K mg base qI qI 2 (ag m8))(d:hI X)(a:FnAt P w K mg base "number_of" Ps2 bH.m 2):mm X (aE m8) kN.m:=by unfold kN;apply gJ<;>contradiction
abbrev t8:SQ:=["a","b"]
def Jl{K:g_}(c:Wc X P w K mg base t8 t8 2 (ag oN))(d:hI X)(a:FnAt P w K mg base "number_of" Ps2 bH.m 2):mm X (aE oN) mD.m:=by unfold mD;apply gJ<;>contradiction
abbrev kT:SQ:=["n","thing"]
def xE{K:g_}(c:Wc X P w K mg base kT kT 1 (ag iI))(d:hI X)(a:FnAt P w K mg base "is_whole" Ps0 cY.m 1):mm X (aE iI) fU.m:=by unfold fU;apply gJ<;>contradiction
abbrev lK:SQ:=["web","thing"]
def wQ{K:g_}(c:Wc X P w K mg base lK lK 2 (ag iJ))(d:hI X)(a:Zn K "sorted")(j:Zn K "list")(i:Zn K "range")(z1:Zn K "all")(u:Zn K "isinstance")(l:FnAt P w K mg base "is_place" Ps7 eS.m 2):mm X (aE iJ) gu.m:=by unfold gu;apply cT<;>contradiction
abbrev ik:SQ:=["web","thing"]
def r9{K:g_}(c:Wc X P w K mg base ik ik 3 (ag fA))(d:hI X)(a:FnAt P w K mg base "is_order" Ps8 fX.m 3):mm X (aE fA) dS.m:=by unfold dS;apply gJ<;>contradiction
abbrev jQ:SQ:=["row","factor","parts","j","number"]
def uQ{K:g_}(c:Wc X P w K mg base jQ jQ 3 (ag gX))(d:hI X)(a:mJ K mg "NOUGHT" 0 1)(i:FnAt P w K mg base "times" Ps5 dZ.m 3)(j:FnAt P w K mg base "plus" Ps3 fb.m 3):mm X (aE gX) bF.m:=by unfold bF;apply gJ<;>contradiction
abbrev kU:SQ:=["row","places"]
def wD{K:g_}(c:Wc X P w K mg base kU kU 0 (ag iF))(d:hI X)(i:Zn K "tuple")(a:mJ K mg "NOUGHT" 0 1):mm X (aE iF) gh.m:=by unfold gh;apply gJ<;>contradiction
abbrev mH:SQ:=["rows","v","later","pivot","column"]
def yJ{K:g_}(c:Wc X P w K mg base mH mH 3 (ag jE))(d:hI X)(i:Zn K "tuple")(a:mJ K mg "NOUGHT" 0 1)(rp:Qt P w K mg base "NoPivot" "the pivot of the place " " is nought" "place")(j:FnAt P w K mg base "parts_at" Ps11 cz.m 1)(l:FnAt P w K mg base "over" Ps6 i6.m 3):mm X (aE jE) fO.m:=by unfold fO;apply cT<;>contradiction
abbrev oA:SQ:=["sheet","order"]
def AX{K:g_}(c:Wc X P w K mg base oA oA 5 (ag lj))(d:hI X)(a:FnAt P w K mg base "struck_with" Ps13 cU 5)(i:FnAt P w K mg base "check_order" Ps9 dR.m 4):mm X (aE lj) jk.m:=by unfold jk;apply cT<;>contradiction
abbrev k7:SQ:=["_law_top","_law_bottom","_law_one","_law_other"]
def w4{K:g_}(c:Wc X P w K mg base k7 k7 0 (ag iD))(d:hI X)(z0:Zn K "abs"):mm X (aE iD) fY.m:=by unfold fY;apply cT<;>contradiction
abbrev lD:SQ:=["_law_pen_here","_law_way"]
def xj{K:g_}(c:Wc X P w K mg base lD lD 1 (ag iL))(d:hI X)(i:FnAt P w K mg base "_law_draw" Ps17 cg 1)(a:FnAt P w K mg base "_law_lowest" Ps18 bi.m 1):mm X (aE iL) gf.m:=by unfold gf;apply cT<;>contradiction
abbrev nX:SQ:=["_law_pen_here"]
def zQ{K:g_}(c:Wc X P w K mg base nX nX 1 (ag lA))(d:hI X)(a:FnAt P w K mg base "_law_draw" Ps17 cg 1):mm X (aE lA) jf.m:=by unfold jf;apply cT<;>contradiction
abbrev mj:SQ:=["_law_pen_here","_law_n","_law_found","_law_k"]
def yV{K:g_}(c:Wc X P w K mg base mj mj 1 (ag jK))(d:hI X)(i:Zn K "range")(a:FnAt P w K mg base "_law_draw" Ps17 cg 1):mm X (aE jK) ic.m:=by unfold ic;apply cT<;>contradiction
abbrev oi:SQ:=["_law_pen_here","_law_n","_law_some","_law_rows_here","_law_i","_law_row"]
def AL{K:g_}(c:Wc X P w K mg base oi oi 2 (ag k8))(d:hI X)(a:Zn K "tuple")(j:Zn K "range")(u:Zn K "int")(i:FnAt P w K mg base "_law_draw" Ps17 cg 1)(l:FnAt P w K mg base "_law_number" Ps20 dN.m 2):mm X (aE k8) ji.m:=by unfold ji;apply cT<;>contradiction
abbrev oG:SQ:=["_law_a","_law_b"]
def Af{K:g_}(c:Wc X P w K mg base oG oG 1 (ag lB))(d:hI X)(a:FnAt P w K mg base "_law_lowest" Ps18 bi.m 1):mm X (aE lB) ju.m:=by unfold ju;apply gJ<;>contradiction
abbrev mx:SQ:=["_law_a","_law_b"]
def xV{K:g_}(c:Wc X P w K mg base mx mx 1 (ag jL))(d:hI X)(a:FnAt P w K mg base "_law_lowest" Ps18 bi.m 1):mm X (aE jL) hZ.m:=by unfold hZ;apply gJ<;>contradiction
abbrev my:SQ:=["_law_pen_here","_law_wide","_law_top"]
def yd{K:g_}(c:Wc X P w K mg base my my 1 (ag jA))(d:hI X)(j:Zn K "int")(i:FnAt P w K mg base "_law_draw" Ps17 cg 1)(a:FnAt P w K mg base "_law_lowest" Ps18 bi.m 1):mm X (aE jA) g9.m:=by unfold g9;apply cT<;>contradiction
abbrev mO:SQ:=["_law_pen_here","_law_n","_law_order_here","_law_some","_law_wide","_law_most","_law_work","_law_at","_law_v","_law_later","_law_row","_law_column"]
def zp{K:g_}(c:Wc X P w K mg base mO mO 2 (ag jI))(d:hI X)(u:Zn K "enumerate")(a:Zn K "tuple")(j:Zn K "sorted")(y:Zn K "int")(l:FnAt P w K mg base "_law_small" Ps26 cF.m 2)(i:FnAt P w K mg base "_law_draw" Ps17 cg 1):mm X (aE jI) ia.m:=by unfold ia;apply cT<;>contradiction
abbrev mU:SQ:=["_law_thing"]
def yj{K:g_}(c:Wc X P w K mg base mU mU 0 (ag jw))(d:hI X)(i:Zn K "isinstance")(j:Zn K "bool")(a:Zn K "int"):mm X (aE jw) ib.m:=by unfold ib;apply gJ<;>contradiction
abbrev iB:SQ:=["_law_thing"]
def sj{K:g_}(c:Wc X P w K mg base iB iB 1 (ag fC))(d:hI X)(l:Zn K "len")(u:Zn K "isinstance")(a:Zn K "tuple")(i:FnAt P w K mg base "_law_lowest" Ps18 bi.m 1)(j:FnAt P w K mg base "_law_whole" Ps28 bQ.m 1):mm X (aE fC) dY.m:=by unfold dY;apply cT<;>contradiction
abbrev iA:SQ:=["_law_parts","_law_later","_law_ahead","_law_part"]
def ss{K:g_}(c:Wc X P w K mg base iA iA 2 (ag fB))(d:hI X)(l:Zn K "len")(u:Zn K "isinstance")(a:Zn K "tuple")(i:FnAt P w K mg base "_law_is_number" Ps29 bI.m 2)(j:FnAt P w K mg base "_law_whole" Ps28 bQ.m 1):mm X (aE fB) dX.m:=by unfold dX;apply cT<;>contradiction
abbrev jY:SQ:=["_law_work","_law_order_here","_law_at","_law_v","_law_one"]
def uM{K:g_}(c:Wc X P w K mg base jY jY 3 (ag gZ))(d:hI X)(u:Zn K "enumerate")(z:Zn K "len")(B:Zn K "isinstance")(a:Zn K "tuple")(y:Zn K "list")(i:FnAt P w K mg base "_law_are_parts" Ps30 bS.m 3)(j:FnAt P w K mg base "_law_is_number" Ps29 bI.m 2)(l:FnAt P w K mg base "_law_whole" Ps28 bQ.m 1):mm X (aE gZ) fh.m:=by unfold fh;apply cT<;>contradiction
abbrev gP:SQ:=["_law_sheet","_law_order_here","_law_many_here","_law_grid","_law_i","_law_own"]
def qR{K:g_}(c:Wc X P w K mg base gP gP 0 (ag eN))(d:hI X)(a:Zn K "dict"):mm X (aE eN) dE.m:=by unfold dE;apply cT<;>contradiction
abbrev lh:SQ:=["_law_sheet","_law_order_here","_law_found","e"]
def wP{K:g_}(c:Wc X P w K mg base lh lh 6 (ag iP))(d:hI X)(i:Zn K "list")(t2:Qu K mg "NoPivot" "place" "FillError" [])(a:FnAt P w K mg base "struck" Ps14 dL.m 6):mm X (aE iP) gb.m:=by unfold gb;apply cT<;>contradiction
abbrev fV:SQ:=["_law_pen_here","_law_n","_law_sheet","_law_order_here","_law_work","_law_ahead","_law_at","_law_here"]
def pG{K:g_}(c:Wc X P w K mg base fV fV 11 (ag d8))(d:hI X)(L:Zn K "isinstance")(H:Zn K "list")(B:Zn K "range")(i:FnAt P w K mg base "put_back" Ps15 fZ 5)(a:FnAt P w K mg base "_law_same" Ps19 dh.m 9)(z:FnAt P w K mg base "_law_multiplied" Ps32 dB 3)(y:FnAt P w K mg base "_law_times" Ps25 bR.m 2)(F:FnAt P w K mg base "_law_is_work" Ps31 d3.m 4)(u:FnAt P w K mg base "_law_first_ones" Ps34 bW.m 1)(G:FnAt P w K mg base "_law_determinant" Ps33 b8.m 11)(C:FnAt P w K mg base "_law_struck" Ps35 cA.m 7)(E:FnAt P w K mg base "_law_order" Ps22 eB.m 2)(j:FnAt P w K mg base "_law_rows" Ps23 ja.m 3)(l:FnAt P w K mg base "_law_draw" Ps17 cg 1):mm X (aE d8) cZ.m:=by unfold cZ;apply cT<;>contradiction
abbrev mz:SQ:=["_law_pen_here","_law_n","_law_work","_law_handed"]
def xF{K:g_}(c:Wc X P w K mg base mz mz 12 (ag jM))(d:hI X)(C:Zn K "list")(E:Zn K "int")(j:FnAt P w K mg base "_law_drawn_right" Ps36 ce.m 12)(y:FnAt P w K mg base "_law_multiplied" Ps32 dB 3)(i:FnAt P w K mg base "put_back" Ps15 fZ 5)(a:FnAt P w K mg base "_law_same" Ps19 dh.m 9)(l:FnAt P w K mg base "_law_draw" Ps17 cg 1)(B:FnAt P w K mg base "_law_order" Ps22 eB.m 2)(u:FnAt P w K mg base "_law_built" Ps27 hX.m 3)(z:FnAt P w K mg base "_law_many" Ps21 jt.m 2):mm X (aE jM) ie.m:=by unfold ie;apply cT<;>contradiction
def Jm{K:g_}(b:Ba P w K mg base)(D0:c_ K "is_whole" iS)(D1:c_ K "greatest_shared" dw)(D2:c_ K "number_of" gV)(D3:c_ K "plus" pc)(D4:c_ K "minus" mZ)(D5:c_ K "times" m8)(D6:c_ K "over" oN)(D7:c_ K "is_place" iI)(D8:c_ K "is_order" iJ)(D9:c_ K "check_order" fA)(ck:c_ K "add_times" gX)(cc:c_ K "parts_at" iF)(dc:c_ K "step_of" jE)(da:c_ K "struck_with" fy)(c2:c_ K "struck" lj)(c7:c_ K "put_back" iG)(c6:c_ K "_law_pen" nG)(ch:c_ K "_law_draw" lu)(b1:c_ K "_law_lowest" iD)(ar:c_ K "_law_same" sX)(cf:c_ K "_law_number" iL)(as:c_ K "_law_many" lA)(dr:c_ K "_law_order" jK)(df:c_ K "_law_rows" k8)(cB:c_ K "_law_plus" lB)(cs:c_ K "_law_times" jL)(c4:c_ K "_law_small" jA)(dk:c_ K "_law_built" jI)(ci:c_ K "_law_whole" jw)(dt:c_ K "_law_is_number" fC)(dq:c_ K "_law_are_parts" fB)(b4:c_ K "_law_is_work" gZ)(cx:c_ K "_law_multiplied" eX)(U:c_ K "_law_determinant" jB)(cv:c_ K "_law_first_ones" eN)(c3:c_ K "_law_struck" iP)(bm:c_ K "_law_drawn_right" d8)(de:c_ K "_law_right" jM)(ds:c_ K "law" o8)(z0:Zn K "abs")(z1:Zn K "all")(z2:Zn K "bool")(z3:Zn K "dict")(z4:Zn K "enumerate")(R:Zn K "int")(E:Zn K "isinstance")(S:Zn K "len")(Q:Zn K "list")(z9:Zn K "max")(an:Zn K "min")(l:Zn K "range")(C:Zn K "sorted")(i:Zn K "tuple")(dv:Zn K "zip")(u:lJ K "NOUGHT" 0 1)(O:lJ K "ONE" 1 1)(NP:QI K):FnAt P w K mg base "law" CD B5 14:=by
 have NP:=NP P w mg base b.kin b.ns;have a:=u.mg b.kin b.ns;have H:=O.mg b.kin b.ns;have a0:=wy (F:=cY) kS b D0 λX c d=>xn c d E z2 R;have a1:=wy (F:=cu) eY b D1 λX c d=>nQ c d;have a2:=wy (F:=bH) j3 b D2 λX c d=>uV c d z0 a1 a0;have a3:=wy (F:=fb) t9 b D3 λX c d=>Jk c d  a2;have a4:=wy (F:=j7) qf b D4 λX c d=>E3 c d  a2;have a5:=wy (F:=dZ) qI b D5 λX c d=>E4 c d  a2;have a6:=wy (F:=i6) t8 b D6 λX c d=>Jl c d  a2;have a7:=wy (F:=eS) kT b D7 λX c d=>xE c d  a0;have a8:=wy (F:=fX) lK b D8 λX c d=>wQ c d C Q l z1 E a7;have a9:=wy (F:=dR) ik b D9 λX c d=>r9 c d  a8;have ap:=Qr (B:=bF) (np:=3) jQ b ck λX c d=>uQ c d a a5 a3;have al:=wy (F:=cz) kU b cc λX c d=>wD c d i a;have b5:=wy (F:=fS) mH b dc λX c d=>yJ c d i a NP.rp al a6;have dn:=JN (k:=4) (N:=lS) (G:=lQ) (ps:=rV) b da λX e h g d=>su h g d (a4.c e) (ap.c e) (b5.c e) (e.n z4) (e.n C) (e.n z3) (e.e3▸e.e4▸a);have b3:=wy (F:=dL) oA b c2 λX c d=>AX c d  dn a9;have W:=JN (k:=4) (N:=oX) (G:=oS) (ps:=wC) b c7 λX e h g d=>wq h g d (al.c e) (ap.c e) (e.n Q) (e.n l) (e.n i) (e.e3▸e.e4▸H);have b2:=JN (k:=0) (N:=vz) (G:=u0) (ps:=E1) b c6 λX e h g d=>E2 h g d (e.n z0) (e.n S) (e.n an);have j:=JN (k:=0) (N:=sP) (G:=tf) (ps:=Ae) b ch λX e h g d=>AN h g d;have y:=wy (F:=bi) k7 b b1 λX c d=>w4 c d z0;have z:∀n,FnAt P w K mg base "_law_same" _ (dm n).m (0+n+1):=λn=>by
  induction n with
  |zero=>exact Mr (np:=2) ["_law_found","_law_due"] b ar
  |succ n ih=>exact wy (F:=dm (n+1)) (B:=fF (dm n)) ["_law_found","_law_due"] b ar λX c d=>by unfold fF;apply cT<;>contradiction
 have z:FnAt P w K mg base "_law_same" _ dh.m 9:=z 8;have cm:=wy (F:=dN) lD b cf λX c d=>xj c d  j y;have dj:=wy (F:=jt) nX b as λX c d=>zQ c d  j;have ai:=wy (F:=eB) mj b dr λX c d=>yV c d l j;have b6:=wy (F:=ja) oi b df λX c d=>AL c d i l R j cm;have b9:=wy (F:=fL) oG b cB λX c d=>Af c d  y;have ab:=wy (F:=bR) mx b cs λX c d=>xV c d  y;have cn:=wy (F:=cF) my b c4 λX c d=>yd c d R j y;have c1:=wy (F:=hX) mO b dk λX c d=>zp c d z4 i C R cn j;have M:=wy (F:=bQ) mU b ci λX c d=>yj c d E z2 R;have Z:=wy (F:=bI) iB b dt λX c d=>sj c d S E i y M;have cd:=wy (F:=bS) iA b dq λX c d=>ss c d S E i Z M;have cp:=wy (F:=d3) jY b b4 λX c d=>uM c d z4 S E i Q cd Z M;have ak:=JN (k:=2) (N:=kx) (G:=kL) (ps:=ql) b cx λX e h g d=>qu h g d (ab.c e) (b9.c e) (e.n z4) (e.n i) (e.n l);have L:∀n,FnAt P w K mg base "_law_determinant" _ (bg n).m (2+n+1):=λn=>by
  induction n with
  |zero=>exact Mr (np:=1) ["_law_grid","_law_found","_law_j","_law_number_here","_law_part"] b U
  |succ n ih=>exact wy (F:=bg (n+1)) (B:=cb (bg n)) ["_law_grid","_law_found","_law_j","_law_number_here","_law_part"] b U λX c d=>by unfold cb;apply cT<;>contradiction
 have L:FnAt P w K mg base "_law_determinant" _ b8.m 11:=L 8;have b0:=wy (F:=bW) gP b cv λX c d=>qR c d z3;have db:=wy (F:=cA) lh b c3 λX c d=>wP c d Q NP.t2 b3;have ca:=wy (F:=ce) fV b bm λX c d=>pG c d E Q l W z ak ab cp b0 L db ai b6 j;have di:=wy (F:=dI) mz b de λX c d=>xF c d Q R ca ak W z j ai c1 dj;have c5:=JN (k:=13) (N:=FY) (G:=FZ) (ps:=CD) b ds λX e h g d=>MY h g d (b2.c e) (di.c e) (e.n l) (e.n S) (e.n an) (e.n z9) (e.n z1);exact c5
end Law
namespace PySem.W.Fast
def tw1493497140882916838:=0
def tw3248458273337565568:=0
def tw8386061554914049584:=0
def tw1751984724047466785:=0
def tw8347487616693111813:=0
def tw11224867600694302942:=0
def tw17800403845457793816:=0
def tw4020678310202009374:=0
def tw1924712315052697886:=0
def tw849083258808116716:=0
def tw7426174529512844885:=0
def tw8302864242071347221:=0
def tw9923167876266829341:=0
def tw11742890093556243311:=0
def tw15347367944118271812:=0
def tw11826382048885107912:=0
def tw2071384919576684068:=0
def tw2121488709148697909:=0
def tw15719329306794161735:=0
def tw3523638712652099326:=0
def tw2922207713969506081:=0
def tw16640716534257999012:=0
def tw3399334527483670046:=0
def tw4734148728067052035:=0
def tw16399511631900396314:=0
def tw5429058844976323484:=0
def tw4226372414804013843:=0
def tw7169733526803562972:=0
def tw13740572590417742682:=0
def tw7964031035814735874:=0
def tw14049006284928193255:=0
def tw18143346297685056425:=0
def tw13172087791298050249:=0
def tw2392326519640660342:=0
def tw3197497346177860901:=0
def tw16883609810355168086:=0
def tw9339359740114880681:=0
def tw4236193066468205629:=0
def tw1678463555096212844:=0
def tw12849408835928085092:=0
def tw12490820270155737856:=0
def tw6708735927340544748:=0
def tw9070891587581829347:=0
def tw12424326809720084994:=0
def tw12776062297796053347:=0
def tw5531095744078374571:=0
def tw11197533801008182443:=0
def tw18251479517313546359:=0
def tw8181217957051892003:=0
def tw15474538817016900546:=0
def tw3141136706883366176:=0
def tw14648121758797179893:=0
def tw12335729046068398832:=0
def tw13088842091507046778:=0
def tw5248603321183201214:=0
def tw2093841571656520456:=0
def tw11895694424327231407:=0
def tw16562703705756181749:=0
def tw12016915364225528099:=0
def tw15488165482712299512:=0
def tw3596680762540835491:=0
def tw2543854253085292799:=0
def tw6257626994502950315:=0
def tw6070201778987707299:=0
def tw9072201435053850100:=0
def tw2797854059730959424:=0
def tw8995380363465304052:=0
def tw649212822436840868:=0
def tw12755753194557252449:=0
def tw3505116666905727338:=0
def tw801978389752029943:=0
def tw7452542395315793219:=0
def tw15461063705621546169:=0
def tw3473215716988106764:=0
def tw16085684355125020360:=0
def tw3244411973925561839:=0
def tw12606183534917531945:=0
def tw13533189986539252021:=0
def tw5155766794244632489:=0
def tw1357744166425116561:=0
def tw173182745630467581:=0
def tw5418051513658658317:=0
def tw1178874086916976236:=0
def tw6401888534655509755:=0
def tw14794626350099146093:=0
def tw2973543946783065840:=0
def tw3448554142058100339:=0
def tw13520910251110059256:=0
def tw11556663004336958407:=0
def tw15841135059310365586:=0
def tw12454611203045876803:=0
def tw17804145828887862789:=0
def tw11899875880819277246:=0
def tw11808560672831933152:=0
def tw15247730977839731553:=0
def tw4607254337870505532:=0
def tw8402067573151898940:=0
def tw18168712692089534264:=0
def tw4798879548409982905:=0
def tw6579647827814457084:=0
def tw4618758143167511791:=0
def tw11265621480683491433:=0
def tw3650135480007054987:=0
def tw12504155082578752944:=0
def tw6304141743806950376:=0
def tw15071980689428158917:=0
def tw9122503864232043885:=0
def tw9178965270724861898:=0
def tw2781985022920231380:=0
def tw23947152945411382:=0
def tw12522711912633334356:=0
def tw3025372514722709373:=0
def tw7343122819711642421:=0
def tw11449507743857284197:=0
def tw10841898704793648545:=0
def tw12148030057151512275:=0
def tw9318008187152405500:=0
def tw11601862848781866562:=0
def tw4637206481571983907:=0
def tw18287479980445959743:=0
end PySem.W.Fast
open PySem PySem.W PyProof.Rows
local macro_rules | `(tactic| and_intros) => `(tactic| (dsimp only [L2.ng]; first | k_is | (refine' MM.Cu ?a ?l ?c ?k; (case a => k_is); (case l => k_is); (case c => k_is); (case k => k_is))))
set_option maxRecDepth 100000 in
set_option maxHeartbeats 0 in
theorem PySem.Challenge.cw_fewfills_k31_works_put_back_holds : PySem.Challenge.rw_fewfills_k31_works_put_back.Holds := by
  w_on; o_law; k_head; (case hw=>w_witness2)
  k_fill
  refine MM.Hh (l:=PySem.Challenge.rw_fewfills_k31_works_put_back) (k:=14) (x:="_law_script") (F:=Law.B5) rfl rfl ⟨rfl,by decide,by decide,rfl⟩ (by decide +kernel) rfl (fun w h Y=>PySem.W.kIn_of Y) ?F Law.CC
  case F=>
    intro w mg fa h KX G hmg
    have Dlaw:MM.c_ (L2.ng KX) "law" Law.o8:=by and_intros
    have D0:MM.c_ (L2.ng KX) "is_whole" Law.iS:=by and_intros
    have D1:MM.c_ (L2.ng KX) "greatest_shared" Law.dw:=by and_intros
    have D2:MM.c_ (L2.ng KX) "number_of" Law.gV:=by and_intros
    have D3:MM.c_ (L2.ng KX) "plus" Law.pc:=by and_intros
    have D4:MM.c_ (L2.ng KX) "minus" Law.mZ:=by and_intros
    have D5:MM.c_ (L2.ng KX) "times" Law.m8:=by and_intros
    have D6:MM.c_ (L2.ng KX) "over" Law.oN:=by and_intros
    have D7:MM.c_ (L2.ng KX) "is_place" Law.iI:=by and_intros
    have D8:MM.c_ (L2.ng KX) "is_order" Law.iJ:=by and_intros
    have D9:MM.c_ (L2.ng KX) "check_order" Law.fA:=by and_intros
    have D10:MM.c_ (L2.ng KX) "add_times" Law.gX:=by and_intros
    have D11:MM.c_ (L2.ng KX) "parts_at" Law.iF:=by and_intros
    have D12:MM.c_ (L2.ng KX) "step_of" Law.jE:=by and_intros
    have D13:MM.c_ (L2.ng KX) "struck_with" Law.fy:=by and_intros
    have D14:MM.c_ (L2.ng KX) "struck" Law.lj:=by and_intros
    have D15:MM.c_ (L2.ng KX) "put_back" Law.iG:=by and_intros
    have D16:MM.c_ (L2.ng KX) "_law_pen" Law.nG:=by and_intros
    have D17:MM.c_ (L2.ng KX) "_law_draw" Law.lu:=by and_intros
    have D18:MM.c_ (L2.ng KX) "_law_lowest" Law.iD:=by and_intros
    have D19:MM.c_ (L2.ng KX) "_law_same" Law.sX:=by and_intros
    have D20:MM.c_ (L2.ng KX) "_law_number" Law.iL:=by and_intros
    have D21:MM.c_ (L2.ng KX) "_law_many" Law.lA:=by and_intros
    have D22:MM.c_ (L2.ng KX) "_law_order" Law.jK:=by and_intros
    have D23:MM.c_ (L2.ng KX) "_law_rows" Law.k8:=by and_intros
    have D24:MM.c_ (L2.ng KX) "_law_plus" Law.lB:=by and_intros
    have D25:MM.c_ (L2.ng KX) "_law_times" Law.jL:=by and_intros
    have D26:MM.c_ (L2.ng KX) "_law_small" Law.jA:=by and_intros
    have D27:MM.c_ (L2.ng KX) "_law_built" Law.jI:=by and_intros
    have D28:MM.c_ (L2.ng KX) "_law_whole" Law.jw:=by and_intros
    have D29:MM.c_ (L2.ng KX) "_law_is_number" Law.fC:=by and_intros
    have D30:MM.c_ (L2.ng KX) "_law_are_parts" Law.fB:=by and_intros
    have D31:MM.c_ (L2.ng KX) "_law_is_work" Law.gZ:=by and_intros
    have D32:MM.c_ (L2.ng KX) "_law_multiplied" Law.eX:=by and_intros
    have D33:MM.c_ (L2.ng KX) "_law_determinant" Law.jB:=by and_intros
    have D34:MM.c_ (L2.ng KX) "_law_first_ones" Law.eN:=by and_intros
    have D35:MM.c_ (L2.ng KX) "_law_struck" Law.iP:=by and_intros
    have D36:MM.c_ (L2.ng KX) "_law_drawn_right" Law.d8:=by and_intros
    have D37:MM.c_ (L2.ng KX) "_law_right" Law.jM:=by and_intros
    have Z38:PySem.W.nsIn (L2.ng KX) mainGlobals "abs" = some none:=by and_intros
    have Z39:PySem.W.nsIn (L2.ng KX) mainGlobals "all" = some none:=by and_intros
    have Z40:PySem.W.nsIn (L2.ng KX) mainGlobals "bool" = some none:=by and_intros
    have Z41:PySem.W.nsIn (L2.ng KX) mainGlobals "dict" = some none:=by and_intros
    have Z42:PySem.W.nsIn (L2.ng KX) mainGlobals "enumerate" = some none:=by and_intros
    have Z43:PySem.W.nsIn (L2.ng KX) mainGlobals "int" = some none:=by and_intros
    have Z44:PySem.W.nsIn (L2.ng KX) mainGlobals "isinstance" = some none:=by and_intros
    have Z45:PySem.W.nsIn (L2.ng KX) mainGlobals "len" = some none:=by and_intros
    have Z46:PySem.W.nsIn (L2.ng KX) mainGlobals "list" = some none:=by and_intros
    have Z47:PySem.W.nsIn (L2.ng KX) mainGlobals "max" = some none:=by and_intros
    have Z48:PySem.W.nsIn (L2.ng KX) mainGlobals "min" = some none:=by and_intros
    have Z49:PySem.W.nsIn (L2.ng KX) mainGlobals "range" = some none:=by and_intros
    have Z50:PySem.W.nsIn (L2.ng KX) mainGlobals "sorted" = some none:=by and_intros
    have Z51:PySem.W.nsIn (L2.ng KX) mainGlobals "tuple" = some none:=by and_intros
    have Z52:PySem.W.nsIn (L2.ng KX) mainGlobals "zip" = some none:=by and_intros
    have YNOUGHT:MM.lJ (L2.ng KX) "NOUGHT" 0 1:=by
      dsimp only [L2.ng]
      refine' MM.vn ?h ?l
      (case h=>k_is)
      (case l=>k_is)
    have YONE:MM.lJ (L2.ng KX) "ONE" 1 1:=by
      dsimp only [L2.ng]
      refine' MM.vn ?h ?l
      (case h=>k_is)
      (case l=>k_is)
    have NP:Law.QI (L2.ng KX):=by
      dsimp only [L2.ng]
      refine' Law.Ji ?p0 ?p1 ?p2 ?p3 ?p4 ?p5 ?p6 ?p7 ?p8 ?p9 ?p10 ?p11 ?p12 ?p13 ?p14 ?p15 ?p16 ?p17 ?p18 ?p19 ?p20 ?p21
      (case p0=>k_is)
      (case p1=>k_is)
      (case p2=>k_is)
      (case p3=>k_is)
      (case p4=>first | with_unfolding_all rfl | simp)
      (case p5=>k_is)
      (case p6=>k_exc)
      (case p7=>k_is)
      (case p8=>k_is)
      (case p9=>k_is)
      (case p10=>k_is)
      (case p11=>k_is)
      (case p12=>k_is)
      (case p13=>k_is)
      (case p14=>k_is)
      (case p15=>k_is)
      (case p16=>k_is)
      (case p17=>k_is)
      (case p18=>k_is)
      (case p19=>k_is)
      (case p20=>k_is)
      (case p21=>k_is)
    exact MM.Hg Dlaw Law.Jj hmg KX G fun base kb nb=>Law.Jm ⟨kb,nb⟩ D0 D1 D2 D3 D4 D5 D6 D7 D8 D9 D10 D11 D12 D13 D14 D15 D16 D17 D18 D19 D20 D21 D22 D23 D24 D25 D26 D27 D28 D29 D30 D31 D32 D33 D34 D35 D36 D37 Dlaw Z38 Z39 Z40 Z41 Z42 Z43 Z44 Z45 Z46 Z47 Z48 Z49 Z50 Z51 Z52 YNOUGHT YONE NP
