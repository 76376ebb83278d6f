import PyProof.Rows.All
import Wide.All
import OpenK.AllK
import Wide.FinOn
import Lean
import PyProof.EqAt
import PyProof.EqKinds
import PyProof.TupleCall
import PyProof.ReprRoads
import PyProof.FitsInt
import PyProof.FitsBits
import PyProof.Rows.IntMath
import PyProof.ConsumeWalk
import PyProof.WalkInts
import PyProof.ListRange
import PySem.SetTable
import PyProof.SetKind
import PyProof.TupleKey
import PyProof.DictKinds
import PyProof.IsRules
import PyProof.Rows.SetFrom
import PyProof.CollectIter
import PyProof.ForAny
import PyProof.Rows.SortRuns
import PyProof.Rows.SortKey
import KE.KSortTup
import PyProof.ZipIter
import PyProof.Draws
import PyProof.EnumMake
import PyProof.TupleIter
import PyProof.P3Eq
import PyProof.StrCalls2
import PyProof.StrCalls3
import PyProof.FString
import PyProof.SetRoads
import PyProof.Rows.SeqMore
import PyProof.CallFns
import PyProof.StrOps
import PyProof.Rows.Chain
import PyProof.Rows.TupDisplay
import PyProof.MeetsSeq
import KE.KDictList
import PyProof.DictRoadsH
import PySem.Challenge.RW_fewfills_k25_pairs_that_may_come
set_option Elab.async false
set_option bootstrap.genMatcherCode false
set_option compiler.extract_closed false
set_option genSizeOf false
set_option linter.all false
set_option maxRecDepth 100000
noncomputable section
local macro_rules|`(command|def $i:declId $s:optDeclSig $v:declVal)=>`(command|noncomputable def $i:declId $s:optDeclSig $v:declVal)
local macro_rules|`(command|abbrev $i:declId $s:optDeclSig $v:declVal)=>`(command|noncomputable abbrev $i:declId $s:optDeclSig $v:declVal)
open PySem
abbrev _root_.Q1:=List Str
abbrev _root_.Q2:=List Int
abbrev _root_.Q3:=List (List Int)
abbrev _root_.Q4:=List Nat
abbrev _root_.Q6:=List Addr
abbrev _root_.Q7:=List Value
abbrev _root_.Q8:=List (Addr×Obj)
abbrev _root_.Q9:=Option Value
abbrev _root_.RL:=Option Int
abbrev _root_.RM:=List Expr
abbrev _root_.RQ:=Value->Shared->Prop
abbrev _root_.RT:=Str->Option Value
abbrev _root_.RV:=Option Nat
abbrev c_:=@wpAny_bind
abbrev g_:=@PySem.W.Frag
abbrev n3:=@Heap.get?_push_of_some
abbrev l_:=@List.mem_cons_of_mem
abbrev ii:=@Nat.le_refl
abbrev h_:=@wpAny_pure
abbrev qp:=@List.getElem?_eq_some_iff
abbrev b_:=@if_pos
abbrev pk:=@List.mem_append_right
abbrev d_:=@if_neg
abbrev mh:=@List.mem_append
abbrev o0:=@Bool.false_eq_true
abbrev n9:=@List.size_toArray
abbrev ub:=@Option.map_eq_some_iff
abbrev rc:=@List.getElem?_set_ne
abbrev sv:=@List.mem_append_left
abbrev xu:=@List.getElem?_append_left
abbrev q_:=@Nat.lt_of_lt_of_le
abbrev mu:=@List.mem_cons
abbrev n_:=@List.length_map
abbrev rl:=@List.mem_cons_self
abbrev tr:=@Heap.get?_push_size
abbrev nt:=@List.map_cons
abbrev l7:=@Nat.le_trans
abbrev uY:=@Array.getElem?_toList
abbrev mj:=@Heap.lt_size
abbrev s_:=@List.getElem?_map
abbrev uy:=@List.set_cons_succ
abbrev uD:=@List.set_cons_zero
abbrev n6:=@List.mem_map
abbrev v3:=@List.length_append
abbrev yL:=@List.mem_iff_getElem?
abbrev zE:=@List.getElem?_append_right
abbrev qr:=@Nat.zero_add
abbrev yU:=@Array.length_toList
abbrev zF:=@List.getElem?_eq_getElem
abbrev xZ:=@Int.toNat_natCast
abbrev zp:=@List.getElem?_set_self
abbrev zG:=@List.getElem?_cons_succ
abbrev zH:=@List.getElem?_cons_zero
abbrev tt:=@Nat.ne_of_lt
abbrev zI:=@List.mem_of_getElem?
abbrev u0:=@Nat.le_of_lt
abbrev y_:=@List.length_cons
abbrev Ag:=@List.getElem?_replicate
abbrev ux:=@Nat.zero_le
abbrev AC:=@Option.bind_eq_some_iff
abbrev AD:=@List.length_eq_zero_iff
abbrev zJ:=@List.append_assoc
abbrev zq:=@Option.getD_some
abbrev zR:=@List.nodup_append
abbrev AE:=@List.length_filter_le
abbrev zS:=@Option.bind_some
abbrev zT:=@List.mem_filter
abbrev C2:=@List.take_of_length_le
abbrev zr:=@Nat.lt_irrefl
abbrev AF:=@List.mem_singleton
abbrev C3:=@List.take_append_drop
abbrev AQ:=@Bool.false_ne_true
abbrev zt:=@List.map_nil
abbrev zu:=@List.map_map
abbrev AG:=@List.length_take
abbrev C4:=@Nat.add_sub_cancel'
abbrev DI:=@List.getElem?_eq_none
abbrev AR:=@Array.toList_push
abbrev C5:=@List.mem_filterMap
abbrev AT:=@List.lookup_cons
abbrev AU:=@List.take_length
abbrev Ii:=@Array.getElem?_eq_some_iff
abbrev DJ:=@Array.toList_append
abbrev Ij:=@Array.getElem?_eq_getElem
abbrev AH:=@List.take_succ
abbrev Hs:=@Heap.get?_update_self
abbrev Ht:=@List.getElem?_toArray
abbrev AV:=@Array.size_push
abbrev AW:=@List.length_nil
abbrev DK:=@Nat.sub_add_cancel
abbrev C6:=@Array.toList_inj
abbrev DL:=@Nat.le_of_lt_succ
abbrev C7:=@Nat.min_eq_left
abbrev Ik:=@Array.getElem?_extract
abbrev Il:=@List.drop_eq_nil_of_le
abbrev DM:=@List.length_drop
abbrev DN:=@Nat.succ_le_succ
abbrev DO:=@List.mem_flatMap
abbrev Im:=@List.length_replicate
abbrev C8:=@Heap.size_push
abbrev Lj:=@List.pairwise_iff_getElem
abbrev Io:=@Nat.le_sub_one_of_lt
abbrev Lk:=@List.getElem?_take_of_lt
abbrev Hu:=@Bool.not_eq_true'
abbrev Hv:=@Nat.lt_succ_of_lt
abbrev Hw:=@Nat.le_of_succ_le
abbrev AX:=@Nat.ne_of_gt
abbrev Ip:=@Heap.get?_update_ne
abbrev Hx:=@Nat.lt_succ_self
abbrev Hy:=@List.not_mem_nil
abbrev Hz:=@Nat.le_add_right
abbrev HA:=@List.filter_cons
abbrev Ll:=@Heap.get?_update_other
abbrev Iq:=@List.pairwise_cons
abbrev Ir:=@Nat.pos_of_ne_zero
abbrev HD:=@List.append_nil
abbrev Lm:=@List.dropLast_eq_take
abbrev HE:=@List.map_append
abbrev Ln:=@List.length_singleton
abbrev Is:=@Array.size_append
abbrev Iu:=@List.pairwise_map
abbrev Iv:=@List.ext_getElem?
abbrev AI:=@Nat.sub_le
abbrev MC:=@Array.getElem?_eq_none_iff
abbrev MD:=@Array.perm_iff_toList_perm
abbrev MF:=@Int.fmod_eq_emod_of_nonneg
abbrev Lo:=@Array.toList_extract
abbrev Lp:=@List.mem_of_mem_take
abbrev MK:=@List.drop_eq_getElem_cons
abbrev ML:=@List.extract_eq_take_drop
abbrev Ix:=@Bool.and_eq_true
abbrev Iy:=@List.perm_middle
abbrev Iz:=@Nat.sub_sub_self
abbrev Lq:=@List.filterMap_cons
abbrev C9:=@Nat.le_succ
abbrev Lr:=@Nat.sub_le_sub_left
abbrev Ls:=@Nat.add_lt_add_left
abbrev IA:=@List.nodup_cons
abbrev IB:=@Option.map_some
abbrev HF:=@List.any_cons
abbrev MN:=@List.pairwise_filterMap
abbrev HG:=@Bool.not_true
abbrev Lu:=@List.getElem?_drop
abbrev Lv:=@Nat.lt_of_le_of_lt
abbrev MP:=@Array.getElem?_eq_none
abbrev C_:=@Nat.sub_lt
abbrev DP:=@Nat.one_pos
abbrev IC:=@List.mem_range
abbrev Lw:=@List.all_eq_true
abbrev Lx:=@List.nodup_range
abbrev Ly:=@Nat.min_eq_right
abbrev Lz:=@List.any_eq_true
abbrev MQ:=@List.map_congr_left
abbrev MU:=@List.getElem_of_mem
abbrev Pk:=@List.perm_ext_iff_of_nodup
abbrev Pm:=@List.perm_append_singleton
abbrev MV:=@Bool.not_eq_false'
abbrev LA:=@List.nodup_nil
abbrev Po:=@List.exists_mem_of_ne_nil
abbrev MX:=@List.take_sublist
abbrev MY:=@List.foldl_append
abbrev Pp:=@List.length_filterMap_le
abbrev Pq:=@Nat.add_sub_cancel_left
abbrev Pr:=@List.pairwise_mergeSort
abbrev Ps:=@List.filter_cons_of_pos
abbrev Pt:=@List.filter_cons_of_neg
abbrev MZ:=@Nat.lt_of_not_le
abbrev Pu:=@List.range_succ_eq_map
abbrev Pw:=@List.pairwise_lt_range
abbrev Px:=@List.getElem_cons_drop
abbrev Py:=@Nat.sub_eq_zero_iff_le
abbrev Pz:=@Nat.eq_zero_of_not_pos
abbrev M0:=@List.of_mem_zip
abbrev M1:=@List.foldl_cons
abbrev LD:=@Nat.lt_trans
abbrev PC:=@Nat.le_sub_of_add_le'
abbrev PD:=@List.perm_append_comm
abbrev PF:=@Nat.le_of_sub_eq_zero
abbrev M2:=@Bool.and_false
abbrev M3:=@Bool.not_false
abbrev M4:=@Nat.sub_add_eq
abbrev M5:=@Bool.and_self
abbrev M6:=@Nat.le_of_eq
noncomputable section
local macro_rules | `(tactic| ext) => `(tactic| omega)
local instance (priority:=1) cdec (p:Prop):Decidable p:=Classical.propDecidable p
local macro_rules | `(⋯) => `(by lia)
open Option renaming some->J,none->Y
open Bool renaming true->I,false->T
namespace L2
open PySem.Spec PyProof.Rows
abbrev zv:=Sum Int Str
def Db:zv->Value->Bool
 |.inl k,v=>Value.isInt k v
 |.inr x,v=>Value.isStrOf x v
def M7(w:World):zv->Int
 |.inl k=>hashInt k
 |.inr x=>hashStr w x
def bD:∀{k:zv}{v:Value},Db k v=I->(∃i t,k=Sum.inl i/\v=Value.int i t)\/(∃x t,k=Sum.inr x/\v=Value.str x t)
 |.inl i,v,h=>by
  obtain⟨t,e⟩:=Value.isInt_shape h;exact .inl ⟨i,t,rfl,e⟩
 |.inr x,v,h=>by
  obtain⟨t,e⟩:=Value.isStrOf_shape h;exact .inr ⟨x,t,rfl,e⟩
def DQ(a b:Int):decide ((Sum.inl a:zv)=Sum.inl b)=(a==b):=by
 by_cases e:a=b
 .subst e;simp
 .have h:¬(Sum.inl a:zv)=Sum.inl b:=λq=>e (Sum.inl.inj q);rw[decide_eq_false h];exact(beq_eq_false_iff_ne.mpr e).symm
def DU(a b:Str):decide ((Sum.inr a:zv)=Sum.inr b)=decide (a=b):=by simp
def DV(a:Int)(b:Str):decide ((Sum.inl a:zv)=Sum.inr b)=T:=decide_eq_false (λq=>nomatch q)
def DW(a:Str)(b:Int):decide ((Sum.inr a:zv)=Sum.inl b)=T:=decide_eq_false (λq=>nomatch q)
def mV(prog:Program)(w:World):PySem.KeyKind prog w zv where
 is:=Db
 hash:=M7 w
 inj:=λv a b l f=>by
  rcases bD l with⟨i,t,rfl,rfl⟩|⟨x,t,rfl,rfl⟩
  .rcases bD f with⟨j,u,rfl,e⟩|⟨y,u,rfl,e⟩
   .injection e with e1 _;rw[e1]
   .exact nomatch e
  .rcases bD f with⟨j,u,rfl,e⟩|⟨y,u,rfl,e⟩
   .exact nomatch e
   .injection e with e1 _;rw[e1]
 byValue:=λk v h=>by
  rcases bD h with⟨i,t,rfl,rfl⟩|⟨x,t,rfl,rfl⟩<;>rfl
 pyHash:=λhv h=>by
  rcases bD hv with⟨i,t,rfl,rfl⟩|⟨x,t,rfl,rfl⟩
  .exact wpAny_pyHash_int h
  .exact wpAny_pyHash_str h
 eqBool:=λr hv h=>by
  rcases bD r with⟨i,t,rfl,rfl⟩|⟨x,t,rfl,rfl⟩
  .rcases bD hv with⟨j,u,rfl,rfl⟩|⟨y,u,rfl,rfl⟩
   .rw[DQ]at h;exact wpAny_eqBool_int h
   .rw[DV]at h;exact SeqAt.EqAt.int_str i t y u _ _ _ _ h
  .rcases bD hv with⟨j,u,rfl,rfl⟩|⟨y,u,rfl,rfl⟩
   .rw[DW]at h;exact SeqAt.EqAt.str_int x t j u _ _ _ _ h
   .rw[DU]at h;exact wpAny_eqBool_str h
 «strs»:=λk x t v h=>by
  rcases bD h with⟨i,u,rfl,e⟩|⟨y,u,rfl,e⟩
  .exact nomatch e
  .injection e with e1 _
   subst e1;cases v<;>rfl
inductive V where
 |non | bl (b:Bool) | int (i:Int) | str (x:Str) | byt (b:Array UInt8) | flt (b:UInt64) | ref (a:Addr) | ty (n:String)
 deriving DecidableEq
def aR:V->Value->Prop
 |.non,u=>u=Value.none
 |.bl b,u=>u=Value.bool b
 |.int i,u=>∃t,u=Value.int i t
 |.str x,u=>∃t,u=Value.str x t
 |.byt b,u=>∃t,u=Value.bytes b t
 |.flt b,u=>∃t,u=Value.float b t
 |.ref a,u=>u=Value.ref a
 |.ty n,u=>u=Value.type n
abbrev au:List V->Q7->Prop:=Paired aR
def au.length(r:au xs us):xs.length=us.length:=Paired.length r
def au.get{xs:List V}{a:Q7}{i:Nat}{x:V}(r:au xs a)(e:xs[i]?=J x):∃u,a[i]?=J u/\aR x u:=by
 induction r generalizing i with
 |nil=>cases e
 |cons r t f =>
  cases i with
  |zero=>cases e;exact⟨_,rfl,r⟩
  |succ i=>have z:=@f i e;exact z
def au.set(r:aR x u)(i:Nat)(q:au xs us):au (xs.set i x) (us.set i u):=by
 induction q generalizing i with
 |nil=>exact .nil
 |cons a t f =>
  cases i with
  |zero=>exact .cons r t
  |succ i=>exact .cons a (f i)
def au.append(r:au xs us)(s:au ys ws):au (xs++ys) (us++ws):=by
 induction r with
 |nil=>exact s
 |cons r t a=>exact .cons r a
def au.take(n:Nat)(r:au xs us):au (xs.take n) (us.take n):=by
 induction r generalizing n with
 |nil=>cases n<;>exact .nil
 |cons a t f =>
  cases n with
  |zero=>exact .nil
  |succ n=>exact .cons a (f n)
def au.drop(n:Nat)(r:au xs us):au (xs.drop n) (us.drop n):=by
 induction r generalizing n with
 |nil=>cases n<;>exact .nil
 |cons a t f =>
  cases n with
  |zero=>exact .cons a t
  |succ n=>exact f n
def ID:Option V->Q9->Prop
 |some v,J u=>aR v u
 |none,Y=>True
 |_,_=>False
def KV{κ:Type}:List (κ×V)->List (κ×Value)->Prop:=Paired λ(p:κ×V)(q:κ×Value)=>p.1=q.1/\aR p.2 q.2
def kV:zv->V
 |.inl i=>.int i
 |.inr x=>.str x
inductive HO where
 |lst(xs:List V)
 |tup(xs:List V)
 |dK(kvs:List (zv×V)) | dT (kvs:List (List zv×V))
 |set(S:Int->Bool)(n:Nat)
 |ins(C dx:Addr)(fs:List (Str×V))
 |own(x:Addr)
 |xd(fs:List (Str×V))
 |met(f x:Addr)
 |rng(lo hi:Int)
 |frz(o:Obj)(u:HO)
 |tbl(ps:Array Value)
 |ext(φ:Heap->Prop)
abbrev Hp:=Addr->Option HO
def lg(H:Hp)(a:Addr)(o:HO):Hp:=λb=>if b=a then J o else H b
def bI:lg H a o a=J o:=by unfold lg;rw[b_ rfl]
def aT(h:b≠a):lg H a o b=H b:=by unfold lg;rw[d_ h]
def bv{H:Hp}{a b:Addr}{o:HO}(h:H a=J o)(f:H b=Y):a≠b:=by intro e;subst e;rw[h]at f;cases f
def gz(h:Heap)(a:Addr)(f:Array Value):Prop:=∃o,h.get? a=J o/\o.cls=.type "tuple"/\(∃n,o.data=.seq f n)/\o.dict=Y
def gz.tup(t:gz h a its):IsTup h a its:=let⟨o,e,c,d,_⟩:=t;⟨o,e,c,d⟩
def gz.lt(t:gz h a its):a<h.objs.size:=t.tup.lt
def gz.new(h:Heap)(a:Array Value):gz (h.push { cls:=.type "tuple",data:=.seq a}) h.objs.size a:=⟨_,tr h rfl,rfl,⟨_,rfl⟩,rfl⟩
section
variable(P:Program)(w:World)
def ObjOk(H:Hp)(h:Heap)(a:Addr):HO->Prop
 |.lst xs=>xs.length<=sizeLine/\∃(j:Q7) (n:Nat),au xs j/\h.get? a=J { cls:=.type "list",data:=.seq j.toArray n}
 |.tup xs=>xs.length<=sizeLine/\∃j:Q7,au xs j/\gz h a j.toArray
 |.dK i=>i.length<=sizeLine/\(a==sysModules)=T/\∃y,KV i y/\h.DictOf (mV P w) a y
 |.dT i=>i.length<=sizeLine/\(a==sysModules)=T/\∃xs:List (List zv×Addr×Value),
   Paired (λ(p:List zv×V)(q:List zv×Addr×Value)=>p.1=q.1/\H q.2.1=J (.tup (p.1.map kV))/\aR p.2 q.2.2) i xs /\
   ∃o z L,h.get? a=J o/\o.ExactDict/\o.data=.dict z L/\z.toList=xs.map (entryOfKey (tupleKind (mV P w)))/\(xs.map (·.1)).Nodup
 |.set S n=>h.SetOf (intKind P w) a S n
 |.ins C r fs=>H r=J (.own a)/\fs.length<=1000/\r≠a/\h.get? a=J (PySem.W.instObj C r) /\
   ∃l,h.Ns1 r l/\(∀f,ID (fs.lookup f) (l f))/\PySem.Within l (fs.map (·.1))
 |.own _=>∃o,h.get? a=J o
 |.xd fs=>∃l,h.Ns1 a l/\∀f,ID (fs.lookup f) (l f)
 |.rng lo F=>∃t u v,h.get? a=J { cls:=.type "range",data:=.fields #[.int lo t,.int F u,.int 1 v]}
 |.frz o u=>h.get? a=J o/\ObjOk H h a u
 |.tbl G=>h.get? a=J { cls:=.none,data:=.fields G}
 |.met f x=>h.get? a=J (PySem.W.methodObj (.ref f) (.ref x))
 |.ext φ=>φ h/\(∃o,h.get? a=J o)/\∀B E:Heap,φ B->(∀o,B.get? a=J o->E.get? a=J o)->φ E
def HOk(H:Hp)(h:Heap):Prop:=∀a o,H a=J o->ObjOk P w H h a o
end
section
variable{P:Program}{w:World}{H H':Hp}{h h':Heap}{a:Addr}{o:HO}
def ObjOk.lt(x:ObjOk P w H h a o):a<h.objs.size:=by
 cases o with
 |lst xs=>obtain⟨_,_,_,_,e⟩:=x;exact mj e
 |tup xs=>obtain⟨_,_,_,p⟩:=x;exact p.lt
 |dK i=>obtain⟨_,_,_,_,o,_,_,e,_⟩:=x;exact mj e
 |dT i=>obtain⟨_,_,_,_,o,_,_,e,_⟩:=x;exact mj e
 |set S n=>obtain⟨o,_,_,_,e,_⟩:=x;exact mj e
 |ins C l fs=>obtain⟨_,_,_,e,_⟩:=x;exact mj e
 |own y=>obtain⟨_,e⟩:=x;exact mj e
 |xd fs=>obtain⟨_,⟨_,_,_,e,_⟩,_⟩:=x;exact mj e
 |rng lo j=>obtain⟨_,_,_,e⟩:=x;exact mj e
 |frz r u=>obtain⟨e,_⟩:=x;exact mj e
 |tbl z=>exact mj (x)
 |met f y=>exact mj (x)
 |ext φ=>obtain⟨_,⟨_,e⟩,_⟩:=x;exact mj e
def Paired.mapP{α β:Type}{F G:α->β->Prop}{i:List α}{j:List β}(r:Paired F i j)(f:∀a b,F a b->G a b):Paired G i j:=by
 induction r with
 |nil=>exact .nil
 |cons r t l=>exact .cons (f _ _ r) l
def ObjOk.stay(x:ObjOk P w H h a o)(k:∀b u,(b=a\/H b=J (.own a))->h.get? b=J u->h'.get? b=J u)(Q:∀b,H b=J (.own a)->H' b=J (.own a))(M:∀b xs,H b=J (.tup xs)->H' b=J (.tup xs)):ObjOk P w H' h' a o:=by
 induction o with
 |lst xs=>obtain⟨z,B,n,r,e⟩:=x;exact⟨z,B,n,r,k _ _ (.inl rfl) e⟩
 |tup xs=>obtain⟨z,B,r,i,e,c⟩:=x;exact⟨z,B,r,i,k _ _ (.inl rfl) e,c⟩
 |dK E=>obtain⟨z,y,L,r,i,j,l,e,c⟩:=x;exact⟨z,y,L,r,i,j,l,k _ _ (.inl rfl) e,c⟩
 |dT E =>
  obtain⟨z,y,xs,r,i,j,l,e,c⟩:=x;exact⟨z,y,xs,Paired.mapP r λp q z=>⟨z.1,M _ _ z.2.1,z.2.2⟩,i,j,l,k _ _ (.inl rfl) e,c⟩
 |set S n=>obtain⟨i,j,l,t,e,c⟩:=x;exact⟨i,j,l,t,k _ _ (.inl rfl) e,c⟩
 |ins C U fs =>
  obtain⟨d,z,ne,e,G,⟨F,j,l,e2,c⟩,r⟩:=x;exact⟨Q _ d,z,ne,k _ _ (.inl rfl) e,G,⟨F,j,l,k _ _ (.inr d) e2,c⟩,r⟩
 |own y=>obtain⟨i,e⟩:=x;exact⟨i,k _ _ (.inl rfl) e⟩
 |xd fs=>obtain⟨G,⟨F,j,l,e,c⟩,r⟩:=x;exact⟨G,⟨F,j,l,k _ _ (.inl rfl) e,c⟩,r⟩
 |rng lo R=>obtain⟨t,u,v,e⟩:=x;exact⟨t,u,v,k _ _ (.inl rfl) e⟩
 |frz i u O=>obtain⟨e,q⟩:=x;exact⟨k _ _ (.inl rfl) e,O q⟩
 |tbl W =>
  have e:=x;exact k a _ (.inl rfl) e
 |met f y =>
  have e:=x;exact k a _ (.inl rfl) e
 |ext φ=>obtain⟨p,⟨o,e⟩,st⟩:=x;exact⟨st _ _ p λo q=>k _ _ (.inl rfl) q,⟨o,k _ _ (.inl rfl) e⟩,st⟩
def HOk.lt(x:HOk P w H h)(e:H a=J o):a<h.objs.size:=(x a o e).lt
def HOk.fresh(x:HOk P w H h)(e:h.objs.size<=a):H a=Y:=by
 cases q:H a with
 |none=>rfl
 |some u=>exact absurd (q_ (x.lt q) e) (zr _)
def HOk.kept(x:HOk P w H h)(k:∀b u,h.get? b=J u->h'.get? b=J u):HOk P w H h':=λa o e =>
 (x a o e).stay (λb u _ q=>k b u q) (λ_ q=>q) λ_ _ q=>q
def HOk.laid(x:HOk P w H h)(k:∀b u,h.get? b=J u->h'.get? b=J u)(j:h.objs.size<=a)(new:ObjOk P w (lg H a o) h' a o):HOk P w (lg H a o) h':=λb u e=>by
 have f:=x.fresh j;by_cases i:b=a
 .subst i;rw[bI]at e;cases e;exact new
 .rw[aT i]at e;exact(x b u e).stay (λc v _ q=>k c v q) (λc q=>by rw[aT (bv q f)];exact q) λc xs q=>by rw[aT (bv q f)];exact q
end
def Rd(H:Hp)(a:Addr)(u:HO):Prop:=H a=J u\/∃o,H a=J (.frz o u)
def Rd.ok(r:Rd H a u)(x:HOk P w H h):ObjOk P w H h a u:=by
 rcases r with r|⟨o,r⟩
 .exact x a u r
 .obtain⟨_,q⟩:=x a _ r;exact q
def LF:Option HO->Prop
 |some (.lst _)=>True
 |some (.dK _)=>True
 |some (.dT _)=>True
 |some (.set _ _)=>True
 |some (.ins _ _ _)=>True
 |some (.ext _)=>True
 |_=>False
section
variable{P:Program}{w:World}{H:Hp}{h h':Heap}{x e:Addr}{o':HO}
def HOk.write(ok:HOk P w H h)(j:LF (H x))(E:e=x\/H e=J (.own x))(k:∀b u,b≠e->h.get? b=J u->h'.get? b=J u)(l:∃u,h'.get? e=J u)(new:ObjOk P w (lg H x o') h' x o'):HOk P w (lg H x o') h':=λb u q=>by
 have i:∀c y,H c=J (.own y)->c≠x:=λc y r z=>by subst z;rw[r]at j;exact j
 have f:∀c xs,H c=J (.tup xs)->c≠x:=λc xs r z=>by subst z;rw[r]at j;exact j
 by_cases B:b=x
 .subst B;rw[bI]at q;cases q;exact new
 .rw[aT B]at q;by_cases a:b=e
  .have C:H b=J (.own x):=by
    rcases E with z|z
    .exact absurd (a.trans z) B
    .rw[a];exact z
   rw[q]at C;cases C;obtain⟨v,hv⟩:=l;exact⟨v,by rw[a];exact hv⟩
  .refine (ok b u q).stay (λc v F r=>k c v ?_ r) (λc r=>by rw[aT (i c b r)];exact r) λc xs r=>by rw[aT (f c xs r)];exact r
   grind
end
structure Un(fs ex:Q6)(H H':Hp)(h h':Heap):Prop where
 keep:∀b o,h.get? b=J o->H b=Y->b∉fs->b∉ex->h'.get? b=J o
 slot:∀b o,h.get? b=J o->H b=Y->b∈fs->b∉ex->∃sl,h'.get? b=J { o with slots:=sl}
 free:∀b o,h.get? b=J o->H b=Y->b∉ex->H' b=Y
 there:∀b o,h.get? b=J o->b∉ex->∃o',h'.get? b=J o'
 tups:∀b xs,H b=J (.tup xs)->H' b=J (.tup xs)
 frzs:∀b o u,H b=J (.frz o u)->H' b=J (.frz o u)
 tbls:∀b ps,H b=J (.tbl ps)->∃more,H' b=J (.tbl (ps++more))
section
variable{fs fs' ex ex':Q6}{H H1 H2:Hp}{h h1 h2 h':Heap}{a x e:Addr}{o:HO}
def Un.any(u:Un fs ex H H1 h h1)(q:h.get? b=J ob)(n:H b=Y)(f:b∉ex):∃sl,h1.get? b=J { ob with slots:=sl}:=by
 by_cases i:b∈fs
 .exact u.slot b ob q n i f
 .exact⟨ob.slots,u.keep b ob q n i f⟩
def Un.kept(k:∀b u,h.get? b=J u->h'.get? b=J u):Un fs ex H H h h' :=
 ⟨λb f q _ _ _=>k b f q,λb f q _ _ _=>⟨f.slots,k b f q⟩,λ_ _ _ n _=>n,λb f q _=>⟨f,k b f q⟩,λ_ _ q=>q,λ_ _ _ q=>q,λ_ i q=>⟨#[],by rw[q];simp⟩⟩
def Un.refl:Un fs ex H H h h:=Un.kept λ_ _ q=>q
def Un.laid(k:∀b u,h.get? b=J u->h'.get? b=J u)(i:h.objs.size<=a)(f:H a=Y):Un fs ex H (lg H a o) h h' where
 keep:=λb u q _ _ _=>k b u q
 slot:=λb u q _ _ _=>⟨u.slots,k b u q⟩
 free:=λb u q n _=>by rw[aT (tt (q_ (mj q) i))];exact n
 there:=λb u q _=>⟨u,k b u q⟩
 tups:=λb xs q=>by rw[aT (bv q f)];exact q
 frzs:=λb u xs q=>by rw[aT (bv q f)];exact q
 tbls:=λb j q=>⟨#[],by rw[aT (bv q f),q];simp⟩
def Un.write(i:LF (H x))(E:e=x\/H e=J (.own x))(k:∀b u,b≠e->h.get? b=J u->h'.get? b=J u)(l:∃u,h'.get? e=J u):Un fs ex H (lg H x o) h h':=by
 have B:∀b,H b=Y->b≠x:=λb n z=>by subst z;rw[n]at i;exact i
 have r:∀b,H b=Y->b≠e:=λb n z=>by
  simp_all
 have j:∀b u,H b=J u->¬LF (J u)->b≠x:=λb u q y z=>by subst z;rw[q]at i;exact y i
 refine⟨λb u q n _ _=>k b u (r b n) q,λb u q n _ _=>⟨u.slots,k b u (r b n) q⟩,λb u q n _=>by rw[aT (B b n)];exact n,λb u q _=>?_,
  λb xs q=>by rw[aT (j b _ q λz=>z)];exact q,λb u xs q=>by rw[aT (j b _ q λz=>z)];exact q,λb C q=>⟨#[],by rw[aT (j b _ q λz=>z),q];simp⟩⟩
 by_cases f:b=e
 .subst f;exact l
 .exact⟨u,k b u f q⟩
end
def LG(h:Heap)(H:Hp):Q6:=(List.range h.objs.size).filter λa=>(H a).isSome
def iY(h:Heap)(H:Hp):Heap:=PySem.W.hideAll h (LG h H)
def vk(h:Heap)(H:Hp):(iY h H).objs.size=h.objs.size:=PySem.W.hideAll_size _ _
def yk(e:h.get? b=J o)(n:H b=Y):(iY h H).get? b=J o :=
 PySem.W.hideAll_get _ e λa=>by
  have q:=(zT.mp a).2;rw[n]at q;simp at q
def AY(e:(iY h H).get? b=J o):h.get? b=J o/\H b=Y:=by
 have a:=PySem.W.of_hideAll (LG h H) e;refine⟨a,?_⟩
 cases q:H b with
 |none=>rfl
 |some x =>
  have f:b∈LG h H:=zT.mpr ⟨IC.mpr (mj a),by simp[q]⟩;have z:(iY h H).get? b=Y:=PySem.W.hideAll_none (LG h H) f;rw[z]at e;cases e
structure Mod(K:g_)(mg:RT)(base:Heap):Prop where
 kin:K.In base
 glob:base.Ns mainGlobals mg
 blt:∃mb,base.Ns builtinsNs mb/\∀x:Str,x≠"__name__"->mb x=bootBuiltins x
 nolimit:base.NoLimit
structure Cx where
 prog:Program
 w:World
 K:g_
 mg:Str->Q9
 base:Heap
 A:Around
 N:Q1
 s₀:Shared
 H₀:Hp
 env:Env
 outer:List Env
 stack:List Env
 ex:Q6
 fn:Str->Bool
 calm:Bool
 pn:Q8
 xe:Value->Shared->Prop
def v_(l:List Env):Q6:=l.filterMap (·.frame)
abbrev Cx.fs(X:Cx):Q6:=v_ X.outer
def LH(a:Scope)(x:Str):Prop:=a.names.lookup x=J .local\/a.names.lookup x=J .cell\/a.names.lookup x=J .free
def Loc(a:Scope)(x:Str):Prop:=a.names.lookup x=J .local\/a.names.lookup x=J .cell
def Look(env:Env)(h:Heap)(m:RT)(x:Str)(u:Value):Prop :=
 (env.kindOf x=J .local/\m x=J u)\/((env.kindOf x=J .cell\/env.kindOf x=J .free)/\∃c,env.cells.lookup x=J c/\h.IsCell c (J u))
structure Cx.Ok(X:Cx):Prop where
 mod:Mod X.K X.mg X.base
 kind:X.env.scope.kind=.function
 glob:X.env.globals=mainGlobals
 blt:X.env.builtins=builtinsNs
 above:X.s₀.heap.objs.size<=X.env.locals
 inj:∀x y c,X.env.cells.lookup x=J c->X.env.cells.lookup y=J c->x=y
 has:∀x,(X.env.kindOf x=J .cell\/X.env.kindOf x=J .free)->∃c,X.env.cells.lookup x=J c
 cab:∀x c,X.fn x=I->X.env.cells.lookup x=J c->X.s₀.heap.objs.size<=c
 hd:X.calm=I->X.A.handled=Y
 frames:X.A.frames=J X.stack
 stk:X.stack=X.outer\/(X.stack=X.env::X.outer/\X.env.frame=J X.env.locals)
 exf:∀b∈X.ex,b≠X.env.locals/\∀x c,X.env.cells.lookup x=J c->c≠b
 bs:∀b o,X.base.get? b=J o->X.s₀.heap.get? b=J o/\X.H₀ b=Y
 bsz:X.base.objs.size<=X.s₀.heap.objs.size
 noex:∀b o,X.base.get? b=J o->b∉X.ex
 exfs:∀b∈X.ex,b∉X.fs
 funs:X.s₀.heap.FunFrames X.base X.outer
 frf:∀b∈X.fs,X.H₀ b=Y
structure Inv(X:Cx)(Jr:Q8)(Z:List (Option V))(H:Hp)(s:Shared):Prop where
 ok:X.Ok
 os:s.os=X.s₀.os
 bare:AllBare s.gens
 base:Un X.fs X.ex X.H₀ H X.s₀.heap s.heap
 loc:∃m,s.heap.Ns X.env.locals m/\∀(i:Nat)(x:Str)(v:V),X.N[i]?=J x->Z[i]?=J (J v)->LH X.env.scope x->∃u,aR v u/\Look X.env s.heap m x u
 cell:∀x c,X.env.cells.lookup x=J c->∃v,s.heap.IsCell c v
 free:H X.env.locals=Y
 freeC:∀x c,X.env.cells.lookup x=J c->H c=Y
 pin:∀p∈X.pn++Jr,s.heap.get? p.1=J p.2/\H p.1=Y/\p.1≠X.env.locals/\p.1∉X.fs/\∀v,p.2.data≠.cell v
 hok:HOk X.prog X.w H s.heap
 len:Z.length=X.N.length
section
variable{X:Cx}{Jr:List (Addr × Obj)}{Z:List (Option V)}{H H':Hp}{s:Shared}{h':Heap}
def Cx.Ok.nofr(ok:X.Ok)(e:X.base.get? b=J o):b∉X.fs:=λa=>by
 have:=(ok.funs.mem a).1
 rw[e]at this;cases this
def Inv.bs(a:Inv X Jr Z H s):∀b o,X.base.get? b=J o->s.heap.get? b=J o/\H b=Y:=λb o e =>
 ⟨a.base.keep b o (a.ok.bs b o e).1 (a.ok.bs b o e).2 (a.ok.nofr e) (a.ok.noex b o e),a.base.free b o (a.ok.bs b o e).1 (a.ok.bs b o e).2 (a.ok.noex b o e)⟩
def Inv.bk(a:Inv X Jr Z H s):∀b o,X.base.get? b=J o->s.heap.get? b=J o:=λb o e=>(a.bs b o e).1
def Inv.mod(a:Inv X Jr Z H s):Mod X.K X.mg X.base:=a.ok.mod
def Inv.kIn(a:Inv X Jr Z H s):X.K.In s.heap:=a.ok.mod.kin.keeps a.bk
def Inv.lt(a:Inv X Jr Z H s):X.env.locals<s.heap.objs.size:=let⟨_,f,_⟩:=a.loc;f.lt
def Inv.sz(a:Inv X Jr Z H s):X.s₀.heap.objs.size<=s.heap.objs.size:=l7 a.ok.above (u0 a.lt)
def Inv.nofs(f:Inv X Jr Z H s){a:Addr}(h:s.heap.objs.size<=a):a∉X.fs:=λj=>by
 obtain⟨_,o,i,_⟩:=f.ok.funs.mem j;exact absurd (q_ (mj i) (l7 f.sz h)) (zr _)
def Inv.cne(a:Inv X Jr Z H s):∀x c,X.env.cells.lookup x=J c->c≠X.env.locals:=λx c e z=>by
 obtain⟨v,o,j,hd⟩:=a.cell x c e;obtain⟨m,⟨l,r,u,i,f,_⟩,_⟩:=a.loc;rw[z,i]at j;cases j;rw[f]at hd;cases hd
def Inv.funs(a:Inv X Jr Z H s):s.heap.FunFrames X.base X.outer:=by
 have all:∀(l:List Env),(∀b∈v_ l,b∈X.fs)->X.s₀.heap.FunFrames X.base l->s.heap.FunFrames X.base l:=by
  intro l
  induction l with
  |nil=>intro _ _;trivial
  |cons env r C =>
   intro i j;obtain⟨B,⟨L,o,hf,y,E,hd⟩,u⟩:=j;have hL:=i L (by unfold v_;rw[Lq,hf];exact rl);obtain⟨sl,e⟩:=a.base.slot L o E (a.ok.frf L hL) hL λz=>a.ok.exfs L z hL;exact⟨B,⟨L,_,hf,y,e,hd⟩,C (λb f=>i b (by unfold v_;rw[Lq,hf];exact l_ _ f)) u⟩
 exact all X.outer (λ_ f=>f) a.ok.funs
def Inv.stack(a:Inv X Jr Z H s):s.heap.FunFrames X.base X.stack:=by
 rcases a.ok.stk with e|⟨e,hf⟩
 .rw[e];exact a.funs
 .rw[e];obtain⟨m,f,_⟩:=a.loc;refine .cons (by rw[a.ok.kind];decide) hf f ?_ a.funs;exact Heap.get?_none_of_le (l7 a.ok.bsz a.ok.above)
def Inv.stkSub(f:Inv X Jr Z H s):∀b∈v_ X.stack,b∈X.env.locals::X.fs:=λb a=>by
 rcases f.ok.stk with e|⟨e,hf⟩
 .rw[e]at a;exact l_ _ a
 .rw[e]at a;unfold v_ at a;rw[Lq,hf]at a;exact a
def Inv.stkFree(a:Inv X Jr Z H s):∀b∈v_ X.stack,H b=Y:=λb f=>by
 rcases mu.mp (a.stkSub b f)with e|f
 .rw[e];exact a.free
 .obtain⟨_,o,i,_⟩:=a.ok.funs.mem f;exact a.base.free b o i (a.ok.frf b f) λz=>a.ok.exfs b z f
def Inv.step{g':Array GenState}{t':Nat}{d':Drawn}{ch:Q6}(a:Inv X Jr Z H s)(B:∀b∈ch,(b∈X.ex\/X.s₀.heap.objs.size<=b)/\b≠X.env.locals/\(∀x c,X.env.cells.lookup x=J c->c≠b)/\∀p∈X.pn++Jr,p.1≠b)(keep:∀b o,b≠X.env.locals->b∉X.fs->b∉ch->s.heap.get? b=J o->H b=Y->h'.get? b=J o)(slot:∀b o,b≠X.env.locals->b∈X.fs->b∉ch->s.heap.get? b=J o->H b=Y->∃sl,h'.get? b=J { o with slots:=sl})(free:∀b o,b∉ch->s.heap.get? b=J o->H b=Y->H' b=Y)(there:∀b o,b∉ch->s.heap.get? b=J o->∃L,h'.get? b=J L)(tups:∀b xs,H b=J (.tup xs)->H' b=J (.tup xs))(frzs:∀b o u,H b=J (.frz o u)->H' b=J (.frz o u))(tbls:∀b M,H b=J (.tbl M)->∃more,H' b=J (.tbl (M++more)))(ns:∀m,s.heap.Ns X.env.locals m->h'.Ns X.env.locals m)(hok:HOk X.prog X.w H' h')(hg:AllBare g'):
  Inv X Jr Z H' { s with heap:=h',gens:=g',drawn:=d',toks:=t'}:=by
 have G:∀b o,X.s₀.heap.get? b=J o->b≠X.env.locals:=λb o e=>tt (q_ (mj e) a.ok.above);have C:∀b o,X.s₀.heap.get? b=J o->b∉X.ex->b∉ch:=λb o e f E=>by
  rcases(B b E).1 with z|z
  .exact f z
  .exact absurd (q_ (mj e) z) (zr _)
 have y:∀x c,X.env.cells.lookup x=J c->∀v,s.heap.IsCell c v->h'.IsCell c v:=λx c e v ⟨o,F,hd⟩=>by
  have j:c∉ch:=λz=>(B c z).2.2.1 x c e rfl;by_cases Q:c∈X.fs
  .obtain⟨sl,q⟩:=slot c o (a.cne x c e) Q j F (a.freeC x c e);exact⟨_,q,hd⟩
  .exact⟨o,keep c o (a.cne x c e) Q j F (a.freeC x c e),hd⟩
 refine⟨a.ok,a.os,hg,⟨λb o e n E f=>?_,λb o e n E f=>?_,λb o e n f=>?_,λb o e f=>?_,λb xs e=>tups b xs (a.base.tups b xs e),λb o xs e=>frzs b o xs (a.base.frzs b o xs e),λb M e=>?_⟩,?_,λx c e=>?_,?_,λx c e=>?_,λp R=>?_,hok,a.len⟩
 .exact keep b o (G b o e) E (C b o e f) (a.base.keep b o e n E f) (a.base.free b o e n f)
 .obtain⟨sl,e1⟩:=a.base.slot b o e n E f;obtain⟨O,e2⟩:=slot b _ (G b o e) E (C b o e f) e1 (a.base.free b o e n f);exact⟨O,e2⟩
 .obtain⟨L,e1⟩:=a.base.there b o e f;exact free b L (C b o e f) e1 (a.base.free b o e n f)
 .obtain⟨L,e1⟩:=a.base.there b o e f;exact there b L (C b o e f) e1
 .obtain⟨W,e1⟩:=a.base.tbls b M e;obtain⟨m2,e2⟩:=tbls b _ e1;exact⟨W++m2,by rw[e2,Array.append_assoc]⟩
 .obtain⟨m,U,S⟩:=a.loc;refine⟨m,ns m U,λi x v e1 e2 e3=>?_⟩;obtain⟨u,r,l⟩:=S i x v e1 e2 e3;refine⟨u,r,?_⟩;rcases l with l|⟨k,c,e,z⟩
  .exact .inl l
  .exact .inr ⟨k,c,e,y x c e _ z⟩
 .obtain⟨v,z⟩:=a.cell x c e;exact⟨v,y x c e v z⟩
 .obtain⟨m,⟨o,_,_,F,_⟩,_⟩:=a.loc;exact free _ o (λz=>(B _ z).2.1 rfl) F a.free
 .obtain⟨v,o,F,hd⟩:=a.cell x c e;exact free c o (λz=>(B c z).2.2.1 x c e rfl) F (a.freeC x c e)
 .obtain⟨e,n,ne,P,d⟩:=a.pin p R;have j:p.1∉ch:=λz=>(B p.1 z).2.2.2 p R rfl;exact⟨keep p.1 p.2 ne P j e n,free p.1 p.2 j e n,ne,P,d⟩
def Inv.un{t':Nat}(a:Inv X Jr Z H s)(u:Un X.fs [] H H' s.heap h')(hok:HOk X.prog X.w H' h'):Inv X Jr Z H' { s with heap:=h',toks:=t'}:=by
 obtain⟨m,⟨o,F,E,y,r⟩,_⟩:=id a.loc;obtain⟨sl,hL⟩:=u.any y a.free (by simp)
 exact a.step (g':=s.gens) (d':=s.drawn) (ch:=[]) (λ_ z=>nomatch z) (λb o _ j _ e n=>u.keep b o e n j (by simp)) (λb o _ j _ e n=>u.slot b o e n j (by simp)) (λb o _ e n=>u.free b o e n (by simp)) (λb o _ e=>u.there b o e (by simp)) u.tups u.frzs u.tbls (λG C=>by
  obtain⟨L,i,l,f,B⟩:=C;rw[y]at f;cases f
  exact⟨_,i,l,hL,B⟩) hok a.bare
def Inv.call{g':Array GenState}{t':Nat}{d':Drawn}{B:Q6}(a:Inv X Jr Z H s)(u:Un (v_ X.stack) B H H' s.heap h')(hok:HOk X.prog X.w H' h')(L:AllBare g')(i:∀b∈B,(b∈X.ex\/X.s₀.heap.objs.size<=b)/\b≠X.env.locals/\(∀x c,X.env.cells.lookup x=J c->c≠b)/\∀p∈X.pn++Jr,p.1≠b):
  Inv X Jr Z H' { s with heap:=h',gens:=g',drawn:=d',toks:=t'}:=by
 obtain⟨m,⟨o,M,Q,C,r⟩,_⟩:=id a.loc;obtain⟨sl,hL⟩:=u.any C a.free λz=>(i _ z).2.1 rfl
 exact a.step i (λb o hL G f e n=>u.keep b o e n (λz=>(mu.mp (a.stkSub b z)).elim hL G) f) (λb o _ _ f e n=>u.any e n f) (λb o f e n=>u.free b o e n f) (λb o f e=>u.there b o e f) u.tups u.frzs u.tbls (λO F=>by
  obtain⟨P,l,y,j,E⟩:=F;rw[C]at j;cases j
  exact⟨_,l,y,hL,E⟩) hok L
def Inv.turned{t':Nat}{a:Addr}(f:Inv X Jr Z H s)(k:∀b o,b≠a->s.heap.get? b=J o->h'.get? b=J o)(C:H a=Y)(hL:a≠X.env.locals)(G:a∈X.ex\/X.s₀.heap.objs.size<=a)(L:∀x c,X.env.cells.lookup x=J c->c≠a)(y:∀p∈X.pn++Jr,p.1≠a):Inv X Jr Z H { s with heap:=h',toks:=t'}:=by
 have j:∀b u,H b=J u->b≠a:=λb u e z=>by rw[z,C]at e;cases e
 refine f.step (g':=s.gens) (d':=s.drawn) (ch:=[a]) (λb B=>?_) (λb o _ _ i e _=>k b o (λz=>i (by simp[z])) e) (λb o _ _ i e _=>⟨o.slots,k b o (λz=>i (by simp[z])) e⟩) (λ_ _ _ _ n=>n)
  (λb o i e=>⟨o,k b o (λz=>i (by simp[z])) e⟩) (λ_ _ e=>e) (λ_ _ _ e=>e) (λb O e=>⟨#[],by rw[e];simp⟩) (λm l=>?_) (λb u e=>?_) f.bare
 .have e:b=a:=by simpa using B
  subst e;exact⟨G,hL,L,y⟩
 .obtain⟨o,E,M,F,r⟩:=l;exact⟨o,E,M,k _ o (Ne.symm hL) F,r⟩
 .refine (f.hok b u e).stay (λc v i q=>k c v ?_ q) (λ_ q=>q) λ_ _ q=>q;rcases i with z|z
  .rw[z];exact j b u e
  .exact j c _ z
def Inv.tok(a:Inv X Jr Z H s)(t:Nat):Inv X Jr Z H { s with toks:=t}:=a.un (h':=s.heap) (t':=t) Un.refl a.hok
def Inv.kept(a:Inv X Jr Z H s)(k:∀b u,s.heap.get? b=J u->h'.get? b=J u):Inv X Jr Z H { s with heap:=h',toks:=t'}:=a.un (Un.kept k) (a.hok.kept k)
def Inv.laid{a:Addr}{o:HO}{t':Nat}(f:Inv X Jr Z H s)(k:∀b u,s.heap.get? b=J u->h'.get? b=J u)(i:s.heap.objs.size<=a)(new:ObjOk X.prog X.w (lg H a o) h' a o):
  Inv X Jr Z (lg H a o) { s with heap:=h',toks:=t'}:=f.un (Un.laid k i (f.hok.fresh i)) (f.hok.laid k i new)
def Inv.write(f:Inv X Jr Z H s)(i:LF (H x))(j:e=x\/H e=J (.own x))(k:∀b u,b≠e->s.heap.get? b=J u->h'.get? b=J u)(a:∃u,h'.get? e=J u)(new:ObjOk X.prog X.w (lg H x o) h' x o):Inv X Jr Z (lg H x o) { s with heap:=h',toks:=t'}:=f.un (Un.write i j k a) (f.hok.write i j k a new)
def Inv.pins_of(a:Inv X Jr Z H s)(h:∀p∈f,s.heap.get? p.1=J p.2/\H p.1=Y/\p.1≠X.env.locals/\p.1∉X.fs/\∀v,p.2.data≠.cell v):Inv X f Z H s :=
 ⟨a.ok,a.os,a.bare,a.base,a.loc,a.cell,a.free,a.freeC,λp i=>(mh.mp i).elim (λz=>a.pin p (sv _ z)) (h p),a.hok,a.len⟩
def qN{N:Q1}(hN:N.Nodup){i j:Nat}{x:Str}(a:N[i]?=J x)(b:N[j]?=J x):i=j:=by obtain⟨f,e1⟩:=qp.mp a;obtain⟨l,e2⟩:=qp.mp b;exact(List.getElem_inj hN).mp (e1.trans e2.symm)
def xf{M:Model}{A:Around}{E:RQ}{i:Nat}{x:Str}{v:V}{u:Value}{Q:Unit->Shared->Prop}(f:Inv X Jr Z H s)(hN:X.N.Nodup)(U:X.N[i]?=J x)(F:Loc X.env.scope x)(r:aR v u)(h:∀s',Inv X Jr (Z.set i (J v)) H s'->(∃a,Heap.SameBut a s.heap s'.heap/\(a=X.env.locals\/X.env.cells.lookup x=J a))->Q () s')(hf:X.fn x=I\/X.env.scope.names.lookup x=J .local:=by first | exact .inl rfl | exact .inr rfl | assumption):wpAny M A (storeName X.env x u) Q E s:=by
 obtain⟨m,hn,hl⟩:=id f.loc;have S:(X.env.scope.kind == .class||(X.env.scope.kind == .module&&X.env.locals != X.env.globals))=T:=by rw[f.ok.kind];rfl
 have O:i<Z.length:=by rw[f.len];exact(qp.mp U).1
 have cne:=f.cne;have B:∀{a:Addr}{h':Heap},(∃o,s.heap.get? a=J o/\H a=Y)->Heap.SameBut a s.heap h'->HOk X.prog X.w H h':=λ{a h'} ha l b ob e=>by
  obtain⟨_,_,G⟩:=ha;refine(f.hok b ob e).stay (λc w' C q=>(l.2 c ?_).trans q) (λ_ q=>q) λ_ _ q=>q;rintro rfl;rcases C with rfl|C
  .rw[G]at e;cases e
  .rw[G]at C;cases C
 rcases F with L|L
 .refine wpAny_storeName_local L hn (λh' an l=>?_) S;obtain⟨oL,_,_,ap,_⟩:=id hn;refine h _ ⟨f.ok,f.os,f.bare,⟨λb o e n R F=>?_,λb o e n R F=>?_,f.base.free,λb o e F=>?_,f.base.tups,f.base.frzs,f.base.tbls⟩,⟨_,an,λj y v' e1 e2 e3=>?_⟩,λy c e=>?_,f.free,f.freeC,λp hp=>?_,B ⟨oL,ap,f.free⟩ l,by simpa using f.len⟩ ⟨_,l,.inl rfl⟩
  .exact (l.2 b (tt (q_ (mj e) f.ok.above))).trans (f.base.keep b o e n R F)
  .obtain⟨sl,e1⟩:=f.base.slot b o e n R F;exact⟨sl,(l.2 b (tt (q_ (mj e) f.ok.above))).trans e1⟩
  .obtain⟨o',e1⟩:=f.base.there b o e F;exact⟨o',(l.2 b (tt (q_ (mj e) f.ok.above))).trans e1⟩
  .by_cases P:j=i
   .subst P;rw[U]at e1;cases e1;rw[zp O]at e2;cases e2;exact⟨u,r,.inl ⟨L,by simp⟩⟩
   .rw[rc (Ne.symm P)]at e2;obtain⟨u',r',q⟩:=hl j y v' e1 e2 e3;refine⟨u',r',?_⟩;rcases q with⟨k,e⟩|⟨k,c,e,z⟩
    .refine .inl ⟨k,?_⟩
     have:y≠x:=λe=>P (qN hN e1 (e▸U))
     simp[this,e]
    .exact .inr ⟨k,c,e,z.sameBut l (cne y c e)⟩
  .obtain⟨w',z⟩:=f.cell y c e;exact⟨w',z.sameBut l (cne y c e)⟩
  .obtain⟨e,n,ne,nf,d⟩:=f.pin p hp;exact⟨(l.2 p.1 ne).trans e,n,ne,nf,d⟩
 .have Fq:X.fn x=I:=by
   rcases hf with z|z
   .exact z
   .rw[z]at L;cases L
  obtain⟨c,C⟩:=f.ok.has x (.inl L);obtain⟨w',z⟩:=f.cell x c C;refine wpAny_storeName_cell f.ok.kind L C z (λh' aj l=>?_);obtain⟨oc,am,W⟩:=id z;refine h { s with heap:=h'} ⟨f.ok,f.os,f.bare,⟨λb o e n R F=>?_,λb o e n R F=>?_,f.base.free,λb o e F=>?_,f.base.tups,f.base.frzs,f.base.tbls⟩,⟨m,hn.sameBut l (Ne.symm (cne x c C)),λj y v' e1 e2 e3=>?_⟩,λy c' e=>?_,f.free,f.freeC,λp hp=>?_,B ⟨oc,am,f.freeC x c C⟩ l,by simpa using f.len⟩ ⟨c,l,.inr C⟩
  .exact (l.2 b (tt (q_ (mj e) (f.ok.cab x c Fq C)))).trans (f.base.keep b o e n R F)
  .obtain⟨sl,e1⟩:=f.base.slot b o e n R F;exact⟨sl,(l.2 b (tt (q_ (mj e) (f.ok.cab x c Fq C)))).trans e1⟩
  .obtain⟨o',e1⟩:=f.base.there b o e F;exact⟨o',(l.2 b (tt (q_ (mj e) (f.ok.cab x c Fq C)))).trans e1⟩
  .by_cases P:j=i
   .subst P;rw[U]at e1;cases e1;rw[zp O]at e2;cases e2;exact⟨u,r,.inr ⟨.inl L,c,C,aj⟩⟩
   .rw[rc (Ne.symm P)]at e2;obtain⟨u',r',q⟩:=hl j y v' e1 e2 e3;refine⟨u',r',?_⟩;rcases q with q|⟨k,c',e,z'⟩
    .exact .inl q
    .refine .inr ⟨k,c',e,z'.sameBut l ?_⟩;rintro rfl;exact P (qN hN e1 (f.ok.inj _ _ _ e C▸U))
  .by_cases ab:c'=c
   .subst ab;exact⟨_,aj⟩
   .obtain⟨w2,z2⟩:=f.cell y c' e;exact⟨w2,z2.sameBut l ab⟩
  .obtain⟨e,n,ne,nf,d⟩:=f.pin p hp;refine⟨(l.2 p.1 ?_).trans e,n,ne,nf,d⟩;intro q;rw[q,am]at e;have q':oc=p.2:=Option.some.inj e;exact d w' (by rw[<-q'];exact W)
def qx(f:Inv X Jr Z H s)(hN:X.N.Nodup)(j:X.N[i]?=J x)(l:Loc X.env.scope x)(r:aR v u)(h:∀a,Inv X Jr (Z.set i (J v)) H a->Q () a)(hf:X.fn x=I\/X.env.scope.names.lookup x=J .local:=by first | exact .inl rfl | exact .inr rfl | assumption):wpAny M A (storeName X.env x u) Q E s :=
 xf f hN j l r (λa y _=>h a y) hf
def Inv.call'(f:Inv X Jr Z H s)(i:s'.os=s.os)(u:Un (v_ X.stack) ch H H' s.heap s'.heap)(hok:HOk X.prog X.w H' s'.heap)(y:AllBare s'.gens)(a:∀b∈ch,(b∈X.ex\/X.s₀.heap.objs.size<=b)/\b≠X.env.locals/\(∀x c,X.env.cells.lookup x=J c->c≠b)/\∀p∈X.pn++Jr,p.1≠b):Inv X Jr Z H' s':=by
 obtain⟨h',l,j,r,z⟩:=s';have e:=i;subst e;exact f.call (g':=l) (t':=r) (d':=j) u hok y a
end
abbrev XK:=Value->Option Addr->Hp->Prop
abbrev St:=List (Option V)
abbrev VK:=V->Hp->Prop
abbrev TE:=St->Hp->VK->Prop
abbrev TT:=St->Hp->(Bool->Hp->Prop)->Prop
abbrev TA:=St->Hp->(List V->Hp->Prop)->Prop
structure Ends where
 nx:St->Hp->Prop
 rt:VK
 bk:St->Hp->Prop:=λ_ _=>False
 ct:St->Hp->Prop:=λ_ _=>False
abbrev TS:=Ends->St->Hp->Prop
inductive EP(X:Cx)(Jr:Q8)(Z:St)(Q:VK)(u:Value)(s':Shared):Prop
 |mk(v:V)(H':Hp)(i:Inv X Jr Z H' s')(r:aR v u)(q:Q v H'):EP X Jr Z Q u s'
inductive TP(X:Cx)(Jr:Q8)(Z:St)(Q:Bool->Hp->Prop)(b:Bool)(s':Shared):Prop
 |mk(H':Hp)(i:Inv X Jr Z H' s')(q:Q b H'):TP X Jr Z Q b s'
inductive AP(X:Cx)(Jr:Q8)(Z:St)(Q:List V->Hp->Prop)(us:Q7)(s':Shared):Prop
 |mk(vs:List V)(H':Hp)(i:Inv X Jr Z H' s')(r:au vs us)(q:Q vs H'):AP X Jr Z Q us s'
inductive SN(X:Cx)(Jr:Q8)(Q:St->Hp->Prop)(s':Shared):Prop
 |mk(Z':St)(H':Hp)(i:Inv X Jr Z' H' s')(q:Q Z' H'):SN X Jr Q s'
inductive SR(X:Cx)(Jr:Q8)(Q:VK)(u:Value)(s':Shared):Prop
 |mk(v:V)(Z':St)(H':Hp)(i:Inv X Jr Z' H' s')(r:aR v u)(q:Q v H'):SR X Jr Q u s'
def SP(X:Cx)(i:Q8)(D:Ends)(f:Flow)(a:Shared):Prop :=
 match f with
 |.next=>SN X i D.nx a
 |.brk=>SN X i D.bk a
 |.cont=>SN X i D.ct a
 |.ret u=>SR X i D.rt u a
def PE(X:Cx)(e:Expr)(t:TE):Prop :=
 ∀(a:Q8)(s:Shared)(Z:St)(H:Hp)(Q:VK),Inv X a Z H s->t Z H Q->wpAny (model X.prog X.w) X.A (eval e X.env) (EP X a Z Q) X.xe s
def PT(X:Cx)(e:Expr)(t:TT):Prop :=
 ∀(a:Q8)(s:Shared)(Z:St)(H:Hp)(Q:Bool->Hp->Prop),Inv X a Z H s->t Z H Q->wpAny (model X.prog X.w) X.A (isTrue e X.env (eval e X.env)) (TP X a Z Q) X.xe s
def PW(X:Cx)(e:Expr)(t:TT):Prop :=
 ∀(a:Sem Value)(f:Q8)(s:Shared)(Z:St)(H:Hp)(Q:Bool->Hp->Prop),Inv X f Z H s->t Z H Q->wpAny (model X.prog X.w) X.A (isTrue e X.env a) (TP X f Z Q) X.xe s
def PW.pt(h:PW X e t):PT X e t:=h _
def PA(X:Cx)(i:RM)(t:TA):Prop :=
 ∀(a:Pos)(f:Q8)(s:Shared)(Z:St)(H:Hp)(Q:List V->Hp->Prop),Inv X f Z H s->t Z H Q->wpAny (model X.prog X.w) X.A (spliced (backTo a (starEach i X.env))) (AP X f Z Q) X.xe s
def PS(X:Cx)(st:Stmt)(t:TS):Prop :=
 ∀(a:Q8)(s:Shared)(Z:St)(H:Hp)(D:Ends),Inv X a Z H s->t D Z H->wpAny (model X.prog X.w) X.A (exec st X.env) (SP X a D) X.xe s
def PSs(X:Cx)(st:List Stmt)(t:TS):Prop :=
 ∀(a:Q8)(s:Shared)(Z:St)(H:Hp)(D:Ends),Inv X a Z H s->t D Z H->wpAny (model X.prog X.w) X.A (execs st X.env) (SP X a D) X.xe s
def k_(h:wpAny M A t Q E s)(f:∀a s,Q a s->Q' a s):wpAny M A t Q' E s:=wpAny_mono h f λ_ _ x=>x
section
variable{X:Cx}
def M8(i:Nat):TE:=λZ H Q=>∃v,Z[i]?=J (J v)/\Q v H
def tC(v:V):TE:=λ_ H Q=>Q v H
def DX{i:Nat}{x:Str}{z:Pos}(hN:X.N[i]?=J x)(hv:LH X.env.scope x)(hd:(x==("__debug__":Str))=T:=by decide)(y:(x==("__classdict__":Str))=T:=by decide):PE X (.Name x z) (M8 i):=by
 intro F s Z H Q f h;obtain⟨v,e,h⟩:=h;obtain⟨m,G,C⟩:=f.loc;obtain⟨u,r,l⟩:=C i x v hN e hv;have fin:EP X F Z Q u s:=⟨v,H,f,r,h⟩;rcases l with⟨j,E⟩|⟨j,c,B,a⟩
 .exact wpAny_Name (wpAny_loadName_local f.ok.kind j G E fin) hd
 .rcases j with j|j
  .exact wpAny_Name (wpAny_loadName_cell f.ok.kind j B a fin) hd
  .exact wpAny_Name (wpAny_loadName_free f.ok.kind j B a fin y) hd
def DY{i j pos}:PE X (.Constant (.int i) j pos) (tC (.int i)):=λ_ _ _ H _ a h=>wpAny_Constant_int ⟨.int i,H,a.tok _,⟨_,rfl⟩,h⟩
def IE{b j pos}:PE X (.Constant (.bool b) j pos) (tC (.bl b)):=λ_ _ _ H _ a h=>Constant_bool ⟨.bl b,H,a,rfl,h⟩
def DZ{j pos}:PE X (.Constant .none j pos) (tC .non):=λ_ _ _ H _ a h=>Constant_none ⟨.non,H,a,rfl,h⟩
def D_{x j pos}:PE X (.Constant (.str x) j pos) (tC (.str x)):=λ_ _ _ H _ a h=>Calls.Constant_str ⟨.str x,H,a.tok _,⟨_,rfl⟩,h⟩
def Gl(X:Cx)(x:Str):Prop:=X.env.kindOf x=J .globalImplicit
def tN{E:RQ}{l:Q8}{s:Shared}{Z:St}{H:Hp}{x:Str}{u:Value}{f:Pos}{Q:RQ}(a:Inv X l Z H s)(j:Gl X x)(i:X.mg x=J u)(h:Q u s)(hd:(x==("__debug__":Str))=T:=by decide):wpAny (model X.prog X.w) X.A (eval (.Name x f) X.env) Q E s :=
 Calls.Name_function_global a.ok.kind j (Calls.loadGlobal_global (by rw[a.ok.glob];exact a.mod.glob.keeps a.bk) i h) hd
def ip{E:RQ}{j:Q8}{s:Shared}{Z:St}{H:Hp}{x:Str}{u:Value}{f:Pos}{Q:RQ}(a:Inv X j Z H s)(y:Gl X x)(i:X.mg x=Y)(hv:bootBuiltins x=J u)(h:Q u s)(l:x≠"__name__":=by decide)(hd:(x==("__debug__":Str))=T:=by decide):wpAny (model X.prog X.w) X.A (eval (.Name x f) X.env) Q E s:=by
 obtain⟨B,r,z⟩:=a.mod.blt;exact Calls.Name_function_global a.ok.kind y (Calls.loadGlobal_builtin (by rw[a.ok.glob];exact a.mod.glob.keeps a.bk) i (by rw[a.ok.blt];exact r.keeps a.bk) ((z x l).trans hv) h) hd
def AZ{x:Str}{v:V}{u:Value}{f:Pos}(l:Gl X x)(j:X.mg x=Y)(hv:bootBuiltins x=J u)(r:aR v u)(i:x≠"__name__":=by decide)(hd:(x==("__debug__":Str))=T:=by decide):PE X (.Name x f) (tC v) :=
 λ_ _ _ H _ a h=>ip a l j hv ⟨v,H,a,r,h⟩ i hd
variable{a b:Expr}{ta tb:TE}{pos:Pos}
def tB(t:TE):TT:=λZ H Q=>t Z H λx f=>∃c,x=.bl c/\Q c f
def Ea(h:PE X e t)(B:∀f,isTrue e X.env f=(do let v <-f;standAt e.pos;holding [v] (truthy v)):=by intro _;rfl):PT X e (tB t):=by intro z s Z H Q i r;refine isTrue_plain (k_ (h z s Z H _ i r) λv C ⟨x,u,y,l,j⟩=>?_) (B _);obtain⟨d,rfl,q⟩:=j;cases l;exact wpAny_truthy_bool ⟨u,y,q⟩
variable{tA tB':TT}{rest:RM}
def M9(t u:TT):TT:=λZ H Q=>t Z H λc f=>if c=I then u Z f Q else Q T f
def QJ(t u:TT):TT:=λZ H Q=>t Z H λc f=>if c=I then Q I f else u Z f Q
def M_(t:TT):TT:=λZ H Q=>t Z H λc f=>Q (!c) f
def A0(i:PT X a tA):PW X (.BoolOp .And [a] pos) tA:=by
 intro r j s Z H Q f h;refine isTrue_and (k_ (i j s Z H Q f h) λc l e=>?_)
 cases c with
 |true=>exact isTrue_and_nil e
 |false=>exact e
def Eb(i:PT X a tA):PW X (.BoolOp .Or [a] pos) tA:=by
 intro r j s Z H Q f h;refine isTrue_or (k_ (i j s Z H Q f h) λc l e=>?_)
 cases c with
 |false=>exact isTrue_or_nil e
 |true=>exact e
def Ec(B:PT X a tA)(y:PW X (.BoolOp .And (b::rest) pos) tB'):PW X (.BoolOp .And (a::b::rest) pos) (M9 tA tB'):=by
 intro z l s Z H Q f h;refine isTrue_and (k_ (B l s Z H _ f h) λc u ⟨r,j,i⟩=>?_)
 cases c with
 |true=>exact y z l u Z r Q j i
 |false=>exact⟨r,j,i⟩
def IF(B:PT X a tA)(y:PW X (.BoolOp .Or (b::rest) pos) tB'):PW X (.BoolOp .Or (a::b::rest) pos) (QJ tA tB'):=by
 intro z l s Z H Q f h;refine isTrue_or (k_ (B l s Z H _ f h) λc u ⟨r,j,i⟩=>?_)
 cases c with
 |true=>exact⟨r,j,i⟩
 |false=>exact y z l u Z r Q j i
def Ed(j:PT X a tA):PT X (.UnaryOp .Not a pos) (M_ tA):=by intro r s Z H Q i h;exact isTrue_not (k_ (j r s Z H (λc f=>Q (!c) f) i h) λ_ _ ⟨f,l,q⟩=>⟨f,l,q⟩)
def IG(ta tb:TE):TE:=λZ H Q=>ta Z H λx f=>∃c,x=.bl c/\if c=I then tb Z f Q else Q (.bl T) f
def IH(ta:TE):TE:=λZ H Q=>ta Z H λx f=>∃c,x=.bl c/\Q (.bl (!c)) f
def Ee{op}(h:PE X a t):PE X (.BoolOp op [a] pos) t:=λj s Z H Q f i=>BoolOp_one (h j s Z H Q f i)
def Ef(B:PE X a ta)(y:PE X (.BoolOp .And (b::rest) pos) tb):PE X (.BoolOp .And (a::b::rest) pos) (IG ta tb):=by
 intro r s Z H Q i h;refine BoolOp_and (k_ (B r s Z H _ i h) λv z ⟨x,j,l,u,f⟩=>?_);obtain⟨c,rfl,f⟩:=f;cases u;refine wpAny_truthy_bool ?_
 cases c with
 |true=>exact y r z Z j Q l f
 |false=>exact⟨.bl T,j,l,rfl,f⟩
def Eg(l:PE X a ta):PE X (.UnaryOp .Not a pos) (IH ta):=by intro u s Z H Q i h;refine UnaryOp_ (k_ (l u s Z H _ i h) λv z ⟨x,y,r,j,f⟩=>?_);obtain⟨c,rfl,f⟩:=f;cases j;exact not_of (wpAny_truthy_bool ⟨.bl (!c),y,r,rfl,f⟩)
end
def SqL(K:g_)(H:Hp)(a:Addr)(xs:List V):Prop :=
 Rd H a (.lst xs) \/
  ∃(o:Obj) (f:Array Value) (n:Nat),K.lookup a=J o/\o.cls=.type "list"/\o.dict=Y/\o.data=.seq f n/\f.size<=sizeLine/\au xs f.toList
def SqT(K:g_)(H:Hp)(a:Addr)(xs:List V):Prop :=
 Rd H a (.tup xs) \/
  ∃(o:Obj) (f:Array Value) (n:Nat),K.lookup a=J o/\o.cls=.type "tuple"/\(o.data=.seq f n/\o.dict=Y)/\f.size<=sizeLine/\au xs f.toList
def Na:Value->Option V
 |.none=>J .non
 |.bool b=>J (.bl b)
 |.int i _=>J (.int i)
 |.str x _=>J (.str x)
 |.bytes b _=>J (.byt b)
 |.float b _=>J (.flt b)
 |.ref a=>J (.ref a)
 |.type n=>J (.ty n)
 |_=>Y
def aR.abs(r:aR x u):Na u=J x:=by
 cases x with
 |non=>cases r;rfl
 |bl _=>cases r;rfl
 |int _=>obtain⟨t,rfl⟩:=r;rfl
 |str _=>obtain⟨t,rfl⟩:=r;rfl
 |byt _=>obtain⟨t,rfl⟩:=r;rfl
 |flt _=>obtain⟨t,rfl⟩:=r;rfl
 |ref _=>cases r;rfl
 |ty _=>cases r;rfl
def aR.inj(r:aR x u)(q:aR y u):x=y:=Option.some.inj (r.abs.symm.trans q.abs)
def au.inj(r:au xs us)(q:au ys us):xs=ys:=by
 induction r generalizing ys with
 |nil=>cases q;rfl
 |cons r t i=>cases q with|cons a f=>rw[r.inj a,i f]
section
variable{X:Cx}{Jr:List (Addr × Obj)}{Z:St}{H:Hp}{s:Shared}{a:Addr}{xs ys:List V}
def SqL.of{K:g_}(h:H a=J (.lst xs)):SqL K H a xs:=.inl (.inl h)
def SqT.of{K:g_}(h:H a=J (.tup xs)):SqT K H a xs:=.inl (.inl h)
def Inv.list(i:Inv X Jr Z H s)(h:SqL X.K H a xs):∃f:Q7,au xs f/\PlainL s.heap a f.toArray/\xs.length<=sizeLine:=by
 rcases h with h|⟨o,f,n,u,j,hd,l,y,r⟩
 .obtain⟨z,f,n,r,e⟩:=h.ok i.hok;exact⟨f,r,⟨_,n,e,rfl,rfl,rfl⟩,z⟩
 .refine⟨f.toList,r,⟨o,n,i.kIn a o u,j,hd,by simpa using l⟩,?_⟩;have e:=r.length
  grind
def Inv.tupleN(i:Inv X Jr Z H s)(h:SqT X.K H a xs):∃f:Q7,au xs f/\gz s.heap a f.toArray/\xs.length<=sizeLine:=by
 rcases h with h|⟨o,f,n,u,l,j,y,r⟩
 .obtain⟨z,f,r,p⟩:=h.ok i.hok;exact⟨f,r,p,z⟩
 .refine⟨f.toList,r,⟨o,i.kIn a o u,l,⟨n,by simpa using j.1⟩,j.2⟩,?_⟩;have e:=r.length
  grind
def Inv.tuple(i:Inv X Jr Z H s)(h:SqT X.K H a xs):∃f:Q7,au xs f/\IsTup s.heap a f.toArray/\xs.length<=sizeLine :=
 let⟨f,r,p,z⟩:=i.tupleN h
 ⟨f,r,p.tup,z⟩
def Inv.list_inj(i:Inv X Jr Z H s)(h:SqL X.K H a xs)(z:SqL X.K H a ys):xs=ys:=by
 obtain⟨j,r,⟨o,n,e,_,_,d⟩,_⟩:=i.list h;obtain⟨f,y,⟨B,C,u,_,_,l⟩,_⟩:=i.list z;rw[e]at u;cases u;rw[d]at l;injection l with d1 _
 have:j=f:=by simpa using congrArg Array.toList d1
 subst this;exact r.inj y
def Inv.tuple_inj(i:Inv X Jr Z H s)(h:SqT X.K H a xs)(z:SqT X.K H a ys):xs=ys:=by
 obtain⟨j,r,⟨o,e,_,n,d⟩,_⟩:=i.tuple h;obtain⟨f,y,⟨B,u,_,C,l⟩,_⟩:=i.tuple z;rw[e]at u;cases u;rw[d]at l;injection l with d1 _
 have:j=f:=by simpa using congrArg Array.toList d1
 subst this;exact r.inj y
end
section
variable{X:Cx}{Jr:List (Addr × Obj)}{Z:St}{H:Hp}{s:Shared}{E:RQ}
end
section
variable{X:Cx}{st:Stmt}{rest:List Stmt}{t u:TS}{e:Expr}{te:TE}{pos:Pos}
def II:TS:=λD Z H=>D.nx Z H
def Nb(t u:TS):TS:=λD Z H=>t { D with nx:=u D} Z H
def A1:PSs X [] II:=λ_ _ Z H _ a h=>wpAny_execs_nil ⟨Z,H,a,h⟩
def yf(z:PS X st t)(B:PSs X rest u):PSs X (st::rest) (Nb t u):=by
 intro i s Z H D a h;refine wpAny_execs_cons (k_ (z i s Z H { D with nx:=u D} a h) λf l q=>?_)
 cases f with
 |next =>
  obtain⟨r,y,j,q⟩:=q;exact B i l r y D j q
 |ret v=>exact q
 |brk=>exact q
 |cont=>exact q
def A2(i:PS X st t):PSs X [st] t:=by
 intro j s Z H D a h;refine wpAny_execs_cons (k_ (i j s Z H D a h) λf l q=>?_)
 cases f with
 |next=>exact wpAny_execs_nil q
 |ret v=>exact q
 |brk=>exact q
 |cont=>exact q
def Inv.quiet{f:Q8}{Z:St}{H:Hp}{s:Shared}(a:Inv X f Z H s):interactive X.env=T:=by simp[interactive,a.ok.kind]
def IJ(te:TE):TS:=λD Z H=>te Z H λ_ a=>D.nx Z a
def A3(f:PE X e te)(j:swapsWith e Y pos.line X.env=pure T:=by rfl):PS X (.Expr e pos) (IJ te):=by intro r s Z H D a h;exact wpAny_Expr_any (k_ (f r s Z H _ a h) λv B ⟨x,y,l,z,i⟩=>⟨Z,y,l,i⟩) a.quiet j
def Nc(te:TE):TS:=λD Z H=>te Z H D.rt
def Eh(f:PE X e te):PS X (.Return (J e) pos) (Nc te):=by intro r s Z H D a h;exact wpAny_Return_some (k_ (f r s Z H _ a h) λv z ⟨x,y,l,j,i⟩=>⟨x,Z,y,l,j,i⟩)
def Nd(c:TT)(t u:TS):TS:=λD Z H=>c Z H λb a=>if b=I then t D Z a else u D Z a
def IK(z:PT X c tc)(B:PSs X a t)(C:PSs X b u):PS X (.If c a b pos) (Nd tc t u):=by
 intro f s Z H D i h;refine wpAny_If (k_ (z f s Z H _ i h) λd l ⟨y,r,j⟩=>?_)
 cases d with
 |true=>exact B f l Z y D r j
 |false=>exact C f l Z y D r j
end
abbrev TG:=V->St->Hp->(St->Hp->Prop)->Prop
abbrev HH:=List V->St->Hp->(St->Hp->Prop)->Prop
def PG(X:Cx)(a:Expr)(t:TG):Prop :=
 ∀(f:Q8)(s:Shared)(Z:St)(H:Hp)(v:V)(u:Value)(Q:St->Hp->Prop),Inv X f Z H s->aR v u->t v Z H Q ->
  wpAny (model X.prog X.w) X.A (assign a X.env u) (λ_ i=>SN X f Q i) X.xe s
def PGs(X:Cx)(j:RM)(t:HH):Prop :=
 ∀(i:Q8)(s:Shared)(Z:St)(H:Hp)(f:List V)(a:Q7)(Q:St->Hp->Prop),Inv X i Z H s->au f a->t f Z H Q ->
  wpAny (model X.prog X.w) X.A (assignInOrder ((assignEach j X.env).map (·.2)) a) (λ_ l=>SN X i Q l) X.xe s
abbrev cG:=V->V->V->Hp->(Hp->Prop)->Prop
inductive SE(X:Cx)(Jr:Q8)(Z:St)(Q:Hp->Prop)(s':Shared):Prop
 |mk(H':Hp)(i:Inv X Jr Z H' s')(q:Q H'):SE X Jr Z Q s'
def Ei(X:Cx)(t:cG):Prop :=
 ∀(j:Q8)(s:Shared)(Z:St)(H:Hp)(o i v:V)(a f u:Value)(Q:Hp->Prop),Inv X j Z H s->aR o a->aR i f->aR v u->t o i v H Q ->
  wpAny (model X.prog X.w) X.A (setItem a f u) (λ_ l=>SE X j Z Q l) X.xe s
section
variable{X:Cx}{pos:Pos}
def Dc(i:Nat):TG:=λv Z H Q=>Q (Z.set i (J v)) H
def sT(hN:X.N.Nodup)(f:X.N[i]?=J x)(l:Loc X.env.scope x)(hf:X.fn x=I\/X.env.scope.names.lookup x=J .local:=by first | exact .inl rfl | exact .inr rfl | assumption):PG X (.Name x pos) (Dc i):=by intro z s Z H v u Q a r h;exact wpAny_assign_Name (qx a hN f l r (λy j=>⟨_,H,j,h⟩) hf)
def Nf:HH:=λa Z H Q=>a=[]/\Q Z H
def IL(t:TG)(u:HH):HH:=λi Z H Q=>∃v r,i=v::r/\t v Z H λa f=>u r a f Q
def A4:PGs X [] Nf:=by intro j s Z H i f Q a r h;obtain⟨e,h⟩:=h;subst e;cases r;exact assignInOrder_nil ⟨Z,H,a,h⟩
def yY(E:PG X e t)(F:PGs X es u)(B:(assignEach (e::es) X.env).map (·.2)=assign e X.env::(assignEach es X.env).map (·.2):=by rfl):PGs X (e::es) (IL t u):=by
 intro f s Z H G L Q a r h;obtain⟨v,M,e1,h⟩:=h;subst e1
 cases r with
 |cons r C =>
  rw[B];refine assignInOrder_cons (k_ (E f s Z H _ _ _ a r h) λ_ z ⟨j,l,y,i⟩=>?_);exact F f z j l _ _ Q y C i
def Ng(K:g_)(n:Nat)(t:HH):TG:=λv Z H Q=>∃a xs,v=.ref a/\SqT K H a xs/\xs.length=n/\t xs Z H Q
def Ej{i:RM}{k:Nat}{t:HH}{n:Nat}(L:X.calm=I)(h:PGs X i t)(G:(assignEach i X.env).length=n:=by rfl)(l:(assignEach i X.env).findIdx? (·.1)=Y:=by rfl):PG X (.Tuple i k pos) (Ng X.K n t):=by
 intro F s Z H v u Q f r j;obtain⟨a,xs,e1,M,z,j⟩:=j;subst e1;cases r;obtain⟨B,y,C,R⟩:=f.tuple M;refine assign_Tuple_tuple (f.ok.hd L) C (by simp[G,<-z,y.length]) l λP O=>?_;have E:=f.kept (t':=s.toks) λb o e=>O b o (tt (mj e)) e;exact h F _ Z H xs _ Q E (by simpa using y) j
def Nh(j f:TE)(t:cG):TG:=λv Z H Q=>j Z H λo l=>f Z l λi a=>t o i v a λr=>Q Z r
def vp(ho:PE X o to)(G:PE X i ti)(R:Ei X t)(ha:∀v,assign (.Subscript o i pos) X.env v=(do
   let a <-holding [v] (eval o X.env)
   let f <-holding [v,a] (eval i X.env)
   standAt pos
   holding [v,a,f] (setItem a f v)
   release [v,a,f] []):=by intro _;rfl):PG X (.Subscript o i pos) (Nh to ti t):=by
 intro j s Z H v u Q l r h;refine c_ (wpAny_holding (k_ (ho j s Z H _ l h) λa P ⟨x,E,M,B,z⟩=>?_));refine c_ (wpAny_holding (k_ (G j P Z E _ M z) λf S ⟨y,L,C,F,q2⟩=>?_));refine c_ (wpAny_standAt (c_ (wpAny_holding (k_ (R j S Z L x y v a f u _ C B F r q2) λ_ s3 ⟨U,W,O⟩=>?_))));exact wpAny_release ⟨Z,U,W,O⟩
def IM(a:TE)(g:TG):TS:=λD Z H=>a Z H λx f=>g x Z f D.nx
def Ek(B:PE X e te)(E:PG X tg g)(z:swapsWithSole [tg] e pos.line X.env=pure T:=by rfl)(l:swappedStores [tg] e X.env=pure Y:=by rfl)(C:(assignEach [tg] X.env).map (·.2)=[assign tg X.env]:=by rfl):PS X (.Assign [tg] e pos) (IM te g):=by
 intro f s Z H D a h;refine wpAny_Assign_stores (k_ (B f s Z H _ a h) λv y ⟨x,r,u,j,i⟩=>?_) z l;rw[C];exact k_ (E f y Z r x v _ u j i) λ_ F q=>q
def El(hN:X.N.Nodup)(u:X.N[i]?=J x)(F:Loc X.env.scope x)(E:PE X e te)(C:swapsWith e (J (.Name x pos')) pos.line X.env=pure T:=by rfl)(hf:X.fn x=I\/X.env.scope.names.lookup x=J .local:=by first | exact .inl rfl | exact .inr rfl | assumption):
  PS X (.Assign [.Name x pos'] e pos) (IM te (Dc i)):=by
 intro B s Z H D a h;refine wpAny_Assign_Name (k_ (E B s Z H _ a h) λv G ⟨y,r,z,j,f⟩=>?_) C;exact qx z hN u F j (λL l=>⟨_,r,l,f⟩) hf
def Em(c:TT)(tb:TS):TS:=λD Z H=>∃W:Nat->St->Hp->Prop,(∃m,W m Z H)/\∀m Z H,W m Z H ->
 c Z H λb j=>if b=I then ∃N:St->Hp->Prop,(∀f i,N f i->∃a,a<m/\W a f i)/\tb { D with nx:=N,ct:=N,bk:=D.nx} Z j else D.nx Z j
def yd(Q:PassesOwn (model X.prog X.w) X.A X.env X.xe)(hc:PT X c tc)(hb:PSs X body tb):PS X (.While c body [] pos) (Em tc tb):=by
 intro y s Z H D z h;obtain⟨W,⟨m0,w0⟩,turn⟩:=h;refine wpAny_While (codeAny_whileLoop (λn R=>∃O P,Inv X y O P R/\W n O P) ?_ m0 ⟨Z,H,z,w0⟩);rintro n s1 ⟨j,L,U,S⟩;refine wpAny_passesOwn Q (k_ (hc y s1 j L _ U (turn n j L S)) λb s2 ⟨M,G,r⟩=>?_)
 cases b with
 |true =>
  obtain⟨N,hN,r⟩:=r;refine wpAny_passesOwn Q (k_ (hb y s2 j M _ G r) λf s3 l=>?_)
  cases f with
  |next =>
   obtain⟨a,i,E,B⟩:=l;obtain⟨F,u,C⟩:=hN a i B;exact⟨F,u,a,i,E,C⟩
  |cont =>
   obtain⟨a,i,E,B⟩:=l;obtain⟨F,u,C⟩:=hN a i B;exact⟨F,u,a,i,E,C⟩
  |brk=>exact l
  |ret v=>exact l
 |false =>
  exact wpAny_execs_nil ⟨j,M,G,r⟩
end
structure It where
 go:Nat->Hp->Prop
 yld:Nat->Hp->V->Hp->Prop
 stop:Nat->Hp->Prop
def hX(X:Cx)(a:Q8)(H:Hp)(b:Addr):Prop :=
 H b=Y/\b≠X.env.locals/\b∉X.fs/\(b∈X.ex\/X.s₀.heap.objs.size<=b)/\(∀x c,X.env.cells.lookup x=J c->c≠b)/\∀p∈X.pn++a,p.1≠b
def Inv.fpOk{X:Cx}{i:Q8}{Z:St}{H H':Hp}{s:Shared}{b:Addr}(a:Inv X i Z H s)(f:s.heap.objs.size<=b)(j:H' b=Y):hX X i H' b:=by
 refine⟨j,AX (q_ a.lt f),a.nofs f,.inr (l7 a.sz f),λx c e z=>?_,λp l z=>?_⟩
 .obtain⟨v,q⟩:=a.cell x c e;exact absurd (q_ q.lt (by rw[z];exact f)) (zr _)
 .exact absurd (q_ (mj (a.pin p l).1) (by rw[z];exact f)) (zr _)
inductive PH(X:Cx)(Jr:Q8)(Z:St)(u:Value)(Y:V->Hp->Prop)(n:Heap->Prop)(fp:Q6)(s2:Shared):Prop
 |mk(x:V)(H':Hp)(i:Inv X Jr Z H' s2)(r:aR x u)(y:Y x H')(t:n s2.heap)(f:∀b∈fp,H' b=none):PH X Jr Z u Y n fp s2
structure Ah(P:Program)(w:World)(K:g_)(tg:Expr)(J:It)(fp:Q6)(it:Addr)(tn:Nat->Heap->Prop):Prop where
 mem:it∈fp
 obj:∀i h,tn i h->∀b∈fp,∃o,h.get? b=some o/\∀v,o.data≠.cell v
 keep:∀i h h',tn i h->(∀b∈fp,∀o,h.get? b=some o->h'.get? b=some o)->tn i h'
 item:∀(X:Cx),X.prog=P->X.w=w->X.K=K->X.calm=I->∀(i:Nat)(Jr:Q8)(s:Shared)(Z:St)(H:Hp)(E:RQ),Inv X Jr Z H s->(∀b∈fp,hX X Jr H b)->tn i s.heap->J.go i H ->
  wpAny (model P w) X.A (pyNext (.ref it)) (λr s1=>∃u,r=some u /\
   wpAny (model P w) X.A (letOwnedTupleGo tg (.ref it) u) (λ_ s2=>PH X Jr Z u (J.yld i H) (tn (i+1)) fp s2) E s1) E s
 done:∀(X:Cx),X.prog=P->X.w=w->X.K=K->X.calm=I->∀(i:Nat)(Jr:Q8)(s:Shared)(Z:St)(H:Hp)(E:RQ),Inv X Jr Z H s->(∀b∈fp,hX X Jr H b)->tn i s.heap->J.stop i H ->
  wpAny (model P w) X.A (pyNext (.ref it)) (λr s1=>r=Y/\Inv X Jr Z H s1) E s
 self:∀(A:Around)(i:Nat)(s:Shared)(Q:RQ)(E:RQ),tn i s.heap->Q (.ref it) s->wpAny (model P w) A (pyIter (.ref it)) Q E s
abbrev TI:=St->Hp->(It->Hp->Prop)->Prop
inductive Ni(X:Cx)(Jr:Q8)(Z:St)(tg:Expr)(R:It->Hp->Prop)(itv:Value)(s2:Shared):Prop
 |mk(it:Addr)(fp:Q6)(tn:Nat->Heap->Prop)(J:It)(H':Hp)(e:itv=.ref it)(i:Inv X Jr Z H' s2)(t:Ah X.prog X.w X.K tg J fp it tn)(n:tn 0 s2.heap)(f:∀b∈fp,hX X Jr H' b)(r:R J H'):Ni X Jr Z tg R itv s2
def PI(X:Cx)(l a:Expr)(j:TI):Prop :=
 ∀(f:Q8)(s:Shared)(Z:St)(H:Hp)(R:It->Hp->Prop),Inv X f Z H s->j Z H R ->
  wpAny (model X.prog X.w) X.A (eval a X.env) (λv i=>wpAny (model X.prog X.w) X.A (pyIter v) (Ni X f Z l R) X.xe i) X.xe s
def uh(f:s.heap.get? it=J o)(j:o.cls=.type n)(hd:o.data=.fields vs)(i:["enumerate","zip","dict_itemiterator","dict_reverseitemiterator","odict_iterator","itertools.zip_longest","itertools.pairwise"].contains n=T)(a:Q () s):wpAny M A (letOwnedTupleGo tg (.ref it) u) Q E s:=by
 cases tg<;>first
  |exact h_ a
  | (cases u<;>first
    |exact h_ a
    | (refine c_ (wpAny_load f ?_)
       rw[j,hd];show wpAny M A (if(["enumerate","zip","dict_itemiterator","dict_reverseitemiterator","odict_iterator","itertools.zip_longest","itertools.pairwise"].contains n&&vs[0]? == J (rawInt _))=I then _ else _) Q E s;rw[d_ (by intro h;rw[i]at h;cases h)]
       exact h_ a))
def Nj(K:g_)(a:Addr):It :=
 ⟨λi H=>∃xs x,SqL K H a xs/\xs[i]?=J x,λi H x f=>f=H/\∀xs,SqL K H a xs->xs[i]?=J x,λi H=>∃xs,SqL K H a xs/\xs.length<=i⟩
def PJ(K:g_)(a:Addr):It :=
 ⟨λi H=>∃xs x,SqT K H a xs/\xs[i]?=J x,λi H x f=>f=H/\∀xs,SqT K H a xs->xs[i]?=J x,λi H=>∃xs,SqT K H a xs/\xs.length<=i⟩
def LJ(lo:Int)(n:Nat):It:=⟨λi _=>i<n,λi H x a=>a=H/\x=.int (lo+i),λi _=>n<=i⟩
def vq{P:Program}{w:World}{K:g_}{tg:Expr}(a l:Addr):Ah P w K tg (Nj K a) [l] l (λi h=>h.IsListIter l a i) where
 mem:=by simp
 obj:=λi h st b j=>by
  have e:b=l:=by simpa using j
  subst e;obtain⟨o,e,c,d⟩:=st;exact⟨o,e,λv z=>by rw[d]at z;cases z⟩
 keep:=λi h h' st k=>st.at λo e=>k l (by simp) o e
 item:=by intro X Q B F hc i Jr s Z H E f hf st U;subst Q B F;obtain⟨xs,x,y,S⟩:=U;obtain⟨L,G,p,hz⟩:=f.list y;obtain⟨u,hu,ru⟩:=G.get S;obtain⟨M,R,f2,O,C,W⟩:=hf l (by simp);refine wpAny_pyNext_list_item st p.isList (by simpa using hu) λh' r sb=>?_;have I1:=f.turned (t':=s.toks) (λb o j e=>(sb.2 b j).trans e) M R O C W;obtain⟨o,e,c,d⟩:=id r;exact⟨u,rfl,uh e c d (by decide) ⟨x,H,I1,ru,⟨rfl,λys hy=>by rw[f.list_inj hy y];exact S⟩,r,λb j=>(hf b j).1⟩⟩
 done:=by intro X Q B F hc i Jr s Z H E f hf st U;subst Q B F;obtain⟨xs,y,S⟩:=U;obtain⟨L,G,p,hz⟩:=f.list y;obtain⟨M,R,f2,O,C,W⟩:=hf l (by simp);have hl:=G.length;exact wpAny_pyNext_list_end (f.ok.hd hc) st p.isList (by simp;lia) λh' eb=>⟨rfl,f.turned (t':=s.toks) (λb o j e=>eb b o j e) M R O C W⟩
 self:=λ_ _ _ _ _ st h=>wpAny_pyIter_listiter st h
def uL{P:Program}{w:World}{K:g_}{tg:Expr}(a l:Addr):Ah P w K tg (PJ K a) [l] l (λi h=>h.IsTupleIter l a i) where
 mem:=by simp
 obj:=λi h st b j=>by
  have e:b=l:=by simpa using j
  subst e;obtain⟨o,e,c,d⟩:=st;exact⟨o,e,λv z=>by rw[d]at z;cases z⟩
 keep:=λi h h' st k=>st.at λo e=>k l (by simp) o e
 item:=by intro X Q B F hc i Jr s Z H E f hf st U;subst Q B F;obtain⟨xs,x,y,S⟩:=U;obtain⟨L,G,p,hz⟩:=f.tuple y;obtain⟨u,hu,ru⟩:=G.get S;obtain⟨M,R,f2,O,C,W⟩:=hf l (by simp);refine wpAny_pyNext_tuple_item st (p) (by simpa using hu) λh' r sb=>?_;have I1:=f.turned (t':=s.toks) (λb o j e=>(sb.2 b j).trans e) M R O C W;obtain⟨o,e,c,d⟩:=id r;exact⟨u,rfl,uh e c d (by decide) ⟨x,H,I1,ru,⟨rfl,λys hy=>by rw[f.tuple_inj hy y];exact S⟩,r,λb j=>(hf b j).1⟩⟩
 done:=by intro X Q B F hc i Jr s Z H E f hf st U;subst Q B F;obtain⟨xs,y,S⟩:=U;obtain⟨L,G,p,hz⟩:=f.tuple y;obtain⟨M,R,f2,O,C,W⟩:=hf l (by simp);have hl:=G.length;exact wpAny_pyNext_tuple_end (f.ok.hd hc) st (p) (by simp;lia) λh' eb=>⟨rfl,f.turned (t':=s.toks) (λb o j e=>eb b o j e) M R O C W⟩
 self:=λ_ _ _ _ _ st h=>wpAny_pyIter_tupleiter st h
def uK{P:Program}{w:World}{K:g_}{tg:Expr}(f:Addr)(lo:Int)(n:Nat):Ah P w K tg (LJ lo n) [f] f (λi h=>IsRangeIter h f (lo+(i:Nat)*1) ((n:Int)-(i:Nat)) 1) where
 mem:=by simp
 obj:=λi h st b j=>by
  have e:b=f:=by simpa using j
  subst e
  exact⟨_,st,λv z=>by
   have z':=z
   cases z'⟩
 keep:=λi h r st k=>k f (by simp) _ st
 item:=by intro X R M O C i Q s Z H E a hf st G;subst R M O;obtain⟨y,F,U,B,u,L⟩:=hf f (by simp);have W:=Walks.range (prog:=X.prog) (w:=X.w) (a.ok.hd C) f lo 1 n;refine W.item i s _ _ G st λv r tk hv l kk=>?_;obtain⟨t,rfl⟩:=hv;have I1:Inv X Q Z H { s with heap:=r,toks:=tk}:=a.turned (λb o j e=>kk b o (by simpa using j) e) y F B u L;refine⟨_,rfl,uh l rfl rfl (by decide) ⟨.int (lo+i),H,I1,⟨t,?_⟩,⟨rfl,rfl⟩,l,λb j=>(hf b j).1⟩⟩;rw[Int.mul_one]
 done:=by intro X R M O C i Q s Z H E a hf st G;obtain⟨y,F,U,B,u,L⟩:=hf f (by simp);exact wpAny_pyNext_range_end (a.ok.hd C) st (by have:n<=i:=G;lia) λr S=>⟨rfl,a.turned (t':=s.toks) (λb o j e=>S b o j e) y F B u L⟩
 self:=λ_ _ _ _ _ st h=>wpAny_pyIter_rangeiter st h
section
variable{X:Cx}{tg:Expr}
def IN(K:g_)(i:TE):TI:=λZ H R=>i Z H λx f=>∃a,x=.ref a/\(∃xs,SqL K f a xs)/\R (Nj K a) f
def Nk(K:g_)(i:TE):TI:=λZ H R=>i Z H λx f=>∃a,x=.ref a/\(∃xs,SqT K f a xs)/\R (PJ K a) f
def A5{l:Expr}{r:TE}(z:PE X l r):PI X tg l (IN X.K r):=by
 intro E s Z H R j h;refine k_ (z E s Z H _ j h) λv i ⟨x,B,f,y,u⟩=>?_;obtain⟨a,e,⟨xs,G⟩,q⟩:=u;subst e;cases y;obtain⟨C,M,p,L⟩:=f.list G;refine wpAny_pyIter_list p.isList ?_;refine⟨i.heap.objs.size,[i.heap.objs.size],_,_,B,rfl,f.kept (t':=i.toks) λb o e=>n3 _ e,vq a _,⟨_,tr _ rfl,rfl,rfl⟩,λb F=>?_,q⟩;have e:b=i.heap.objs.size:=by simpa using F
 subst e;exact f.fpOk (ii _) (f.hok.fresh (ii _))
def En{l:Expr}{r:TE}(z:PE X l r):PI X tg l (Nk X.K r):=by
 intro E s Z H R j h;refine k_ (z E s Z H _ j h) λv i ⟨x,B,f,y,u⟩=>?_;obtain⟨a,e,⟨xs,G⟩,q⟩:=u;subst e;cases y;obtain⟨C,M,p,L⟩:=f.tuple G;refine wpAny_pyIter_tuple (p) ?_;refine⟨i.heap.objs.size,[i.heap.objs.size],_,_,B,rfl,f.kept (t':=i.toks) λb o e=>n3 _ e,uL a _,⟨_,tr _ rfl,rfl,rfl⟩,λb F=>?_,q⟩;have e:b=i.heap.objs.size:=by simpa using F
 subst e;exact f.fpOk (ii _) (f.hok.fresh (ii _))
def yX{i:Q8}{Z:St}{H:Hp}{s:Shared}{R:It->Hp->Prop}{E:RQ}{lo a:Int}{t u v:Tok}{l:Nat}(j:Inv X i Z H s)(z:-(2^62)<=lo)(B:lo<2^62)(r:-(2^62)<=a)(C:a<2^62)(q:R (LJ lo (a-lo).toNat) H):wpAny (model X.prog X.w) X.A (pyIter (.ref s.heap.objs.size)) (Ni X i Z tg R) E { s with heap:=s.heap.push { cls:=.type "range",data:=.fields #[.int lo t,.int a u,.int 1 v]},toks:=l}:=by
 refine wpAny_pyIter_range (IsRange.new ..) (small_one z B r C) ?_;have f:Inv X i Z H { s with heap:=s.heap.push { cls:=.type "range",data:=.fields #[.int lo t,.int a u,.int 1 v]},toks:=l}:=j.kept λb o e=>n3 _ e
 refine⟨(s.heap.push { cls:=.type "range",data:=.fields #[.int lo t,.int a u,.int 1 v]}).objs.size,[(s.heap.push { cls:=.type "range",data:=.fields #[.int lo t,.int a u,.int 1 v]}).objs.size],_,_,H,rfl,
  f.kept (t':=l) λb o e=>n3 _ e,uK _ lo (a-lo).toNat,?_,λb y=>?_,q⟩
 .have e1:lo+((0:Nat):Int)*1=lo:=by simp
  have e2:(((a-lo).toNat:Nat):Int)-((0:Nat):Int)=Builtin.Range.rangeSize lo a 1:=by rw[rangeSize_one];split<;>lia
  rw[e1,e2];exact tr _ rfl
 .have e:b=(s.heap.push { cls:=.type "range",data:=.fields #[.int lo t,.int a u,.int 1 v]}).objs.size:=by simpa using y
  subst e;exact f.fpOk (ii _) (f.hok.fresh (ii _))
def IQ(a:TA):TI:=λZ H R=>a Z H λf i=>∃j:Int,f=[.int j] /\ -(2^62)<=j/\j<2^62/\R (LJ 0 j.toNat) i
def wL{a:Expr}{u:TA}{p i:Pos}(G:Gl X "range")(z:X.mg "range"=Y)(L:PA X [a] u)(E:starEach [a] X.env=[(T,eval a X.env)]:=by rfl):PI X tg (.Call (.Name "range" p) [a] [] i) (IQ u):=by
 intro C s Z H R f h;refine Call_ (ip f G z boot_range (PyProof.Rows.callWith_type1 (k_ (L i C s Z H _ f h) λS Q ⟨O,P,B,y,l⟩=>?_) E rfl));obtain⟨j,e,l,M,q⟩:=l;subst e
 cases y with
 |cons r F =>
  cases F;obtain⟨t,rfl⟩:=r;exact call_range_1 (yX B ⋯ ⋯ l M (by simpa using q))
def Nl(u:TI)(g:TG)(tb:TS):TS:=λD Z H=>u Z H λa y=>∃W:Nat->Nat->St->Hp->Prop,(∃m,W 0 m Z y)/\∀i m Z H,W i m Z H ->
 (a.stop i H/\D.nx Z H)\/(a.go i H/\∃N:St->Hp->Prop,(∀l f,N l f->∃j,j<m/\W (i+1) j l f)/\∀x f,a.yld i H x f->g x Z f λz r=>tb { D with nx:=N,ct:=N,bk:=D.nx} z r)
def ju(a:Q6)(h:Heap):Q8:=a.filterMap λb=>(h.get? b).map λo=>(b,o)
def fS(a:b∈fp)(e:h.get? b=J o):(b,o)∈ju fp h:=C5.mpr ⟨b,a,by rw[e];rfl⟩
def wO(a:p∈ju fp h):p.1∈fp/\h.get? p.1=J p.2:=by
 obtain⟨b,i,e⟩:=C5.mp a
 cases q:h.get? b with
 |none=>rw[q]at e;cases e
 |some o =>
  rw[q]at e;have f:=Option.some.inj e;subst f;exact⟨i,q⟩
def Inv.pinned{f:Q8}{Z:St}{H:Hp}{s:Shared}{i:Q6}(a:Inv X f Z H s)(hf:∀b∈i,hX X f H b)(l:∀b∈i,∃o,s.heap.get? b=J o/\∀v,o.data≠.cell v):Inv X (f++ju i s.heap) Z H s :=
 a.pins_of λp r=>(mh.mp r).elim (λz=>a.pin p (pk _ z)) λz=>by
  obtain⟨j,e⟩:=wO z;obtain⟨y,B,u,_⟩:=hf p.1 j;obtain⟨o,C,d⟩:=l p.1 j
  simp_all
def Inv.unpinned{Jr i:Q8}{Z:St}{H:Hp}{s:Shared}(a:Inv X (Jr++i) Z H s):Inv X Jr Z H s:=a.pins_of λp f=>a.pin p (pk _ (sv _ f))
def Eo(M:PassesOwn (model X.prog X.w) X.A X.env X.xe)(hc:X.calm=I)(hi:PI X tg iter wi)(hg:PG X tg g)(j:PSs X body tb)(hs:∀x,foldedSetIterable iter X.env x=pure x:=by intro _;rfl):PS X (.For tg iter body [] pos) (Nl wi g tb):=by
 intro G s Z H D an h;refine wpAny_For (k_ (hi G s Z H _ an h) λv s1 h1=>k_ h1 λas s2 h2=>?_) hs;obtain⟨it,S,tn,ap,H2,e,I2,a,aj,f2,W,⟨m0,w0⟩,turn⟩:=h2;subst e;have y:∀{C:Hp},(∀b∈S,C b=Y)->∀b∈S,hX X G C b:=λhn b j=>⟨hn b j,(f2 b j).2⟩;refine codeAny_forLoop_any (λn s'=>∃i L C,Inv X G L C s'/\tn i s'.heap/\(∀b∈S,C b=Y)/\W i n L C) ?_ m0 ⟨0,Z,H2,I2,aj,λb j=>(f2 b j).1,w0⟩;rintro n s3 ⟨i,Q,U,I3,P,R,w3⟩;rcases turn i n Q U w3 with⟨stop,qn⟩|⟨go,N,hN,step⟩
 .refine wpAny_passesOwn M (k_ (a.done X rfl rfl rfl hc i G s3 Q U X.xe I3 (y R) P stop) λr s4 ⟨hr,I4⟩=>?_);subst hr;exact wpAny_execs_nil ⟨Q,U,I4,qn⟩
 .refine wpAny_passesOwn M (k_ (a.item X rfl rfl rfl hc i G s3 Q U X.xe I3 (y R) P go) λr s4 ⟨u,hr,h4⟩=>?_);subst hr;refine wpAny_passesOwn M (k_ h4 λ_ s5 ⟨x,H5,I5,r5,y5,F,am⟩=>?_);have ab:=I5.pinned (y am) (a.obj _ _ F);refine wpAny_passesOwn M (k_ (hg _ s5 Q H5 x u _ ab r5 (step x H5 y5)) λ_ s6 ⟨Z6,H6,I6,q6⟩=>?_);refine wpAny_passesOwn M (k_ (j _ s6 Z6 H6 _ I6 q6) λf s7 E=>?_);have again:∀{B:St}{l:Hp},Inv X (G++ju S s5.heap) B l s7->N B l->∃m,m<n/\∃i L C,Inv X G L C s7/\tn i s7.heap/\(∀b∈S,C b=Y)/\W i m L C:=λ{B l} z O=>by
   obtain⟨m',hm,w7⟩:=hN B l O;refine⟨m',hm,i+1,B,l,z.unpinned,a.keep _ _ _ F λb j o e=>(z.pin (b,o) (pk _ (pk _ (fS j e)))).1,λb j=>?_,w7⟩;obtain⟨o,e,d⟩:=a.obj _ _ F b j;exact(z.pin (b,o) (pk _ (pk _ (fS j e)))).2.1
  cases f with
  |next=>obtain⟨B,l,z,O⟩:=E;exact again z O
  |cont=>obtain⟨B,l,z,O⟩:=E;exact again z O
  |brk=>obtain⟨B,l,z,E⟩:=E;exact⟨B,l,z.unpinned,E⟩
  |ret v=>obtain⟨x7,B,l,z,r7,E⟩:=E;exact⟨x7,B,l,z.unpinned,r7,E⟩
end
abbrev R2:=V->V->Hp->VK->Prop
def OpR(X:Cx)(f:Value->Value->Sem Value)(r:R2):Prop :=
 ∀(a:Q8)(s:Shared)(Z:St)(H:Hp)(x y:V)(v u:Value)(Q:VK),Inv X a Z H s->aR x v->aR y u->r x y H Q ->
  wpAny (model X.prog X.w) X.A (f v u) (EP X a Z Q) X.xe s
def LK(X:Cx)(f:Value->Sem Value)(r:V->Hp->VK->Prop):Prop :=
 ∀(a:Q8)(s:Shared)(Z:St)(H:Hp)(x:V)(v:Value)(Q:VK),Inv X a Z H s->aR x v->r x H Q ->
  wpAny (model X.prog X.w) X.A (f v) (EP X a Z Q) X.xe s
def bV(X:Cx)(f:Value)(r:List V->Hp->VK->Prop):Prop :=
 ∀(i:Q8)(s:Shared)(Z:St)(H:Hp)(xs:List V)(a:Q7)(Q:VK),Inv X i Z H s->au xs a->r xs H Q ->
  wpAny (model X.prog X.w) X.A (call f a) (EP X i Z Q) X.xe s
def Nm(X:Cx)(r:V->Hp->(Bool->Hp->Prop)->Prop):Prop :=
 ∀(a:Q8)(s:Shared)(Z:St)(H:Hp)(x:V)(v:Value)(Q:Bool->Hp->Prop),Inv X a Z H s->aR x v->r x H Q ->
  wpAny (model X.prog X.w) X.A (truthy v) (TP X a Z Q) X.xe s
def IR(r:R2)(f tb:TE):TE:=λZ H Q=>f Z H λx i=>tb Z i λy a=>r x y a Q
def QK(r:V->Hp->VK->Prop)(a:TE):TE:=λZ H Q=>a Z H λx f=>r x f Q
def rI(C:Int->Int->Prop)(g:Int->Int->V):R2:=λx y H Q=>∃i j,x=.int i/\y=.int j/\C i j/\Q (g i j) H
def A6(g:Int->Int->V):R2:=λx y H Q=>∃i j,x=.int i/\y=.int j/\Q (g i j) H
def rU(g:Int->V):V->Hp->VK->Prop:=λx H Q=>∃i,x=.int i/\Q (g i) H
section
variable{X:Cx}{a b c:Expr}{ta tb tc:TE}{pos:Pos}
def Ep(S:PE X a ta)(O:PE X b tb){r:Q8}{s:Shared}{Z:St}{H:Hp}{R:V->V->Hp->Prop}(C:Inv X r Z H s)(h:ta Z H λx B=>tb Z B λy i=>R x y i){Q:RQ}{f:Value->Value->Sem Value}(hf:∀v u z x y i,Inv X r Z i z->aR x v->aR y u->R x y i->wpAny (model X.prog X.w) X.A (f v u) Q X.xe z):
  wpAny (model X.prog X.w) X.A (eval a X.env) (λv l=>wpAny (model X.prog X.w) X.A (eval b X.env) (λu j=>wpAny (model X.prog X.w) X.A (f v u) Q X.xe j) X.xe l) X.xe s:=by
 refine k_ (S r s Z H _ C h) λv P ⟨x,B,M,F,E⟩=>?_;refine k_ (O r P Z B _ M E) λu z ⟨y,i,G,L,U⟩=>?_;exact hf v u z x y i G F L U
def IS{i:Operator}{r:R2}(F:OpR X (binaryOp i) r)(G:PE X a ta)(C:PE X b tb):PE X (.BinOp a i b pos) (IR r ta tb):=by intro B s Z H Q f h;exact wpAny_BinOp (Ep G C f h λv u E x y l j L z q=>F B E Z l x y v u Q j L z q)
def IT(j:LK X (unaryOp op) r)(z:PE X a ta):PE X (.UnaryOp op a pos) (QK r ta):=by intro i s Z H Q f h;exact UnaryOp_ (k_ (z i s Z H _ f h) λv y ⟨x,C,B,u,l⟩=>j i y Z C x v Q B u l)
def QL{f:Value->Value->Sem Value}{C:Int->Int->Prop}{g:Int->Int->Int}(rule:∀(i j:Int)(t u:Tok)(s:Shared)(Q:RQ)(E:RQ),C i j->Q (.int (g i j) s.toks) { s with toks:=s.toks+1}->wpAny (model X.prog X.w) X.A (f (.int i t) (.int j u)) Q E s):
  OpR X f (rI C λi j=>.int (g i j)):=by
 intro G s Z H x y v u Q l F r h;obtain⟨i,j,rfl,rfl,z,q⟩:=h;obtain⟨t,rfl⟩:=F;obtain⟨B,rfl⟩:=r;exact rule i j t B s _ _ z ⟨.int (g i j),H,l.tok _,⟨_,rfl⟩,q⟩
def IU{f:Value->Value->Sem Value}{g:Int->Int->Int}(rule:∀(i j:Int)(t u:Tok)(s:Shared)(Q:RQ)(E:RQ),Q (.int (g i j) s.toks) { s with toks:=s.toks+1}->wpAny (model X.prog X.w) X.A (f (.int i t) (.int j u)) Q E s):
  OpR X f (A6 λi j=>.int (g i j)):=by
 intro C s Z H x y v u Q l B r h;obtain⟨i,j,rfl,rfl,q⟩:=h;obtain⟨t,rfl⟩:=B;obtain⟨z,rfl⟩:=r;exact rule i j t z s _ _ ⟨.int (g i j),H,l.tok _,⟨_,rfl⟩,q⟩
def A7{f:Value->Value->Sem Value}{g:Int->Int->Bool}(rule:∀(i j:Int)(t u:Tok)(s:Shared)(Q:RQ)(E:RQ),Q (.bool (g i j)) s->wpAny (model X.prog X.w) X.A (f (.int i t) (.int j u)) Q E s):
  OpR X f (A6 λi j=>.bl (g i j)):=by
 intro C s Z H x y v u Q l B r h;obtain⟨i,j,rfl,rfl,q⟩:=h;obtain⟨t,rfl⟩:=B;obtain⟨z,rfl⟩:=r;exact rule i j t z s _ _ ⟨.bl (g i j),H,l,rfl,q⟩
def gG(i j:Int):Prop:=0<=j/\j<=1000000/\i.natAbs<2^64
def Er:OpR X (binaryOp .Add) (A6 λi j=>.int (i+j)):=IU λ_ _ _ _ _ _ _ q=>add_int q
def Es:OpR X (binaryOp .Sub) (A6 λi j=>.int (i-j)):=IU λ_ _ _ _ _ _ _ q=>sub_int q
def Et:OpR X (binaryOp .Pow) (rI gG λi j=>.int (i^j.toNat)):=QL λ_ _ _ _ _ _ _ f q=>pow_int_small f.1 f.2.1 f.2.2 q
def QM{f:Value->Sem Value}{g:Int->Int}(rule:∀(i:Int)(t:Tok)(s:Shared)(Q:RQ)(E:RQ),Q (.int (g i) s.toks) { s with toks:=s.toks+1}->wpAny (model X.prog X.w) X.A (f (.int i t)) Q E s):
  LK X f (rU λi=>.int (g i)):=by
 intro r s Z H x v Q j l h;obtain⟨i,rfl,q⟩:=h;obtain⟨t,rfl⟩:=l;exact rule i t s _ _ ⟨.int (g i),H,j.tok _,⟨_,rfl⟩,q⟩
def Eu:LK X (unaryOp .USub) (rU λi=>.int (-i)):=QM λ_ _ _ _ _ q=>neg_int q
def Ev{j:Q8}{Z:St}{H:Hp}{s:Shared}{Q:VK}{k i:Bool}(f:Inv X j Z H s)(q:Q (.bl k) H)(e:k=i):EP X j Z Q (.bool i) s:=by subst e;exact⟨.bl k,H,f,rfl,q⟩
def IV:OpR X (compareOp .Lt) (A6 λi j=>.bl (decide (i<j))):=A7 λ_ _ _ _ _ _ _ q=>lt_int q
def IW:OpR X (compareOp .LtE) (A6 λi j=>.bl (decide (i<=j))):=A7 λ_ _ _ _ _ _ _ q=>le_int q
def IY:OpR X (compareOp .Gt) (A6 λi j=>.bl (decide (j<i))):=A7 λ_ _ _ _ _ _ _ q=>gt_int q
def IZ:OpR X (compareOp .GtE) (A6 λi j=>.bl (decide (j<=i))):=A7 λ_ _ _ _ _ _ _ q=>ge_int q
def A8:OpR X (compareOp .IsNot) (λx y H Q=>y=.non/\Q (.bl (!decide (x=.non))) H):=by
 intro l s Z H x y v u Q f j i h;obtain⟨rfl,q⟩:=h;cases i;refine isnot_none_gen (Ev f q ?_);cases x<;>first
  |(obtain⟨t,rfl⟩:=j;rfl)
def Ai(b:Expr)(h:op≠.In:=by decide)(f:op≠.NotIn:=by decide):behindInMarks op b=T:=by
 have e1:(op==CmpOp.In)=T:=by cases op<;>first | rfl | exact absurd rfl h
 have e2:(op==CmpOp.NotIn)=T:=by cases op<;>first | rfl | exact absurd rfl f
 cases b<;>simp[behindInMarks,e1,e2]
def A9{i:CmpOp}{r:R2}(G:OpR X (compareOp i) r)(L:PE X a ta)(E:PE X b tb)(j:behindInMarks i b=T):PE X (.Compare a [i] [b] pos) (IR r ta tb):=by intro C s Z H Q f h;exact wpAny_Compare1 (Ep L E f h λv u F x y z l M B q=>G C F Z z x y v u Q l M B q) j
def I_(t:TE):TT:=λZ H Q=>t Z H λx f=>∃k,x=.bl k/\Q k f
def A_(W:OpR X (compareOp op) r)(ha:PE X a ta)(M:PE X b tb)(B:behindInMarks op b=T):PT X (.Compare a [op] [b] pos) (I_ (IR r ta tb)):=by
 intro f s Z H Q i h
 refine wpAny_isTrue_Compare1 (k_ (ha f s Z H _ i h) λv P ⟨x,E,L,l,j⟩=>k_ (M f P Z E _ L j) λu R ⟨y,G,C,F,q2⟩ =>
  k_ (W f R Z G x y v u _ C l F q2) λc s3 ⟨z,S,U,r3,k,e,O⟩=>?_) B
 subst e;cases r3;exact wpAny_truthy_bool ⟨S,U,O⟩
def xc(r i:R2)(ta tb tc:TE):TE:=λZ H Q=>ta Z H λx B=>tb Z B λy j=>r x y j λz f=>∃k,z=.bl k /\
 (if k=I then tc Z f λu l=>i y u l Q else Q (.bl T) f)
def yR(ho:OpR X (compareOp op) r)(j:OpR X (compareOp op') r')(ha:PE X a ta)(hb:PE X b tb)(hc:PE X c tc)(M:lastMarks [op,op'] [b,c]=T:=by with_unfolding_all rfl):PE X (.Compare a [op,op'] [b,c] pos) (xc r r' ta tb tc):=by
 intro f s Z H Q i h
 refine Compare_chain (k_ (ha f s Z H _ i h) λv s1 ⟨x,P,W,G,F⟩=>chain_link (k_ (hb f s1 Z P _ W F) λu s2 ⟨y,R,O,l,q2⟩ =>
  k_ (ho f s2 Z R x y v u _ O G l q2) λd s3 ⟨z,C,E,r3,k,e,B⟩=>?_)) M
 subst e;cases r3;refine wpAny_truthy_bool ?_
 cases k with
 |false=>exact ite_ff ⟨.bl T,C,E,rfl,B⟩
 |true=>exact ite_tt (chain_last (k_ (hc f s3 Z C _ E B) λU s4 ⟨z',H4,S,r4,L⟩=>j f s4 Z H4 y z' u U Q S l r4 L))
def Ja(K:g_)(x:V)(H:Hp)(k:Bool):Prop :=
 match x with
 |.non=>k=T
 |.bl b=>k=b
 |.int i=>k=(i != 0)
 |.str y=>y.length<=sizeLine/\k=((y.length:Int) != 0)
 |.byt y=>y.size<=sizeLine/\k=((y.size:Int) != 0)
 |.ref p=>(∃xs,SqL K H p xs/\k=!xs.isEmpty)\/(∃xs,SqT K H p xs/\k=!xs.isEmpty)\/∃f,H p=J (.dK f)/\k=!f.isEmpty
 |_=>False
def uM{κ:Type}{f:List (κ×V)}{i:List (κ×Value)}(r:KV f i):(!i.isEmpty)=!f.isEmpty:=by cases r<;>rfl
def lN(r:au xs its):(!its.toArray.isEmpty)=!xs.isEmpty:=by cases r<;>simp
def lM:(sizeLine:Nat)<2^63:=by rw[sizeLine_eq];decide
def qH:Nm X (λx H Q=>∃k,Ja X.K x H k/\Q k H):=by
 intro O s Z H x v Q f z h;obtain⟨k,e,q⟩:=h;have P:sizeLine=16777216:=sizeLine_eq
 cases x with
 |non =>
  cases z;have j:k=T:=e;subst j;exact truthy_none ⟨H,f,q⟩
 |bl b =>
  cases z;have j:k=b:=e;subst j;exact wpAny_truthy_bool ⟨H,f,q⟩
 |int i =>
  obtain⟨t,rfl⟩:=z;have j:k=(i != 0):=e;subst j;exact PySem.P.truthy_int ⟨H,f,q⟩
 |str y =>
  obtain⟨t,rfl⟩:=z;obtain⟨L,j⟩:y.length<=sizeLine/\k=((y.length:Int) != 0):=e;subst j;exact PySem.P.truthy_str ⋯ ⟨H,f.tok _,q⟩
 |byt y =>
  obtain⟨t,rfl⟩:=z;obtain⟨L,j⟩:y.size<=sizeLine/\k=((y.size:Int) != 0):=e;subst j;exact PySem.W.truthy_bytes ⋯ ⟨H,f.tok _,q⟩
 |ref p =>
  cases z;have j:(∃xs,SqL X.K H p xs/\k=!xs.isEmpty)\/(∃xs,SqT X.K H p xs/\k=!xs.isEmpty)\/∃l,H p=J (.dK l)/\k=!l.isEmpty:=e;rcases j with⟨xs,B,j⟩|⟨xs,B,j⟩|⟨l,B,j⟩
  .subst j;obtain⟨F,r,E,G⟩:=f.list B;have u:=r.length;exact wpAny_truthy_list E.isList (by simp only[n9];lia) ⟨H,f.tok _,by rw[lN r];exact q⟩
  .subst j;obtain⟨F,r,E,G⟩:=f.tuple B;have u:=r.length;exact truthy_tuple E (by simp only[n9];lia) ⟨H,f.tok _,by rw[lN r];exact q⟩
  .subst j;obtain⟨G,M,C,r,m⟩:l.length<=sizeLine/\(p==sysModules)=T/\∃C,KV l C/\s.heap.DictOf (mV X.prog X.w) p C:=f.hok p _ B;have u:l.length=C.length:=Paired.length r;exact wpAny_truthy_dict M m ⋯ ⟨H,f.tok _,by rw[uM r];exact q⟩
 |_=>exact(show False from e).elim
def xo(E:PE X a ta)(C:∀f,isTrue a X.env f=(do let v <-f;standAt a.pos;holding [v] (truthy v))):
  PT X a (λZ H Q=>ta Z H λx l=>∃k,Ja X.K x l k/\Q k l):=by
 intro j s Z H Q i h;exact isTrue_plain (k_ (E j s Z H _ i h) λv B ⟨x,y,z,u,r⟩=>qH j B Z y x v Q z u r) (C _)
def uo:OpR X (binaryOp .Add) (λx y H Q=>∃i j,x=.str i/\y=.str j/\i.length+j.length<=sizeLine/\Q (.str (i++j)) H):=by intro C s Z H x y v u Q f B r h;obtain⟨i,j,rfl,rfl,l,q⟩:=h;obtain⟨t,rfl⟩:=B;obtain⟨z,rfl⟩:=r;exact add_str (λz E=>⟨.str (i++j),H,f.tok _,⟨_,rfl⟩,q⟩) l
def d7(r:au [x] us):∃u,us=[u]/\aR x u:=by
 cases r with
 |cons f i=>cases i;exact⟨_,rfl,f⟩
def vals2(r:au [x,y] us):∃u f,us=[u,f]/\aR x u/\aR y f:=by
 cases r with
 |cons i z =>
  cases z with
  |cons j l=>cases l;exact⟨_,_,rfl,i,j⟩
def yt:bV X (.builtin "abs") (λxs H Q=>∃i,xs=[.int i]/\Q (.int (if i<0 then -i else i)) H):=by intro y s Z H xs j Q f r h;obtain⟨i,rfl,q⟩:=h;obtain⟨u,rfl,t,rfl⟩:=d7 r;exact call_abs_int λu l=>⟨.int (if i<0 then -i else i),H,f.tok _,⟨_,rfl⟩,q⟩
def nY(y:X.calm=I):bV X (.builtin "max") (λxs H Q=>∃i j,xs=[.int i,.int j]/\Q (.int (if j>i then j else i)) H):=by
 intro C s Z H xs E Q f r h;obtain⟨i,j,rfl,q⟩:=h;obtain⟨u,B,rfl,⟨t,rfl⟩,⟨G,rfl⟩⟩:=vals2 r;refine max_two_ints (f.ok.hd y) λz F k=>⟨_,H,f.kept k,?_,q⟩;by_cases l:j>i
 .rw[b_ l,b_ l];exact⟨_,rfl⟩
 .rw[d_ l,d_ l];exact⟨_,rfl⟩
def oq(y:X.calm=I):bV X (.builtin "min") (λxs H Q=>∃i j,xs=[.int i,.int j]/\Q (.int (if j<i then j else i)) H):=by
 intro C s Z H xs E Q f r h;obtain⟨i,j,rfl,q⟩:=h;obtain⟨u,B,rfl,⟨t,rfl⟩,⟨G,rfl⟩⟩:=vals2 r;refine min_two_ints (f.ok.hd y) λz F k=>⟨_,H,f.kept k,?_,q⟩;by_cases l:j<i
 .rw[b_ l,b_ l];exact⟨_,rfl⟩
 .rw[d_ l,d_ l];exact⟨_,rfl⟩
def No(K:g_)(x:V)(H:Hp)(n:Nat):Prop :=
 match x with
 |.str y=>y.length<=sizeLine/\n=y.length
 |.byt y=>y.size<=sizeLine/\n=y.size
 |.ref p=>(∃xs,SqL K H p xs/\n=xs.length)\/∃xs,SqT K H p xs/\n=xs.length
 |_=>False
def iP:bV X (.builtin "len") (λxs H Q=>∃x n,xs=[x]/\No X.K x H n/\Q (.int n) H):=by
 intro L s Z H xs O Q f r h;obtain⟨x,n,rfl,e,q⟩:=h;obtain⟨u,rfl,E⟩:=d7 r;have M:=sizeLine_eq
 cases x with
 |str y =>
  obtain⟨t,rfl⟩:=E;obtain⟨F,j⟩:=e;subst j;exact len_str ⋯ ⟨.int _,H,f.tok _,⟨_,rfl⟩,q⟩
 |byt y =>
  obtain⟨t,rfl⟩:=E;obtain⟨F,j⟩:=e;subst j;exact PySem.W.len_bytes ⋯ ⟨.int _,H,f.tok _,⟨_,rfl⟩,q⟩
 |ref p =>
  cases E;have j:=e;rcases j with⟨xs,C,j⟩|⟨xs,C,j⟩
  .subst j;obtain⟨B,l,z,G⟩:=f.list C;have i:=l.length;exact Calls.call_len_list z.isList (by simp only[n9];lia) ⟨.int xs.length,H,f.tok _,⟨_,by simp only[n9];rw[i]⟩,q⟩
  .subst j;obtain⟨B,l,z,G⟩:=f.tuple C;have i:=l.length;exact len_tuple z (by simp only[n9];lia) ⟨.int xs.length,H,f.tok _,⟨_,by simp only[n9];rw[i]⟩,q⟩
 |_=>exact(e).elim
end
section
variable{prog:Program}{w:World}{A:Around}{E:RQ}{s:Shared}{K:g_}{x dx C f:Addr}{mA:RT}{name:Str}{v:Value}
end
section
variable{P:Program}{w:World}{H H':Hp}{h h':Heap}{a C dx:Addr}{fs fs':List (Str × V)}
end
section
variable{X:Cx}{Jr:List (Addr × Obj)}{Z:St}{H:Hp}{s:Shared}{a C dx:Addr}{fs:List (Str × V)}{f:Str}{v:V}{A:Around}{E:RQ}
end
section
variable{X:Cx}{o e value:Expr}{f:Str}{pos pos' tpos:Pos}{ta tv:TE}
end
section
variable{X:Cx}{Jr:List (Addr × Obj)}{Z:St}{H:Hp}{s:Shared}{A:Around}{E:RQ}{Q:RQ}{c:Value}{b:Bool}
end
structure Room(k:Nat)(A:Around):Prop where
 hd:A.handled=Y
 dp:A.depth+3*k+5<recursionLimit
 un:A.units+16*k+200<cLine
 gd:A.guards=J []
def Room.mono(r:Room k A)(h:j<=k):Room j A:=⟨r.hd,by have:=r.dp;lia,by have:=r.un;lia,r.gd⟩
def Room.deeper(r:Room (k+1) A)(env:Env):Room k (A.deeper env) :=
 ⟨r.hd,by have:=r.dp;show A.depth+1+3*k+5<_;lia,by have:=r.un;show A.units+3+16*k+200<_;lia,r.gd⟩
def Room.depth(r:Room k A):A.depth<recursionLimit:=by have:=r.dp;lia
def Room.units(r:Room k A):A.units+64<cLine:=by have:=r.un;lia
def Np:TA:=λ_ H Q=>Q [] H
def Jb(f:TE)(i:TA):TA:=λZ H Q=>f Z H λx j=>i Z j λxs a=>Q (x::xs) a
section
variable{X:Cx}{e:Expr}{es:RM}{te:TE}{t:TA}{pos:Pos}
def jn:PA X [] Np:=λ_ _ _ _ H Q a h=>Calls.spliced_nil ⟨[],H,a,.nil,h⟩
def gc(G:PE X e te)(B:PA X es t)(F:starEach (e::es) X.env=(T,eval e X.env)::starEach es X.env:=by rfl):PA X (e::es) (Jb te t):=by intro pos f s Z H Q a h;rw[F];show wpAny _ _ (spliced ((T,eval e X.env)::backTo pos (starEach es X.env))) _ _ s;refine Calls.spliced_cons (k_ (G f s Z H _ a h) λu E ⟨x,r,C,j,i⟩=>?_);exact k_ (B pos f E Z r _ C i) λO M ⟨xs,z,l,y,L⟩=>⟨x::xs,z,l,.cons j y,L⟩
def Nq(t:TA):TE:=λZ H Q=>t Z H λxs a=>xs.length<=sizeLine/\∀p,a p=Y->Q (.ref p) (lg a p (.tup xs))
def Nr(t:TA):TE:=λZ H Q=>t Z H λxs a=>xs.length<=sizeLine/\∀p,a p=Y->Q (.ref p) (lg a p (.lst xs))
def Ew{x1}(h:PA X es t):PE X (.Tuple es x1 pos) (Nq t):=by intro l s Z H Q a y;refine wpAny_Tuple_spliced (k_ (h pos l s Z H _ a y) λB f ⟨xs,j,i,r,z,q⟩=>⟨by rw[<-r.length];exact z,?_⟩);have hf:=i.hok.fresh (ii _);refine⟨.ref f.heap.objs.size,lg j f.heap.objs.size (.tup xs),i.laid (t':=f.toks) (λb u e=>n3 _ e) (ii _) ?_,rfl,q _ hf⟩;exact⟨z,B,r,⟨_,tr _ rfl,rfl,⟨_,rfl⟩,rfl⟩⟩
def Ex(h:PA X es t):PE X (.List es pos) (Nr t):=by intro l s Z H Q a y;refine wpAny_List_spliced (k_ (h pos l s Z H _ a y) λB f ⟨xs,j,i,r,z,q⟩=>⟨by rw[<-r.length];exact z,?_⟩);have hf:=i.hok.fresh (ii _);refine⟨.ref f.heap.objs.size,lg j f.heap.objs.size (.lst xs),i.laid (t':=f.toks) (λb u e=>n3 _ e) (ii _) ?_,rfl,q _ hf⟩;exact⟨z,B,0,r,tr _ rfl⟩
end
abbrev Sp:=List V->Hp->VK->XK->Prop
abbrev z_:=List Env->Hp->Shared->XK->Value->Shared->Prop
structure Bb(P:Program)(w:World)(K:g_)(mg:RT)(base:Heap)(A:Around)(outer:List Env)(s:Shared)(H:Hp):Prop where
 frames:A.frames=J outer
 mod:Mod K mg base
 bs:∀b o,base.get? b=J o->s.heap.get? b=J o/\H b=Y
 bsz:base.objs.size<=s.heap.objs.size
 funs:s.heap.FunFrames base outer
 frf:∀b∈v_ outer,H b=Y
 hok:HOk P w H s.heap
 bare:AllBare s.gens
inductive CE(outer:List Env)(P:Program)(w:World)(H:Hp)(s:Shared)(Q:VK)(u:Value)(s':Shared):Prop
 |mk(v:V)(H':Hp)(o:s'.os=s.os)(b:AllBare s'.gens)(n:Un (v_ outer) [] H H' s.heap s'.heap)(k:HOk P w H' s'.heap)(r:aR v u)(q:Q v H'):CE outer P w H s Q u s'
def CR(f:z_)(outer:List Env)(P:Program)(w:World)(H:Hp)(s:Shared)(Q:VK)(E:XK)(r:Result)(a:Shared):Prop :=
 match r with
 |.ok (.ret u)=>CE outer P w H s Q u a
 |.ok _=>False
 |.error e=>f outer H s E e a
structure FnOk(P:Program)(w:World)(K:g_)(mg:RT)(base:Heap)(CX:z_)(k:Nat)(f:Addr)(fd:FuncData)(ps:Q1)(sp:Sp):Prop where
 len:∀vs H Q E,sp vs H Q E->vs.length=ps.length
 run:∀(A:Around)(outer:List Env)(s:Shared)(H:Hp)(args:Args)(us:Q7)(vs:List V)(Q:VK)(E:XK),Room k A->Bb P w K mg base A outer s H->BindsTo s fd args (ps.zip us)->au vs us->sp vs H Q E ->
  codeAny (model P w) A (.call (.ref f) args) (CR CX outer P w H s Q E) s
def FnOk.mono{P:Program}{w:World}{K:g_}{mg:RT}{base:Heap}{l:z_}{j k:Nat}{f:Addr}{fd:FuncData}{r:Q1}{i:Sp}(F:FnOk P w K mg base l j f fd r i)(h:j<=k):
  FnOk P w K mg base l k f fd r i:=⟨F.len,λA outer s H a z u Q E y=>F.run A outer s H a z u Q E (y.mono h)⟩
def FnOk.imp{P:Program}{w:World}{K:g_}{mg:RT}{base:Heap}{r:z_}{k:Nat}{f:Addr}{fd:FuncData}{u:Q1}{l j:Sp}(F:FnOk P w K mg base r k f fd u l)(h:∀a H Q E,j a H Q E->l a H Q E):FnOk P w K mg base r k f fd u j :=
 ⟨λa H Q E q=>F.len a H Q E (h _ _ _ _ q),λA outer s H i G a Q E y C z hv B=>F.run A outer s H i G a Q E y C z hv (h _ _ _ _ B)⟩
section
variable{X:Cx}{Jr:List (Addr × Obj)}{Z:St}{H:Hp}{s s':Shared}
def Inv.env0(a:Inv X Jr Z H s):Bb X.prog X.w X.K X.mg X.base X.A X.stack s H :=
 ⟨a.ok.frames,a.ok.mod,a.bs,l7 a.ok.bsz a.sz,a.stack,a.stkFree,a.hok,a.bare⟩
def Inv.after(a:Inv X Jr Z H s)(h:CE X.stack X.prog X.w H s Q u s'):EP X Jr Z Q u s':=by obtain⟨v,f,os,bare,un,hok,r,q⟩:=h;obtain⟨j,g,d,t,i⟩:=s';obtain rfl:=os;exact⟨v,f,a.call (h':=j) (g':=g) (d':=d) (t':=t) un hok bare (λb z=>absurd z (by simp)),r,q⟩
end
def mD(K:g_)(fd:FuncData)(i:Q1)(f:Q7):Prop :=
 ∀(s:Shared)(a:Q7),K.In s.heap->(a++f).length=i.length->BindsTo s fd ⟨a,[]⟩ (i.zip (a++f))
def mD.all{K:g_}{fd:FuncData}{f:Q1}(h:∀a:Q7,a.length=f.length->bindArgs fd ⟨a,[]⟩=pure (f.zip a)):mD K fd f []:=λs a _ i=>by
 rw[HD]at i ⊢;exact .of_eq (h a i)
section
variable{X:Cx}{CX:z_}{k:Nat}{f C:Addr}{fd:FuncData}{ps:Q1}{sp:Sp}{dvs:List V}{ds:Q7}{E:XK}{x m:Str}{p pos apos:Pos}{e o:Expr}{es:RM}{ta:TE}{t:TA}
end
section
variable{X:Cx}{CX:z_}{k:Nat}{f C:Addr}{fd:FuncData}{ps ks:Q1}{sp:Sp}{E:XK}{x m:Str}{p pos apos kpos:Pos}{e o:Expr}{es:RM}{kws:List Keyword}{te ta:TE}{t tk:TA}{nm:Option Str}{g:Q7->Q7->Q7}{gV:List V->List V->List V}
end
structure qw(N P:Q1)(sc:Scope):Prop where
 kind:sc.kind=.function
 co:sc.isCoroutine=T
 gen:sc.isGenerator=T
 nd:N.Nodup
 pre:N.take P.length=P
 par:∀x∈P,sc.names.lookup x=J .local\/sc.names.lookup x=J .cell
 nofree:∀y∈sc.names,y.2≠.free
def nL{kindOf:Str->Option NameKind}{x:Str}:∀{binds:List (Str×Value)}{m:RT},(∀v,(x,v)∉binds)->bindL kindOf binds m x=m x
 |[],_,_=>rfl
 |(n,v)::r,m,h=>by
  unfold bindL;rw[nL λw a=>h w (l_ _ a)];split
  .have:x≠n:=by rintro rfl;exact h v rl
   simp[this]
  .rfl
def nN{kindOf:Str->Option NameKind}{x:Str}:∀{binds:List (Str×Value)}{m:RT},(∀v,(x,v)∉binds)->bindC kindOf binds m x=m x
 |[],_,_=>rfl
 |(n,v)::r,m,h=>by
  unfold bindC;rw[nN λw a=>h w (l_ _ a)];split
  .rfl
  .have:x≠n:=by rintro rfl;exact h v rl
   simp[this]
def nP{kindOf:Str->Option NameKind}{x:Str}{v:Value}:∀{P:Q1}{a:Q7}{i:Nat}{m:RT},P.Nodup->P[i]?=J x->a[i]?=J v->kindOf x=J .local ->
  bindL kindOf (P.zip a) m x=J v
 |p::P,w::a,0,m,nd,f,j,l=>by
  simp at f j;subst f;subst j;show bindL kindOf ((p,w)::P.zip a) m p=_;unfold bindL;rw[nL λv hv=>(IA.mp nd).1 (M0 hv).1,b_ l];simp
 |p::P,w::a,i+1,m,nd,f,j,l=>by
  unfold bindL;exact nP (IA.mp nd).2 (by simpa using f) (by simpa using j) l
def oB{kindOf:Str->Option NameKind}{x:Str}{v:Value}:∀{P:Q1}{a:Q7}{i:Nat}{m:RT},P.Nodup->P[i]?=J x->a[i]?=J v->kindOf x≠J .local ->
  bindC kindOf (P.zip a) m x=J v
 |p::P,w::a,0,m,nd,f,j,l=>by
  simp at f j;subst f;subst j;show bindC kindOf ((p,w)::P.zip a) m p=_;unfold bindC;rw[nN λv hv=>(IA.mp nd).1 (M0 hv).1,d_ l];simp
 |p::P,w::a,i+1,m,nd,f,j,l=>by
  unfold bindC;exact oB (IA.mp nd).2 (by simpa using f) (by simpa using j) l
def start(N:Q1)(a:List V):St:=a.map J++List.replicate (N.length-a.length) Y
def rC(r:z_)(P:Program)(w:World)(K:g_)(mg:RT)(base:Heap)(N:Q1)(i:Str)(a:Scope)(f:Addr)(l:Value)(A:Around)(outer:List Env)(s:Shared)(H:Hp)(E:XK):Cx where
 prog:=P
 w:=w
 K:=K
 mg:=mg
 base:=base
 A:=A.deeper (envOfC i a s.heap.objs.size f l)
 N:=N
 s₀:=s
 H₀:=H
 env:=envOfC i a s.heap.objs.size f l
 outer:=outer
 stack:=envOfC i a s.heap.objs.size f l::outer
 ex:=[]
 calm:=I
 fn:=λ_=>I
 pn:=[]
 xe:=λe u=>wpAny (model P w) (A.deeper (envOfC i a s.heap.objs.size f l)) (leaving (envOfC i a s.heap.objs.size f l) e) (λ_ j=>r outer H s E e j) (λy j=>r outer H s E y j) u
def qV{a:Scope}{n:Nat}{x:Str}(h:a.names.lookup x=J .cell):∃c,(cellsFrom n a.names []).lookup x=J c:=by have q:=PySem.W.cellsFrom_some a.names n [] (.inl h);exact Option.isSome_iff_exists.mp q
def w5{Z:z_}{P:Program}{w:World}{K:g_}{mg:RT}{base:Heap}{N L:Q1}{l:Str}{j:Scope}{f:Addr}{U:Value}{A:Around}{outer:List Env}{s s1:Shared}{H:Hp}{E:XK}{X:Q7}{G:List V}(S:qw N L j)(hd:A.handled=Y)(C:Bb P w K mg base A outer s H)(hl:G.length=L.length)(r:au G X)(x:InCallC s s.heap.objs.size (bindL (envOfC l j s.heap.objs.size f U).kindOf (L.zip X) λ_=>Y) (cellsFrom (s.heap.objs.size+1) j.names []) (bindC (envOfC l j s.heap.objs.size f U).kindOf (L.zip X) λ_=>Y) s1):
  Inv (rC Z P w K mg base N l j f U A outer s H E) [] (start N G) H s1:=by
 have ab:L.length<=N.length:=by have:=congrArg List.length S.pre;rw[AG]at this;lia
 obtain⟨W,tk,rfl,hk⟩:=x.done;have F:∀b:Addr,b∉(rC Z P w K mg base N l j f U A outer s H E).ex:=λb z=>absurd (show b∈([]:Q6)from z) (by simp)
 refine⟨⟨C.mod,S.kind,rfl,rfl,ii _,λy z c W B=>?_,λy M=>?_,λy c _ h=>?_,λ_=>hd,Around.frames_deeper C.frames,.inr ⟨rfl,rfl⟩,λb z=>absurd z (F b),C.bs,C.bsz,λb _ _=>F b,λb z=>absurd z (F b),C.funs,C.frf⟩,
  rfl,C.bare,Un.kept hk,⟨_,x.toInCall.ns,λi y v W B h3=>?_⟩,λy c h=>⟨_,x.cell y c h⟩,C.hok.fresh (ii _),λy c h=>?_,λp Q=>absurd (show p∈([]:Q8)from Q) (by simp),C.hok.kept hk,?_⟩
 .exact name_of_addr x.apart (PySem.mem_of_lookup W) (PySem.mem_of_lookup B)
 .rcases M with M|M
  .exact qV M
  .exact absurd rfl (S.nofree _ (PySem.mem_of_lookup M))
 .exact u0 (x.above y c (PySem.mem_of_lookup h))
 .have R:i<G.length:=by
   unfold start at B;by_cases R:i<G.length
   .exact R
   .rw[zE (by simpa using R)]at B;rw[Ag]at B
    split at B<;>cases B
  have ha:G[i]?=J v:=by
   unfold start at B;rw[xu (by simpa using R),s_]at B
   cases e:G[i]? with
   |none=>rw[e]at B;cases B
   |some a=>rw[e]at B;cases B;rfl
  obtain⟨u,hu,rv⟩:=r.get ha;have Q:L[i]?=J y:=by rw[<-S.pre,Lk ⋯];exact W
  have O:L.Nodup:=by rw[<-S.pre];exact S.nd.sublist (MX _ _)
  refine⟨u,rv,?_⟩;rcases S.par y (zI Q)with k|k
  .exact .inl ⟨k,nP O Q hu k⟩
  .obtain⟨c,e⟩:=qV k;refine .inr ⟨.inl k,c,e,?_⟩;have q:=x.cell y c e;rw[oB O Q hu (by show j.names.lookup y≠_;rw[k];decide)]at q;exact q
 .exact C.hok.fresh (u0 (x.above y c (PySem.mem_of_lookup h)))
 .unfold start;show _=N.length;rw[v3,n_,Im];lia
def Jc{CX:z_}{P:Program}{w:World}{K:g_}{mg:RT}{base:Heap}{k:Nat}{f:Addr}{F i:Str}{z:Arguments}{B:List Stmt}{a:Scope}{dV kV R pm l ct oc:Value}{an od:Option Addr}{aj:Array (Q9)}{N Z:Q1}{sp:Sp}(lk:K.lookup f=J ⟨oc,od,.func (PySem.W.fnOf F i z B a dV kV R pm an l ct),aj⟩)(ab:PySem.W.codeIn K l i=I)(S:qw N Z a)(len:∀C H Q E,sp C H Q E->C.length=Z.length)(M:∀(A:Around)(outer:List Env)(s:Shared)(H:Hp)(C:List V)(Q:VK)(E:XK),Room k (A.deeper (envOfC i a s.heap.objs.size f l))->sp C H Q E ->
   ∃t,PSs (rC CX P w K mg base N i a f l A outer s H E) B t/\t { nx:=λ_ G=>Q .non G,rt:=Q} (start N C) H):
  FnOk P w K mg base CX (k+1) f (PySem.W.fnOf F i z B a dV kV R pm an l ct) Z sp:=by
 refine⟨len,λA outer s H as us C Q E hr U hb r W=>?_⟩;have hl:=len _ _ _ _ W;have KX:=U.mod.kin.keeps λb o e=>(U.bs b o e).1;have am:=U.mod.nolimit.keeps λb o e=>(U.bs b o e).1;have L:∀y∈Z.zip us,a.names.lookup y.1=J .local\/(a.names.lookup y.1=J .cell/\((cellsFrom (s.heap.objs.size+1) a.names []).lookup y.1).isSome=I):=λ⟨n,v⟩ hy=>by
  rcases S.par n (M0 hy).1 with q|q
  .exact .inl q
  .exact .inr ⟨q,PySem.W.cellsFrom_some _ _ _ (.inl q)⟩
 refine codeAny_call_function hr.depth (KX _ _ lk) rfl S.co S.gen rfl (PySem.W.codeRec_of KX ab) (hb _ _ _ _ ?_);refine wpAny_newFunctionEnv_cells S.kind L λenv he s1 x=>?_;subst he;refine⟨am.keeps x.toInCall.keep,codeAny_func ?_⟩;obtain⟨t,ht,hq⟩:=M A outer s H C Q E (hr.deeper _) W;have ap:Inv (rC CX P w K mg base N i a f l A outer s H E) [] (start N C) H s1:=w5 S hr.hd U hl r x;refine wpAny_mono (ht [] s1 (start N C) H _ ap hq) (λfl s' O=>?_) λe s' O=>O;have fin:∀{X:St}{G:Hp}{v:V}{u:Value},Inv (rC CX P w K mg base N i a f l A outer s H E) [] X G s'->aR v u->Q v G->CE outer P w H s Q u s' :=
  λ{X G v u} j rv q=>⟨v,G,j.os,j.bare,j.base,j.hok,rv,q⟩
 cases fl with
 |ret u =>
  obtain⟨v,X,G,j,rv,q⟩:=O;exact fin j rv q
 |next =>
  obtain⟨X,G,j,q⟩:=O;exact fin (v:=V.non) j rfl q
 |brk =>
  obtain⟨_,_,_,q⟩:=O;exact False.elim q
 |cont =>
  obtain⟨_,_,_,q⟩:=O;exact False.elim q
section
variable{X:Cx}{x:Str}{p pos:Pos}{e:Expr}{es:RM}{t:TA}{id T:String}{r:List V->Hp->VK->Prop}
def Nt(r:List V->Hp->VK->Prop)(t:TA):TE:=λZ H Q=>t Z H λa f=>r a f Q
def iL(G:bV X (.builtin id) r)(O:Gl X x)(y:X.mg x=Y)(hv:bootBuiltins x=J (.builtin id))(P:PA X (e::es) t)(E:x≠"__name__":=by decide)(i:(x==("__debug__":Str))=false:=by decide)(L:starEach (e::es) X.env=(false,eval e X.env)::starEach es X.env:=by rfl)(f:(backTo pos (starEach es X.env)).any (·.1)=false:=by rfl):PE X (.Call (.Name x p) (e::es) [] pos) (Nt r t):=by
 intro j s Z H Q a h;refine wpAny_Call_Name_kw (ip a O y hv ?_ E i);exact PyProof.Rows.callWith_builtin1 (k_ (P pos j s Z H _ a h) λM F ⟨z,B,C,u,l⟩=>G j F Z B z M Q C u l) L f
def hU(G:bV X (.type T) r)(O:Gl X x)(y:X.mg x=Y)(hv:bootBuiltins x=J (.type T))(P:PA X (e::es) t)(E:x≠"__name__":=by decide)(i:(x==("__debug__":Str))=false:=by decide)(L:starEach (e::es) X.env=(false,eval e X.env)::starEach es X.env:=by rfl)(f:(backTo pos (starEach es X.env)).any (·.1)=false:=by rfl):PE X (.Call (.Name x p) (e::es) [] pos) (Nt r t):=by
 intro j s Z H Q a h;refine wpAny_Call_Name_kw (ip a O y hv ?_ E i);exact PyProof.Rows.callWith_type1 (k_ (P pos j s Z H _ a h) λM F ⟨z,B,C,u,l⟩=>G j F Z B z M Q C u l) L f
end
end L2
namespace HT
open PyProof.Rows
section
open PySem.SeqAt
open PySem.AutoSeq1 (wpAny_loadPart')
open PySem.MeetsSeq PySem.MeetsSeq2 PySem.MeetsSeq3
end
section
variable{prog:Program}{w:World}{A:Around}{E:RQ}{s:Shared}
def Bc(F:IsTup s.heap t vs.toArray)(G:IsTup s.heap b ws.toArray)(hv:vs≠[])(L:ws=[]->Q (.ref t) s)(M:ws≠[]->Q (.ref s.heap.objs.size) { s with heap:=s.heap.push { cls:=.type "tuple",data:=.seq (vs++ws).toArray}})(r:vs.length+ws.length<=sizeLine):wpAny (model prog w) A (binaryOp .Add (.ref t) (.ref b)) Q E s:=by
 obtain⟨⟨cls,z,data,sl⟩,l,H,n,hd⟩:=id F;obtain⟨⟨B,f,data2,i⟩,a,y,C,u⟩:=id G;subst H hd y u;have e:vs.toArray++ws.toArray=(vs++ws).toArray:=by simp
 by_cases j:ws=[]
 .exact concat_meets ⟨_,l,rfl⟩ ⟨_,a,rfl⟩ noFill_tuple_add seq_tuple_add PySem.F.slot_tuple_add PySem.F.entry_tuple_add (PySem.F.args_tuple_add_2 _ _)
   (tuple_addW1 t b vs.toArray ws.toArray n C z f sl i (by simpa using hv) (by simp[j])) ⟨l,a,L j⟩
 .refine concat_meets ⟨_,l,rfl⟩ ⟨_,a,rfl⟩ noFill_tuple_add seq_tuple_add PySem.F.slot_tuple_add PySem.F.entry_tuple_add (PySem.F.args_tuple_add_2 _ _)
   (tuple_addW2 t b vs.toArray ws.toArray n C z f sl i (by simpa using hv) (by simpa using j) (by exact r)) ⟨l,a,?_⟩
  rw[e];exact M j
def li(n d:Nat):RL->Nat
 |none=>d
 |some v=>if v<0 then(v+(n:Int)).toNat else min v.toNat n
def kH(n d:Nat):li n d Y=d:=rfl
def m4(n d k:Nat):li n d (J (k:Int))=min k n:=rfl
def tT(v:Int)(n d:Nat):(if v<0 then max (v+(n:Int)) 0 else min v (n:Int))=((li n d (J v):Nat):Int):=by
 show(if v<0 then max (v+(n:Int)) 0 else min v (n:Int))=(((if v<0 then(v+(n:Int)).toNat else min v.toNat n):Nat):Int)
 grind
def uR(lo a:RL)(n:Nat):Builtin.Slice.sliceAdjust lo a 1 (n:Int)=(((li n 0 lo:Nat):Int),((li n n a:Nat):Int)):=by
 refine Prod.ext ?_ ?_
 .cases lo with
  |none=>rfl
  |some v=>exact tT v n 0
 .cases a with
  |none=>rfl
  |some v=>exact tT v n n
def uN(i j:Nat):Builtin.Slice.slicePlaces (i:Int) (j:Int) 1=j-i:=by
 unfold Builtin.Slice.slicePlaces;have a:(1:Int)>0:=by lia
 simp only[a,if_true,Int.ediv_one]
 split<;>lia
def lQ(p:IsPart v o)(h:Q o s):wpAny (model prog w) A (Builtin.Slice.slicePartIndex v) Q E s:=by
 cases p with
 |none=>exact slicePart_none h
 |int i t=>exact slicePart_int h
def kZ{sl:Addr}{j l:Value}{lo f:RL}{n:Nat}{Q:Int×Int×Nat->Shared->Prop}(u:s.heap.IsSliceOf sl j l .none)(y:IsPart j lo)(r:IsPart l f)(h:Q (((li n 0 lo:Nat):Int),1,li n n f-li n 0 lo) s):wpAny (model prog w) A (Builtin.Slice.sliceApplied (.ref sl) (pure (n:Int))) Q E s:=by
 obtain⟨os,i,z,a⟩:=id u;refine c_ (c_ (wpAny_field i a rfl (c_ (wpAny_field i a rfl (c_ (wpAny_field i a rfl (h_ ?_)))))));refine c_ (slicePart_none ?_);refine c_ (lQ y (c_ (lQ r (c_ (h_ ?_)))));show wpAny _ _ (match Builtin.Slice.sliceAdjust lo f 1 (n:Int)with | (lo,f)=>pure (lo,(1:Int),Builtin.Slice.slicePlaces lo f 1)) _ _ s;rw[uR lo f n];show wpAny _ _ (pure (((li n 0 lo:Nat):Int),(1:Int),Builtin.Slice.slicePlaces ((li n 0 lo:Nat):Int) ((li n n f:Nat):Int) 1)) _ _ s;rw[uN];exact h_ h
def yN(xs:Array Value)(i k:Nat):((List.range k).filterMap λ(m:Nat)=>xs[((i:Int)+(m:Int)*1).toNat]?).toArray=((xs.toList.drop i).take k).toArray:=by
 have e:(λ(m:Nat)=>xs[((i:Int)+(m:Int)*1).toNat]?)=λm=>xs[i+m]?:=by grind
 rw[e]
 have:=pick_run xs i k
 rw[List.filterMap_map]at this;have e2:((λx=>xs[x]?)∘λx=>i+x)=λm=>xs[i+m]?:=rfl;rw[e2]at this;rw[this]
def ko{t sl:Addr}{items:Array Value}{y z:Value}{lo a:RL}{Q:RQ}(i:IsTup s.heap t items)(B:s.heap.IsSliceOf sl y z .none)(G:IsPart y lo)(L:IsPart z a)(F:¬(li items.size 0 lo=0/\li items.size items.size a=items.size))(h:Q (.ref s.heap.objs.size) { s with heap:=s.heap.push { cls:=.type "tuple",data:=.seq ((items.toList.drop (li items.size 0 lo)).take (li items.size items.size a-li items.size 0 lo)).toArray}})(H:items.size<=sizeLine):wpAny (model prog w) A (getItem (.ref t) (.ref sl)) Q E s:=by
 have f:sizeOk (.seq ((items.toList.drop (li items.size 0 lo)).take (li items.size items.size a-li items.size 0 lo)).toArray):=by show((items.toList.drop (li items.size 0 lo)).take (li items.size items.size a-li items.size 0 lo)).toArray.size<=sizeLine;rw[n9,AG,DM,yU];lia
 obtain⟨os,r,u,C⟩:=id B;have j:s.TypeIs (.ref sl) "slice":=⟨os,r,u⟩;unfold getItem
 try with_reducible refine wpAny_holding ?_
 refine c_ (wpAny_sequenceKey i.typeIs (by decide) ?_)
 refine c_ (wpAny_callSpecial?_slot i.typeIs PyProof.Rows.slot_tuple_getitem
  (wpAny_call_entry PyProof.Rows.slot_tuple_getitem i.typeIs entry_tuple_getitem ?_ (args_tuple_getitem _ _)))
 show wpAny _ _ (Builtin.Tuple.tupleItemsOf (.ref t) >>= _) _ _ s;refine c_ (tupleItemsOf_ i ?_);refine c_ (wpAny_typeOf j ?_);refine c_ (kZ B G L ?_);have l:¬((((li items.size 0 lo:Nat):Int)==0&&(1:Int)==1&&(li items.size items.size a-li items.size 0 lo)==items.size)=I):=by intro q;rw[Ix,Ix]at q;have M:=eq_of_beq q.1.1;have O:=eq_of_beq q.2;exact F ⟨⋯,⋯⟩
 show wpAny _ _ (if(((li items.size 0 lo:Nat):Int)==0&&(1:Int)==1&&(li items.size items.size a-li items.size 0 lo)==items.size)=I then _ else _) _ _ s;rw[d_ l,yN]
 first
  |exact c_ (m:=Builtin.Tuple.tupleExact _) (wpAny_newObj_type (c_ (h_ (h_ ⟨_,rfl,h_ h⟩))) f)
end
end HT
namespace L2
open PySem.Spec PyProof.Rows
abbrev TO:=St->Hp->(RL->Hp->Prop)->Prop
def PO(X:Cx)(e:Option Expr)(t:TO):Prop :=
 ∀(f:Q8)(s:Shared)(Z:St)(H:Hp)(Q:RL->Hp->Prop),Inv X f Z H s->t Z H Q ->
  wpAny (model X.prog X.w) X.A (evalPart e X.env) (λu i=>∃o a,Inv X f Z a i/\IsPart u o/\Q o a) X.xe s
def Be:TO:=λ_ H Q=>Q Y H
def Jd(t:TE):TO:=λZ H Q=>t Z H λx a=>∃i,x=.int i/\Q (J i) a
def vb:∀{a:Q7},au (ns.map V.int) a->IntsAre a ns:=by
 induction ns with
 |nil=>intro a r;cases r;exact .nil
 |cons n ns j =>
  intro a r
  cases r with
  |cons f i =>
   obtain⟨t,e⟩:=f;subst e;exact .cons n t (j i)
section
variable{X:Cx}{e:Expr}{te:TE}{lo hi:Option Expr}{tl th:TO}{pos p2:Pos}
def Bg:PO X Y Be:=by intro f s Z H Q a h;rw[evalPart_none];exact h_ ⟨Y,H,a,.none,h⟩
def Bh(h:PE X e te):PO X (J e) (Jd te):=by intro z s Z H Q a l;refine k_ (h z s Z H _ a l) λu B ⟨x,r,y,j,f⟩=>?_;obtain⟨i,rfl,q⟩:=f;obtain⟨t,rfl⟩:=j;exact⟨J i,r,y,.int i t,q⟩
def LL(X:Cx)(r:V->RL->RL->Hp->VK->Prop):Prop :=
 ∀(j:Q8)(s:Shared)(Z:St)(H:Hp)(x:V)(v f i:Value)(lo hi:RL)(sl:Addr)(Q:VK),Inv X j Z H s->aR x v->s.heap.IsSliceOf sl f i .none->IsPart f lo->IsPart i hi->r x lo hi H Q ->
  ∃a id,typeLookup (.type a) "__getitem__"=pure (J (.builtin id))/\s.TypeIs v a/\wpAny (model X.prog X.w) X.A (getItem v (.ref sl)) (EP X j Z Q) X.xe s
def QN(r:V->RL->RL->Hp->VK->Prop)(te:TE)(tl th:TO):TE:=λZ H Q=>te Z H λx i=>tl Z i λl f=>th Z f λu a=>r x l u a Q
def yM(R:LL X r)(he:PE X e te)(E:PO X lo tl)(hu:PO X hi th):PE X (.Subscript e (.Slice lo hi Y p2) pos) (QN r te tl th):=by intro f s Z H Q y h;refine Subscript_ (k_ (he f s Z H _ y h) λv s1 ⟨x,M,U,C,B⟩=>?_);refine wpAny_Slice (k_ (E f s1 Z M _ U B) λi s2 ⟨l,O,L,G,q2⟩=>k_ (hu f s2 Z O _ L q2) λj a ⟨u,z,I3,pu,W⟩=>?_);refine h_ ?_;have P:Inv X f Z z { a with heap:=a.heap.push { cls:=.type "slice",data:=.fields #[i,j,.none]}}:=I3.kept (t':=a.toks) λb ob q=>n3 _ q;obtain⟨F,id,hT,S,hg⟩:=R f { a with heap:=a.heap.push { cls:=.type "slice",data:=.fields #[i,j,.none]}} Z z x v i j l u a.heap.objs.size Q P C (Heap.IsSliceOf.new ..) G pu W;exact tail_any S hT hg (by with_unfolding_all rfl)
def kO(xs:List V)(lo hi:RL):List V:=(xs.drop (HT.li xs.length 0 lo)).take (HT.li xs.length xs.length hi-HT.li xs.length 0 lo)
def ku(xs:List V)(lo hi:RL):(kO xs lo hi).length<=xs.length:=by unfold kO;rw[AG,DM];lia
def Nu(K:g_):V->RL->RL->Hp->VK->Prop:=λx lo hi H Q=>∃a xs,x=.ref a/\SqT K H a xs /\
 ¬(HT.li xs.length 0 lo=0/\HT.li xs.length xs.length hi=xs.length)/\∀p,H p=Y->Q (.ref p) (lg H p (.tup (kO xs lo hi)))
def Ey:LL X (Nu X.K):=by
 intro M s Z H x v G L lo hi sl Q i F B z E h;obtain⟨a,xs,rfl,C,y,q⟩:=h;cases F;obtain⟨j,r,u,l⟩:=i.tuple C;have f:j.toArray.size=xs.length:=by exact r.length.symm
 refine⟨"tuple",_,PyProof.Rows.slot_tuple_getitem.lookup,u.typeIs,?_⟩;refine HT.ko u B z E (by rw[f];exact y) ?_ (by rw[f];exact l);rw[f];refine⟨.ref s.heap.objs.size,_,i.laid (t':=s.toks) (λb O q=>n3 _ q) (ii _) ?_,rfl,q _ (i.hok.fresh (ii _))⟩;exact⟨l7 (ku xs lo hi) l,_,(r.drop (HT.li xs.length 0 lo)).take (HT.li xs.length xs.length hi-HT.li xs.length 0 lo),gz.new _ _⟩
def Je(K:g_):R2:=λx y H Q=>∃a b xs ys,x=.ref a/\y=.ref b/\SqT K H a xs/\SqT K H b ys/\xs≠[]/\xs.length+ys.length<=sizeLine /\
 (ys=[]->Q (.ref a) H)/\(ys≠[]->∀p,H p=Y->Q (.ref p) (lg H p (.tup (xs++ys))))
def au.nil_iff(r:au xs us):us=[]↔xs=[]:=by
 cases r with
 |nil=>simp
 |cons _ _=>simp
def Bi:OpR X (binaryOp .Add) (Je X.K):=by intro R s Z H x y v u Q f O E h;obtain⟨a,b,xs,ys,rfl,rfl,M,F,L,l,B,P⟩:=h;cases O;cases E;obtain⟨C,j,G,_⟩:=f.tuple M;obtain⟨r,i,p2,_⟩:=f.tuple F;refine HT.Bc G p2 (λz=>L (j.nil_iff.mp z)) (λz=>⟨.ref a,H,f,rfl,B (i.nil_iff.mp z)⟩) (λz=>?_) (by rw[<-j.length,<-i.length];exact l);refine⟨.ref s.heap.objs.size,_,f.laid (t':=s.toks) (λb S q=>n3 _ q) (ii _) ?_,rfl,P (λw=>z (i.nil_iff.mpr w)) _ (f.hok.fresh (ii _))⟩;exact⟨by rw[v3];exact l,_,j.append i,gz.new _ _⟩
end
def vv(n:Nat)(i:Int):RV:=if 0<=i then(if i<n then J i.toNat else Y)else if -(n:Int)<=i then J (i+n).toNat else Y
def mw{α:Type}(xs:List α)(i:Int):Option α:=(vv xs.length i).bind λj=>xs[j]?
def r9(h:vv n i=J j):seqIndex? i n=J j/\j<n /\ -(n:Int)<=i/\i<n:=by
 unfold vv at h;by_cases f:0<=i
 .rw[b_ f]at h;by_cases a:i<n
  .rw[b_ a]at h;have e:=Option.some.inj h;exact⟨by rw[seqIndex_of f a,e],⋯,⋯,a⟩
  .rw[d_ a]at h;cases h
 .rw[d_ f]at h;by_cases a:-(n:Int)<=i
  .rw[b_ a]at h;have e:=Option.some.inj h;exact⟨by rw[seqIndex_neg ⋯ a,e],⋯,a,⋯⟩
  .rw[d_ a]at h;cases h
def nJ(h:mw xs i=J v):∃j,seqIndex? i xs.length=J j/\xs[j]?=J v/\j<xs.length /\ -(xs.length:Int)<=i/\i<xs.length:=by
 unfold mw at h
 cases e:vv xs.length i with
 |none=>rw[e]at h;cases h
 |some j =>
  rw[e]at h;obtain⟨a,l,f,r⟩:=r9 e;exact⟨j,a,h,l,f,r⟩
def f8{α:Type}{xs:List α}{j:Nat}{v:α}(h:xs[j]?=J v):mw xs (j:Int)=J v:=by
 have a:=(qp.mp h).1;have e:vv xs.length (j:Int)=J j:=by
  unfold vv
  simp_all
 unfold mw;rw[e];exact h
def kc(b:Expr):Prop:=∀o i,subscripted b T o i=operate [o,i] (getItem o i)
def IxR(X:Cx)(r:R2):Prop :=
 ∀(f a:Expr)(i:Q8)(s:Shared)(Z:St)(H:Hp)(x y:V)(v u:Value)(Q:VK),Inv X i Z H s->aR x v->aR y u->r x y H Q ->
  subscripted a T v u=operate [v,u] (getItem v u)->wpAny (model X.prog X.w) X.A (subscriptTail f a v u) (EP X i Z Q) X.xe s
def AJ(X:Cx)(id:String)(r:V->List V->Hp->VK->Prop):Prop :=
 ∀(f:Q8)(s:Shared)(Z:St)(H:Hp)(x:V)(xs:List V)(v:Value)(a:Q7)(Q:VK),Inv X f Z H s->aR x v->au xs a->r x xs H Q ->
  wpAny (model X.prog X.w) X.A (call (.builtin id) (v::a)) (EP X f Z Q) X.xe s
section
variable{X:Cx}{a b:Expr}{ta tb:TE}{pos:Pos}
def IxR.or(h:IxR X r)(E:IxR X r'):IxR X (λx y H Q=>r x y H Q\/r' x y H Q):=by
 intro f i C s Z H x y v u Q j B z q l;rcases q with q|q
 .exact h f i C s Z H x y v u Q j B z q l
 .exact E f i C s Z H x y v u Q j B z q l
def Jf{r:R2}(l:IxR X r)(G:PE X a ta)(C:PE X b tb)(E:kc b):PE X (.Subscript a b pos) (IR r ta tb):=by intro B s Z H Q f h;exact Subscript_ (Ep G C f h λv u F x y j i L z q=>l a b B F Z j x y v u Q i L z q (E _ _))
def Jg(K:g_):R2:=λx y H Q=>∃p xs i v,x=.ref p/\y=.int i/\SqL K H p xs/\mw xs i=J v/\Q v H
def Jh(K:g_):R2:=λx y H Q=>∃p xs i v,x=.ref p/\y=.int i/\SqT K H p xs/\mw xs i=J v/\Q v H
def Ji:R2:=λx y H Q=>∃z i c,x=.str z/\y=.int i/\z.length<=sizeLine/\mw z.cps.toList i=J c/\Q (.str ⟨#[c]⟩) H
def Bj:IxR X (Jg X.K):=by
 intro E C U s Z H x y v u Q f rx S h O;obtain⟨p,xs,i,z,rfl,rfl,hq,he,q⟩:=h;cases rx;obtain⟨t,rfl⟩:=S;obtain⟨G,r,B,hz⟩:=f.list hq;obtain⟨j,l,h2,h3,h4,W⟩:=nJ he;obtain⟨w,M,L⟩:=r.get h2;have R:=r.length;have hn:=lM;have fin:EP X U Z Q w s:=⟨z,H,f,L,q⟩;by_cases P:0<=i
 .have F:i.toNat=j:=by
   rw[seqIndex_of P W]at l;exact Option.some.inj l
  exact item_listR B.isList P ⋯ (by rw[F];simpa using M) fin O
 .have F:(i+(G.toArray.size:Int)).toNat=j:=by
   rw[seqIndex_neg ⋯ h4]at l;rw[n9,<-R];exact Option.some.inj l
  exact subscriptTail_builtinR B.isList.typeIs slot_list_getitem.lookup
   (wpAny_getItem_list_neg B.isList ⋯ (by rw[n9]<;>lia) ⋯ (by rw[F];simpa using M) ⟨rfl,fin⟩) O
def Ez:IxR X (Jh X.K):=by
 intro B l O s Z H x y v u Q f rx M h P;obtain⟨p,xs,i,z,rfl,rfl,R,S,q⟩:=h;cases rx;obtain⟨t,rfl⟩:=M;obtain⟨G,r,E,hz⟩:=f.tuple R;obtain⟨j,U,W,h3,h4,h5⟩:=nJ S;obtain⟨w,L,C⟩:=r.get W;have F:=r.length;have hn:=lM;have fin:EP X O Z Q w s:=⟨z,H,f,C,q⟩;exact subscriptTail_builtinR E.typeIs slot_tuple_getitem.lookup
  (getItem_tuple E ⋯ ⋯ (by rw[n9,<-F];exact U) (by simpa using L) ⟨rfl,fin⟩) P
def EA:IxR X Ji:=by
 intro l f U s Z H x y v u Q r O E h G;obtain⟨z,i,c,rfl,rfl,R,L,q⟩:=h;obtain⟨t,rfl⟩:=O;obtain⟨t',rfl⟩:=E;obtain⟨j,B,M,S,P,F⟩:=nJ L;have C:z.cps.toList.length=z.length:=by simp[Str.length]
 rw[C]at B P F;have W:=lM
 exact tail_any (typeIs_str s z t) slot_str_getitem.lookup (getItem_str (by
  have e1:decide (i < -(2^63:Int))=T:=decide_eq_false ⋯;have e2:decide (i>=2^63)=T:=decide_eq_false ⋯
  rw[e1,e2,Bool.or_false]) (by rw[B];simpa using M) ⟨.str ⟨#[c]⟩,H,r.tok _,⟨_,rfl⟩,q⟩) G
def QO(K:g_):R2:=λx y H Q=>Jg K x y H Q\/Jh K x y H Q\/Ji x y H Q
def EB:IxR X (QO X.K):=Bj.or (Ez.or EA)
def uZ(f:Q7)(n j:Nat)(u:Value):Obj.mapSeq (·.setIfInBounds j u) { cls:=.type "list",data:=.seq f.toArray n}={ cls:=.type "list",data:=.seq (f.set j u).toArray n}:=by simp[Obj.mapSeq]
def Inv.lst{j:Q8}{Z:St}{H:Hp}{s:Shared}{p:Addr}{xs:List V}(i:Inv X j Z H s)(h:H p=J (.lst xs)):
  ∃(f:Q7) (n:Nat),au xs f/\s.heap.get? p=J { cls:=.type "list",data:=.seq f.toArray n}/\xs.length<=sizeLine:=by
 obtain⟨z,f,n,r,e⟩:=i.hok p _ h;exact⟨f,n,r,e,z⟩
def Inv.lstUpd{z:Q8}{Z:St}{H:Hp}{s:Shared}{p:Addr}{xs ys:List V}{j i:Q7}{n l:Nat}{f:Obj->Obj}(y:Inv X z Z H s)(h:H p=J (.lst xs))(E:s.heap.get? p=J { cls:=.type "list",data:=.seq j.toArray n})(hf:f { cls:=.type "list",data:=.seq j.toArray n}={ cls:=.type "list",data:=.seq i.toArray l})(r:au ys i)(B:ys.length<=sizeLine)(t:Nat):
  Inv X z Z (lg H p (.lst ys)) { s with heap:=s.heap.update p f,toks:=t}:=by
 have e:(s.heap.update p f).get? p=J { cls:=.type "list",data:=.seq i.toArray l}:=by rw[Hs f E (by rw[hf]<;>rfl),hf]
 refine y.write (by rw[h];trivial) (.inl rfl) (λb u C q=>(Ll _ _ (Ne.symm C)).trans q) ⟨_,e⟩ ?_;exact⟨B,i,l,r,e⟩
def Jj:V->V->V->Hp->(Hp->Prop)->Prop:=λo i v H Q=>∃p xs k j,o=.ref p/\i=.int k/\H p=J (.lst xs)/\vv xs.length k=J j/\Q (lg H p (.lst (xs.set j v)))
def yo:Ei X Jj:=by
 intro Jr s Z H o i v W iv u Q l S U P h;obtain⟨p,xs,k,j,rfl,rfl,L,R,q⟩:=h;cases S;obtain⟨t,rfl⟩:=U;obtain⟨f,n,r,C,O⟩:=l.lst L;obtain⟨y,h2,F,M⟩:=r9 R;have z:=r.length;have hn:=lM;have E :=
  l.lstUpd L C (uZ f n j u) (r.set P j) (by rw[List.length_set];exact O) s.toks
 by_cases G:0<=k
 .have B:k.toNat=j:=by
   rw[seqIndex_of G M]at y;exact Option.some.inj y
  exact PySem.W.ki_setAt C G ⋯ (by rw[n9,<-z];exact M) (by rw[B];exact⟨_,E,q⟩)
 .have B:(k+(f.toArray.size:Int)).toNat=j:=by
   rw[seqIndex_neg ⋯ F]at y;rw[n9,<-z];exact Option.some.inj y
  exact PySem.W.ki_setBack C ⋯ (by rw[n9,<-z];exact F) ⋯ (by rw[B];exact⟨_,E,q⟩)
def pV(lo f:RL)(n:Nat):(sliceBounds lo f Y n).1=((HT.li n 0 lo:Nat):Int)/\(sliceBounds lo f Y n).2.1=((HT.li n n f:Nat):Int)/\(sliceBounds lo f Y n).2.2=1:=by
 refine⟨?_,?_,rfl⟩
 .cases lo with
  |none=>simp[sliceBounds,HT.li]
  |some i =>
   simp only[sliceBounds,HT.li,Option.getD_none,show(1:Int)>0 by decide,if_true];by_cases h:i<0
   .simp only[h,if_true]<;>lia
   .simp only[h,if_false]<;>lia
 .cases f with
  |none=>simp[sliceBounds,HT.li]
  |some i =>
   simp only[sliceBounds,HT.li,Option.getD_none,show(1:Int)>0 by decide,if_true];by_cases h:i<0
   .simp only[h,if_true]<;>lia
   .simp only[h,if_false]<;>lia
def oY(f:Q7)(lo i:RL):slicePick f.toArray lo i Y=((f.drop (HT.li f.length 0 lo)).take (HT.li f.length f.length i-HT.li f.length 0 lo)).toArray:=by obtain⟨j,r,l⟩:=pV lo i f.toArray.size;unfold slicePick;rw[j,r,l];simp only[sliceRange_one,pick_run]<;>rfl
def Nv(K:g_):V->RL->RL->Hp->VK->Prop:=λx lo f H Q=>∃a xs,x=.ref a/\SqL K H a xs/\∀p,H p=Y->Q (.ref p) (lg H p (.lst (kO xs lo f)))
def tF:LL X (Nv X.K):=by intro M s Z H x v G L lo j sl Q f F B u E h;obtain⟨a,xs,rfl,C,q⟩:=h;cases F;obtain⟨z,r,l,y⟩:=f.list C;have i:=r.length;refine⟨"list",_,slot_list_getitem.lookup,l.isList.typeIs,?_⟩;refine wpAny_getItem_list_slice l.isList B u E .none (by simp) ?_ (by rw[n9]<;>lia);rw[oY,<-i];refine⟨.ref s.heap.objs.size,_,f.laid (t':=s.toks) (λb O q=>n3 _ q) (ii _) ?_,rfl,q _ (f.hok.fresh (ii _))⟩;exact⟨l7 (ku xs lo j) y,_,0,(r.drop (HT.li xs.length 0 lo)).take (HT.li xs.length xs.length j-HT.li xs.length 0 lo),tr _ rfl⟩
def qR:bV X (.type "list") (λxs H Q=>∃p ys,xs=[.ref p]/\(SqL X.K H p ys\/SqT X.K H p ys)/\∀l,H l=Y->Q (.ref l) (lg H l (.lst ys))):=by
 intro O s Z H xs R Q j r h;obtain⟨p,ys,rfl,E,q⟩:=h;obtain⟨u,rfl,P⟩:=d7 r;cases P;have fin:∀(f:Q7),au ys f->ys.length<=sizeLine->∀(i:Heap)(z:Nat),(∀b M,s.heap.get? b=J M->i.get? b=J M) ->
   i.get? s.heap.objs.size=J { cls:=.type "list",dict:=Y,data:=.seq f.toArray z,slots:=#[]}->EP X O Z Q (.ref s.heap.objs.size) { s with heap:=i}:=λf y B i z kp e =>
  ⟨.ref s.heap.objs.size,_,j.laid (t':=s.toks) kp (ii _) (show ObjOk X.prog X.w _ i _ (.lst ys) from⟨B,f,z,y,e⟩),rfl,q _ (j.hok.fresh (ii _))⟩
 rcases E with E|E
 .obtain⟨f,y,F,B⟩:=j.list E;have C:=y.length;obtain⟨o,L,G,n,hd⟩:=F.isList;exact call_list_seq p (.inl rfl) L G hd (λi z kp e=>fin f y B i z kp e) (by simp only[n9]<;>lia)
 .obtain⟨f,y,F,B⟩:=j.tuple E;have C:=y.length;obtain⟨o,L,G,n,hd⟩:=F;exact call_list_seq p (.inr rfl) L G hd (λi z kp e=>fin f y B i z kp e) (by simp only[n9]<;>lia)
def je:bV X (.type "tuple") (λxs H Q=>∃p ys,xs=[.ref p]/\((SqL X.K H p ys/\∀l,H l=Y->Q (.ref l) (lg H l (.tup ys)))\/(SqT X.K H p ys/\Q (.ref p) H))):=by
 intro M s Z H xs O Q f r h;obtain⟨p,ys,rfl,h⟩:=h;obtain⟨u,rfl,L⟩:=d7 r;cases L;rcases h with⟨z,q⟩|⟨z,q⟩
 .obtain⟨i,j,y,B⟩:=f.list z;have C:=j.length;refine call_tuple_list y.isList (λF kp=>?_) (by simp only[n9]<;>lia);have E:=f.kept (t':=s.toks) kp;have G :=
   E.laid (t':=s.toks) (λb o e=>n3 _ e) (ii _) (show ObjOk X.prog X.w _ _ _ (.tup ys) from⟨B,i,j,gz.new _ _⟩)
  exact⟨.ref F.objs.size,_,G,rfl,q _ (E.hok.fresh (ii _))⟩
 .obtain⟨i,j,y,B⟩:=f.tuple z;exact call_tuple_same y ⟨.ref p,H,f,rfl,q⟩
def LM(K:g_)(f:String)(x:V)(H:Hp):Prop:=match x with
 |.str _=>f="str"
 |.int _=>f="int"
 |.ref p=>(f="list"/\∃xs,SqL K H p xs)\/(f="tuple"/\∃o,K.lookup p=J o/\o.cls=.type "tuple"/\o.dict=Y) \/
   (f="dict"/\((∃i,H p=J (.dK i))\/∃i,H p=J (.dT i)))\/(f="set"/\∃S n,H p=J (.set S n))
 |_=>False
def wG{E:Q8}{Z:St}{H:Hp}{s:Shared}{l:String}{x:V}{v:Value}(f:Inv X E Z H s)(r:aR x v)(ty:LM X.K l x H):
  s.TypeIs v l/\∀a,v=.ref a->∃B,s.heap.get? a=J B/\B.dict=Y:=by
 cases x with
 |str z =>
  obtain⟨t,rfl⟩:=r;cases(ty);exact⟨typeIs_str s z t,λ_ e=>nomatch e⟩
 |int i =>
  obtain⟨t,rfl⟩:=r;cases(ty);exact⟨typeIs_int s i t,λ_ e=>nomatch e⟩
 |ref p =>
  cases r;rcases ty with⟨rfl,xs,G⟩|⟨rfl,o,j,F,hd⟩|⟨rfl,j⟩|⟨rfl,S,n,j⟩
  .obtain⟨C,_,y,_⟩:=f.list G;refine⟨y.isList.typeIs,λa e=>?_⟩;cases e;obtain⟨o,n,e,c,hd,_⟩:=y;exact⟨o,e,hd⟩
  .refine⟨⟨o,f.kIn p o j,F⟩,λa e=>?_⟩;cases e;exact⟨o,f.kIn _ o j,hd⟩
  .have z:∃o,s.heap.get? p=J o/\o.ExactDict:=by
    rcases j with⟨u,j⟩|⟨u,j⟩
    .obtain⟨_,_,_,_,o,_,_,e,ex,_⟩:=f.hok p _ j;exact⟨o,e,ex⟩
    .obtain⟨_,_,_,_,o,_,_,e,ex,_⟩:=f.hok p _ j;exact⟨o,e,ex⟩
   obtain⟨o,e,ex⟩:=z;refine⟨⟨o,e,ex.1⟩,λa e2=>?_⟩;cases e2;exact⟨o,e,ex.2.1⟩
  .obtain⟨o,_,_,_,e,ex,_⟩:=f.hok p _ j;refine⟨⟨o,e,ex.1⟩,λa e2=>?_⟩;cases e2;exact⟨o,e,ex.2.1⟩
 |_=>exact False.elim ty
def Nw(K:g_)(f:String)(r:V->List V->Hp->VK->Prop)(j:TE):TE:=λZ H Q=>j Z H λx i=>LM K f x i/\r x [] i Q
def QP(K:g_)(f:String)(r:V->List V->Hp->VK->Prop)(l:TE)(t:TA):TE:=λZ H Q=>l Z H λx i=>LM K f x i/\t Z i λxs j=>r x xs j Q
variable{o e:Expr}{es:RM}{to:TE}{t:TA}{name:Str}{apos cpos:Pos}{T id:String}{r:V->List V->Hp->VK->Prop}
def EC(M:PlainAttrs T)(slot:Slot T name id)(j:typeOf (.builtin id)=pure (.type "method_descriptor"))(C:AJ X id r)(G:PE X o to)(f:attributeBase o name X.env (eval o X.env)=eval o X.env:=by rfl)(i:(apos.endLine==cpos.line)=I:=by rfl):PE X (.Call (.Attribute o name apos) [] [] cpos) (Nw X.K T r to):=by
 intro z s Z H Q l h;refine wpAny_Call_method0_late f i (k_ (G z s Z H _ l h) λv F ⟨x,E,y,u,ty,B⟩=>?_);obtain⟨L,O⟩:=wG y u ty;exact⟨T,id,M,slot,j,L,O,Calls.callWith_builtin rfl (PySem.evalArgs_none (C z F Z E x [] v [] Q y u .nil B))⟩
def Jk(pa:PlainAttrs T)(slot:Slot T name id)(u:typeOf (.builtin id)=pure (.type "method_descriptor"))(G:AJ X id r)(ho:PE X o to)(ha:PA X (e::es) t)(i:attributeBase o name X.env (eval o X.env)=eval o X.env:=by rfl)(l:((backTo cpos (starEach (e::es) X.env)).all (λx=>!x.1)&&(backToKw cpos (keywordEach [] X.env)).all (λx=>x.1.isSome)
   && decide ((e::es).length+([]:List Keyword).length+(if([]:List Keyword).isEmpty then 0 else 1)<30))=I:=by rfl)(j:(apos.endLine==cpos.line)=I:=by rfl)(U:starEach (e::es) X.env=(false,eval e X.env)::starEach es X.env:=by rfl)(f:(backTo cpos (starEach es X.env)).any (·.1)=false:=by rfl):
  PE X (.Call (.Attribute o name apos) (e::es) [] cpos) (QP X.K T r to t):=by
 intro y s Z H Q z h;refine wpAny_Call_method_late i l j rfl (k_ (ho y s Z H _ z h) λv S ⟨x,O,E,B,ty,F⟩=>?_);obtain⟨h1,h2⟩:=wG E B ty;refine⟨T,id,pa,slot,u,h1,h2,?_⟩;have C:=ha cpos y S Z O _ E F;rw[U]at C ⊢;refine Calls.callWith_builtin (by show(false||(backTo cpos (starEach es X.env)).any (·.1))=false;rw[f]<;>rfl) (Calls.evalArgs_plain ?_);exact k_ C λus W ⟨M,R,L,P,q2⟩=>G y W Z R x M v us Q L B P q2
end
def LN(X:Cx)(id:String)(r:V->List V->Hp->VK->Prop):Prop :=
 ∀(f:Q8)(s:Shared)(Z:St)(H:Hp)(x:V)(xs:List V)(v:Value)(a:Q7)(Q:VK),Inv X f Z H s->aR x v->au xs a->r x xs H Q ->
  wpAny (model X.prog X.w) X.A (call (.builtin id) (v::a)) (EP X f Z Q) X.xe s
def au.zero(h:au [] us):us=[]:=by cases h;rfl
def au.one(h:au [x] us):∃u,us=[u]/\aR x u:=by cases h with|cons r t=>exact⟨_,by rw[au.zero t],r⟩
def au.dropLast(h:au xs us):au xs.dropLast us.dropLast:=by
 induction h with
 |nil=>exact .nil
 |cons r t a =>
  cases t with
  |nil=>exact .nil
  |cons q f=>exact .cons r a
def au.eraseIdx(i:Nat)(r:au xs us):au (xs.eraseIdx i) (us.eraseIdx i):=by
 induction r generalizing i with
 |nil=>exact .nil
 |cons a t f =>
  cases i with
  |zero=>exact t
  |succ i=>exact .cons a (f i)
def au.rep(h:au xs us):∀k:Nat,au (List.replicate k xs).flatten (List.replicate k us).flatten
 |0=>.nil
 |k+1=>by
  exact au.append h (au.rep h k)
def uc{α:Type}(l:List α):l.eraseIdx (l.length-1)=l.dropLast:=by simp
def nZ{α:Type}:∀(l:List α)(i:Nat),(l.eraseIdx i).length<=l.length
 |[],_=>ii _
 |_::_,0=>C9 _
 |_::r,i+1=>DN (nZ r i)
def ot(f:Q7):∀(k:Nat)(a:Q7),
  List.foldl (λj i=>j++i) a.toArray (List.replicate k f.toArray)=(a++(List.replicate k f).flatten).toArray
 |0,a=>by simp
 |k+1,a=>by
  have e:a.toArray++f.toArray=(a++f).toArray:=by simp
  have e2:(a++f)++(List.replicate k f).flatten=a++(List.replicate (k+1) f).flatten:=by rw[List.replicate_succ,List.flatten_cons,zJ]
  rw[<-e2,<-ot f k (a++f),<-e,List.replicate_succ,M1]
section
variable{X:Cx}{Jr:List (Addr × Obj)}{Z:St}{H:Hp}{s:Shared}{l b:Addr}{xs ys zs:List V}
def Inv.lset{a its':Q7}{n:Nat}{f:Array Value->Array Value}{j:Nat}(i:Inv X Jr Z H s)(r:H l=J (.lst xs))(e:s.heap.get? l=J { cls:=.type "list",data:=.seq a.toArray n})(hf:f a.toArray=its'.toArray)(hv:au ys its')(y:ys.length<=sizeLine):
  Inv X Jr Z (lg H l (.lst ys)) { s with heap:=s.heap.update l (Obj.mapSeq f),toks:=j}:=by
 have q:=PySem.IsL.update e f;rw[hf]at q;refine i.write (x:=l) (e:=l) (by rw[r];exact trivial) (.inl rfl) (λC u B z=>(Ll s.heap (Obj.mapSeq f) (Ne.symm B)).trans z) ⟨_,q⟩ ?_;exact⟨y,its',_,hv,q⟩
def Inv.lnew(a:Inv X Jr Z H s)(hv:au ys its)(f:ys.length<=sizeLine):
  Inv X Jr Z (lg H s.heap.objs.size (.lst ys)) { s with heap:=s.heap.push { cls:=.type "list",data:=.seq its.toArray},toks:=t'} :=
 a.laid (λ_ _ q=>n3 _ q) (ii _) ⟨f,its,0,hv,tr _ rfl⟩
def Inv.fresh(a:Inv X Jr Z H s):H s.heap.objs.size=Y:=a.hok.fresh (ii _)
def Inv.lstM(f:Inv X Jr Z H s)(i:H l=J (.lst xs)):xs.length<=sizeLine/\∃(a:Q7) (n:Nat),au xs a/\xs.length=a.length/\s.heap.get? l=J { cls:=.type "list",data:=.seq a.toArray n}:=by obtain⟨z,a,n,r,e⟩:=f.hok l _ i;exact⟨z,a,n,r,r.length,e⟩
def lf(h:n<=sizeLine):Builtin.List.listTooLong n=T:=by unfold Builtin.List.listTooLong;exact decide_eq_false ⋯
end
section
variable{X:Cx}
def Bk:V->List V->Hp->VK->Prop:=λx a H Q=>∃l xs y,x=.ref l/\a=[y]/\H l=J (.lst xs)/\xs.length<sizeLine/\Q .non (lg H l (.lst (xs++[y])))
def oD:LN X "list.append" Bk:=by
 intro M s Z H x L v O Q f B j h;obtain⟨l,xs,y,rfl,rfl,i,G,q⟩:=h;cases B;obtain⟨u,rfl,C⟩:=j.one;obtain⟨z,a,n,r,E,e⟩:=f.lstM i;refine call_meets F.slot_list_append ⟨_,e,rfl⟩ F.entry_list_append (F.args_list_append_2 _ _) (PySem.list_append l a.toArray n u (by rw[n9];lia)) ⟨e,?_⟩;refine⟨.non,_,f.lset (its':=a++[u]) i e (by simp) (r.append (.cons C .nil)) ?_,rfl,q⟩
 grind
def Bl:V->List V->Hp->VK->Prop:=λx f H Q=>∃l b xs a,x=.ref l/\f=[.ref b]/\H l=J (.lst xs)/\H b=J (.lst a)/\xs.length+a.length<=sizeLine/\Q .non (lg H l (.lst (xs++a)))
def wP:LN X "list.extend" Bl:=by
 intro Jr s Z H x W v us Q i O E h;obtain⟨l,b,xs,zs,rfl,rfl,B,M,U,q⟩:=h;cases O;obtain⟨u,rfl,P⟩:=E.one;cases P;obtain⟨z,f,n,r,R,e⟩:=i.lstM B;obtain⟨S,a,G,C,L,e2⟩:=i.lstM M;have y:f.toArray.size+a.toArray.size<=sizeLine:=by rw[n9,n9];lia
 have j:¬(!f.toArray.isEmpty&&Builtin.List.listTooLong (f.toArray.size+a.toArray.size))=I:=by rw[lf y,M2];exact AQ
 refine call_meets F.slot_list_extend ⟨_,e,rfl⟩ F.entry_list_extend (F.args_list_extend_2 _ _)
  (AutoSeq1.list_extend_list_list_0 l f.toArray n b a.toArray G j (by rw[n9];lia) ⋯) ⟨e,e2,?_⟩
 refine⟨.non,_,i.lset (its':=f++a) B e (by simp) (r.append C) ?_,rfl,q⟩;rw[v3];lia
def Nx:V->List V->Hp->VK->Prop:=λx a H Q=>∃l xs y,x=.ref l/\a=[]/\H l=J (.lst xs)/\xs[xs.length-1]?=J y/\Q y (lg H l (.lst xs.dropLast))
def ED:LN X "list.pop" Nx:=by
 intro P s Z H x O v R Q f G E h;obtain⟨l,xs,y,rfl,rfl,B,C,q⟩:=h;cases G;have j:=E.zero;subst j;obtain⟨z,a,n,r,M,e⟩:=f.lstM B;obtain⟨u,S,L⟩:=r.get C;have i:a.toArray[a.toArray.size-1]?=J u:=by simp_all
 refine call_meets F.slot_list_pop ⟨_,e,rfl⟩ F.entry_list_pop (F.args_list_pop_1 _) (MeetsSeq.list_pop_last l a.toArray n u i (by rw[n9];lia)) ⟨e,?_⟩;refine⟨y,_,f.lset (its':=a.dropLast) B e ?_ r.dropLast ?_,L,q⟩
 .rw[n9,List.eraseIdxIfInBounds_toArray,uc]
 .rw[List.length_dropLast];lia
def EF:V->List V->Hp->VK->Prop:=λx a H Q=>∃l xs i k y,x=.ref l/\a=[.int i]/\H l=J (.lst xs) /\ -(2^63)<=i/\i<2^63/\seqIndex? i xs.length=J k/\xs[k]?=J y/\Q y (lg H l (.lst (xs.eraseIdx k)))
def yc:LN X "list.pop" EF:=by
 intro W s Z H x U v us Q f R L h;obtain⟨l,xs,i,k,y,rfl,rfl,B,O,P,M,G,q⟩:=h;cases R;obtain⟨u,rfl,S⟩:=L.one;obtain⟨t,rfl⟩:=S;obtain⟨z,a,n,r,C,e⟩:=f.lstM B;obtain⟨w,E,j⟩:=r.get G;refine call_meets F.slot_list_pop ⟨_,e,rfl⟩ F.entry_list_pop (F.args_list_pop_2 _ _)
  (MeetsSeq.list_pop_at l a.toArray n i t k w (fitsIndex_both O P) (by rw[n9,<-C];exact M) (by rw[<-uY];exact E) (by rw[n9];lia)) ⟨e,?_⟩
 refine⟨y,_,f.lset (its':=a.eraseIdx k) B e ?_ (r.eraseIdx k) ?_,j,q⟩
 .simp_all
 .have:=nZ xs k
  lia
def Ny:R2:=λx y H Q=>∃l b xs a,x=.ref l/\y=.ref b/\H l=J (.lst xs)/\H b=J (.lst a)/\xs.length+a.length<=sizeLine/\∀p,H p=Y->Q (.ref p) (lg H p (.lst (xs++a)))
def EG:OpR X (binaryOp .Add) Ny:=by
 intro U s Z H x y v u Q a L B h;obtain⟨l,b,xs,R,rfl,rfl,E,G,P,q⟩:=h;cases L;cases B;obtain⟨z,i,n,r,M,e⟩:=a.lstM E;obtain⟨O,f,S,j,C,e2⟩:=a.lstM G;refine PySem.P.add_list e e2 ?_ (by rw[n9,n9];lia);have F:i.toArray++f.toArray=(i++f).toArray:=by simp
 rw[F];exact⟨.ref _,_,a.lnew (t':=s.toks) (r.append j) (by rw[v3];lia),rfl,q _ a.fresh⟩
def Nz:R2:=λx y H Q=>∃l k xs,x=.ref l/\y=.int k/\H l=J (.lst xs) /\ -(2^63)<=k/\k<2^63/\xs.length*k.toNat<=sizeLine /\
 ∀p,H p=Y->Q (.ref p) (lg H p (.lst (List.replicate k.toNat xs).flatten))
def tz{α:Type}(xs:List α)(k:Nat):(List.replicate k xs).flatten.length=k*xs.length:=by simp
def EH:OpR X (binaryOp .Mult) Nz:=by
 intro Jr s Z H x y v u Q j rx S h;obtain⟨l,k,xs,rfl,rfl,W,h1,h2,O,q⟩:=h;cases rx;obtain⟨t,rfl⟩:=S;obtain⟨z,f,n,r,P,e⟩:=j.lstM W;have B:f.toArray.size*k.toNat<=sizeLine:=by rw[n9,<-P];exact O
 have C:¬f.toArray.size*k.toNat>(2^63-1)/8:=by
  have:(sizeLine:Nat)<=(2^63-1)/8:=by decide
  lia
 have G:¬(!Builtin.List.listFitsIndex k)=I:=by rw[fitsIndex_both h1 h2];exact AQ
 have i:¬Builtin.List.listTooLong (f.toArray.size*k.toNat)=I:=by rw[lf B];exact AQ
 have E:List.foldl (λM L=>M++L) #[] (List.replicate (if f.toArray.isEmpty=I then 0 else k.toNat) f.toArray)=(List.replicate k.toNat f).flatten.toArray:=by
  have U:∀m:Nat,List.foldl (λM L=>M++L) #[] (List.replicate m f.toArray)=(List.replicate m f).flatten.toArray:=λm=>by
   have:=ot f m []
   exact this
  rw[U]
  cases f with
  |nil=>simp
  |cons a r'=>rw[d_ (by simp)]
 refine wpAny_binaryOp_repeat_ref (by decide) ⟨_,e,rfl⟩ (λR=>typeIs_int R k t) noFill_list_mul F.fills_int_mul F.slot_int_rmul repeat_list F.slot_int_index.lookup
  (call_meets F.slot_int_rmul (typeIs_int s k t) F.entry_int_rmul (F.args_int_rmul_2 _ _) (int___rmul___int_list k t l f.toArray n)
   ⟨e,rfl,⟨_,e,rfl⟩,call_meets F.slot_list_mul ⟨_,e,rfl⟩ F.entry_list_mul (F.args_list_mul_2 _ _) (AutoListH.list___mul___list_int_3 l f.toArray n k t G C i) ⟨e,?_⟩⟩)
 rw[E];exact⟨.ref _,_,j.lnew (t':=s.toks) (r.rep k.toNat) (by rw[tz,Nat.mul_comm];exact O),rfl,q _ j.fresh⟩
end
section
variable{prog:Program}{w:World}{A:Around}{E:RQ}{s:Shared}
end
section
variable{X:Cx}
end
end L2
namespace Att
open PySem.W PySem.Calls PyProof.Rows
def lu:∀(ns:Q2)(f:Q7),WellAll P h f (ns.map WData.int)->IntsAre f ns:=by
 intro ns
 induction ns with
 |nil =>
  intro f w;rw[zt]at w;cases w;exact .nil
 |cons n ns i =>
  intro f w;rw[nt]at w
  cases w with
  |cons a b =>
   cases a;exact .cons _ _ (i _ b)
def vi{l:OpenLaw}{n:Nat}(H:l.most=J n){P:Params}{h:Heap}{f:List WData}{j:Q7}(i:l.row.toRowW.claim.pre f=I)(B:WellAll P h j f):
  ∃a E ns,j=[Value.ref a]/\f=[WData.list (ns.map WData.int)]/\h.get? a=J { cls:=.type "list",data:=.seq E.toArray}/\IntsAre E ns/\ns.length<=n:=by
 have C:=(pre_splitW i).1;have L:=(pre_splitW i).2;obtain⟨d,r,rfl,O,Q⟩:=hasAllW_cons C;obtain rfl:=hasAllW_nil Q;obtain⟨xs,rfl,F⟩:=hasW_list O;obtain⟨ns,rfl⟩:=items_int F;have u:ns.length<=n:=by
  have z:(WTm.not (.lt (.lit (.int (n:Int))) (.len (.arg 0)))).holds [] { args:=[.list (ns.map .int)]}=I:=by have z:=(holds_andW L).1;rw[H]at z;exact z
  have S:=condW_of z (w_not (w_lt w_lit (w_len_list (w_arg rfl))))
  simp_all
 cases B with
 |cons G R =>
  cases R
  cases G with
  |list M y=>exact⟨_,_,ns,rfl,rfl,M,lu ns _ y,u⟩
def wm(l:OpenLaw)(a:List WData):l.row.toRowW.claim.post a (.bool I) a=I :=
 postW_of
  (show WShape.has [] (.bool I) .bool=I by first | rfl | decide | simp)
  (w_eq_bool (w_res rfl) w_lit) rfl
def rV{l:OpenLaw}{n:Nat}{q:Program}{loose:Q1}{XP:(Str->Q9)->Heap->Prop}{U:World->Heap->Prop}{d:DefRec}(hn:l.most=J n)(R:d.params.defaults=[])(call:∀(w:World)(s₀ i:Shared)(mg Q:RT)(E:Addr)(o:Obj)(pm H j:Value)(a:Addr)(y:Q7)(ns:Q2),
   Ground q loose [] XP w s₀ mg Q i.heap->U w i.heap ->
   i.heap.get? E=J o->o.data=.func (docDef d.name d.params d.body d.scope pm H j)->i.heap.CodeRec H d.name->mg d.name=J (.ref E) ->
   i.heap.get? a=J { cls:=.type "list",data:=.seq y.toArray}->IntsAre y ns->ns.length<=n->i.gens=#[] ->
   codeAny (model l.prog w) callerA (.call (.ref E) ⟨[.ref a],[]⟩) (λr F=>r=.ok (.ret (.bool I))/\OldK i.heap F.heap/\F.os=i.os/\AllBare F.gens) i):
  WalkO q loose XP U l.row.toRowW d [] (λf y=>PySem.call f y):=by
 intro w s₀ i mg Q G O E o pm H j dV kV ho hd P Z L hg S X as z W aj M ab;obtain rfl:=Dflts.none Z R;obtain rfl:=Dflts.noKw Z;obtain⟨a,y,ns,rfl,rfl,C,u,B⟩:=vi hn z M;refine enter_call (codeAny_mono (call w s₀ i mg Q E o pm H j a y ns G O ho (fd_plain hd) P L C u B hg) λr F hq=>?_);obtain⟨rfl,h2,h3,h4⟩:=hq;exact⟨.inl ⟨.bool I,.bool I,[],rfl,λ_=>rfl,.bool I,wm l _,λ_=>⟨List.Pairwise.nil,λ_ hm=>(nomatch hm)⟩⟩,h2,h3,h4⟩
section
variable{prog:Program}{w:World}{A:Around}{E:RQ}{s:Shared}{K:Frag}
end
end Att
namespace L2
open PySem.Spec PyProof.Rows
def nW:∀{a:Q7}{ns:Q2},IntsAre a ns->au (ns.map V.int) a
 |_,_,.nil=>.nil
 |_,_,.cons n t h=>.cons ⟨t,rfl⟩ (nW h)
def EI(H:Hp):Prop:=∀b,H b=Y\/∃o xs,H b=J (.frz o (.lst xs))
def xk{P:Program}{w:World}{K:g_}{mg mb:RT}{CX:z_}{k:Nat}{fa a:Addr}{fd:FuncData}{x:Str}{sp:Sp}{f:Shared}{C:Q7}{ns:Q2}(KX:K.In f.heap)(M:f.heap.Ns mainGlobals mg)(j:f.heap.Ns builtinsNs mb)(am:∀x:Str,x≠"__name__"->mb x=bootBuiltins x)(Q:f.heap.NoLimit)(hg:f.gens=#[])(W:f.heap.get? a=J { cls:=.type "list",data:=.seq C.toArray})(hi:IntsAre C ns)(hl:ns.length<=sizeLine)(hr:Room k callerA)(F:∀base:Heap,K.In base->base.Ns mainGlobals mg->FnOk P w K mg base CX k fa fd [x] sp)(E:∀(s:Shared) (u:Value),BindsTo s fd ⟨[u],[]⟩ [(x,u)])(ab:∀H:Hp,EI H->SqL K H a (ns.map V.int)->sp [.ref a] H (λv _=>v=.bl I) λ_ _ _=>False)(aj:∀H e l,CX [] H f (λ_ _ _=>False) e l->False):
  codeAny (model P w) callerA (.call (.ref fa) ⟨[.ref a],[]⟩) (λr l=>r=.ok (.ret (.bool I))/\OldK f.heap l.heap/\l.os=f.os/\AllBare l.gens) f:=by
 have rv:=nW hi;have S:=hi.length;have B:∀H:Hp,EI H->SqL K H a (ns.map V.int)->HOk P w H f.heap->(∀b,H b≠Y->b=a)->(H a≠Y->K.lookup a=Y) ->
   codeAny (model P w) callerA (.call (.ref fa) ⟨[.ref a],[]⟩) (λr l=>r=.ok (.ret (.bool I))/\OldK f.heap l.heap/\l.os=f.os/\AllBare l.gens) f:=by
  intro H hO hS hok hA hK;have i:∀{b:Addr}{o:Obj},f.heap.get? b=J o->H b=Y->(iY f.heap H).get? b=J o:=λe n=>yk e n;have X:∀{b:Addr}{o:Obj}{L:Array DictEntry}{O:Nat},f.heap.get? b=J o->o.data=.dict L O->H b=Y:=λ{b o L O} e d=>by
   cases q:H b with
   |none=>rfl
   |some u =>
    have e':b=a:=hA b (by rw[q];simp);subst e';rw[W]at e;cases e;have d':Data.seq C.toArray _=Data.dict L O:=d;cases d'
  have y:∀{b:Addr}{m:RT},f.heap.Ns b m->(iY f.heap H).Ns b m:=λ{b m} ⟨o,L,O,e,d,r⟩=>⟨o,L,O,i e (X e d),d,r⟩
  have R:K.In (iY f.heap H):=λb o e=>i (KX b o e) (by
   cases q:H b with
   |none=>rfl
   |some u =>
    have e':b=a:=hA b (by rw[q];simp);subst e'
    rw[hK (by rw[q];simp)]at e;cases e)
  have hM:Mod K mg (iY f.heap H):=⟨R,y M,⟨mb,y j,am⟩,let⟨mc,h1,h2⟩:=Q;⟨mc,y h1,h2⟩⟩;have e0:Bb P w K mg (iY f.heap H) callerA [] f H:=⟨rfl,hM,λb o e=>AY e,M6 (vk _ _),trivial,λb j=>absurd (show b∈([]:Q6)from j) (by simp),hok,.of_eq hg⟩;refine codeAny_mono ((F _ R (y M)).run callerA [] f H ⟨[.ref a],[]⟩ [.ref a] [.ref a] _ _ hr e0 (E f (.ref a)) (.cons rfl .nil) (ab H hO hS)) λr l h=>?_
  cases r with
  |error e=>exact(aj H e l h).elim
  |ok fl =>
   cases fl with
   |next=>exact False.elim h
   |brk=>exact False.elim h
   |cont=>exact False.elim h
   |ret u =>
    obtain⟨v,H',os,bare,un,G,r',q⟩:=h;have q':v=.bl I:=q;subst q';obtain rfl:u=Value.bool I:=r';refine⟨rfl,OldK.of_keep λb o e=>?_,os,bare⟩
    cases q:H b with
    |none=>exact un.keep b o e q (by intro z;exact absurd (show b∈([]:Q6)from z) (by simp)) (by simp)
    |some u =>
     rcases hO b with z|⟨ob,xs,z⟩
     .rw[q]at z;cases z
     .have z2:=un.frzs b ob _ z;obtain⟨e1,_⟩:=hok b _ z;obtain⟨e2,_⟩:=G b _ z2;rw[e]at e1;cases e1;exact e2
 cases Z:K.lookup a with
 |some o =>
  have e:=KX a o Z;rw[W]at e;cases e;refine B (λ_=>Y) (λ_=>.inl rfl) (.inr ⟨_,C.toArray,_,Z,rfl,rfl,rfl,by rw[n9,S];exact hl,by simpa using rv⟩) (λb u z=>by have U:(Y:Option HO)=J u:=z;cases U) (λb z=>absurd rfl z) λz=>absurd rfl z
 |none =>
  refine B (λb=>if b=a then J (.frz { cls:=.type "list",data:=.seq C.toArray} (.lst (ns.map V.int)))else Y) (λb=>?_) (.inl (.inr ⟨{ cls:=.type "list",data:=.seq C.toArray},b_ rfl⟩)) (λb u z=>?_) (λb z=>?_) λ_=>Z
  .by_cases j:b=a
   .exact .inr ⟨_,_,b_ j⟩
   .exact .inl (d_ j)
  .by_cases j:b=a
   .have U:=(b_ j).symm.trans z;cases U;subst j;exact⟨W,by rw[n_];exact hl,C,_,rv,W⟩
   .have U:=(d_ j).symm.trans z;cases U
  .by_cases j:b=a
   .exact j
   .exact absurd (d_ j) z
abbrev oi{K:g_}{h:Heap}(_:K.In h):g_:=K
def Bm{l:PySem.W.OpenLaw}{n k:Nat}{q:Program}{loose:Q1}{XP:(Str->Q9)->Heap->Prop}{R:World->Heap->Prop}{d:DefRec}{K:Params->g_}{CX:World->z_}{sp:World->Sp}{x:Str}(hn:l.most=J n)(M:n<=sizeLine)(P:d.params.defaults=[])(Z:Room k callerA)(hY:∀(w:World)(h:Heap),R w h->(K w.params).In h)(F:∀(w:World)(mg:RT)(z:Addr)(h:Heap),(K w.params).In h->h.Ns mainGlobals mg->mg d.name=J (.ref z) ->
   ∃fd:FuncData,(∀(s:Shared)(u:Value),BindsTo s fd ⟨[u],[]⟩ [(x,u)]) /\
    ∀base:Heap,(K w.params).In base->base.Ns mainGlobals mg->FnOk l.prog w (K w.params) mg base (CX w) k z fd [x] (sp w))(L:∀(w:World)(H:Hp)(a:Addr)(ns:Q2),ns.length<=n->EI H->SqL (K w.params) H a (ns.map V.int)->sp w [.ref a] H (λv _=>v=.bl I) λ_ _ _=>False)(O:∀(w:World)(H:Hp)(s:Shared)(e:Value)(C:Shared),CX w [] H s (λ_ _ _=>False) e C->False):
  PySem.W.WalkO q loose XP R l.row.toRowW d [] (λf Q=>PySem.call f Q):=by
 refine Att.rV hn P λw s₀ r mg mb z o pm cd X a Q ns G E ho hd ab B y j i hg=>?_;have S:=hY w _ E;obtain⟨fd,hb,U⟩:=F w mg z _ S G.T.g B;exact xk S G.T.g G.T.b G.T.builtins G.T.nolimit hg y j (l7 i M) Z U hb (λH hO W=>L w H a ns i hO W) λH e C=>O w H r e C
def fY(s:Stmt):Arguments:=match s with
 |.FunctionDef _ a _ _ _ _ _ _ _ _=>a
 |_=>{ posonlyargs:=[],args:=[],vararg:=Y,kwonlyargs:=[],kw_defaults:=[],kwarg:=Y,defaults:=[]}
def aJ(s:Stmt):List Stmt:=match s with
 |.FunctionDef _ _ b _ _ _ _ _ _ _=>b
 |_=>[]
def af(s:Stmt):Scope:=match s with
 |.FunctionDef _ _ _ _ _ _ a _ _ _=>a
 |_=>{ kind:=.function,names:=[],isGenerator:=T,isCoroutine:=T}
structure Fun(K:g_)(x qual:Str)(st:Stmt)(f:Addr)(fd:FuncData):Prop where
 ex:∃(oc:Value)(od:Option Addr)(kV doc pm:Value)(an:Option Addr)(cdv ct:Value)(osl:Array (Q9)),
  fd=PySem.W.fnOf x qual (fY st) (aJ st) (af st) .none kV doc pm an cdv ct/\K.lookup f=J ⟨oc,od,.func fd,osl⟩/\PySem.W.codeIn K cdv qual=I
 kp:PySem.W.keepIn K (.ref f)=I
section
variable{P:Program}{w:World}{K:g_}{mg:RT}{base:Heap}
def Fun.binds{x a:Str}{st:Stmt}{f:Addr}{fd:FuncData}{r:Q1}(F:Fun K x a st f fd)(h:∀(kV i pm:Value)(u:Option Addr)(j ct:Value)(l:Q7),l.length=r.length->bindArgs (PySem.W.fnOf x a (fY st) (aJ st) (af st) .none kV i pm u j ct) ⟨l,[]⟩=pure (r.zip l)):mD K fd r []:=by
 obtain⟨B,C,kV,i,pm,u,j,ct,z,rfl,E,y⟩:=F.ex;exact .all (h kV i pm u j ct)
def EJ{x a:Str}{st:Stmt}{f:Addr}{z:Value}{y u:Option Addr}{r:Array (Q9)}{kV j pm i ct:Value}(l:K.lookup f=J ⟨z,y,.func (PySem.W.fnOf x a (fY st) (aJ st) (af st) .none kV j pm u i ct),r⟩)(c:PySem.W.codeIn K i a=I)(k:PySem.W.keepIn K (.ref f)=I):Fun K x a st f (PySem.W.fnOf x a (fY st) (aJ st) (af st) .none kV j pm u i ct):=⟨⟨z,y,kV,j,pm,u,i,ct,r,rfl,l,c⟩,k⟩
end
section
variable{X:Cx}
end
end L2
namespace MM
open PySem.Spec PyProof.Rows L2
inductive PV where
 |non | bl (b:Bool) | int (i:Int) | str (x:Str) | tup (xs:List PV) | frl (xs:List PV) | loc (n:Nat)
abbrev _root_.Q0:=List PV
structure zw where
 cls:Str
 fs:List (Str×PV):=[]
inductive MO where
 |lst(xs:Q0)
 |dic(ks:Q3)(xs:Q0)
 |exc(x:zw)
abbrev MH:=List MO
abbrev ll:=List (Option PV)
inductive Out(α:Type) where
 |ok(a:α)(h:MH)
 |exc(x:zw)(h:MH)
 |bad
abbrev _root_.RN:=Out PV
def Out.bind{α β:Type}(o:Out α)(f:α->MH->Out β):Out β:=match o with
 |.ok a h=>f a h
 |.exc x h=>.exc x h
 |.bad=>.bad
@[simp]theorem Out.bind_ok(a:α)(h:MH)(f:α->MH->Out β):(Out.ok a h).bind f=f a h:=rfl
@[simp]theorem Out.bind_exc(x:zw)(h:MH)(f:α->MH->Out β):(Out.exc x h).bind f=.exc x h:=rfl
@[simp]theorem Out.bind_bad(f:α->MH->Out β):(Out.bad:Out α).bind f=.bad:=rfl
inductive SOut where
 |nx(Z:ll)(h:MH)
 |rt(v:PV)(h:MH)
 |bk(Z:ll)(h:MH)
 |ct(Z:ll)(h:MH)
 |exc(x:zw)(Z:ll)(h:MH)
 |rse(x:zw)(Z:ll)(h:MH)
 |bad
def Out.ne{α:Type}(o:Out α):Out α:=match o with
 |.exc _ _=>.bad
 |o=>o
@[simp]theorem Out.ne_ok(a:α)(h:MH):(Out.ok a h).ne=.ok a h:=rfl
@[simp]theorem Out.ne_bad:(Out.bad:Out α).ne=.bad:=rfl
@[simp]theorem Out.ne_ne(o:Out α):o.ne.ne=o.ne:=by cases o<;>rfl
def SqF(K:g_)(H:Hp)(a:Addr)(ys:List V):Prop :=
 (∃o,H a=J (.frz o (.lst ys))) \/
  ∃(o:Obj) (f:Array Value) (n:Nat),K.lookup a=J o/\o.cls=.type "list"/\o.dict=Y/\o.data=.seq f n/\f.size<=sizeLine/\au ys f.toList
def SqF.sq{K:g_}{H:Hp}{a:Addr}{ys:List V}(h:SqF K H a ys):SqL K H a ys:=by
 rcases h with h|h
 .exact .inl (.inr h)
 .exact .inr h
mutual
inductive RP(K:g_)(U:Q6)(H:Hp):PV->V->Prop where
 |non:RP K U H .non .non
 |bl(b:Bool):RP K U H (.bl b) (.bl b)
 |int(i:Int):RP K U H (.int i) (.int i)
 |str(x:Str):RP K U H (.str x) (.str x)
 |tup{xs:Q0}{a:Addr}{ys:List V}(s:SqT K H a ys)(r:RPs K U H xs ys):RP K U H (.tup xs) (.ref a)
 |frl{xs:Q0}{a:Addr}{ys:List V}(s:SqF K H a ys)(r:RPs K U H xs ys):RP K U H (.frl xs) (.ref a)
 |loc{n:Nat}{a:Addr}(e:U[n]?=J a):RP K U H (.loc n) (.ref a)
inductive RPs(K:g_)(U:Q6)(H:Hp):Q0->List V->Prop where
 |nil:RPs K U H [] []
 |cons{x:PV}{y:V}{xs:Q0}{ys:List V}(r:RP K U H x y)(t:RPs K U H xs ys):RPs K U H (x::xs) (y::ys)
end
structure Le(U:Q6)(H:Hp)(U':Q6)(H':Hp):Prop where
 pre:∃m,U'=U++m
 tup:∀a xs,H a=J (.tup xs)->H' a=J (.tup xs)
 frz:∀a o u,H a=J (.frz o u)->H' a=J (.frz o u)
def Le.refl(U:Q6)(H:Hp):Le U H U H:=⟨⟨[],by simp⟩,λ_ _ h=>h,λ_ _ _ h=>h⟩
def Le.trans(a:Le U H U1 H1)(b:Le U1 H1 U2 H2):Le U H U2 H2:=by obtain⟨m,e⟩:=a.pre;obtain⟨f,i⟩:=b.pre;exact⟨⟨m++f,by rw[i,e,zJ]⟩,λc xs h=>b.tup c xs (a.tup c xs h),λc o u h=>b.frz c o u (a.frz c o u h)⟩
def Le.get{U f:Q6}{H i:Hp}(l:Le U H f i){n:Nat}{a:Addr}(e:U[n]?=J a):f[n]?=J a:=by obtain⟨m,j⟩:=l.pre;rw[j,xu (qp.mp e).1];exact e
def Le.sqt{K:g_}{U i:Q6}{H f:Hp}(l:Le U H i f){a:Addr}{xs:List V}(h:SqT K H a xs):SqT K f a xs:=by
 rcases h with(h|⟨o,h⟩)|h
 .exact .inl (.inl (l.tup _ _ h))
 .exact .inl (.inr ⟨o,l.frz _ _ _ h⟩)
 .exact .inr h
def Le.sqf{K:g_}{U i:Q6}{H f:Hp}(l:Le U H i f){a:Addr}{xs:List V}(h:SqF K H a xs):SqF K f a xs:=by
 rcases h with⟨o,h⟩|h
 .exact .inl ⟨o,l.frz _ _ _ h⟩
 .exact .inr h
section
variable{K:g_}{U U':Q6}{H H':Hp}
def RP.le(l:Le U H U' H'){x:PV}{y:V}(r:RP K U H x y):RP K U' H' x y :=
 RP.rec .non .bl .int .str (λs _ i=>.tup (l.sqt s) i) (λs _ i=>.frl (l.sqf s) i) (λe=>.loc (l.get e)) .nil (λ_ _ a b=>.cons a b) r
def RPs.le(l:Le U H U' H')(r:RPs K U H xs ys):RPs K U' H' xs ys:=by
 induction xs generalizing ys with
 |nil=>cases r;exact .nil
 |cons x xs f=>cases r with|cons a t=>exact .cons (a.le l) (f t)
def RPs.length(r:RPs K U H xs ys):xs.length=ys.length:=by
 induction xs generalizing ys with
 |nil=>cases r;rfl
 |cons x xs f=>cases r with|cons a t=>exact congrArg (·+1) (f t)
def RPs.get{xs:Q0}{ys:List V}{i:Nat}{x:PV}(r:RPs K U H xs ys)(e:xs[i]?=J x):∃y,ys[i]?=J y/\RP K U H x y:=by
 induction xs generalizing ys i with
 |nil=>cases e
 |cons x xs f =>
  cases r with
  |cons a t =>
   cases i with
   |zero=>cases e;exact⟨_,rfl,a⟩
   |succ i=>have z:=@f _ i t e;exact z
def RPs.set(r:RP K U H x u)(i:Nat)(q:RPs K U H xs us):RPs K U H (xs.set i x) (us.set i u):=by
 induction xs generalizing us i with
 |nil=>cases q;exact .nil
 |cons x xs f =>
  cases q with
  |cons a t =>
   cases i with
   |zero=>exact .cons r t
   |succ i=>exact .cons a (f i t)
def RPs.append(r:RPs K U H xs us)(s:RPs K U H ys ws):RPs K U H (xs++ys) (us++ws):=by
 induction xs generalizing us with
 |nil=>cases r;exact s
 |cons x xs f=>cases r with|cons a t=>exact .cons a (f t)
def RPs.take(n:Nat)(r:RPs K U H xs us):RPs K U H (xs.take n) (us.take n):=by
 induction n generalizing xs us with
 |zero=>exact .nil
 |succ n f =>
  cases xs with
  |nil=>cases r;exact .nil
  |cons x xs=>cases r with|cons a t=>exact .cons a (f t)
def RPs.drop(n:Nat)(r:RPs K U H xs us):RPs K U H (xs.drop n) (us.drop n):=by
 induction n generalizing xs us with
 |zero=>exact r
 |succ n f =>
  cases xs with
  |nil=>cases r;exact .nil
  |cons x xs=>cases r with|cons a t=>exact f t
def RPs.ints:∀(ns:Q2),RPs K U H (ns.map PV.int) (ns.map V.int)
 |[]=>.nil
 |n::r=>.cons (.int n) (RPs.ints r)
end
def Jl(a C:Addr)(h:Heap):Prop:=∃o f,h.get? a=J o/\o.cls=.ref C/\o.data=.fields f
abbrev Aa:=Str->Q9
def Jm(x:Q2×Addr×Value):DictEntry:=⟨reduceHash (Builtin.Tuple.tupleHashOf (x.1.map hashInt)),.ref x.2.1,x.2.2⟩
def DT(a:Addr)(bs:List (Q2×Addr×Value))(h:Heap):Prop :=
 ∃o f i,h.get? a=J o/\o.ExactDict/\o.data=.dict f i/\f.toList=bs.map Jm/\(bs.map (·.1)).Nodup/\(a==sysModules)=T/\bs.length<=sizeLine
def oH{a:Addr}{bs:List (Q2×Addr×Value)}:∀f i:Heap,DT a bs f->(∀o,f.get? a=J o->i.get? a=J o)->DT a bs i :=
 λ_ _ ⟨o,l,u,j,r⟩ k=>⟨o,l,u,k o j,r⟩
inductive DR(K:g_)(U:Q6)(H:Hp)(a:Addr)(ks:Q3)(xs:Q0)(oh:Option HO):Prop
 |mk(bs:List (Q2×Addr×Value))(ys:List V)(e:ks=bs.map (·.1))(kr:∀x∈bs,SqT K H x.2.1 (x.1.map V.int))(vs:au ys (bs.map (·.2.2)))(r:RPs K U H xs ys)(o:oh=J (.ext (DT a bs)))
def DR.le{K:g_}{U f:Q6}{H i:Hp}{a:Addr}{j:Q3}{xs:Q0}{u:Option HO}(l:Le U H f i)(r:DR K U H a j xs u):DR K f i a j xs u:=by obtain⟨bs,ys,e,z,y,r,o⟩:=r;exact⟨bs,ys,e,λx B=>l.sqt (z x B),y,r.le l,o⟩
def RO(K:g_)(mg:Aa)(U:Q6)(H:Hp)(a:Addr):MO->Option HO->Prop
 |.lst xs,f=>∃ys,f=J (.lst ys)/\RPs K U H xs ys
 |.dic i xs,f=>DR K U H a i xs f
 |.exc x,f=>x.fs=[]/\∃C,mg x.cls=J (.ref C)/\f=J (.ext (Jl a C))
structure RH(K:g_)(mg:Aa)(U:Q6)(H:Hp)(h:MH):Prop where
 len:U.length=h.length
 nd:U.Nodup
 at':∀(n:Nat)(a:Addr)(o:MO),U[n]?=J a->h[n]?=J o->RO K mg U H a o (H a)
def RO.le{K:g_}{mg:Aa}{U f:Q6}{H i:Hp}{a:Addr}(l:Le U H f i){o:MO}{j:Option HO}(r:RO K mg U H a o j):RO K mg f i a o j:=by
 cases o with
 |lst xs=>obtain⟨ys,e,r⟩:=r;exact⟨ys,e,r.le l⟩
 |dic u xs=>exact DR.le l r
 |exc x=>exact r
def RO.some{K:g_}{mg:Aa}{U:Q6}{H:Hp}{a:Addr}{o:MO}{f:Option HO}(r:RO K mg U H a o f):f≠Y:=by
 cases o with
 |lst xs=>obtain⟨ys,e,_⟩:=r;rw[e];simp
 |dic i xs=>obtain⟨_,_,_,_,_,_,e⟩:=r;rw[e];simp
 |exc x=>obtain⟨_,C,_,e⟩:=r;rw[e];simp
def RO.plain{K:g_}{mg:Aa}{U:Q6}{H:Hp}{a:Addr}{o:MO}{f:Option HO}(r:RO K mg U H a o f):(∀xs,f≠Option.some (.tup xs))/\∀p u,f≠Option.some (.frz p u):=by
 cases o with
 |lst xs=>obtain⟨ys,e,_⟩:=r;rw[e];exact⟨(λ_ z=>nomatch z),(λ_ _ z=>nomatch z)⟩
 |dic i xs=>obtain⟨_,_,_,_,_,_,e⟩:=r;rw[e];exact⟨(λ_ z=>nomatch z),(λ_ _ z=>nomatch z)⟩
 |exc x=>obtain⟨_,C,_,e⟩:=r;rw[e];exact⟨(λ_ z=>nomatch z),(λ_ _ z=>nomatch z)⟩
section
variable{K:g_}{mg:Aa}{U:Q6}{H:Hp}{h:MH}
def RH.obj(r:RH K mg U H h){n:Nat}{a:Addr}(e:U[n]?=J a):∃o,h[n]?=J o/\RO K mg U H a o (H a):=by
 have f:n<h.length:=by rw[<-r.len];exact(qp.mp e).1
 exact⟨h[n],by simp,r.at' n a _ e (by simp)⟩
def RH.new(r:RH K mg U H h){p:Addr}(C:H p=Y){o:MO}{ho:HO}(G:RO K mg U H p o (J ho)):RH K mg (U++[p]) (lg H p ho) (h++[o])/\Le U H (U++[p]) (lg H p ho):=by
 have i:∀n a,U[n]?=J a->a≠p:=λn a e z=>by
  obtain⟨E,_,q⟩:=r.obj e;rw[z,C]at q;exact q.some rfl
 have l:Le U H (U++[p]) (lg H p ho):=⟨⟨[p],rfl⟩,λa xs e=>by rw[aT (bv e C)];exact e,λa M u e=>by rw[aT (bv e C)];exact e⟩;refine⟨⟨by simp[r.len],?_,λn a E e1 e2=>?_⟩,l⟩
 .rw[zR];refine⟨r.nd,by simp,λa L b F=>?_⟩;obtain⟨n,e⟩:=yL.mp L;have j:b=p:=by simpa using F
  rw[j];exact i n a e
 .by_cases f:n<U.length
  .rw[xu f]at e1;rw[xu (by rw[<-r.len];exact f)]at e2;rw[aT (i n a e1)];exact(r.at' n a E e1 e2).le l
  .rw[zE ⋯]at e1;rw[zE (by rw[<-r.len];lia)]at e2;have y:n-U.length=0:=by
    grind
   rw[y]at e1;have B:n-h.length=0:=by have:=r.len;lia
   rw[B]at e2;simp at e1 e2;subst e1;subst e2;rw[bI];exact G.le l
def RH.put(r:RH K mg U H h){n:Nat}{a:Addr}(e:U[n]?=J a){o:MO}{ho:HO}(C:RO K mg U H a o (J ho)):RH K mg U (lg H a ho) (h.set n o)/\Le U H U (lg H a ho):=by
 obtain⟨Q,_,q⟩:=r.obj e;obtain⟨i,L⟩:=q.plain
 have l:Le U H U (lg H a ho):=⟨⟨[],by simp⟩,λb xs z=>by
   have:b≠a:=by rintro rfl;exact i _ z
   rw[aT this];exact z,λb O u z=>by
   have:b≠a:=by rintro rfl;exact L _ _ z
   rw[aT this];exact z⟩
 refine⟨⟨by simp[r.len],r.nd,λm b E e1 e2=>?_⟩,l⟩;by_cases f:m=n
 .subst f;rw[e]at e1;cases e1;rw[bI]
  have:m<h.length:=by rw[<-r.len];exact(qp.mp e).1
  rw[zp this]at e2;cases e2;exact C.le l
 .rw[rc (λz=>f z.symm)]at e2;have B:b≠a:=by
   rintro rfl;have F:=qp.mp e;have G:=qp.mp e1;obtain⟨M,y⟩:=F;obtain⟨P,j⟩:=G;exact f ((List.getElem_inj r.nd).mp (j.trans y.symm))
  rw[aT B];exact(r.at' m b E e1 e2).le l
def RH.tup(r:RH K mg U H h){p:Addr}(i:H p=Y)(ys:List V):RH K mg U (lg H p (.tup ys)) h/\Le U H U (lg H p (.tup ys)):=by
 have f:∀n a,U[n]?=J a->a≠p:=λn a e z=>by
  obtain⟨y,_,q⟩:=r.obj e;rw[z,i]at q;exact q.some rfl
 have l:Le U H U (lg H p (.tup ys)):=⟨⟨[],by simp⟩,λa xs e=>by rw[aT (bv e i)];exact e,λa j u e=>by rw[aT (bv e i)];exact e⟩;exact⟨⟨r.len,r.nd,λn a o e1 e2=>by rw[aT (f n a e1)];exact(r.at' n a o e1 e2).le l⟩,l⟩
end
def RS(K:g_)(U:Q6)(H:Hp)(a:ll)(Z:L2.St):Prop :=
 Z.length=a.length/\∀(i:Nat)(v:PV),a[i]?=J (J v)->∃f,Z[i]?=J (J f)/\RP K U H v f
def RS.le{K:g_}{U j:Q6}{H f:Hp}{a:ll}{Z:L2.St}(l:Le U H j f)(r:RS K U H a Z):RS K j f a Z :=
 ⟨r.1,λi v e=>by obtain⟨y,u,q⟩:=r.2 i v e;exact⟨y,u,q.le l⟩⟩
def RS.set{K:g_}{U:Q6}{H:Hp}{a:ll}{Z:L2.St}(r:RS K U H a Z)(i:Nat){v:PV}{f:V}(q:RP K U H v f):RS K U H (a.set i (J v)) (Z.set i (J f)):=by
 refine⟨by simp[r.1],λj u e=>?_⟩;by_cases l:j=i
 .subst l;by_cases y:j<a.length
  .rw[zp y]at e;cases e;exact⟨f,zp (by rw[r.1];exact y),q⟩
  .rw[DI (by simp;lia)]at e;cases e
 .rw[rc (λz=>l z.symm)]at e;obtain⟨B,E,C⟩:=r.2 j u e;exact⟨B,by rw[rc (λz=>l z.symm)];exact E,C⟩
def QQ(B:Heap)(fs:Q6)(h:Heap):Prop:=∀b o,h.get? b=J o->b∉fs->∃a,B.get? b=J a
def NA(l:List Env)(H:Hp)(a:Heap)(C f:Addr)(h:Heap):Prop :=
 ∃B t,Heap.FlyingW B l f (.ref C) (.ref t) h/\(∀b o,H b=J o->∃i,B.get? b=J i)/\QQ B (v_ l) a/\H f=Y
structure Dd(X:Cx)(h:Heap):Prop where
 old:∀b o,X.s₀.heap.get? b=J o->b∉X.ex->∃o',h.get? b=J o'
 cell:∀x c,X.env.cells.lookup x=J c->∃o,h.get? c=J o
 pin:∀p∈X.pn,∃o,h.get? p.1=J o
def Inv.bears{X:Cx}{j:Q8}{Z:L2.St}{H:Hp}{s:Shared}(a:Inv X j Z H s):Dd X s.heap :=
 ⟨λb o e n=>a.base.there b o e n,λx c e=>let⟨_,o,i,_⟩:=a.cell x c e;⟨o,i⟩,λp f=>⟨_,(a.pin p (sv _ f)).1⟩⟩
def XP(X:Cx)(i:ll)(U:Q6)(H:Hp)(x:zw)(h:MH):Prop:=∀(r C:Addr)(j:Q6)(a:Hp)(u:L2.St)(l:Shared)(f:Heap),x.fs=[]->X.mg x.cls=J (.ref C)->Le U H j a->RH X.K X.mg j a h->RS X.K j a i u ->
 Inv X [] u a l->Dd X f->NA X.stack a f C r l.heap->X.xe (.ref r) l
def XM(X:Cx)(i:ll)(U:Q6)(H:Hp)(x:zw)(h:MH):Prop:=∀(r C:Addr)(j:Q6)(f:Hp)(u:L2.St)(l:Shared)(y:Heap)(a:Q7),x.fs=[]->X.mg x.cls=J (.ref C)->Le U H j f->RH X.K X.mg j f h->RS X.K j f i u ->
 Inv X [] u f { l with heap:=y}->Heap.MadeExcOf y l.heap r (.ref C) a->X.xe (.ref r) l
def XP.le(l:Le U H U' H')(q:XP X σp U H x h):XP X σp U' H' x h :=
 λf C i r y j a e1 e2 u=>q f C i r y j a e1 e2 (l.trans u)
def XM.le(l:Le U H U' H')(q:XM X σp U H x h):XM X σp U' H' x h :=
 λi C j u z r f a e1 e2 y=>q i C j u z r f a e1 e2 (l.trans y)
abbrev Rl(α β:Type):=Q6->Hp->α->β->Prop
def Ful{α β:Type}(X:Cx)(R:Rl α β)(i:ll)(U:Q6)(H:Hp)(o:Out α)(Q:β->Hp->Prop):Prop:=match o with
 |.ok v f=>∀j a l,Le U H j a->RH X.K X.mg j a f->R j a v l->Q l a
 |.exc x f=>XP X i U H x f
 |.bad=>False
def gu{α β:Type}(X:Cx)(R:Rl α β)(U:Q6)(H:Hp)(o:Out α)(Q:β->Hp->Prop):Prop:=match o with
 |.ok v j=>∀f a i,Le U H f a->RH X.K X.mg f a j->R f a v i->Q i a
 |_=>False
def Ful.zero(f:Ful X R σp U H o.ne Q):gu X R U H o Q:=by
 cases o with
 |ok v h=>exact f
 |exc x h=>exact f
 |bad=>exact f
def Ful.le(l:Le U H U1 H1)(f:Ful X R σp U H o Q):Ful X R σp U1 H1 o Q:=by
 cases o with
 |ok v h=>exact λj i r a=>f j i r (l.trans a)
 |exc x h=>exact XP.le l f
 |bad=>exact f
def Ful.bind{α β γ δ:Type}{X:Cx}{R:Rl α β}{S:Rl γ δ}{a:ll}{U:Q6}{H:Hp}{o:Out α}{f:α->MH->Out γ}{Q:δ->Hp->Prop}{z:β->Hp->Prop}(q:Ful X S a U H (o.bind f) Q)(k:∀u i v j y,o=.ok v y->Le U H u i->RH X.K X.mg u i y->R u i v j->Ful X S a u i (f v y) Q->z j i):Ful X R a U H o z:=by
 cases o with
 |ok v h=>exact λB C j l r w=>k B C v j h rfl l r w (Ful.le l q)
 |exc x h=>exact q
 |bad=>exact q
abbrev RV'(X:Cx):Rl PV V:=λU H=>RP X.K U H
abbrev RVs'(X:Cx):Rl (Q0) (List V):=λU H=>RPs X.K U H
abbrev Jn{α:Type}:Rl α α:=λ_ _ x y=>x=y
abbrev Mx(α:Type):=ll->MH->Out α
inductive tM{α β:Type}(X:Cx)(R:Rl α β)(m:Mx α)(Z:L2.St)(H:Hp)(Q:β->Hp->Prop):Prop
 |mk(U:Q6)(σp:ll)(h:MH)(rs:RS X.K U H σp Z)(rh:RH X.K X.mg U H h)(q:Ful X R σp U H (m σp h) Q):tM X R m Z H Q
def ME(X:Cx)(e:Expr)(m:Mx PV):Prop:=PE X e (tM X (RV' X) m)
def MT(X:Cx)(e:Expr)(m:Mx Bool):Prop:=PT X e (tM X Jn m)
def MW(X:Cx)(e:Expr)(m:Mx Bool):Prop:=PW X e (tM X Jn m)
def MA(X:Cx)(a:RM)(m:Mx (Q0)):Prop:=PA X a (tM X (RVs' X) m)
def PE.imp(h:PE X e t)(i:∀Z H Q,t' Z H Q->t Z H Q):PE X e t':=λf s Z H Q a q=>h f s Z H Q a (i Z H Q q)
def PT.imp(h:PT X e t)(i:∀Z H Q,t' Z H Q->t Z H Q):PT X e t':=λf s Z H Q a q=>h f s Z H Q a (i Z H Q q)
def PW.imp(h:PW X e t)(i:∀Z H Q,t' Z H Q->t Z H Q):PW X e t':=λa j s Z H Q f q=>h a j s Z H Q f (i Z H Q q)
def PA.imp(h:PA X e t)(i:∀Z H Q,t' Z H Q->t Z H Q):PA X e t':=λa j s Z H Q f q=>h a j s Z H Q f (i Z H Q q)
def PS.imp(h:PS X e t)(i:∀D Z H,t' D Z H->t D Z H):PS X e t':=λf s Z H D a q=>h f s Z H D a (i D Z H q)
def PSs.imp(h:PSs X e t)(i:∀D Z H,t' D Z H->t D Z H):PSs X e t':=λf s Z H D a q=>h f s Z H D a (i D Z H q)
def bf(X:Cx)(U:Q6)(H:Hp)(o:SOut)(D:Ends):Prop:=match o with
 |.nx a j=>∀i f l,Le U H i f->RH X.K X.mg i f j->RS X.K i f a l->D.nx l f
 |.bk a j=>∀i f l,Le U H i f->RH X.K X.mg i f j->RS X.K i f a l->D.bk l f
 |.ct a j=>∀i f l,Le U H i f->RH X.K X.mg i f j->RS X.K i f a l->D.ct l f
 |.rt v j=>∀i f r,Le U H i f->RH X.K X.mg i f j->RP X.K i f v r->D.rt r f
 |.exc x a j=>XP X a U H x j
 |.rse x a j=>XM X a U H x j
 |.bad=>False
def bf.le(l:Le U H U1 H1)(f:bf X U H o D):bf X U1 H1 o D:=by
 cases o with
 |nx a h=>exact λr j u i=>f r j u (l.trans i)
 |bk a h=>exact λr j u i=>f r j u (l.trans i)
 |ct a h=>exact λr j u i=>f r j u (l.trans i)
 |rt v h=>exact λr j u i=>f r j u (l.trans i)
 |exc x a h=>exact XP.le l f
 |rse x a h=>exact XM.le l f
 |bad=>exact f
abbrev nw:=ll->MH->SOut
inductive LO(X:Cx)(m:nw)(D:Ends)(Z:L2.St)(H:Hp):Prop
 |mk(U:Q6)(σp:ll)(h:MH)(rs:RS X.K U H σp Z)(rh:RH X.K X.mg U H h)(q:bf X U H (m σp h) D):LO X m D Z H
def MS(X:Cx)(st:Stmt)(m:nw):Prop:=PS X st (LO X m)
def zx(X:Cx)(st:List Stmt)(m:nw):Prop:=PSs X st (LO X m)
section
variable{X:Cx}{N W G:Q1}{k:Nat}
structure Good(X:Cx)(N W G:Q1)(k:Nat):Prop where
 hN:X.N=N
 nd:N.Nodup
 loc:∀x∈N,Loc X.env.scope x
 fn:∀x∈W,X.fn x=I\/X.env.scope.names.lookup x=J .local
 gl:∀x∈G,Gl X x
 dbg:∀x∈N++G,(x==("__debug__":Str))=T/\(x==("__classdict__":Str))=T/\x≠"__name__"
 calm:X.calm=I
 room:Room k X.A
 po:PassesOwn (model X.prog X.w) X.A X.env X.xe
def Good.x(g:Good X N W G k){i:Nat}{x:Str}(a:N[i]?=J x):X.N[i]?=J x:=by rw[g.hN];exact a
def aL{l:Q1}{i:Nat}{x:Str}(a:l[i]?=J x):x∈l:=zI a
def rJ(X:Cx)(g:PV->PV->MH->RN):R2:=λf a H Q=>∃U h x y,RH X.K X.mg U H h/\RP X.K U H x f/\RP X.K U H y a/\gu X (RV' X) U H (g x y h) Q
abbrev u7(X:Cx)(f:Value->Value->Sem Value)(g:PV->PV->MH->RN):Prop:=OpR X f (rJ X g)
def uJ(X:Cx)(g:PV->MH->RN):V->Hp->VK->Prop:=λa H Q=>∃U h x,RH X.K X.mg U H h/\RP X.K U H x a/\gu X (RV' X) U H (g x h) Q
abbrev PK(X:Cx)(f:Value->Sem Value)(g:PV->MH->RN):Prop:=LK X f (uJ X g)
def cJ(X:Cx)(g:Q0->MH->RN):List V->Hp->VK->Prop:=λa H Q=>∃U h xs,RH X.K X.mg U H h/\RPs X.K U H xs a/\gu X (RV' X) U H (g xs h) Q
abbrev bG(X:Cx)(f:Value)(g:Q0->MH->RN):Prop:=bV X f (cJ X g)
def ah(i:Nat):Mx PV:=λZ h=>match Z[i]? with
 |some (J v)=>.ok v h
 |_=>.bad
def mC(v:PV):Mx PV:=λ_ h=>.ok v h
def vI(g:Good X N W G k)(i:Nat){x:Str}{l:Pos}(j:N[i]?=J x):ME X (.Name x l) (ah i):=by
 have d:=g.dbg x (sv _ (aL j));have hv:LH X.env.scope x:=by
  rcases g.loc x (aL j)with q|q
  .exact .inl q
  .exact .inr (.inl q)
 refine PE.imp (DX (g.x j) hv d.1 d.2.1) λZ H Q ⟨U,a,h,y,B,f⟩=>?_;unfold ah at f
 cases e:a[i]? with
 |none=>rw[e]at f;exact f.elim
 |some o =>
  rw[e]at f
  cases o with
  |none=>exact f.elim
  |some v =>
   obtain⟨u,z,r⟩:=y.2 i v e;exact⟨u,z,f U H u (Le.refl _ _) B r⟩
def aC:ME X (.Constant (.int i) j pos) (mC (.int i)):=PE.imp DY λ_ H _ ⟨U,_,_,_,a,f⟩=>f U H _ (Le.refl _ _) a (.int i)
def EK:ME X (.Constant (.str i) j pos) (mC (.str i)):=PE.imp D_ λ_ H _ ⟨U,_,_,_,a,f⟩=>f U H _ (Le.refl _ _) a (.str i)
def o4:ME X (.Constant (.bool i) j pos) (mC (.bl i)):=PE.imp IE λ_ H _ ⟨U,_,_,_,a,f⟩=>f U H _ (Le.refl _ _) a (.bl i)
def EL:ME X (.Constant .none j pos) (mC .non):=PE.imp DZ λ_ H _ ⟨U,_,_,_,a,f⟩=>f U H _ (Le.refl _ _) a .non
def av(f:PV->PV->MH->RN)(a l:Mx PV):Mx PV:=λZ h=>(a Z h).bind λx i=>(l Z i).bind λy j=>(f x y j).ne
def Jo(f:PV->MH->RN)(a:Mx PV):Mx PV:=λZ h=>(a Z h).bind λx i=>(f x i).ne
def rE{f:PV->PV->MH->RN}{l u:Mx PV}{Z:L2.St}{H:Hp}{Q:VK}(q:tM X (RV' X) (av f l u) Z H Q):IR (rJ X f) (tM X (RV' X) l) (tM X (RV' X) u) Z H Q:=by obtain⟨U,a,h,r,M,q⟩:=q;refine⟨U,a,h,r,M,Ful.bind q λS H1 x x' O _ F i R z=>?_⟩;refine⟨S,a,O,r.le F,i,Ful.bind z λC H2 y y' P _ L j E B=>?_⟩;exact⟨C,P,x,y,j,R.le L,E,B.zero⟩
def aN(i:u7 X (binaryOp op) f)(j:ME X a ma)(l:ME X b mb):ME X (.BinOp a op b pos) (av f ma mb) :=
 PE.imp (IS i j l) λ_ _ _ q=>rE q
def Jp(l:PK X (unaryOp op) f)(y:ME X a ma):ME X (.UnaryOp op a pos) (Jo f ma) :=
 PE.imp (IT l y) λ_ _ _ ⟨U,i,h,z,E,q⟩=>⟨U,i,h,z,E,Ful.bind q λB L x H u _ F j C r=>⟨B,u,x,j,C,r.zero⟩⟩
def EM(i:u7 X (compareOp op) f)(j:ME X a ma)(r:ME X b mb)(l:behindInMarks op b=T):ME X (.Compare a [op] [b] pos) (av f ma mb) :=
 PE.imp (A9 i j r l) λ_ _ _ q=>rE q
def mB(m:Mx PV):Mx Bool:=λZ h=>(m Z h).bind λv a=>match v with
 |.bl b=>.ok b a
 |_=>.bad
def Jq(q:tM X Jn (mB m) Z H Q):tM X (RV' X) m Z H λx f=>∃c,x=.bl c/\Q c f:=by
 obtain⟨U,a,h,l,r,q⟩:=q;refine⟨U,a,h,l,r,Ful.bind q λy f x z C _ B i u j=>?_⟩
 cases u with
 |bl b=>exact⟨b,rfl,j y f b (Le.refl _ _) i rfl⟩
 |_=>exact j.elim
def wV(j:u7 X (compareOp op) f)(u:ME X a ma)(y:ME X b mb)(l:behindInMarks op b=T):MT X (.Compare a [op] [b] pos) (mB (av f ma mb)) :=
 PT.imp (A_ j u y l) λZ H Q q=>by
  obtain⟨U,i,h,r,z,q⟩:=Jq q;exact rE ⟨U,i,h,r,z,q⟩
def vM(h:ME X e m)(f:∀a,isTrue e X.env a=(do let v <-a;standAt e.pos;holding [v] (truthy v)):=by intro _;rfl):MT X e (mB m) :=
 PT.imp (Ea h f) λ_ _ _ q=>Jq q
def Bn(m:Mx Bool):Mx Bool:=λZ h=>(m Z h).bind λb a=>.ok (!b) a
def w6(h:MT X e m):MT X (.UnaryOp .Not e pos) (Bn m) :=
 PT.imp (Ed h) λ_ _ _ ⟨U,a,h,j,y,q⟩=>⟨U,a,h,j,y,Ful.bind q λl u x C z _ B f r i=>by
  cases r;exact i l u _ (Le.refl _ _) f rfl⟩
def EN(a b:Mx Bool):Mx Bool:=λZ h=>(a Z h).bind λx f=>if x=I then b Z f else .ok T f
def Js(a b:Mx Bool):Mx Bool:=λZ h=>(a Z h).bind λx f=>if x=I then .ok I f else b Z f
section
variable{a b:Expr}{rest:RM}{ma mb:Mx Bool}{pos:Pos}
def Bo(f:MT X a ma):MW X (.BoolOp .And [a] pos) ma:=A0 f
def vF(f:MT X a ma):MW X (.BoolOp .Or [a] pos) ma:=Eb f
def EO(E:MT X a ma)(y:MW X (.BoolOp .And (b::rest) pos) mb):MW X (.BoolOp .And (a::b::rest) pos) (EN ma mb) :=
 PW.imp (Ec E y) λZ H Q ⟨U,f,h,l,B,q⟩=>⟨U,f,h,l,B,Ful.bind q λr u x L C _ z i F j=>by
  cases F
  cases x with
  |true=>exact⟨r,f,C,l.le z,i,j⟩
  |false=>exact j r u _ (Le.refl _ _) i rfl⟩
def uu(E:MT X a ma)(y:MW X (.BoolOp .Or (b::rest) pos) mb):MW X (.BoolOp .Or (a::b::rest) pos) (Js ma mb) :=
 PW.imp (IF E y) λZ H Q ⟨U,f,h,l,B,q⟩=>⟨U,f,h,l,B,Ful.bind q λr u x L C _ z i F j=>by
  cases F
  cases x with
  |true=>exact j r u _ (Le.refl _ _) i rfl
  |false=>exact⟨r,f,C,l.le z,i,j⟩⟩
def MW.mt(h:MW X e m):MT X e m:=PW.pt h
end
def ue(a b:Mx PV):Mx PV:=λZ h=>(a Z h).bind λx f=>match x with
 |.bl c=>if c=I then b Z f else .ok (.bl T) f
 |_=>.bad
def ur(a:Mx PV):Mx PV:=λZ h=>(a Z h).bind λx f=>match x with
 |.bl c=>.ok (.bl (!c)) f
 |_=>.bad
section
variable{a b:Expr}{rest:RM}{ma mb:Mx PV}{pos:Pos}
def EQ(f:ME X a ma):ME X (.BoolOp op [a] pos) ma:=Ee f
def ER(E:ME X a ma)(y:ME X (.BoolOp .And (b::rest) pos) mb):ME X (.BoolOp .And (a::b::rest) pos) (ue ma mb) :=
 PE.imp (Ef E y) λZ H Q ⟨U,f,h,l,B,q⟩=>⟨U,f,h,l,B,Ful.bind q λr u x L C _ z i F j=>by
  cases F with
  |bl c =>
   refine⟨c,rfl,?_⟩
   cases c with
   |true=>exact⟨r,f,C,l.le z,i,j⟩
   |false=>exact j r u _ (Le.refl _ _) i (.bl T)
  |_=>exact j.elim⟩
def ES(y:ME X a ma):ME X (.UnaryOp .Not a pos) (ur ma) :=
 PE.imp (Eg y) λZ H Q ⟨U,f,h,l,u,q⟩=>⟨U,f,h,l,u,Ful.bind q λB r x C F _ E i z j=>by
  cases z with
  |bl c=>exact⟨c,rfl,j B r _ (Le.refl _ _) i (.bl _)⟩
  |_=>exact j.elim⟩
end
def ia:Mx (Q0):=λ_ h=>.ok [] h
def ag(a:Mx PV)(r:Mx (Q0)):Mx (Q0):=λZ h=>(a Z h).bind λx f=>(r Z f).bind λxs i=>.ok (x::xs) i
def aY:MA X [] ia:=PA.imp jn λZ H Q ⟨U,a,h,i,f,q⟩=>q U H _ (Le.refl _ _) f .nil
def aH(P:ME X e m)(B:MA X es ms)(F:starEach (e::es) X.env=(T,eval e X.env)::starEach es X.env:=by rfl):MA X (e::es) (ag m ms) :=
 PA.imp (gc P B F) λZ H Q ⟨U,a,h,j,M,q⟩=>⟨U,a,h,j,M,Ful.bind q λS H1 x x' O _ E f R l =>
  ⟨S,a,O,j.le E,f,Ful.bind l λu z y y' h2 _ L i C r=>r u z _ (Le.refl _ _) i (.cons (R.le L) C)⟩⟩
def oy(xs:Q0)(h:MH):RN:=if xs.length<=sizeLine then .ok (.loc h.length) (h++[.lst xs])else .bad
def o_(xs:Q0)(h:MH):RN:=if xs.length<=sizeLine then .ok (.tup xs) h else .bad
def km{U:Q6}{H:Hp}{h:MH}{xs:Q0}{ys:List V}{Q:VK}(i:RH X.K X.mg U H h)(a:RPs X.K U H xs ys)(f:gu X (RV' X) U H (oy xs h) Q):ys.length<=sizeLine/\∀p,H p=Y->Q (.ref p) (lg H p (.lst ys)):=by
 unfold oy at f
 split at f
 .rename_i j
  refine⟨by rw[<-a.length];exact j,λp u=>?_⟩;obtain⟨r,l⟩:=i.new u (o:=.lst xs) ⟨ys,rfl,a⟩;refine f _ _ _ l r (.loc ?_);rw[<-i.len];simp
 .exact f.elim
def sR{U:Q6}{H:Hp}{h:MH}{xs:Q0}{ys:List V}{Q:VK}(u:RH X.K X.mg U H h)(i:RPs X.K U H xs ys)(f:gu X (RV' X) U H (o_ xs h) Q):ys.length<=sizeLine/\∀p,H p=Y->Q (.ref p) (lg H p (.tup ys)):=by
 unfold o_ at f
 split at f
 .rename_i j
  refine⟨by rw[<-i.length];exact j,λp r=>?_⟩;obtain⟨l,a⟩:=u.tup r ys;exact f _ _ _ a l (.tup (.inl (.inl bI)) (i.le a))
 .exact f.elim
def ET{a:ll}{U:Q6}{H:Hp}{h:MH}{xs:Q0}{Q:VK}(f:Ful X (RV' X) a U H (oy xs h) Q):gu X (RV' X) U H (oy xs h) Q:=by
 unfold oy at f ⊢
 split at f
 .rw[b_ (by assumption)];exact f
 .exact f.elim
def EU{a:ll}{U:Q6}{H:Hp}{h:MH}{xs:Q0}{Q:VK}(f:Ful X (RV' X) a U H (o_ xs h) Q):gu X (RV' X) U H (o_ xs h) Q:=by
 unfold o_ at f ⊢
 split at f
 .rw[b_ (by assumption)];exact f
 .exact f.elim
def hZ(m:Mx (Q0)):Mx PV:=λZ h=>(m Z h).bind oy
def kX(m:Mx (Q0)):Mx PV:=λZ h=>(m Z h).bind o_
def EV(h:MA X es ms):ME X (.List es pos) (hZ ms) :=
 PE.imp (Ex h) λZ H Q ⟨U,a,h,j,l,q⟩=>⟨U,a,h,j,l,Ful.bind q λC u x y B _ z f r i=>km f r (ET i)⟩
def EW(h:MA X es ms):ME X (.Tuple es j pos) (kX ms) :=
 PE.imp (Ew h) λZ H Q ⟨U,a,h,l,r,q⟩=>⟨U,a,h,l,r,Ful.bind q λE y x z C _ B f u i=>sR f u (EU i)⟩
def SOut.then(o:SOut)(k:nw):SOut:=match o with
 |.nx Z h=>k Z h
 |o=>o
def aW(a b:nw):nw:=λZ h=>(a Z h).then b
def ls:nw:=λZ h=>.nx Z h
def fZ:zx X [] ls:=PSs.imp A1 λD Z H ⟨U,a,h,f,i,q⟩=>q U H Z (Le.refl _ _) i f
def Bp{st:Stmt}{m:nw}(h:MS X st m):zx X [st] m:=A2 h
def bf.then{U:Q6}{H:Hp}{o:SOut}{k:nw}{D:Ends}(q:bf X U H (o.then k) D):bf X U H o { D with nx:=λZ H=>LO X k D Z H}:=by
 cases o with
 |nx a h=>exact λf j i l r s=>⟨f,a,h,s,r,bf.le l q⟩
 |_=>exact q
def xM{st:Stmt}{a:List Stmt}{m u:nw}(i:MS X st m)(j:zx X a u):zx X (st::a) (aW m u) :=
 PSs.imp (yf i j) λD Z H ⟨U,f,h,l,r,q⟩=>⟨U,f,h,l,r,bf.then q⟩
def bT(m:Mx PV):nw:=λZ h=>match m Z h with
 |.ok v a=>.rt v a
 |.exc x a=>.exc x Z a
 |.bad=>.bad
def EX(j:ME X e m):MS X (.Return (J e) pos) (bT m) :=
 PS.imp (Eh j) λD Z H ⟨U,a,h,i,l,q⟩=>⟨U,a,h,i,l,by
  unfold bT at q
  cases e:m a h with
  |ok v f=>rw[e]at q;exact q
  |exc x f=>rw[e]at q;exact q
  |bad=>rw[e]at q;exact q⟩
def xO{α:Type}(m:Mx α)(k:α->nw):nw:=λZ h=>match m Z h with
 |.ok v a=>k v Z a
 |.exc x a=>.exc x Z a
 |.bad=>.bad
def bf.ex{α β:Type}{R:Rl α β}{m:Mx α}{k:α->nw}{U:Q6}{H:Hp}{a:ll}{h:MH}{D:Ends}{Q:β->Hp->Prop}(q:bf X U H (xO m k a h) D)(w:∀i f v j y,Le U H i f->RH X.K X.mg i f y->R i f v j->bf X i f (k v a y) D->Q j f):Ful X R a U H (m a h) Q:=by
 unfold xO at q
 cases e:m a h with
 |ok v u=>rw[e]at q;exact λi f j l r z=>w i f v j u l r z (bf.le l q)
 |exc x u=>rw[e]at q;exact q
 |bad=>rw[e]at q;exact q
def fb(m:Mx PV):nw:=xO m λ_=>ls
def j5{e:Expr}{m:Mx PV}{a:Pos}(y:ME X e m)(u:swapsWith e Y a.line X.env=pure T:=by rfl):MS X (.Expr e a) (fb m) :=
 PS.imp (A3 y u) λD Z H ⟨U,f,h,i,B,q⟩=>⟨U,f,h,i,B,bf.ex q λC j v E F l r z w=>w C j Z (Le.refl _ _) r (i.le l)⟩
def zy(c:Mx Bool)(a b:nw):nw:=xO c λx=>if x=I then a else b
def i0{c:Expr}{a b:List Stmt}{y:Mx Bool}{u B:nw}{j:Pos}(L:MT X c y)(O:zx X a u)(F:zx X b B):MS X (.If c a b j) (zy y u B) :=
 PS.imp (IK L O F) λD Z H ⟨U,f,h,i,M,q⟩=>⟨U,f,h,i,M,bf.ex q λE Q v P C l r z w=>by
  cases z
  cases v with
  |true=>exact⟨E,f,C,i.le l,r,w⟩
  |false=>exact⟨E,f,C,i.le l,r,w⟩⟩
def bc(i:Nat)(m:Mx PV):nw:=xO m λv Z h=>.nx (Z.set i (J v)) h
def mn(g:Good X N W G k)(i:Nat){x:Str}{e:Expr}{m:Mx PV}{f a:Pos}(y:N[i]?=J x)(B:W[i]?=J x)(F:ME X e m)(E:swapsWith e (J (.Name x a)) f.line X.env=pure T:=by rfl):
  MS X (.Assign [.Name x a] e f) (bc i m):=by
 refine PS.imp (El (by rw[g.hN];exact g.nd) (g.x y) (g.loc x (aL y)) F E (g.fn x (aL B))) λD Z H ⟨U,j,h,u,L,q⟩=>?_;exact⟨U,j,h,u,L,bf.ex q λM C v O P l r z w=>w M C _ (Le.refl _ _) r ((u.le l).set i z)⟩
end
section
variable{X:Cx}{N W G:Q1}{k:Nat}
abbrev Mg:=PV->nw
def kL(X:Cx)(U:Q6)(H:Hp)(o:SOut)(Q:L2.St->Hp->Prop):Prop:=match o with
 |.nx a i=>∀j f l,Le U H j f->RH X.K X.mg j f i->RS X.K j f a l->Q l f
 |.exc x a i=>XP X a U H x i
 |_=>False
def kL.le(l:Le U H U1 H1)(f:kL X U H o Q):kL X U1 H1 o Q:=by
 cases o with
 |nx a h=>exact λr j u i=>f r j u (l.trans i)
 |exc x a h=>exact XP.le l f
 |_=>exact f
inductive tG(X:Cx)(g:Mg)(v':V)(Z:L2.St)(H:Hp)(Q:L2.St->Hp->Prop):Prop
 |mk(U:Q6)(σp:ll)(h:MH)(v:PV)(rs:RS X.K U H σp Z)(rh:RH X.K X.mg U H h)(rv:RP X.K U H v v')(q:kL X U H (g v σp h) Q):tG X g v' Z H Q
def MG(X:Cx)(a:Expr)(g:Mg):Prop:=PG X a (tG X g)
def PG.imp(h:PG X e t)(i:∀v Z H Q,t' v Z H Q->t v Z H Q):PG X e t':=λf s Z H v u Q a r q=>h f s Z H v u Q a r (i v Z H Q q)
def EY(i:Nat):Mg:=λv Z h=>.nx (Z.set i (J v)) h
def tK(g:Good X N W G k)(i:Nat)(a:N[i]?=J x)(j:W[i]?=J x):MG X (.Name x pos) (EY i) :=
 PG.imp (sT (by rw[g.hN];exact g.nd) (g.x a) (g.loc x (aL a)) (g.fn x (aL j))) λy Z H Q ⟨U,l,h,v,r,u,f,q⟩=>q U H _ (Le.refl _ _) u (r.set i f)
abbrev Bq:=Q0->nw
inductive PL(X:Cx)(g:Bq)(v':List V)(Z:L2.St)(H:Hp)(Q:L2.St->Hp->Prop):Prop
 |mk(U:Q6)(σp:ll)(h:MH)(v:Q0)(rs:RS X.K U H σp Z)(rh:RH X.K X.mg U H h)(rv:RPs X.K U H v v')(q:kL X U H (g v σp h) Q):PL X g v' Z H Q
def Jt(X:Cx)(a:RM)(g:Bq):Prop:=PGs X a (PL X g)
def PGs.imp(h:PGs X e t)(i:∀v Z H Q,t' v Z H Q->t v Z H Q):PGs X e t':=λf s Z H v u Q a r q=>h f s Z H v u Q a r (i v Z H Q q)
def NB:Bq:=λa Z h=>match a with
 |[]=>.nx Z h
 |_=>.bad
def LP(a:Mg)(r:Bq):Bq:=λf Z h=>match f with
 |v::i=>(a v Z h).then (r i)
 |[]=>.bad
def Br:Jt X [] NB:=PGs.imp A4 λl Z H Q ⟨U,f,h,v,i,j,a,q⟩=>by
 cases a with
 |nil=>exact⟨rfl,q U H Z (Le.refl _ _) j i⟩
 |cons _ _=>exact q.elim
def yr(i:MG X e a)(M:Jt X es r)(F:(assignEach (e::es) X.env).map (·.2)=assign e X.env::(assignEach es X.env).map (·.2):=by rfl):Jt X (e::es) (LP a r) :=
 PGs.imp (yY i M F) λR Z H Q ⟨U,f,h,v,z,P,C,q⟩=>by
  cases C with
  |nil=>exact q.elim
  |@cons x y xs ys O L =>
   refine⟨_,_,rfl,U,f,h,x,z,P,O,?_⟩;dsimp only[LP]at q
   cases e:a x f h with
   |nx B i=>rw[e]at q;exact λu H' S l j E=>⟨u,B,i,xs,E,j,L.le l,kL.le l q⟩
   |_=>rw[e]at q;exact q
def LQ(r:Bq)(n:Nat):Mg:=λv Z h=>match v with
 |.tup xs=>if xs.length=n then r xs Z h else .bad
 |_=>.bad
def EZ(g:Good X N W G k){a:RM}{j:Nat}{r:Bq}{n:Nat}{l:Pos}(h:Jt X a r)(C:(assignEach a X.env).length=n:=by rfl)(i:(assignEach a X.env).findIdx? (·.1)=Y:=by rfl):
  MG X (.Tuple a j l) (LQ r n) :=
 PG.imp (Ej g.calm h C i) λF Z H Q ⟨U,f,h,v,z,E,B,q⟩=>by
  cases B with
  |tup s u =>
   dsimp only[LQ]at q
   split at q
   .rename_i y
    exact⟨_,_,rfl,s,by rw[<-u.length];exact y,U,f,h,_,z,E,u,q⟩
   .exact q.elim
  |_=>exact q.elim
def nI(m:Mx PV)(g:Mg):nw:=xO m λv Z h=>match g v Z h with
 |.nx f a=>.nx f a
 |.exc x f a=>.exc x f a
 |_=>.bad
def pS{f e:Expr}{m:Mx PV}{g:Mg}{i:Pos}(C:ME X e m)(F:MG X f g)(B:swapsWithSole [f] e i.line X.env=pure T:=by rfl)(y:swappedStores [f] e X.env=pure Y:=by rfl)(j:(assignEach [f] X.env).map (·.2)=[assign f X.env]:=by rfl):MS X (.Assign [f] e i) (nI m g) :=
 PS.imp (Ek C F B y j) λD Z H ⟨U,a,h,u,E,q⟩=>⟨U,a,h,u,E,bf.ex q λL O v M j l r z w=>⟨L,a,j,v,u.le l,r,z,by
  cases e:g v a j with
  |_=>rw[e]at w;exact w⟩⟩
def pM(o i v:PV)(h:MH):Option MH:=match o,i with
 |.loc n,.int j=>(match h[n]? with
  |some (.lst xs)=>(vv xs.length j).map λp=>h.set n (.lst (xs.set p v))
  |_=>Y)
 |_,_=>Y
def Ju(mo f:Mx PV):Mg:=λv=>xO mo λo=>xO f λi Z h=>match pM o i v h with
 |some a=>.nx Z a
 |none=>.bad
def wd(ho:ME X o mo)(hi:ME X i mi)(ha:∀v,assign (.Subscript o i pos) X.env v=(do
   let l <-holding [v] (eval o X.env)
   let z <-holding [v,l] (eval i X.env)
   standAt pos
   holding [v,l,z] (setItem l z v)
   release [v,l,z] []):=by intro _;rfl):MG X (.Subscript o i pos) (Ju mo mi) :=
 PG.imp (vp ho hi yo ha) λv' Z H Q ⟨U,f,h,v,B,rh,rv,q⟩=>by
  refine⟨U,f,h,B,rh,?_⟩;unfold Ju xO at q
  cases e:mo f h with
  |exc x L=>rw[e]at q;exact q
  |bad=>rw[e]at q;exact q
  |ok l L =>
   rw[e]at q;intro U1 H1 o' r E ro;refine⟨U1,f,L,B.le r,E,?_⟩;dsimp only at q
   cases e2:mi f L with
   |exc x h2=>rw[e2]at q;exact XP.le r q
   |bad=>rw[e2]at q;exact q
   |ok z h2 =>
    rw[e2]at q;intro U2 H2 i' y u ri;have O:=ro.le y;have F:=(rv.le r).le y;unfold pM at q
    cases O with
    |@loc n a P =>
     cases ri with
     |int j =>
      dsimp only at q;obtain⟨ob,eo,C⟩:=u.obj P;rw[eo]at q
      cases ob with
      |dic S=>exact q.elim
      |exc x=>exact q.elim
      |lst xs =>
       obtain⟨ys,ey,R⟩:=C;dsimp only at q
       cases M:vv xs.length j with
       |none=>rw[M]at q;exact q.elim
       |some p =>
        rw[M]at q;refine⟨a,ys,j,p,rfl,rfl,ey,by rw[<-R.length];exact M,?_⟩;obtain⟨r3,l3⟩:=u.put P (o:=.lst (xs.set p v)) ⟨_,rfl,RPs.set F p R⟩;exact q U2 _ Z (r.trans (y.trans l3)) r3 (B.le (r.trans (y.trans l3)))
     |_=>exact q.elim
    |_=>exact q.elim
structure MIt where
 xs:Q0
 gd:List (Nat×Q0):=[]
def MIt.ok(a:MIt)(h:MH):Prop:=∀p∈a.gd,h[p.1]?=J (.lst p.2)
def rn(X:Cx):Rl MIt It:=λu y f a=>∀U H h (i:Nat),Le u y U H->RH X.K X.mg U H h->f.ok h ->
 (i<f.xs.length->a.go i H/\∀r j,a.yld i H r j->∃l x,Le U H l j/\RH X.K X.mg l j h/\f.xs[i]?=J x/\RP X.K l j x r)/\(f.xs.length<=i->a.stop i H)
def MI(X:Cx)(f a:Expr)(m:Mx MIt):Prop:=PI X f a (tM X (rn X) m)
def PI.imp(h:PI X tg e t)(i:∀Z H Q,t' Z H Q->t Z H Q):PI X tg e t':=λf s Z H Q a q=>h f s Z H Q a (i Z H Q q)
def x2(i:MIt)(g:Mg)(b:nw):Q0->nw
 |[]=>λZ h=>if i.ok h then .nx Z h else .bad
 |x::r=>λZ h=>if i.ok h then (match g x Z h with
   |.nx j l=>(match b j l with
    |.nx f a=>x2 i g b r f a
    |.ct f a=>x2 i g b r f a
    |.bk f a=>.nx f a
    |.rt v a=>.rt v a
    |.exc e f a=>.exc e f a
    |.rse e f a=>.rse e f a
    |.bad=>.bad)
   |.exc e j l=>.exc e j l
   |_=>.bad)else .bad
def qE(f:Mx MIt)(g:Mg)(b:nw):nw:=xO f λa=>x2 a g b a.xs
def wc(gd:Good X N W G k)(hi:MI X tg iter mi)(hg:MG X tg g)(hb:zx X body mb)(hs:∀x,foldedSetIterable iter X.env x=pure x:=by intro _;rfl):MS X (.For tg iter body [] pos) (qE mi g mb):=by
 refine PS.imp (Eo gd.po gd.calm hi hg hb hs) λD Z H ⟨U,l,h,rs,rh,q⟩=>⟨U,l,h,rs,rh,bf.ex q λR H1 f an h1 l1 ab jr w=>?_⟩;refine⟨λi m Z H=>m=f.xs.length-i/\i<=f.xs.length/\∃U l h,Le R H1 U H/\RS X.K U H l Z/\RH X.K X.mg U H h/\bf X U H (x2 f g mb (f.xs.drop i) l h) D,⟨_,rfl,ux _,R,l,h1,Le.refl _ _,rs.le l1,ab,w⟩,?_⟩;rintro i m Z2 H2 ⟨rfl,hi,U2,B,Q,l2,M,F,r⟩;by_cases u:i<f.xs.length
 .have ed:f.xs.drop i=f.xs[i]::f.xs.drop (i+1):=MK u;rw[ed]at r;unfold x2 at r
  split at r
  .rename_i hok
   obtain⟨j1,j2⟩:=jr U2 H2 Q i l2 F hok;obtain⟨go,yl⟩:=j1 u;refine .inr ⟨go,λZ3 P=>∃S C h3,Le R H1 S P/\RS X.K S P C Z3/\RH X.K X.mg S P h3/\bf X S P (x2 f g mb (f.xs.drop (i+1)) C h3) D,λZ3 P z=>⟨_,by ext,rfl,u,z⟩,λx' H' y=>?_⟩;obtain⟨U',x,l',am,ex,rx⟩:=yl x' H' y;have aj:x=f.xs[i]:=by rw[zF u]at ex;exact(Option.some.inj ex).symm
   subst aj;refine⟨U',B,Q,_,M.le l',am,rx,?_⟩;have j:=bf.le l' r
   cases eg:g f.xs[i] B Q with
   |nx Z4 h4 =>
    rw[eg]at j;intro U5 H5 Z5 l5 r5 s5;refine⟨U5,Z4,h4,s5,r5,?_⟩;have a:=bf.le l5 j;have l6:Le R H1 U5 H5:=l2.trans (l'.trans l5);dsimp only at a
    cases em:mb Z4 h4 with
    |nx L E=>rw[em]at a;exact λU7 H7 Z7 O r7 s7=>⟨U7,L,E,l6.trans O,s7,r7,bf.le O a⟩
    |ct L E=>rw[em]at a;exact λU7 H7 Z7 O r7 s7=>⟨U7,L,E,l6.trans O,s7,r7,bf.le O a⟩
    |bk L E=>rw[em]at a;exact a
    |rt v E=>rw[em]at a;exact a
    |exc e L E=>rw[em]at a;exact a
    |rse e L E=>rw[em]at a;exact a
    |bad=>rw[em]at a;exact a
   |exc e Z4 h4=>rw[eg]at j;exact j
   |_=>rw[eg]at j;exact j.elim
  .exact r.elim
 .have e:i=f.xs.length:=by ext
  rw[e,List.drop_length]at r;unfold x2 at r
  split at r
  .rename_i hok
   obtain⟨j1,j2⟩:=jr U2 H2 Q i l2 F hok;exact .inl ⟨j2 (by ext),r U2 H2 Z2 (Le.refl _ _) F M⟩
  .exact r.elim
def De(v:PV)(h:MH):Out MIt:=match v with
 |.loc n=>(match h[n]? with
  |some (.lst xs)=>.ok ⟨xs,[(n,xs)]⟩ h
  |_=>.bad)
 |.frl xs=>.ok ⟨xs,[]⟩ h
 |_=>.bad
def Jv(m:Mx PV):Mx MIt:=λZ h=>(m Z h).bind De
def sS(L:∀f j h,Le U H f j->RH X.K X.mg f j h->(⟨xs,gd⟩:MIt).ok h->∃ys,SqL X.K j a ys/\RPs X.K f j xs ys):rn X U H ⟨xs,gd⟩ (Nj X.K a):=by
 intro f j h i l F ok;obtain⟨ys,u,B⟩:=L f j h l F ok;refine⟨λr=>?_,λr=>⟨ys,u,by rw[<-B.length];exact r⟩⟩;have E:=zF r;obtain⟨y,C,M⟩:=B.get E;refine⟨⟨ys,y,u,C⟩,λP O ⟨e,z⟩=>?_⟩;subst e
 have:=z ys u
 rw[C]at this;cases this;exact⟨f,_,Le.refl _ _,F,E,M⟩
def Bs(M:ME X l m):MI X tg l (Jv m) :=
 PI.imp (A5 M) λZ H Q ⟨U,u,h,P,rh,q⟩=>⟨U,u,h,P,rh,Ful.bind q λF E x x' h1 _ l1 i rx f=>by
  cases rx with
  |@loc n a e =>
   obtain⟨ob,eo,B⟩:=i.obj e;dsimp only[De]at f;rw[eo]at f
   cases ob with
   |dic R=>exact f.elim
   |exc x=>exact f.elim
   |lst xs =>
    obtain⟨ys,S,ry⟩:=B;refine⟨a,rfl,⟨ys,SqL.of S⟩,f F E _ (Le.refl _ _) i (sS λO H' L l j ok=>?_)⟩;obtain⟨C,y,z⟩:=j.at' n a _ (l.get e) (ok (n,xs) (by simp));exact⟨C,SqL.of y,z⟩
  |frl s r =>
   exact⟨_,rfl,⟨_,s.sq⟩,f F E _ (Le.refl _ _) i (sS λO H' L l j ok=>⟨_,(l.sqf s).sq,r.le l⟩)⟩
  |_=>exact f.elim⟩
def Jw(m:Mx PV):Mx MIt:=λZ h=>(m Z h).bind λv a=>match v with
 |.tup xs=>.ok ⟨xs,[]⟩ a
 |_=>.bad
def E0(O:ME X l m):MI X tg l (Jw m) :=
 PI.imp (En O) λZ H Q ⟨U,f,h,R,rh,q⟩=>⟨U,f,h,R,rh,Ful.bind q λU1 S x x' h1 _ l1 C rx E=>by
  cases rx with
  |@tup xs a ys s r =>
   refine⟨_,rfl,⟨_,s⟩,E U1 S _ (Le.refl _ _) C ?_⟩;intro P H' h' i l u ok;have j:=l.sqt s;have M:=r.le l;refine⟨λB=>?_,λB=>⟨ys,j,by rw[<-r.length];exact B⟩⟩;have L:=zF B;obtain⟨y,F,ry⟩:=M.get L;refine⟨⟨ys,y,j,F⟩,λx' H2 ⟨e,z⟩=>?_⟩;subst e
   have:=z ys j
   rw[F]at this;cases this;exact⟨P,_,Le.refl _ _,u,L,ry⟩
  |_=>exact E.elim⟩
def bN(lo:Int)(n:Nat):Q0:=(List.range n).map λ(i:Nat)=>PV.int (lo+(i:Int))
def uP(lo:Int)(n:Nat):(bN lo n).length=n:=by simp[bN]
def Bt(lo:Int)(n:Nat):rn X U H ⟨bN lo n,[]⟩ (LJ lo n):=by intro j y h i l r ok;have f:=uP lo n;refine⟨λa=>⟨by rw[f]at a;exact a,λz u ⟨e1,e2⟩=>?_⟩,λa=>by rw[f]at a;exact a⟩;subst e1;subst e2;rw[f]at a;exact⟨j,.int (lo+i),Le.refl _ _,r,by simp[bN,a],.int _⟩
def jS(m:Mx (Q0)):Mx MIt:=λZ h=>(m Z h).bind λf a=>match f with
 |[.int j]=>if -(2^62)<=j/\j<2^62 then .ok ⟨bN 0 j.toNat,[]⟩ a else .bad
 |_=>.bad
def nQ(L:Gl X "range")(y:X.mg "range"=Y)(M:MA X [a] m)(E:starEach [a] X.env=[(T,eval a X.env)]:=by rfl):MI X tg (.Call (.Name "range" p) [a] [] pos) (jS m):=by
 refine PI.imp (wL L y M E) λZ H Q ⟨U,i,h,z,F,q⟩=>⟨U,i,h,z,F,Ful.bind q λP B x S h1 _ l1 l O f=>?_⟩
 cases O with
 |nil=>exact f.elim
 |cons r C =>
  cases C with
  |nil =>
   cases r with
   |int j =>
    dsimp only at f
    split at f
    .rename_i u
     exact⟨j,rfl,u.1,u.2,f P B _ (Le.refl _ _) l (Bt 0 j.toNat)⟩
    .exact f.elim
   |_=>exact f.elim
  |cons R t2=>cases r<;>exact f.elim
def bP(c:Mx Bool)(b:nw):Nat->nw
 |0=>λ_ _=>.bad
 |n+1=>xO c λx=>if x=I then (λZ h=>match b Z h with
   |.nx f a=>bP c b n f a
   |.ct f a=>bP c b n f a
   |.bk f a=>.nx f a
   |.rt v a=>.rt v a
   |.exc e f a=>.exc e f a
   |.rse e f a=>.rse e f a
   |.bad=>.bad)else ls
def E1(c:Mx Bool)(b:nw):nw:=λZ h=>if z:∃n,bP c b n Z h≠.bad then bP c b (Classical.choose z) Z h else .bad
def jB:∀{n:Nat}{Z:ll}{h:MH},bP c b n Z h≠.bad->bP c b (n+1) Z h=bP c b n Z h
 |n+1,Z,h,q=>by
  rw[bP]at q;rw[bP]
  conv=>rhs;rw[bP]
  unfold xO at q ⊢
  cases e:c Z h with
  |exc x a=>rfl
  |bad=>rfl
  |ok x a =>
   rw[e]at q
   cases x with
   |false=>rfl
   |true =>
    simp only[if_true]at q ⊢
    cases em:b Z a with
    |nx i f=>rw[em]at q;exact jB q
    |ct i f=>rw[em]at q;exact jB q
    |_=>rfl
def sY(q:bP c b n Z h≠.bad)(l:n<=m):bP c b m Z h=bP c b n Z h:=by
 induction l with
 |refl=>rfl
 |step l a=>rw[jB (by rw[a];exact q),a]
def fy(q:bP c b n Z h≠.bad):E1 c b Z h=bP c b n Z h:=by
 have z:∃n,bP c b n Z h≠.bad:=⟨n,q⟩;unfold E1;rw[dif_pos z];have a:=Classical.choose_spec z;rcases Nat.le_total n (Classical.choose z)with l|l
 .exact sY q l
 .exact (sY a l).symm
def yE(gd:Good X N W G k)(hc:MT X c mc)(hb:zx X body mb):MS X (.While c body [] pos) (E1 mc mb):=by
 refine PS.imp (yd gd.po hc hb) λD Z H ⟨U,a,h,P,rh,q⟩=>?_;refine⟨λm Z H=>∃U a h,RS X.K U H a Z/\RH X.K X.mg U H h/\bf X U H (bP mc mb m a h) D,?_,?_⟩
 .unfold E1 at q
  split at q
  .exact⟨_,U,a,h,P,rh,q⟩
  .exact q.elim
 .rintro m Q H1 ⟨U1,f,h1,j,y,E⟩
  cases m with
  |zero=>exact E.elim
  |succ m =>
   refine⟨U1,f,h1,j,y,bf.ex E λL S v v' O M F z w=>?_⟩;cases z
   cases v with
   |false=>exact w L S Q (Le.refl _ _) F (j.le M)
   |true =>
    rw[b_ rfl]at w ⊢;refine⟨λZ H=>∃U a h,RS X.K U H a Z/\RH X.K X.mg U H h/\bf X U H (bP mc mb m a h) D,λZ' H' z=>⟨m,Hx _,z⟩,L,f,O,j.le M,F,?_⟩
    cases em:mb f O with
    |nx l i=>rw[em]at w;exact λB H7 R C r u=>⟨B,l,i,u,r,bf.le C w⟩
    |ct l i=>rw[em]at w;exact λB H7 R C r u=>⟨B,l,i,u,r,bf.le C w⟩
    |bk l i=>rw[em]at w;exact w
    |rt v i=>rw[em]at w;exact w
    |exc e l i=>rw[em]at w;exact w
    |rse e l i=>rw[em]at w;exact w
    |bad=>rw[em]at w;exact w
def bW(f:PV->Option PyData):Q0->Option (List PyData)
 |[]=>J []
 |x::r=>match f x,bW f r with
  |some d,J a=>J (d::a)
  |_,_=>Y
def rd:Nat->MH->PV->Option PyData
 |0,_,v=>(match v with
  |.non=>J .none
  |.bl b=>J (.bool b)
  |.int i=>J (.int i)
  |.str x=>J (.str x)
  |_=>Y)
 |n+1,h,v=>(match v with
  |.non=>J .none
  |.bl b=>J (.bool b)
  |.int i=>J (.int i)
  |.str x=>J (.str x)
  |.tup xs=>(bW (rd n h) xs).map PyData.tuple
  |.frl xs=>(bW (rd n h) xs).map PyData.list
  |.loc m=>(match h[m]? with
   |some (.lst xs)=>(bW (rd n h) xs).map PyData.list
   |_=>Y))
def eZ{y:Heap}{f:PV->Option PyData}{K:g_}{U:Q6}{H:Hp}(hf:∀v l u d,RP K U H v l->aR l u->f v=J d->∃j,Reads y u d j):
  ∀{xs:Q0}{ys:List V}{i:Q7}{a:List PyData},RPs K U H xs ys->au ys i->bW f xs=J a->∃j,ReadsAll y i a j:=by
 intro xs
 induction xs with
 |nil =>
  intro ys i a r v e;cases r;cases v;cases e;exact⟨_,.nil⟩
 |cons x xs B =>
  intro ys i a r v e;cases r with|cons r t=>cases v with|cons v w =>
  simp only[bW]at e
  split at e
  .rename_i d C e1 e2
   cases e;obtain⟨F,z⟩:=hf _ _ _ _ r v e1;obtain⟨L,E⟩:=B t w e2;exact⟨_,.cons z E⟩
  .cases e
def dU{P:Q8}{Z:L2.St}{H:Hp}{s:Shared}{U:Q6}{h:MH}(f:Inv X P Z H s)(rh:RH X.K X.mg U H h):
  ∀(n:Nat)(v:PV)(z:V)(u:Value)(d:PyData),RP X.K U H v z->aR z u->rd n h v=J d->∃B,Reads s.heap u d B:=by
 intro n
 induction n with
 |zero =>
  intro v z u d rp r e
  cases rp with
  |non=>cases e;cases r;exact⟨_,.none⟩
  |bl b=>cases e;cases r;exact⟨_,.bool b⟩
  |int i=>cases e;obtain⟨t,rfl⟩:=r;exact⟨_,.int i t⟩
  |str i=>cases e;obtain⟨t,rfl⟩:=r;exact⟨_,.str i t⟩
  |_=>cases e
 |succ n F =>
  intro v z u d rp r e
  cases rp with
  |non=>cases e;cases r;exact⟨_,.none⟩
  |bl b=>cases e;cases r;exact⟨_,.bool b⟩
  |int i=>cases e;obtain⟨t,rfl⟩:=r;exact⟨_,.int i t⟩
  |str i=>cases e;obtain⟨t,rfl⟩:=r;exact⟨_,.str i t⟩
  |@tup xs a ys s E =>
   cases r;simp only[rd]at e
   cases q:bW (rd n h) xs with
   |none=>rw[q]at e;cases e
   |some L =>
    rw[q]at e;cases e;obtain⟨y,j,⟨o,e1,e2,m,e3⟩,_⟩:=f.tuple s;obtain⟨B,l⟩:=eZ (F) E j q;exact⟨_,.tuple e1 e2 e3 (by simpa using l)⟩
  |@frl xs a ys s E =>
   cases r;simp only[rd]at e
   cases q:bW (rd n h) xs with
   |none=>rw[q]at e;cases e
   |some L =>
    rw[q]at e;cases e;obtain⟨y,j,⟨o,m,e1,e2,_,e3⟩,_⟩:=f.list s.sq;obtain⟨B,l⟩:=eZ (F) E j q;exact⟨_,.list e1 e2 e3 (by simpa using l)⟩
  |loc M =>
   cases r;simp only[rd]at e;obtain⟨R,S,C⟩:=rh.obj M;rw[S]at e
   cases R with
   |dic ks xs=>cases e
   |exc x=>cases e
   |lst xs =>
    obtain⟨ys,Q,O⟩:=C;dsimp only at e
    cases q:bW (rd n h) xs with
    |none=>rw[q]at e;cases e
    |some L =>
     rw[q]at e;cases e;obtain⟨y,j,⟨o,m',e1,e2,_,e3⟩,_⟩:=f.list (SqL.of Q);obtain⟨B,l⟩:=eZ (F) O j q;exact⟨_,.list e1 e2 e3 (by simpa using l)⟩
def tx(x y:PV)(h:MH):RN:=match rd 60 h x,rd 60 h y with
 |some a,J b=>if SeqAt.shaped a=I/\SeqAt.shaped b=I then .ok (.bl (PyData.eqv a b)) h else .bad
 |_,_=>.bad
def wh(x y:PV)(h:MH):RN:=match rd 60 h x,rd 60 h y with
 |some a,J b=>if SeqAt.shaped a=I/\SeqAt.shaped b=I then .ok (.bl (!PyData.eqv a b)) h else .bad
 |_,_=>.bad
def o6(C:Room k X.A):u7 X (compareOp .Eq) tx:=by
 intro R s Z H E M u v Q f i j ⟨U,h,x,y,l,P,F,q⟩;unfold tx at q
 split at q
 .rename_i a b L z
  split at q
  .rename_i r
   obtain⟨_,B⟩:=dU f l 60 x E u a P i L;obtain⟨_,O⟩:=dU f l 60 y M v b F j z;exact eq_dataH B O r.1 r.2 C.units ⟨.bl _,H,f,rfl,q U H _ (Le.refl _ _) l (.bl _)⟩
  .exact q.elim
 .exact q.elim
def u6(C:Room k X.A):u7 X (compareOp .NotEq) wh:=by
 intro R s Z H E M u v Q f i j ⟨U,h,x,y,l,P,F,q⟩;unfold wh at q
 split at q
 .rename_i a b L z
  split at q
  .rename_i r
   obtain⟨_,B⟩:=dU f l 60 x E u a P i L;obtain⟨_,O⟩:=dU f l 60 y M v b F j z;exact ne_dataH B O r.1 r.2 C.units ⟨.bl _,H,f,rfl,q U H _ (Le.refl _ _) l (.bl _)⟩
  .exact q.elim
 .exact q.elim
def kB(f:Int->Int->PV):PV->PV->MH->RN:=λx y h=>match x,y with
 |.int i,.int j=>.ok (f i j) h
 |_,_=>.bad
def mK(C:OpR X F (A6 f))(Mf:∀U H i j,RP X.K U H (g i j) (f i j)):u7 X F (kB g):=by
 intro B s Z H M O u v Q r a l ⟨U,h,x,y,L,E,z,q⟩;unfold kB at q
 split at q
 .cases E;cases z;exact C B s Z H _ _ u v Q r a l ⟨_,_,rfl,rfl,q U H _ (Le.refl _ _) L (Mf U H _ _)⟩
 .exact q.elim
def Aj:=kB λi j=>.bl (decide (i<j))
def E2:=kB λi j=>.bl (decide (i<=j))
def Ak:=kB λi j=>.bl (decide (j<i))
def Al:=kB λi j=>.bl (decide (j<=i))
def Df:u7 X (compareOp .Lt) Aj:=mK IV λ_ _ _ _=>.bl _
def Jx:u7 X (compareOp .LtE) E2:=mK IW λ_ _ _ _=>.bl _
def Dg:u7 X (compareOp .Gt) Ak:=mK IY λ_ _ _ _=>.bl _
def Jy:u7 X (compareOp .GtE) Al:=mK IZ λ_ _ _ _=>.bl _
def Jz(a:Bool):PV->PV->MH->RN:=λx y h=>match y with
 |.non=>(match x with
  |.non=>.ok (.bl (!a)) h
  |_=>.ok (.bl a) h)
 |.bl b=>(match x with
  |.bl c=>.ok (.bl (if a then !(c==b)else c==b)) h
  |.non=>.ok (.bl a) h
  |.int _=>.ok (.bl a) h
  |.str _=>.ok (.bl a) h
  |.tup _=>.ok (.bl a) h
  |_=>.bad)
 |_=>.bad
def ki(x y:PV)(h:MH):RN:=match x,y with
 |.int i,.int j=>if IntMulOk i j then .ok (.int (i*j)) h else .bad
 |.loc n,.int j=>(match h[n]? with
  |some (.lst xs)=>if -(2^63)<=j/\j<2^63 then oy (List.flatten (List.replicate j.toNat xs)) h else .bad
  |_=>.bad)
 |_,_=>.bad
def zU(x y:PV)(h:MH):RN:=match x,y with
 |.int i,.int j=>if j≠0/\Builtin.divisionGoesByPylong i j=T then .ok (.int (i.fdiv j)) h else .bad
 |_,_=>.bad
def lB(x y:PV)(h:MH):RN:=match x,y with
 |.int i,.int j=>if j≠0 then .ok (.int (i.fmod j)) h else .bad
 |_,_=>.bad
def p_(x y:PV)(h:MH):RN:=match x,y with
 |.int i,.int j=>if gG i j then .ok (.int (i^j.toNat)) h else .bad
 |_,_=>.bad
def lb(x y:PV)(h:MH):RN:=match x,y with
 |.int i,.int j=>.ok (.int (i+j)) h
 |.str a,.str b=>if a.length+b.length<=sizeLine then .ok (.str (a++b)) h else .bad
 |.loc n,.loc m=>(match h[n]?,h[m]? with
  |some (.lst xs),J (.lst ys)=>oy (xs++ys) h
  |_,_=>.bad)
 |.tup xs,.tup ys=>if xs≠[]then o_ (xs++ys) h else .bad
 |_,_=>.bad
def Am:=kB λi j=>.int (i-j)
def An(x:PV)(h:MH):RN:=match x with
 |.int i=>.ok (.int (-i)) h
 |_=>.bad
def E3:u7 X (binaryOp .Sub) Am:=mK Es λ_ _ _ _=>.int _
def E4:PK X (unaryOp .USub) An:=by
 intro l s Z H y u Q f a ⟨U,h,x,r,j,q⟩
 cases j with
 |int i=>exact Eu l s Z H _ u Q f a ⟨i,rfl,q U H _ (Le.refl _ _) r (.int _)⟩
 |_=>exact q.elim
def Dh:u7 X (binaryOp .FloorDiv) zU:=by
 intro C s Z H B E u v Q i a f ⟨U,h,x,y,z,r,l,q⟩;unfold zU at q
 split at q
 .cases r;cases l
  split at q
  .rename_i j
   obtain⟨t,rfl⟩:=a;obtain⟨F,rfl⟩:=f;exact floordiv_int j.1 ⟨.int _,H,i.tok _,⟨_,rfl⟩,q U H _ (Le.refl _ _) z (.int _)⟩ (.inl j.2)
  .exact q.elim
 .exact q.elim
def dB:u7 X (binaryOp .Mod) lB:=by
 intro C s Z H B E u v Q i a f ⟨U,h,x,y,z,r,j,q⟩;unfold lB at q
 split at q
 .cases r;cases j
  split at q
  .rename_i l
   obtain⟨t,rfl⟩:=a;obtain⟨F,rfl⟩:=f;exact mod_int' l ⟨.int _,H,i.tok _,⟨_,rfl⟩,q U H _ (Le.refl _ _) z (.int _)⟩
  .exact q.elim
 .exact q.elim
def wp:u7 X (binaryOp .Pow) p_:=by
 intro z s Z H F L u v Q l a f ⟨U,h,x,y,E,C,r,q⟩;unfold p_ at q
 split at q
 .rename_i i j
  cases C;cases r
  split at q
  .rename_i B
   exact Et z s Z H _ _ u v Q l a f ⟨i,j,rfl,rfl,B,q U H _ (Le.refl _ _) E (.int _)⟩
  .exact q.elim
 .exact q.elim
def cZ:u7 X (binaryOp .Add) lb:=by
 intro L s Z H x' y' u v Q r f l ⟨U,h,x,y,B,rx,E,q⟩
 cases rx with
 |int i =>
  cases E with
  |int j=>exact Er L s Z H _ _ u v Q r f l ⟨i,j,rfl,rfl,q U H _ (Le.refl _ _) B (.int _)⟩
  |_=>exact q.elim
 |str a =>
  cases E with
  |str b =>
   dsimp only[lb]at q
   split at q
   .rename_i hl
    exact uo L s Z H _ _ u v Q r f l ⟨a,b,rfl,rfl,hl,q U H _ (Le.refl _ _) B (.str _)⟩
   .exact q.elim
  |_=>exact q.elim
 |@loc n a e =>
  cases E with
  |@loc m b e2 =>
   dsimp only[lb]at q;obtain⟨o1,h1,C⟩:=B.obj e;obtain⟨o2,h2,F⟩:=B.obj e2;rw[h1,h2]at q
   cases o1 with
   |dic ks xs=>exact q.elim
   |exc x=>exact q.elim
   |lst xs =>
    cases o2 with
    |dic ks xs=>exact q.elim
    |exc x=>exact q.elim
    |lst ys =>
     obtain⟨M,ex,P⟩:=C;obtain⟨aj,ey,R⟩:=F;obtain⟨S,O⟩:=km B (P.append R) q;exact EG L s Z H _ _ u v Q r f l ⟨a,b,M,aj,rfl,rfl,ex,ey,by rw[<-v3];exact S,O⟩
  |_=>exact q.elim
 |tup s1 C =>
  cases E with
  |tup s2 F =>
   dsimp only[lb]at q
   split at q
   .rename_i ab
    obtain⟨S,O⟩:=sR B (C.append F) q;refine Bi L s Z H _ _ u v Q r f l ⟨_,_,_,_,rfl,rfl,s1,s2,?_,by rw[<-v3];exact S,λz=>?_,λ_=>O⟩
    .rintro rfl;cases C;exact ab rfl
    .subst z;cases F;unfold o_ at q
     split at q
     .exact q U H _ (Le.refl _ _) B (by rw[HD];exact .tup s1 C)
     .exact q.elim
   .exact q.elim
  |_=>exact q.elim
 |_=>cases E<;>exact q.elim
def RPs.rep{K:g_}{U:Q6}{H:Hp}{xs:Q0}{ys:List V}(r:RPs K U H xs ys):∀n:Nat,RPs K U H (List.replicate n xs).flatten (List.replicate n ys).flatten
 |0=>.nil
 |n+1=>by exact r.append (RPs.rep r n)
def gC:u7 X (binaryOp .Mult) ki:=by
 intro P s Z H x' y' u v Q r f l ⟨U,h,x,y,E,rx,C,q⟩
 cases rx with
 |int i =>
  cases C with
  |int j =>
   dsimp only[ki]at q
   split at q
   .rename_i R
    obtain⟨t,rfl⟩:=f;obtain⟨t',rfl⟩:=l;exact PyProof.Rows.mul_int ⟨.int _,H,r.tok _,⟨_,rfl⟩,q U H _ (Le.refl _ _) E (.int _)⟩ R
   .exact q.elim
  |_=>exact q.elim
 |@loc n a e =>
  cases C with
  |int j =>
   dsimp only[ki]at q;obtain⟨o1,S,O⟩:=E.obj e;rw[S]at q
   cases o1 with
   |dic ks xs=>exact q.elim
   |exc x=>exact q.elim
   |lst xs =>
    dsimp only at q
    split at q
    .rename_i F
     obtain⟨z,ex,B⟩:=O;obtain⟨L,M⟩:=km E (B.rep j.toNat) q;refine EH P s Z H _ _ u v Q r f l ⟨a,j,z,rfl,rfl,ex,F.1,F.2,?_,M⟩;rw[tz]at L;rw[Nat.mul_comm];exact L
    .exact q.elim
  |_=>exact q.elim
 |_=>cases C<;>exact q.elim
def jq{f:Q8}{Z:L2.St}{H:Hp}{s:Shared}{Q:VK}{x':V}{u:Value}{b c:Bool}(a:Inv X f Z H s)(r:aR x' u)(j:plainIs u (.bool b)=I)(i:(!(u == .bool b))=c)(q:Q (.bl c) H):
  wpAny (model X.prog X.w) X.A (compareOp .IsNot u (.bool b)) (EP X f Z Q) X.xe s:=by
 exact c_ (wpAny_isSame_plain j (h_ (by rw[i];exact⟨.bl c,H,a,rfl,q⟩)))
def E5:u7 X (compareOp .IsNot) (Jz I):=by
 intro B s Z H E L u v Q f a l ⟨U,h,x,y,j,r,z,q⟩
 cases z with
 |non =>
  refine A8 B s Z H _ _ u v Q f a l ⟨rfl,?_⟩;cases r<;>exact q U H _ (Le.refl _ _) j (by first | exact .bl I | exact .bl T)
 |bl b =>
  cases l
  cases r with
  |non=>cases a;exact jq (x':=.non) f rfl (by cases b<;>rfl) (by cases b<;>rfl) (q U H _ (Le.refl _ _) j (.bl I))
  |bl c=>cases a;exact jq (x':=.bl c) f rfl (by cases b<;>cases c<;>rfl) (by cases b<;>cases c<;>rfl) (q U H _ (Le.refl _ _) j (.bl _))
  |int i=>obtain⟨t,rfl⟩:=a;exact jq (x':=.int i) f ⟨_,rfl⟩ (by cases b<;>rfl) (by cases b<;>rfl) (q U H _ (Le.refl _ _) j (.bl I))
  |str i=>obtain⟨t,rfl⟩:=a;exact jq (x':=.str i) f ⟨_,rfl⟩ (by cases b<;>rfl) (by cases b<;>rfl) (q U H _ (Le.refl _ _) j (.bl I))
  |tup F C=>cases a;exact jq (x':=.ref _) f rfl (by cases b<;>rfl) (by cases b<;>rfl) (q U H _ (Le.refl _ _) j (.bl I))
  |_=>exact q.elim
 |_=>exact q.elim
def bO(x y:PV)(h:MH):RN:=match y with
 |.int i=>(match x with
  |.loc n=>(match h[n]? with
   |some (.lst xs)=>(match mw xs i with
    |some v=>.ok v h
    |none=>.bad)
   |_=>.bad)
  |.tup xs=>(match mw xs i with
   |some v=>.ok v h
   |none=>.bad)
  |.frl xs=>(match mw xs i with
   |some v=>.ok v h
   |none=>.bad)
  |.str z=>(match mw z.cps.toList i with
   |some c=>if z.length<=sizeLine then .ok (.str ⟨#[c]⟩) h else .bad
   |none=>.bad)
  |_=>.bad)
 |_=>.bad
def nq{K:g_}{U:Q6}{H:Hp}{xs:Q0}{ys:List V}{i:Int}{v:PV}(r:RPs K U H xs ys)(e:mw xs i=J v):∃a,mw ys i=J a/\RP K U H v a:=by
 unfold mw at e ⊢;rw[<-r.length]
 cases q:vv xs.length i with
 |none=>rw[q]at e;cases e
 |some j =>
  rw[q]at e;exact r.get e
def Di{a b:Expr}{ma mb:Mx PV}{S:Pos}(ha:ME X a ma)(hb:ME X b mb)(hs:kc b):ME X (.Subscript a b S) (av bO ma mb):=by
 refine PE.imp (Jf EB ha hb hs) λZ H Q q=>?_;obtain⟨U,r,h,rs,rh,q⟩:=q;refine⟨U,r,h,rs,rh,Ful.bind q λU1 H1 x x' h1 _ l1 P rx q1=>⟨U1,r,h1,rs.le l1,P,Ful.bind q1 λF L y y' h2 _ l2 l ry f=>?_⟩⟩;have R:=rx.le l2
 cases ry with
 |int i =>
  cases R with
  |@loc n a e =>
   obtain⟨ob,eo,M⟩:=l.obj e;dsimp only[bO]at f;rw[eo]at f
   cases ob with
   |dic ks xs=>exact f.elim
   |exc x=>exact f.elim
   |lst xs =>
    obtain⟨ys,ey,E⟩:=M;dsimp only at f
    cases j:mw xs i with
    |none=>rw[j]at f;exact f.elim
    |some v =>
     rw[j]at f;obtain⟨u,C,B⟩:=nq E j;exact .inl ⟨a,ys,i,u,rfl,rfl,SqL.of ey,C,f F L _ (Le.refl _ _) l B⟩
  |@tup xs a ys O E =>
   dsimp only[bO]at f
   cases j:mw xs i with
   |none=>rw[j]at f;exact f.elim
   |some v =>
    rw[j]at f;obtain⟨u,C,B⟩:=nq E j;exact .inr (.inl ⟨_,_,i,u,rfl,rfl,O,C,f F L _ (Le.refl _ _) l B⟩)
  |@frl xs a ys O E =>
   dsimp only[bO]at f
   cases j:mw xs i with
   |none=>rw[j]at f;exact f.elim
   |some v =>
    rw[j]at f;obtain⟨u,C,B⟩:=nq E j;exact .inl ⟨_,_,i,u,rfl,rfl,O.sq,C,f F L _ (Le.refl _ _) l B⟩
  |str z =>
   dsimp only[bO]at f
   cases j:mw z.cps.toList i with
   |none=>rw[j]at f;exact f.elim
   |some c =>
    rw[j]at f;dsimp only at f
    split at f
    .rename_i hz
     exact .inr (.inr ⟨z,i,c,rfl,rfl,hz,j,f F L _ (Le.refl _ _) l (.str _)⟩)
    .exact f.elim
  |_=>exact f.elim
 |_=>exact f.elim
def uj(f:Q0->MH->RN)(m:Mx (Q0)):Mx PV:=λZ h=>(m Z h).bind λxs a=>(f xs a).ne
section
variable{x:Str}{id T:String}{e:Expr}{es:RM}{f:Q0->MH->RN}{m:Mx (Q0)}{p pos:Pos}
def Dj{Z:L2.St}{H:Hp}{Q:VK}(q:tM X (RV' X) (uj f m) Z H Q):Nt (cJ X f) (tM X (RVs' X) m) Z H Q:=by obtain⟨U,a,h,l,r,q⟩:=q;exact⟨U,a,h,l,r,Ful.bind q λz B x C u _ E i y j=>⟨z,u,x,i,y,j.zero⟩⟩
def rf(g:Good X N W G k)(j:Nat)(i:G[j]?=J x)(l:bG X (.builtin id) f)(r:X.mg x=Y)(hv:bootBuiltins x=J (.builtin id))(u:MA X (e::es) m)(y:starEach (e::es) X.env=(false,eval e X.env)::starEach es X.env:=by rfl)(a:(backTo pos (starEach es X.env)).any (·.1)=false:=by rfl):ME X (.Call (.Name x p) (e::es) [] pos) (uj f m) :=
 have d:=g.dbg x (pk _ (aL i))
 PE.imp (iL l (g.gl x (aL i)) r hv u d.2.2 d.1 y a) λ_ _ _ q=>Dj q
def nX(g:Good X N W G k)(j:Nat)(i:G[j]?=J x)(l:bG X (.type T) f)(r:X.mg x=Y)(hv:bootBuiltins x=J (.type T))(u:MA X (e::es) m)(y:starEach (e::es) X.env=(false,eval e X.env)::starEach es X.env:=by rfl)(a:(backTo pos (starEach es X.env)).any (·.1)=false:=by rfl):ME X (.Call (.Name x p) (e::es) [] pos) (uj f m) :=
 have d:=g.dbg x (pk _ (aL i))
 PE.imp (hU l (g.gl x (aL i)) r hv u d.2.2 d.1 y a) λ_ _ _ q=>Dj q
end
def zc(xs:Q0)(h:MH):RN:=match xs with
 |[.int i]=>.ok (.int (if i<0 then -i else i)) h
 |_=>.bad
def zd(xs:Q0)(h:MH):RN:=match xs with
 |[.int i,.int j]=>.ok (.int (if j<i then j else i)) h
 |_=>.bad
def Bu(xs:Q0)(h:MH):RN:=match xs with
 |[.int i,.int j]=>.ok (.int (if j>i then j else i)) h
 |_=>.bad
def r_(xs:Q0)(h:MH):RN:=match xs with
 |[.loc n]=>(match h[n]? with
  |some (.lst ys)=>.ok (.int ys.length) h
  |_=>.bad)
 |[.tup ys]=>.ok (.int ys.length) h
 |[.frl ys]=>.ok (.int ys.length) h
 |[.str z]=>if z.length<=sizeLine then .ok (.int z.length) h else .bad
 |_=>.bad
def wR:bG X (.builtin "abs") zc:=by
 intro j s Z H xs u Q a r ⟨U,h,z,y,rp,q⟩
 cases rp with
 |nil=>exact q.elim
 |cons f l =>
  cases l with
  |cons _ _=>cases f<;>exact q.elim
  |nil =>
   cases f with
   |int i=>exact yt j s Z H _ u Q a r ⟨i,rfl,q U H _ (Le.refl _ _) y (.int _)⟩
   |_=>exact q.elim
def re{f:Q0->MH->RN}{F:Int->Int->Int}{r:List V->Hp->VK->Prop}{l:Value}(hf:∀i j h,f [.int i,.int j] h=.ok (.int (F i j)) h)(E:∀xs h,(∀i j,xs≠[.int i,.int j])->f xs h=.bad)(L:bV X l (λxs H Q=>∃i j,xs=[.int i,.int j]/\Q (.int (F i j)) H)):bG X l f:=by
 intro C s Z H xs P Q a r ⟨U,h,u,R,rp,q⟩;by_cases z:∃i j,u=[.int i,.int j]
 .obtain⟨i,j,rfl⟩:=z
  cases rp with
  |cons y M=>cases M with
   |cons B O =>
    cases O;cases y;cases B;rw[hf]at q;exact L C s Z H _ P Q a r ⟨i,j,rfl,q U H _ (Le.refl _ _) R (.int _)⟩
 .rw[E u h λi j e=>z ⟨i,j,e⟩]at q;exact q.elim
def pZ(g:Good X N W G k):bG X (.builtin "min") zd:=re (r:=λ_ _ _=>True) (λ_ _ _=>rfl) (λxs h z=>by unfold zd;split<;>first | rfl | exact absurd rfl (z _ _)) (oq g.calm)
def E6(g:Good X N W G k):bG X (.builtin "max") Bu:=re (r:=λ_ _ _=>True) (λ_ _ _=>rfl) (λxs h z=>by unfold Bu;split<;>first | rfl | exact absurd rfl (z _ _)) (nY g.calm)
def lq:bG X (.builtin "len") r_:=by
 intro l s Z H xs u Q f r ⟨U,h,R,j,rp,q⟩
 cases rp with
 |nil=>exact q.elim
 |cons C L =>
  cases L with
  |cons _ _=>cases C<;>exact q.elim
  |nil =>
   cases C with
   |@loc n a e =>
    obtain⟨M,O,y⟩:=j.obj e;dsimp only[r_]at q;rw[O]at q
    cases M with
    |dic P xs=>exact q.elim
    |exc x=>exact q.elim
    |lst xs =>
     obtain⟨ys,F,i⟩:=y;exact iP l s Z H _ u Q f r ⟨_,_,rfl,.inl ⟨ys,SqL.of F,rfl⟩,by rw[<-i.length];exact q U H _ (Le.refl _ _) j (.int _)⟩
   |tup B i=>exact iP l s Z H _ u Q f r ⟨_,_,rfl,.inr ⟨_,B,rfl⟩,by rw[<-i.length];exact q U H _ (Le.refl _ _) j (.int _)⟩
   |frl B i=>exact iP l s Z H _ u Q f r ⟨_,_,rfl,.inl ⟨_,B.sq,rfl⟩,by rw[<-i.length];exact q U H _ (Le.refl _ _) j (.int _)⟩
   |str z =>
    dsimp only[r_]at q
    split at q
    .rename_i E
     exact iP l s Z H _ u Q f r ⟨_,_,rfl,⟨E,rfl⟩,q U H _ (Le.refl _ _) j (.int _)⟩
    .exact q.elim
   |_=>exact q.elim
def Dk(h:MH):PV->Option String
 |.non=>J "NoneType"
 |.bl _=>J "bool"
 |.int _=>J "int"
 |.str _=>J "str"
 |.tup _=>J "tuple"
 |.frl _=>J "list"
 |.loc n=>match h[n]? with
  |some (.lst _)=>J "list"
  |some (.dic _ _)=>J "dict"
  |_=>Y
def dN(t:String)(a:String):Bool:=t==a||(t == "bool" && a == "int")
def nk(a:List String)(x:PV)(h:MH):RN:=match Dk h x with
 |some t=>.ok (.bl (a.any (dN t))) h
 |none=>.bad
def HJ(a:String):Prop:=∀K:g_,∀t∈["NoneType","bool","int","str","tuple","list","dict"],PySem.W.kitOne K (.type t) (.type a)=J (dN t a)
def qv(f:∀K,PySem.W.kitOne K (.type "NoneType") (.type b)=J (dN "NoneType" b))(u:∀K,PySem.W.kitOne K (.type "bool") (.type b)=J (dN "bool" b))(j:∀K,PySem.W.kitOne K (.type "int") (.type b)=J (dN "int" b))(y:∀K,PySem.W.kitOne K (.type "str") (.type b)=J (dN "str" b))(i:∀K,PySem.W.kitOne K (.type "tuple") (.type b)=J (dN "tuple" b))(l:∀K,PySem.W.kitOne K (.type "list") (.type b)=J (dN "list" b))(r:∀K,PySem.W.kitOne K (.type "dict") (.type b)=J (dN "dict" b)):HJ b:=by
 intro K t a;simp only[mu,Hy,or_false]at a;rcases a with rfl|rfl|rfl|rfl|rfl|rfl|rfl
 .exact f K
 .exact u K
 .exact j K
 .exact y K
 .exact i K
 .exact l K
 .exact r K
def Bv:HJ "int":=qv (λ_=>rfl) (λ_=>rfl) (λ_=>rfl) (λ_=>rfl) (λ_=>rfl) (λ_=>rfl) (λ_=>rfl)
def yC:HJ "bool":=qv (λ_=>rfl) (λ_=>rfl) (λ_=>rfl) (λ_=>rfl) (λ_=>rfl) (λ_=>rfl) (λ_=>rfl)
def pR:HJ "list":=qv (λ_=>rfl) (λ_=>rfl) (λ_=>rfl) (λ_=>rfl) (λ_=>rfl) (λ_=>rfl) (λ_=>rfl)
def kitx_of{P:Q8}{Z:L2.St}{H:Hp}{s:Shared}{U:Q6}{h:MH}{x:PV}{E:V}{u:Value}{t:String}(f:Inv X P Z H s)(rh:RH X.K X.mg U H h)(O:RP X.K U H x E)(j:aR E u)(e:Dk h x=J t):
  t∈["NoneType","bool","int","str","tuple","list","dict"]/\u≠.builtin "__main__.__loader__#opaque"/\∃F,PySem.W.KitX X.K u (.type t) F/\F s.heap:=by
 cases O with
 |non=>cases e;cases j;exact⟨by simp,(λz=>nomatch z),_,PySem.W.kitx_none,trivial⟩
 |bl b=>cases e;cases j;exact⟨by simp,(λz=>nomatch z),_,PySem.W.kitx_bool,trivial⟩
 |int i=>cases e;obtain⟨t,rfl⟩:=j;exact⟨by simp,(λz=>nomatch z),_,PySem.W.kitx_int,trivial⟩
 |str i=>cases e;obtain⟨t,rfl⟩:=j;exact⟨by simp,(λz=>nomatch z),_,PySem.W.kitx_str,trivial⟩
 |tup B L =>
  cases e;cases j;obtain⟨l,C,⟨o,e1,e2,_⟩,_⟩:=f.tuple B;exact⟨by simp,(λz=>nomatch z),_,PySem.W.kitx_tuple,⟨o,e1,e2⟩⟩
 |frl B L =>
  cases e;cases j;obtain⟨l,C,⟨o,m,e1,e2,_,e3⟩,_⟩:=f.list B.sq;exact⟨by simp,(λz=>nomatch z),_,PySem.W.kitx_list,⟨o,e1,e2⟩⟩
 |@loc n a M =>
  obtain⟨Q,R,r⟩:=rh.obj M;dsimp only[Dk]at e;rw[R]at e;cases j
  cases Q with
  |lst xs =>
   cases e;obtain⟨ys,y,_⟩:=r;obtain⟨l,C,⟨o,m,e1,e2,_,e3⟩,_⟩:=f.list (SqL.of y);exact⟨by simp,(λz=>nomatch z),_,PySem.W.kitx_list,⟨o,e1,e2⟩⟩
  |dic ks xs =>
   cases e;obtain⟨bs,_,_,_,_,_,y⟩:=r;obtain⟨⟨o,es,ep,S,h2,_⟩,_⟩:=(show ObjOk X.prog X.w H s.heap a (.ext (DT a bs))from f.hok a _ y);exact⟨by simp,(λz=>nomatch z),_,PySem.W.kitx_dict,⟨o,S,h2.1⟩⟩
  |exc x=>cases e
def vD(g:Good X N W G k){a:Expr}{m:Mx PV}{f:String}{c:Str}{i j:Nat}{p q z:Pos}(S:G[i]?=J "isinstance")(hm:X.mg "isinstance"=Y)(hj:G[j]?=J c)(hc:X.mg c=Y)(hv:bootBuiltins c=J (.type f))(hT:HJ f)(ha:ME X a m)(he:starEach [a,.Name c q] X.env=(T,eval a X.env)::starEach [.Name c q] X.env:=by rfl)(O:starEach [.Name c q] X.env=[(T,eval (.Name c q) X.env)]:=by rfl)(E:(backTo z (starEach [.Name c q] X.env)).any (·.1)=T:=by rfl):
  ME X (.Call (.Name "isinstance" p) [a,.Name c q] [] z) (Jo (nk [f]) m):=by
 have R:=g.dbg _ (pk _ (aL S));have d:=g.dbg c (pk _ (aL hj));have u:bV X (.builtin "isinstance") (λxs H Q=>∃y,xs=[y,.ty f]/\uJ X (nk [f]) y H Q):=by
  intro Jr s Z H xs us Q l r ⟨y,e,U,h,x,B,P,q⟩;subst e
  cases r with
  |cons r1 t1=>cases t1 with
   |cons r2 t2 =>
    cases t2;obtain rfl:=(r2);unfold nk at q
    cases F:Dk h x with
    |none=>rw[F]at q;exact q.elim
    |some t =>
     rw[F]at q;obtain⟨ht,M,Hq,Za,hz⟩:=kitx_of l B P r1 F
     exact PySem.W.kia_one Za l.kIn hz (hT X.K t ht) M λtk=>⟨.bl _,H,l.tok _,rfl,by
      have q':=q U H _ (Le.refl _ _) B (.bl _)
      simpa using q'⟩
 refine PE.imp (iL u (g.gl _ (aL S)) hm PyProof.Rows.Boot.«isinstance» (gc ha (gc (AZ (v:=.ty f) (g.gl c (aL hj)) hc hv rfl d.2.2 d.1) jn O) he) R.2.2 R.1 he E) λZ H Q ⟨U,C,h,rs,B,q⟩=>?_;exact⟨U,C,h,rs,B,Ful.bind q λU1 H1 x y h1 _ l1 L P q1=>⟨y,rfl,U1,h1,x,L,P,q1.zero⟩⟩
def E7(K:g_)(mg:Aa)(F:Q0->MH->RN):Sp:=λr H Q E=>∃U l h,RPs K U H l r/\RH K mg U H h/\match F l h with
 |.ok v i=>∀f a j,Le U H f a->RH K mg f a i->RP K f a v j->Q j a
 |.exc x i=>∀C f a,x.fs=[]->mg x.cls=J (.ref C)->Le U H f a->RH K mg f a i->E (.ref C) Y a
 |.bad=>False
def HK(P:Program)(w:World):z_:=λouter H s E e a=>∃i C f,e=.ref i/\a.os=s.os/\AllBare a.gens/\Un (v_ outer) [] H f s.heap a.heap/\HOk P w f a.heap/\NA outer f s.heap C i a.heap/\E (.ref C) Y f
structure AK(X:Cx)(x:Str)(ps:Q1)(F:Q0->MH->RN)(k:Nat):Prop where
 ex:∃f fd,X.mg x=J (.ref f)/\PySem.W.keepIn X.K (.ref f)=I/\mD X.K fd ps []/\FnOk X.prog X.w X.K X.mg X.base (HK X.prog X.w) k f fd ps (E7 X.K X.mg F)
def cD(F:Q0->MH->RN)(m:Mx (Q0)):Mx PV:=λZ h=>(m Z h).bind F
def ng(g:Good X N W G k){x:Str}{j:Nat}(hj:G[j]?=J x){ps:Q1}{F:Q0->MH->RN}(C:AK X x ps F k){e:Expr}{es:RM}{m:Mx (Q0)}{p S:Pos}(ha:MA X (e::es) m)(he:starEach (e::es) X.env=(T,eval e X.env)::starEach es X.env:=by rfl)(an:(backTo S (starEach es X.env)).any (·.1)=T:=by rfl):ME X (.Call (.Name x p) (e::es) [] S) (cD F m):=by
 obtain⟨f,fd,hm,hk,hb,F'⟩:=C.ex;have d:=g.dbg x (pk _ (aL hj));intro Jr s Z H Q R ⟨U,ab,h,rs,rh,q⟩;refine wpAny_Call_Name_kw (tN R (g.gl x (aL hj)) hm ?_ d.1)
 refine PySem.W.callWith_K R.ok.mod.kin hk (k_ (ha S Jr s Z H (λvs y=>∃B xs O,Le U H B y/\RH X.K X.mg B y O/\RPs X.K B y xs vs/\Ful X (RV' X) ab B y (F xs O) Q) R
  ⟨U,ab,h,rs,rh,Ful.bind q λB y xs vs O _ l1 L rx M=>⟨B,xs,O,l1,L,rx,M⟩⟩) λus P ⟨vs,y,I1,r,B,xs,O,l1,L,rx,M⟩=>⟨I1.kIn,?_⟩) he an
 have run:∀E:XK,E7 X.K X.mg F vs y Q E->(∀ea C i l,l.os=P.os->AllBare l.gens->Un (v_ X.stack) [] y i P.heap l.heap->HOk X.prog X.w i l.heap->NA X.stack i P.heap C ea l.heap->E (.ref C) Y i->X.xe (.ref ea) l) ->
   wpAny (model X.prog X.w) X.A (call (.ref f) us) (EP X Jr Z Q) X.xe P:=λE am hE=>by
  have hl:(us++[]).length=ps.length:=by rw[HD,<-r.length];exact F'.len _ _ _ _ am
  have aj:=hb P us I1.kIn hl;rw[HD]at aj;refine wpAny_call (codeAny_mono (F'.run X.A X.stack P y ⟨us,[]⟩ us vs Q E g.room I1.env0 aj r am) λr l hq=>?_)
  cases r with
  |error e =>
   obtain⟨ea,C,i,rfl,a1,a2,a3,a4,a5,a6⟩:=hq;exact hE ea C i l a1 a2 a3 a4 a5 a6
  |ok fl =>
   cases fl with
   |ret u=>exact I1.after hq
   |next=>exact False.elim hq
   |brk=>exact False.elim hq
   |cont=>exact False.elim hq
 cases eF:F xs O with
 |bad=>rw[eF]at M;exact M.elim
 |ok v h' =>
  rw[eF]at M;exact run (λ_ _ _=>False) ⟨B,xs,O,rx,L,by rw[eF];exact M⟩ λ_ _ _ _ _ _ _ _ _ z=>z.elim
 |exc x' h' =>
  rw[eF]at M;refine run (λc _ i=>∃C U',c=.ref C/\x'.fs=[]/\X.mg x'.cls=J (.ref C)/\Le B y U' i/\RH X.K X.mg U' i h') ⟨B,xs,O,rx,L,by rw[eF];exact λC U' i a b c d=>⟨C,U',rfl,a,b,c,d⟩⟩ λea C i l a1 a2 a3 a4 a5 a6=>?_;obtain⟨C',U',eC,b1,b2,b3,b4⟩:=a6;cases eC;have IX:=I1.call' (s':=l) a1 a3 a4 a2 (λb z=>absurd z (by simp));have ap:=Inv.unpinned (Jr:=[]) IX;exact M ea C U' i Z l P.heap b1 b2 b3 b4 (rs.le (l1.trans b3)) ap (Inv.bears I1) a5
def bM(n:Nat)(a:Q0):ll:=a.map J++List.replicate (n-a.length) Y
def dR(n i:Nat)(m:nw):Q0->MH->RN:=λf h=>if f.length=i then (match m (bM n f) h with
 |.nx _ a=>.ok .non a
 |.rt v a=>.ok v a
 |.exc x _ a=>.exc x a
 |.rse x _ a=>.exc x a
 |_=>.bad)else .bad
def xU{K:g_}{U:Q6}{H:Hp}{N:Q1}{a:Q0}{f:List V}(r:RPs K U H a f):RS K U H (bM N.length a) (L2.start N f):=by
 have l:=r.length;refine⟨by simp[bM,L2.start,l],λi v e=>?_⟩;unfold bM at e;by_cases j:i<a.length
 .rw[xu (by simpa using j),s_]at e
  cases q:a[i]? with
  |none=>rw[q]at e;cases e
  |some x =>
   rw[q]at e;cases e;obtain⟨u,z,y⟩:=r.get q;refine⟨u,?_,y⟩;unfold L2.start;rw[xu (by simp;lia),s_,z];rfl
 .rw[zE (by simpa using j),Ag]at e
  split at e<;>cases e
def yO{B h:Heap}(k:B.StaysIn h){b:Addr}{o a:Obj}(e1:B.get? b=J a)(e2:h.get? b=J o):a=o:=by
 have:=k b a e1
 rw[e2]at this;exact(Option.some.inj this).symm
def tS{X:Cx}{U:L2.St}{L:Hp}{H:Shared}{r B:Heap}(f:Inv X [] U L H)(P:X.ex=[])(Z:B.StaysIn H.heap)(y:B.StaysIn r)(R:H.heap.UpToSlots r)(C:∀b o,X.s₀.heap.get? b=J o->b∉X.fs->∃i,B.get? b=J i)(F:∀b o,L b=J o->∃i,B.get? b=J i):Un X.fs [] X.H₀ L X.s₀.heap r/\HOk X.prog X.w L r:=by
 have j:∀b:Addr,b∉X.ex:=λb=>by rw[P];simp
 have kp:∀b o i,B.get? b=J i->H.heap.get? b=J o->r.get? b=J o:=λb o i e1 e2=>by
  have:=yO Z e1 e2
  subst this;exact y b i e1
 refine⟨⟨λb o e n hf _=>?_,λb o e n hf _=>?_,λb o e n _=>f.base.free b o e n (j b),λb o e _=>?_,f.base.tups,f.base.frzs,f.base.tbls⟩,λa o e=>?_⟩
 .obtain⟨i,l⟩:=C b o e hf;exact kp b o i l (f.base.keep b o e n hf (j b))
 .obtain⟨sl,e1⟩:=f.base.slot b o e n hf (j b);obtain⟨_,S,eF,Q⟩:=f.ok.funs.mem hf;rw[e]at eF;cases eF;obtain⟨E,e2⟩:=R b _ e1 (λM z=>Q M z);exact⟨E,e2⟩
 .by_cases hf:b∈X.fs
  .obtain⟨_,S,eF,Q⟩:=f.ok.funs.mem hf;rw[e]at eF;cases eF;obtain⟨sl,e1⟩:=f.base.slot b o e (f.ok.frf b hf) hf (j b);obtain⟨E,e2⟩:=R b _ e1 (λM z=>Q M z);exact⟨_,e2⟩
  .obtain⟨i,l⟩:=C b o e hf;exact⟨i,y b i l⟩
 .refine (f.hok a o e).stay (λb u O z=>?_) (λ_ z=>z) λ_ _ z=>z;rcases O with rfl|O
  .obtain⟨i,l⟩:=F _ _ e;exact kp _ u i l z
  .obtain⟨i,l⟩:=F _ _ O;exact kp _ u i l z
def _root_.L2.ObjOk.has(x:ObjOk P w H h a o):∃u,h.get? a=J u:=by
 cases o with
 |lst xs=>obtain⟨_,_,_,_,e⟩:=x;exact⟨_,e⟩
 |tup xs=>obtain⟨_,_,_,o,e,_⟩:=x;exact⟨o,e⟩
 |dK i=>obtain⟨_,_,_,_,o,_,_,e,_⟩:=x;exact⟨o,e⟩
 |dT i=>obtain⟨_,_,_,_,o,_,_,e,_⟩:=x;exact⟨o,e⟩
 |set S n=>obtain⟨o,_,_,_,e,_⟩:=x;exact⟨o,e⟩
 |ins C l fs=>obtain⟨_,_,_,e,_⟩:=x;exact⟨_,e⟩
 |own y=>obtain⟨o,e⟩:=x;exact⟨o,e⟩
 |xd fs=>obtain⟨_,⟨o,_,_,e,_⟩,_⟩:=x;exact⟨o,e⟩
 |rng lo j=>obtain⟨_,_,_,e⟩:=x;exact⟨_,e⟩
 |frz r u=>obtain⟨e,_⟩:=x;exact⟨_,e⟩
 |tbl z=>exact⟨_,(x)⟩
 |met f y=>exact⟨_,(x)⟩
 |ext φ=>obtain⟨_,⟨o,e⟩,_⟩:=x;exact⟨o,e⟩
structure j3(X:Cx):Prop where
 stk:X.stack=X.env::X.outer
 fr:X.env.frame=J X.env.locals
 ex:X.ex=[]
def NC{P:Program}{w:World}{K:g_}{mg:RT}{base:Heap}{x a:Str}{st:Stmt}{f:Addr}{fd:FuncData}{ps:Q1}{m:nw}(Fu:Fun K x a st f fd)(S:qw N ps (af st))(hl:∀y∈N,Loc (af st) y)(a9:∀y∈G,(af st).names.lookup y=J .globalImplicit)(dbg:∀x∈N++G,(x==("__debug__":Str))=T/\(x==("__classdict__":Str))=T/\x≠"__name__")(hb:∀X:Cx,X.prog=P->X.w=w->X.K=K->X.mg=mg->X.base=base->X.env.scope=af st->Good X N N G k->j3 X->zx X (aJ st) m):
  FnOk P w K mg base (HK P w) (k+1) f fd ps (E7 K mg (dR N.length ps.length m)):=by
 have len:∀vs H Q E,E7 K mg (dR N.length ps.length m) vs H Q E->vs.length=ps.length:=by
  rintro vs H Q E ⟨U,zs,h,r,rh,q⟩;rw[<-r.length];unfold dR at q;by_cases hp:zs.length=ps.length
  .exact hp
  .rw[d_ hp]at q;exact q.elim
 obtain⟨oc,od,kV,bi,pm,an,i,ct,bj,rfl,lk,a3⟩:=Fu.ex;refine Jc lk a3 S len λA outer s H vs Q E hr a6=>?_;obtain⟨U,zs,h,r,rh,q⟩:=a6;refine⟨_,hb _ rfl rfl rfl rfl rfl rfl ⟨rfl,S.nd,hl,λ_ _=>.inl rfl,a9,dbg,rfl,hr,PassesOwn.leaving⟩ ⟨rfl,rfl,rfl⟩,U,bM N.length zs,h,xU r,rh,?_⟩;unfold dR at q;by_cases hp:zs.length=ps.length
 .rw[b_ hp]at q
  cases e:m (bM N.length zs) h with
  |nx Z' h'=>rw[e]at q;exact λU' R Z' l r' s'=>q U' R .non l r' .non
  |rt v h'=>rw[e]at q;exact q
  |bk Z h'=>rw[e]at q;exact q.elim
  |ct Z h'=>rw[e]at q;exact q.elim
  |bad=>rw[e]at q;exact q.elim
  |exc x Z h' =>
   rw[e]at q;intro ea C U' R Z' s' bm ap ab l am a4 F a8 a2;obtain⟨B,t,ax,O,ay,aj⟩:=a2;refine wpAny_leaves_onW (base:=B) (env:=envOfC a (af st) s.heap.objs.size f i) (outer:=outer) F.ok.frames rfl ax λa0 j sm=>?_;have M:∀b o,s.heap.get? b=J o->b∉v_ outer->∃ob,B.get? b=J ob:=λb o eb hf=>by
    obtain⟨o',e'⟩:=a8.old b o eb (by show b∉([]:Q6);simp);refine ay b o' e' λhm=>?_;rcases mu.mp (F.stkSub b hm)with z|z
    .exact absurd (mj eb) (by rw[z];exact zr _)
    .exact hf z
   obtain⟨un,as⟩:=tS (B:=B) F rfl ax.1 j.1 sm M O;exact⟨ea,C,R,rfl,F.os,F.bare,un,as,⟨B,t,j,O,M,aj⟩,q C U' R ap ab l am⟩
  |rse x Z h' =>
   rw[e]at q;intro ea C U' R Z' s' h0 be ap ab l am a4 F L;have a7:=F.stack;have a1:∀env∈(envOfC a (af st) s.heap.objs.size f i::outer),∀b,env.frame=J b->b∈v_ (envOfC a (af st) s.heap.objs.size f i::outer):=λenv he b hb=>C5.mpr ⟨env,he,hb⟩;refine wpAny_leaves_madeW (base:=PySem.W.hideAll h0 (v_ (envOfC a (af st) s.heap.objs.size f i::outer))) (h:=h0) (env:=envOfC a (af st) s.heap.objs.size f i) (outer:=outer) F.ok.frames rfl (λb o z=>PySem.W.of_hideAll _ z)
    (PySem.W.funFrames_hide (base:=base) a7 a1) L λa0 t j _ _ sm=>?_
   have sub:∀b,b∈v_ (envOfC a (af st) s.heap.objs.size f i::outer)->b=s.heap.objs.size\/b∈v_ outer:=λb hm=>mu.mp (F.stkSub b hm);have M:∀b o,s.heap.get? b=J o->b∉v_ outer->∃ob,(PySem.W.hideAll h0 (v_ (envOfC a (af st) s.heap.objs.size f i::outer))).get? b=J ob:=λb o eb hf=>by
    obtain⟨o',e'⟩:=F.base.there b o eb (by show b∉([]:Q6);simp);refine⟨o',PySem.W.hideAll_get _ e' λhm=>?_⟩;rcases sub b hm with z|z
    .exact absurd (mj eb) (by rw[z];exact zr _)
    .exact hf z
   have O:∀b o,R b=J o->∃ob,(PySem.W.hideAll h0 (v_ (envOfC a (af st) s.heap.objs.size f i::outer))).get? b=J ob:=λb o eb=>by
    obtain⟨u,eu⟩:∃u,h0.get? b=J u:=(F.hok b o eb).has;refine⟨u,PySem.W.hideAll_get _ eu λhm=>?_⟩
    have:=F.stkFree b hm
    rw[eb]at this;cases this
   have a5:h0.UpToSlots a0:=(Heap.UpToSlots.of_keeps L.keeps).trans sm;obtain⟨un,as⟩:=tS (B:=PySem.W.hideAll h0 (v_ (envOfC a (af st) s.heap.objs.size f i::outer))) F rfl (λb o z=>PySem.W.of_hideAll _ z) j.1 a5 M O;have aj:R ea=Y:=by
    cases z:R ea with
    |none=>rfl
    |some o =>
     obtain⟨u,eu⟩:=(F.hok ea o z).has;rw[L.new]at eu;cases eu
   exact⟨ea,C,R,rfl,F.os,F.bare,un,as,⟨_,t,j,O,M,aj⟩,q C U' R ap ab l am⟩
 .rw[d_ hp]at q;exact q.elim
def uE(v:PV)(h:MH):Out MIt:=match v with
 |.loc n=>(match h[n]? with
  |some (.lst xs)=>.ok ⟨xs,[(n,xs)]⟩ h
  |_=>.bad)
 |.frl xs=>.ok ⟨xs,[]⟩ h
 |.tup xs=>.ok ⟨xs,[]⟩ h
 |_=>.bad
def rm(m:Mx PV):Mx MIt:=λZ h=>(m Z h).bind uE
def E8(j:ME X l m):MI X tg l (rm m):=by
 intro u s Z H R f ⟨U,a,h,r,y,q⟩;by_cases z:∃xs i,m a h=.ok (.tup xs) i
 .obtain⟨xs,i,e⟩:=z;refine E0 j u s Z H R f ⟨U,a,h,r,y,?_⟩;unfold rm at q;unfold Jw;rw[e]at q ⊢;exact q
 .refine Bs j u s Z H R f ⟨U,a,h,r,y,?_⟩;unfold rm at q;unfold Jv
  cases e:m a h with
  |ok v i =>
   rw[e]at q
   cases v with
   |tup xs=>exact absurd ⟨xs,i,e⟩ z
   |_=>exact q
  |exc x i=>rw[e]at q;exact q
  |bad=>rw[e]at q;exact q
def Inv.bigM{f:Q8}{Z:L2.St}{H:Hp}{s:Shared}(a:Inv X f Z H s):sysModules<s.heap.objs.size:=by have h:=(a.mod.glob.keeps a.bk).lt;exact LD (by decide) h
def E9:Mx PV:=λ_ h=>.ok (.loc h.length) (h++[.dic [] []])
def Bw:ME X (.Dict [] [] pos) E9:=λu s Z H Q a ⟨U,l,h,r,f,q⟩=>by
 have hf:=a.hok.fresh (ii _);obtain⟨i,j⟩:=f.new hf (o:=.dic [] []) (ho:=.ext (DT s.heap.objs.size [])) ⟨[],[],rfl,(λ_ z=>nomatch z),.nil,.nil,rfl⟩;refine wpAny_Dict_empty ⟨.ref s.heap.objs.size,_,a.laid (t':=s.toks) (λ_ _ q=>n3 _ q) (ii _) ?_,rfl,q _ _ _ j i (.loc (by rw[<-f.len];simp))⟩;refine⟨⟨_,#[],0,tr _ rfl,⟨rfl,rfl,rfl⟩,rfl,rfl,LA,beq_eq_false_iff_ne.mpr (Ne.symm (tt (Inv.bigM a))),ux _⟩,⟨_,tr _ rfl⟩,oH⟩
structure FnAt(P:Program)(w:World)(K:g_)(mg:RT)(base:Heap)(x:Str)(ps:Q1)(F:Q0->MH->RN)(k:Nat):Prop where
 ex:∃f fd,mg x=J (.ref f)/\PySem.W.keepIn K (.ref f)=I/\mD K fd ps []/\FnOk P w K mg base (HK P w) k f fd ps (E7 K mg F)/\∃oc od osl,K.lookup f=J ⟨oc,od,.func fd,osl⟩
def FnAt.mono{P:Program}{w:World}{K:g_}{mg:RT}{base:Heap}{x:Str}{l:Q1}{F:Q0->MH->RN}{i j:Nat}(c:FnAt P w K mg base x l F i)(h:i<=j):FnAt P w K mg base x l F j :=
 let⟨f,fd,a,b,d,e,z⟩:=c.ex;⟨f,fd,a,b,d,e.mono h,z⟩
def FnAt.cal{P:Program}{w:World}{K:g_}{mg:RT}{base:Heap}{x:Str}{j:Q1}{F:Q0->MH->RN}{i:Nat}(c:FnAt P w K mg base x j F i){X:Cx}(e1:X.prog=P)(e2:X.w=w)(e3:X.K=K)(e4:X.mg=mg)(e5:X.base=base):AK X x j F i:=by subst e1;subst e2;subst e3;subst e4;subst e5;obtain⟨f,fd,a,b,d,e,_⟩:=c.ex;exact⟨f,fd,a,b,d,e⟩
structure f_(K:g_)(x:Str)(st:Stmt):Prop where
 ex:∃f fd,PySem.W.nsIn K mainGlobals x=J (J (.ref f))/\Fun K x x st f fd
def Ao{K:g_}{x:Str}{st:Stmt}{f:Addr}{r:Value}{j u:Option Addr}{sl:Array (Q9)}{kV y pm i ct:Value}(a:PySem.W.nsIn K mainGlobals x=J (J (.ref f)))(l:K.lookup f=J ⟨r,j,.func (PySem.W.fnOf x x (fY st) (aJ st) (af st) .none kV y pm u i ct),sl⟩)(c:PySem.W.codeIn K i x=I)(kp:PySem.W.keepIn K (.ref f)=I):f_ K x st :=
 ⟨f,_,a,EJ l c kp⟩
def ic(x:Str)(st:Stmt)(j:Q1):Prop:=∀(kV i pm:Value)(l:Option Addr)(f ct:Value)(a:Q7),a.length=j.length->bindArgs (PySem.W.fnOf x x (fY st) (aJ st) (af st) .none kV i pm l f ct) ⟨a,[]⟩=pure (j.zip a)
def v5{P:Program}{w:World}{K:g_}{mg:RT}{base:Heap}{x:Str}{st:Stmt}{j:Q1}{m:nw}(kin:K.In base)(ns:base.Ns mainGlobals mg)(D:f_ K x st)(S:qw N j (af st))(B:ic x st j)(u:∀y∈N,(af st).names.lookup y=J .local\/(af st).names.lookup y=J .cell)(r:∀y∈G,(af st).names.lookup y=J .globalImplicit)(dbg:∀x∈N++G,(x==("__debug__":Str))=T/\(x==("__classdict__":Str))=T/\x≠"__name__")(E:∀X:Cx,X.prog=P->X.w=w->X.K=K->X.mg=mg->X.base=base->X.env.scope=af st->Good X N N G k->j3 X->zx X (aJ st) m):
  FnAt P w K mg base x j (dR N.length j.length m) (k+1):=by
 obtain⟨f,fd,a,i⟩:=D.ex;have L:=i.ex;obtain⟨C,H,kV,z,pm,M,F,ct,l,e1,e2,_⟩:=L;exact⟨f,fd,PySem.W.mg_of kin ns a,i.kp,i.binds B,NC i S u r dbg E,C,H,l,e2⟩
def E_{P:Program}{w:World}{K:g_}{mg:RT}{h:Heap}{x y:Str}{st:Stmt}{F:Q0->MH->RN}{z:Addr}(D:f_ K x st)(B:ic x st [y])(i:mg x=J (.ref z))(kin:K.In h)(ns:h.Ns mainGlobals mg)(H:∀base:Heap,K.In base->base.Ns mainGlobals mg->FnAt P w K mg base x [y] F k):
  ∃fd:FuncData,(∀(s:Shared)(u:Value),BindsTo s fd ⟨[u],[]⟩ [(y,u)])/\∀base:Heap,K.In base->base.Ns mainGlobals mg->FnOk P w K mg base (HK P w) k z fd [y] (E7 K mg F):=by
 obtain⟨f,fd,a,C⟩:=D.ex;have e:=i.symm.trans (PySem.W.mg_of kin ns a);obtain⟨oc,od,kV,j,pm,O,l,ct,E,e1,e2,e3⟩:=C.ex;refine⟨fd,λs u=>.of_eq ?_,λbase kb nb=>?_⟩
 .rw[e1];exact B kV j pm O l ct [u] rfl
 .obtain⟨U,M,g1,R,g3,Z,L,Q,r,S⟩:=(H base kb nb).ex
  grind
def JA(K:g_):Sp:=λi H Q _=>∃(a:Addr)(ns:Q2),i=[.ref a]/\SqF K H a (ns.map V.int)/\ns.length<=63/\∀f,Q (.bl I) f
def Fa{l:PySem.W.OpenLaw}{q:Program}{loose:Q1}{XP:(Str->Q9)->Heap->Prop}{R:World->Heap->Prop}{d:DefRec}{K:Params->g_}{x:Str}{F:Q0->MH->RN}(hn:l.most=J 63)(M:d.params.defaults=[])(hr:Room k callerA)(hY:∀(w:World)(h:Heap),R w h->(K w.params).In h)(S:∀(w:World)(mg:RT)(i:Addr)(h:Heap),(K w.params).In h->h.Ns mainGlobals mg->mg d.name=J (.ref i) ->
   ∃fd:FuncData,(∀(s:Shared)(u:Value),BindsTo s fd ⟨[u],[]⟩ [(x,u)])/\∀base:Heap,(K w.params).In base->base.Ns mainGlobals mg->FnOk l.prog w (K w.params) mg base (HK l.prog w) k i fd [x] (E7 (K w.params) mg F))(ht:∀ns:Q2,ns.length<=63->∃O,F [.frl (ns.map .int)] []=.ok (.bl I) O):
  PySem.W.WalkO q loose XP R l.row.toRowW d [] (λf P=>PySem.call f P):=by
 refine L2.Bm (x:=x) (CX:=λw=>HK l.prog w) (sp:=λw=>JA (K w.params)) hn (by decide) M hr hY (λw mg i h U L B=>?_) (λw H a ns j hO hS=>?_) λw H s e s' z=>?_
 .obtain⟨fd,hb,Z⟩:=S w mg i h U L B;refine⟨fd,hb,λbase kb nb=>(Z base kb nb).imp λP H Q E z=>?_⟩;obtain⟨a,ns,rfl,C,j,hq⟩:=z;obtain⟨O,e⟩:=ht ns j;refine⟨[],[.frl (ns.map .int)],[],.cons (.frl C (RPs.ints ns)) .nil,⟨rfl,LA,λn a o z _=>by simp at z⟩,?_⟩;rw[e];intro U' H' v' _ _ r;cases r;exact hq H'
 .have C:SqF (K w.params) H a (ns.map V.int):=by
   rcases hS with(z|z)|z
   .rcases hO a with y|⟨o,xs,y⟩
    .rw[y]at z;cases z
    .rw[y]at z;cases z
   .exact .inl z
   .exact .inr z
  exact⟨a,ns,rfl,C,j,λ_=>rfl⟩
 .obtain⟨_,_,_,_,_,_,_,_,_,z⟩:=z;exact z
end
section
variable{α:Type}{Z:ll}{h:MH}
@[simp]theorem PM:mC v Z h=.ok v h:=rfl
@[simp]theorem ND{v:PV}{r:ll}:ah 0 (J v::r) h=.ok v h:=rfl
@[simp]theorem NE{i:Nat}{o:Option PV}{r:ll}:ah (i+1) (o::r) h=ah i r h:=by simp[ah]
@[simp]theorem LR:av f a b Z h=(a Z h).bind λx h1=>(b Z h1).bind λy h2=>(f x y h2).ne:=rfl
@[simp]theorem NF:Jo f a Z h=(a Z h).bind λx h1=>(f x h1).ne:=rfl
@[simp]theorem NG:uj f a Z h=(a Z h).bind λx h1=>(f x h1).ne:=rfl
@[simp]theorem JB:cD f a Z h=(a Z h).bind f:=rfl
@[simp]theorem Bx:ia Z h=.ok [] h:=rfl
@[simp]theorem xj:ag a r Z h=(a Z h).bind λx h1=>(r Z h1).bind λxs h2=>.ok (x::xs) h2:=rfl
@[simp]theorem LU:hZ a Z h=(a Z h).bind oy:=rfl
@[simp]theorem LV:kX a Z h=(a Z h).bind o_:=rfl
@[simp]theorem LW:E9 Z h=.ok (.loc h.length) (h++[.dic [] []]):=rfl
@[simp]theorem PN:mB a Z h=(a Z h).bind λv h1=>match v with|.bl b=>.ok b h1|_=>.bad:=rfl
@[simp]theorem LX:Bn a Z h=(a Z h).bind λb h1=>.ok (!b) h1:=rfl
@[simp]theorem LY:EN a b Z h=(a Z h).bind λx h1=>if x=I then b Z h1 else .ok T h1:=rfl
@[simp]theorem NH:Js a b Z h=(a Z h).bind λx h1=>if x=I then .ok I h1 else b Z h1:=rfl
@[simp]theorem JC:ue a b Z h=(a Z h).bind λx h1=>match x with|.bl c=>if c=I then b Z h1 else .ok (.bl T) h1|_=>.bad:=rfl
@[simp]theorem JD:ur a Z h=(a Z h).bind λx h1=>match x with|.bl c=>.ok (.bl (!c)) h1|_=>.bad:=rfl
@[simp]theorem JE:ls Z h=.nx Z h:=rfl
@[simp]theorem b9:aW a b Z h=(a Z h).then b:=rfl
@[simp]theorem ak:(SOut.nx Z h).then k=k Z h:=rfl
@[simp]theorem tX:(SOut.rt v h).then k=.rt v h:=rfl
@[simp]theorem then_bk:(SOut.bk Z h).then k=.bk Z h:=rfl
@[simp]theorem then_ct:(SOut.ct Z h).then k=.ct Z h:=rfl
@[simp]theorem yj:(SOut.rse x Z h).then k=.rse x Z h:=rfl
@[simp]theorem yQ:(SOut.exc x Z h).then k=.exc x Z h:=rfl
@[simp]theorem yy:SOut.bad.then k=.bad:=rfl
def Out.rt(o:RN)(Z:ll):SOut:=match o with
 |.ok v a=>.rt v a
 |.exc x a=>.exc x Z a
 |.bad=>.bad
@[simp]theorem PP:(Out.ok v h).rt Z=.rt v h:=rfl
@[simp]theorem NI:(Out.exc x h:RN).rt Z=.exc x Z h:=rfl
@[simp]theorem NJ:(Out.bad:RN).rt Z=.bad:=rfl
@[simp]theorem LZ:bT m Z h=(m Z h).rt Z:=rfl
def Out.go{α:Type}(o:Out α)(Z:ll)(k:α->nw):SOut:=match o with
 |.ok v a=>k v Z a
 |.exc x a=>.exc x Z a
 |.bad=>.bad
@[simp]theorem aA:(Out.ok v h).go Z k=k v Z h:=rfl
@[simp]theorem go_exc:(Out.exc x h:Out α).go Z k=.exc x Z h:=rfl
@[simp]theorem go_bad:(Out.bad:Out α).go Z k=.bad:=rfl
@[simp]theorem NK:xO m k Z h=(m Z h).go Z k:=rfl
@[simp]theorem xz:fb m Z h=(m Z h).go Z λ_=>ls:=rfl
@[simp]theorem vP:zy c a b Z h=(c Z h).go Z λx=>if x=I then a else b:=rfl
@[simp]theorem iu:bc i m Z h=(m Z h).go Z λv Z h=>.nx (Z.set i (J v)) h:=rfl
@[simp]theorem L0:nI m g Z h=(m Z h).go Z λv Z h=>match g v Z h with|.nx Z2 h2=>.nx Z2 h2|.exc x Z2 h2=>.exc x Z2 h2|_=>.bad:=rfl
@[simp]theorem NL:EY i v Z h=.nx (Z.set i (J v)) h:=rfl
@[simp]theorem NM:NB [] Z h=.nx Z h:=rfl
@[simp]theorem NN:LP a r (v::vs) Z h=(a v Z h).then (r vs):=rfl
@[simp]theorem NO:LQ r n (.tup xs) Z h=if xs.length=n then r xs Z h else .bad:=rfl
@[simp]theorem By:qE mi g b Z h=(mi Z h).go Z λit=>x2 it g b it.xs:=rfl
@[simp]theorem L3:rm m Z h=(m Z h).bind uE:=rfl
@[simp]theorem JF:jS m Z h=(m Z h).bind λvs h1=>match vs with
 |[.int j]=>if -(2^62)<=j/\j<2^62 then .ok ⟨bN 0 j.toNat,[]⟩ h1 else .bad
 |_=>.bad:=rfl
@[simp]theorem NP:Ju mo mi v Z h=(mo Z h).go Z λo=>xO mi λi Z h=>match pM o i v h with
 |some h2=>.nx Z h2
 |none=>.bad:=rfl
def SOut.fin(o:SOut):RN:=match o with
 |.nx _ a=>.ok .non a
 |.rt v a=>.ok v a
 |.exc x _ a=>.exc x a
 |.rse x _ a=>.exc x a
 |_=>.bad
@[simp]theorem fin_exc:(SOut.exc x Z h).fin=.exc x h:=rfl
@[simp]theorem fin_rse:(SOut.rse x Z h).fin=.exc x h:=rfl
@[simp]theorem ec:(SOut.rt v h).fin=.ok v h:=rfl
@[simp]theorem fin_nx:(SOut.nx Z h).fin=.ok .non h:=rfl
theorem jM(e:ps.length=np):dR n np m ps h=(m (bM n ps) h).fin:=by unfold dR;rw[b_ e];rfl
end
section
variable{h:MH}{i j:Int}
@[simp]theorem JG:lb (.int i) (.int j) h=.ok (.int (i+j)) h:=rfl
@[simp]theorem JH:Am (.int i) (.int j) h=.ok (.int (i-j)) h:=rfl
@[simp]theorem L4:An (.int i) h=.ok (.int (-i)) h:=rfl
@[simp]theorem L5:Aj (.int i) (.int j) h=.ok (.bl (decide (i<j))) h:=rfl
@[simp]theorem L6:E2 (.int i) (.int j) h=.ok (.bl (decide (i<=j))) h:=rfl
@[simp]theorem L7:Ak (.int i) (.int j) h=.ok (.bl (decide (j<i))) h:=rfl
@[simp]theorem L8:Al (.int i) (.int j) h=.ok (.bl (decide (j<=i))) h:=rfl
@[simp]theorem L9:tx (.int i) (.int j) h=.ok (.bl (decide (i=j))) h:=rfl
@[simp]theorem L_:wh (.int i) (.int j) h=.ok (.bl (!decide (i=j))) h:=rfl
@[simp]theorem Ma:tx (.bl a) (.bl b) h=.ok (.bl (a==b)) h:=by simp[tx,rd,SeqAt.shaped,PyData.canLay0,PyData.depth,PyData.eqv]
@[simp]theorem Mb:wh (.bl a) (.bl b) h=.ok (.bl (!(a==b))) h:=by simp[wh,rd,SeqAt.shaped,PyData.canLay0,PyData.depth,PyData.eqv]
theorem eR(a:j≠0):lB (.int i) (.int j) h=.ok (.int (i.fmod j)) h:=by simp[lB,a]
def tV(f:j≠0)(a:j.natAbs.log2<9000):zU (.int i) (.int j) h=.ok (.int (i.fdiv j)) h:=by simp[zU,f,PyProof.noPylong_of_log2 a]
def fV(a:-(2^64)<i/\i<2^64):ki (.int i) (.int j) h=.ok (.int (i*j)) h:=by simp[ki,IntMulOk.of_left (intBits_le_64 a.1 a.2)]
def Bz(a:-(2^64)<j/\j<2^64):ki (.int i) (.int j) h=.ok (.int (i*j)) h:=by simp[ki,IntMulOk.of_right (intBits_le_64 a.1 a.2)]
def qS(a:0<=j/\j<=1000000/\i.natAbs<2^64):p_ (.int i) (.int j) h=.ok (.int (i^j.toNat)) h:=by simp[p_,gG,a]
@[simp]theorem NQ:zc [.int i] h=.ok (.int (if i<0 then -i else i)) h:=rfl
@[simp]theorem Mc:zd [.int i,.int j] h=.ok (.int (if j<i then j else i)) h:=rfl
@[simp]theorem Md:Bu [.int i,.int j] h=.ok (.int (if j>i then j else i)) h:=rfl
@[simp]theorem JI:r_ [.frl xs] h=.ok (.int xs.length) h:=rfl
@[simp]theorem JJ:r_ [.tup xs] h=.ok (.int xs.length) h:=rfl
theorem fQ(a:xs.length<=1000):o_ xs h=.ok (.tup xs) h:=by unfold o_;rw[b_ (l7 a (by decide))]
def uX(a:xs.length<=1000):oy xs h=.ok (.loc h.length) (h++[.lst xs]):=by unfold oy;rw[b_ (l7 a (by decide))]
@[simp]theorem NR:o_ [] h=.ok (.tup []) h:=fQ (by decide)
@[simp]theorem NS:o_ [a] h=.ok (.tup [a]) h:=fQ (by simp)
@[simp]theorem NT:o_ [a,b] h=.ok (.tup [a,b]) h:=fQ (by simp)
@[simp]theorem NU:o_ [a,b,c] h=.ok (.tup [a,b,c]) h:=fQ (by simp)
theorem sO(a:m<n):vv n (m:Int)=J m:=by unfold vv;rw[b_ ⋯,b_ ⋯];simp
@[simp]theorem pc:mw (a::r) 0=J a:=f8 (j:=0) rfl
@[simp]theorem PQ:mw (a::b::r) 1=J b:=f8 (j:=1) rfl
@[simp]theorem PX:mw (a::b::c::r) 2=J c:=f8 (j:=2) rfl
@[simp]theorem PY:mw (a::b::c::d::r) 3=J d:=f8 (j:=3) rfl
def Out.ofO(o:Option PV)(h:MH):RN:=match o with
 |some v=>.ok v h
 |none=>.bad
@[simp]theorem JK:Out.ofO (J v) h=.ok v h:=rfl
@[simp]theorem JL:bO (.tup xs) (.int i) h=Out.ofO (mw xs i) h:=rfl
@[simp]theorem JM:bO (.frl xs) (.int i) h=Out.ofO (mw xs i) h:=rfl
theorem iO(e:h[n]?=J (.lst xs)):bO (.loc n) (.int i) h=Out.ofO (mw xs i) h:=by simp only[bO,e];rfl
def kE(e:h[n]?=J (.lst xs)):pM (.loc n) (.int i) v h=(vv xs.length i).map λp=>h.set n (.lst (xs.set p v)):=by simp only[pM,e]
@[simp]theorem HL:uE (.tup xs) h=.ok ⟨xs,[]⟩ h:=rfl
@[simp]theorem HM:uE (.frl xs) h=.ok ⟨xs,[]⟩ h:=rfl
@[simp]theorem BA:(⟨xs,[]⟩:MIt).ok h↔True:=⟨λ_=>trivial,λ_ p hp=>nomatch hp⟩
@[simp]theorem Me:(⟨xs,[(n,zs)]⟩:MIt).ok h↔h[n]?=J (.lst zs):=by
 constructor
 .intro q;exact q (n,zs) (by simp)
 .intro q p hp;have e:=AF.mp hp;subst e;exact q
end
def SOut.turn(o:SOut)(k:nw):SOut:=match o with
 |.nx f a=>k f a
 |.ct f a=>k f a
 |.bk f a=>.nx f a
 |.rt v a=>.rt v a
 |.exc e f a=>.exc e f a
 |.rse e f a=>.rse e f a
 |.bad=>.bad
@[simp]theorem yJ:(SOut.rse x Z h).turn k=.rse x Z h:=rfl
@[simp]theorem yg:(SOut.exc x Z h).turn k=.exc x Z h:=rfl
@[simp]theorem turn_nx:(SOut.nx Z h).turn k=k Z h:=rfl
@[simp]theorem turn_ct:(SOut.ct Z h).turn k=k Z h:=rfl
@[simp]theorem turn_bk:(SOut.bk Z h).turn k=.nx Z h:=rfl
@[simp]theorem turn_rt:(SOut.rt v h).turn k=.rt v h:=rfl
theorem BC(e:it.ok h):x2 it g b [] Z h=.nx Z h:=by rw[x2];dsimp only;rw[b_ e]
def x3(e:it.ok h)(a:g x Z h=.nx Z1 h1):x2 it g b (x::r) Z h=(b Z1 h1).turn (x2 it g b r):=by rw[x2];dsimp only;rw[b_ e,a];rfl
def qF(i:Nat->Shared->Prop)(turn:∀n s,i n s->wpAny (model prog w) A (pyNext it) (λr f=>match r with
   |none=>R (.ok .next) f
   |some v=>wpAny (model prog w) A (letOwnedTupleGo target it v) (λ_ l=>wpAny (model prog w) A (assign target env v) (λ_ u =>
     wpAny (model prog w) A (forIn ifs I λc r=>if r=I then do let ok <-isTrue c env (eval c env);pure (ForInStep.yield ok)else pure (ForInStep.yield r)) (λok j =>
      if ok=I then wpAny (model prog w) A (eval elt env) (λx y =>
       wpAny (model prog w) A (call (.builtin "list.append") [acc,x]) (λ_ z=>∃m,m<n/\i m z) (λ_ _=>False) y) (λ_ _=>False) j
      else ∃m,m<n/\i m j) (λ_ _=>False) u) (λ_ _=>False) l) (λ_ _=>False) f) (λ_ _=>False) s)(n:Nat)(h:i n s):
  codeAny (model prog w) A (.compLoop (.ListComp elt [⟨target,iter,ifs,0⟩] scope pos) 0 it acc env) R s:=by
 refine codeAny_loop rfl i (λn s L=>?_) n h;refine wpAny_noted ?_;rw[compTurn_list];refine c_ (wpAny_standAt (c_ (wpAny_mono (turn n s L) (λr f C=>?_) λ_ _ a=>a.elim)))
 cases r with
 |none=>exact h_ C
 |some v =>
  refine c_ (wpAny_mono C (λ_ l E=>?_) λ_ _ a=>a.elim);refine c_ (wpAny_mono E (λ_ u F=>c_ (wpAny_mono F (λok j B=>?_) λ_ _ a=>a.elim)) λ_ _ a=>a.elim)
  cases ok with
  |false=>exact h_ ⟨rfl,B⟩
  |true =>
   exact c_ (c_ (wpAny_mono B (λx y H=>c_ (wpAny_mono H (λ_ z G=>h_ (h_ ⟨rfl,G⟩)) λ_ _ a=>a.elim)) λ_ _ a=>a.elim))
def iM(env:Env):List (Str×NameKind)->List (Str×Addr)->List (Str×Addr)
 |[],a=>a
 |(n,k)::r,a=>iM env r (if(k==NameKind.free)=I then(n,(env.cells.lookup n).getD 0)::a else a)
def oQ(h:∀y∈scope.names,y.2=.free->∃c,env.cells.lookup y.1=J c):closureFor scope env=pure (iM env scope.names []):=by
 have key:∀(l:List (Str×NameKind))(f:List (Str×Addr)),(∀y∈l,y.2=.free->∃c,env.cells.lookup y.1=J c) ->
   (forIn l f λ(x:Str×NameKind)(r:List (Str×Addr))=>if(x.2==NameKind.free)=I then(do let a <-cellOf env x.1;pure (ForInStep.yield ((x.1,a)::r)):Sem _)else pure (ForInStep.yield r))=(pure (iM env l f):Sem _):=by
  intro l
  induction l with
  |nil=>intro f _;rfl
  |cons y l E =>
   intro f B;obtain⟨n,k⟩:=y;rw[List.forIn_cons];have u:=λz F=>B z (l_ _ F);by_cases i:(k==NameKind.free)=I
   .obtain⟨c,C⟩:=B (n,k) rl (by simpa using i);rw[b_ i];have j:cellOf env n=pure c:=by unfold cellOf;rw[C]
    rw[j];refine(E ((n,c)::f) u).trans ?_;simp only[iM,i,if_true,C,zq]
   .rw[d_ i];refine(E f u).trans ?_;simp[iM,i]
 exact(congrArg (λz=>z >>= λr=>pure r) (key scope.names [] h)).trans rfl
def kw:∀(l:List (Str×NameKind))(f:List (Str×Addr)),(∀a,f.lookup x=J a->a=(env.cells.lookup x).getD 0)->(∀a,(iM env l f).lookup x=J a->a=(env.cells.lookup x).getD 0)/\((∃k,(x,k)∈l/\k=.free)\/(∃a,f.lookup x=J a)->∃a,(iM env l f).lookup x=J a):=by
 intro l
 induction l with
 |nil =>
  intro f h;refine⟨h,λz=>?_⟩;rcases z with⟨k,z,_⟩|z
  .cases z
  .exact z
 |cons y r C =>
  intro f h;obtain⟨n,k⟩:=y;have u:∀a,(if(k==NameKind.free)=I then(n,(env.cells.lookup n).getD 0)::f else f).lookup x=J a->a=(env.cells.lookup x).getD 0:=λa i=>by
   split at i
   .rw[AT]at i
    split at i
    .rename_i e
     have:x=n:=by simpa using e
     subst this;exact(Option.some.inj i).symm
    .exact h a i
   .exact h a i
  obtain⟨F,E⟩:=C _ u;refine⟨F,λz=>E ?_⟩;rcases z with⟨B,z,j⟩|⟨a,z⟩
  .rcases mu.mp z with e|e
   .cases e;right;subst j;exact⟨(env.cells.lookup x).getD 0,by simp⟩
   .exact .inl ⟨B,e,j⟩
  .right;split
   .rw[AT];split
    .exact⟨_,rfl⟩
    .exact⟨a,z⟩
   .exact⟨a,z⟩
def bS{env:Env}(l:env.scope.kind=.function):∀{names:List (Str×NameKind)}{x:Str}{k:NameKind},names.lookup x=J k ->
  (names.map λ(n,k)=>if(k==NameKind.free&&env.scope.kind == .function&&env.kindOf n==J .cell)then(n,NameKind.cell)else(n,k)).lookup x=J (if k=.free/\env.kindOf x=J .cell then .cell else k):=by
 intro names
 induction names with
 |nil=>intro x k h;simp at h
 |cons y r f =>
  intro x k h;obtain⟨n,i⟩:=y;have u:=@f x k;show List.lookup x ((if(i==NameKind.free&&env.scope.kind == .function&&env.kindOf n==J .cell)=I then(n,NameKind.cell)else(n,i))::_)=_
  cases a:x==n with
  |true =>
   have e:x=n:=by simpa using a
   subst e;simp only[AT,a]at h;cases h;by_cases z:k=.free/\env.kindOf x=J .cell
   .rw[b_ (by simp[z.1,z.2,l]),b_ z];simp
   .rw[d_ (by simp[l];intro B C;exact z ⟨B,C⟩),d_ z];simp
  |false =>
   simp only[AT,a]at h;by_cases j:(i==NameKind.free&&env.scope.kind == .function&&env.kindOf n==J .cell)=I
   .rw[b_ j];simp only[AT,a];exact u h
   .rw[d_ j];simp only[AT,a];exact u h
def cU(X:Cx)(a:Scope)(cl:List (Str×Addr))(f:Shared)(i:Hp)(l:Q6)(j:Q1):Cx :=
 { X with N:=j,s₀:=f,H₀:=i,env:=compEnvC a cl f.heap.objs.size X.env,outer:=X.stack,ex:=l,fn:=λx=>decide (a.names.lookup x=J .cell),pn:=[],xe:=λ_ _=>False}
structure wr(X:Cx)(N:Q1)(scope:Scope)(vars frees:Q1)(fm:Q4):Prop where
 kind:scope.kind=.function
 cell:∀y∈scope.names,y.2=.cell->scope.names.lookup y.1=J .cell
 names:∀y∈scope.names,y.2=.local->scope.names.lookup y.1=J .local
 hv:∀x∈vars,scope.names.lookup x=J .local\/scope.names.lookup x=J .cell
 hf:∀x∈frees,scope.names.lookup x=J .free
 all:∀y∈scope.names,y.2=.free->y.1∈frees
 fm:fm.map (λi=>N[i]?)=frees.map J
 cl:∀x∈frees,X.env.kindOf x=J .cell
def Ap(a:Nat)(fm:Q4)(Z:ll):ll:=List.replicate a Y++fm.map λi=>(Z[i]?).getD Y
def zK(f:MIt)(n:Nat)(i:Mg)(mt:Mx Bool)(j:Mx PV):Q0->ll->MH->Out Unit
 |[],_,h=>if f.ok h then .ok () h else .bad
 |x::r,Z,h=>if f.ok h then (match i x Z h with
  |.nx a y=>(mt a y).ne.bind λb u=>if b=I then (j a u).ne.bind λv l=>(match l[n]? with
    |some (.lst ys)=>if ys.length<sizeLine then zK f n i mt j r a (l.set n (.lst (ys++[v])))else .bad
    |_=>.bad)else zK f n i mt j r a u
  |_=>.bad)else .bad
def kn(u:Nat)(fm:Q4)(i:Mx MIt)(l:Mg)(mt:Mx Bool)(r:Mx PV):Mx PV:=λZ h =>
 (i Z h).bind λf a=>(zK f a.length l mt r f.xs (Ap u fm Z) (a++[.lst []])).bind λ_ j=>.ok (.loc a.length) j
def HN(X:Cx)(a:RM)(m:Mx Bool):Prop :=
 ∀(f:Q8)(s:Shared)(Z:L2.St)(H:Hp)(Q:Bool->Hp->Prop),Inv X f Z H s->tM X Jn m Z H Q ->
  wpAny (model X.prog X.w) X.A (forIn a I λc r=>if r=I then do let ok <-isTrue c X.env (eval c X.env);pure (ForInStep.yield ok)else pure (ForInStep.yield r)) (TP X f Z Q) X.xe s
def Dl:Mx Bool:=λ_ h=>.ok I h
def BD:HN X [] Dl:=λl s Z H Q a ⟨U,f,h,j,i,q⟩=>wpAny_tests_nil ⟨H,a,q U H I (Le.refl _ _) i rfl⟩
def BE(h:MT X c m):HN X [c] m:=λf s Z H Q a q=>wpAny_tests_one (h f s Z H Q a q)
inductive CS(X:Cx)(U:Q6)(H:Hp)(σp:ll)(gt:Mg)(mt:Mx Bool)(me:Mx PV)(Z0:ll)(Q:VK)(J:It)(H1:Hp):Prop
 |mk(U1:Q6)(it:MIt)(h1:MH)(l:Le U H U1 H1)(rh:RH X.K X.mg U1 H1 h1)(j:rn X U1 H1 it J)(q:Ful X (RV' X) σp U1 H1 ((zK it h1.length gt mt me it.xs Z0 (h1++[.lst []])).bind λ_ h3=>.ok (.loc h1.length) h3) Q):CS X U H σp gt mt me Z0 Q J H1
inductive CI(X Y:Cx)(it:MIt)(tn:Nat->Heap->Prop)(fp U0:Q6)(H0:Hp)(σp:ll)(n1:Nat)(gt:Mg)(mt:Mx Bool)(me:Mx PV)(Q:VK)(n:Nat)(s6:Shared):Prop
 |mk(i:Nat)(Z6:L2.St)(H6:Hp)(U6:Q6)(σp6:ll)(h6:MH)(e:n=it.xs.length-i)(l:i<=it.xs.length)(v:Inv Y [] Z6 H6 s6)(t:tn i s6.heap)(f:∀b∈fp,H6 b=none)(le:Le U0 H0 U6 H6)(rs:RS X.K U6 H6 σp6 Z6)(rh:RH X.K X.mg U6 H6 h6)
   (q:Ful X (RV' X) σp U6 H6 ((zK it n1 gt mt me (it.xs.drop i) σp6 h6).bind λ_ h3=>.ok (.loc n1) h3) Q):CI X Y it tn fp U0 H0 σp n1 gt mt me Q n s6
def oX(i:Q (newEnv scope s.heap.objs.size globals (cellsFrom (s.heap.objs.size+1) scope.names closure) qual Y .none (J env) builtinsNs) { s with heap:=pushCells (s.heap.push { cls:=.type "dict",data:=.dict #[]}) scope.names}):
  wpAny M A (newFunctionEnv scope globals closure [] qual Y .none (J env)) Q E s:=by
 simp only[newFunctionEnv,Option.isSome_some,if_true];refine c_ (wpAny_alloc ?_);refine c_ (wpAny_layCells _ (λf kind a=>by cases j:kind==NameKind.cell<;>simp) _ _ _ _ ?_);rw[show({ s with heap:=s.heap.push { cls:=.type "dict",data:=.dict #[]}}:Shared).heap.objs.size=s.heap.objs.size+1 from C8 ..];exact c_ (h_ (h_ i))
def cO:∀(names:List (Str×NameKind))(n:Nat)(a:List (Str×Addr)),cellsFrom n names a=cellsFrom n names []++a
 |[],n,a=>rfl
 |(x,k)::r,n,a=>by
  unfold cellsFrom;split
  .rw[cO r (n+1) ((x,n)::a),cO r (n+1) [(x,n)]];simp
  .exact cO r n a
def eD:∀(names:List (Str×NameKind))(n:Nat)(x:Str),(∃c,(x,c)∈cellsFrom n names [])↔(x,NameKind.cell)∈names
 |[],n,x=>by simp[cellsFrom]
 |(y,k)::r,n,x=>by
  unfold cellsFrom;split
  .rename_i i
   have f:k=NameKind.cell:=by simpa using i
   subst f;rw[cO];constructor
   .rintro⟨c,a⟩;rcases mh.mp a with a|a
    .exact l_ _ ((eD r (n+1) x).mp ⟨c,a⟩)
    .have:x=y:=by simp at a;exact a.1
     rw[this];exact rl
   .intro h;rcases mu.mp h with e|h
    .have:x=y:=by simpa using e
     subst this;exact⟨n,pk _ (by simp)⟩
    .obtain⟨c,a⟩:=(eD r (n+1) x).mpr h;exact⟨c,sv _ a⟩
  .rw[eD r n x];constructor
   .exact l_ _
   .intro h;rcases mu.mp h with e|h
    .exfalso
     grind
    .exact h
def kM{α:Type}:∀(a b:List (Str×α))(x:Str),(a++b).lookup x=(a.lookup x).or (b.lookup x):= by grind
def yF{α:Type}:∀(a:List (Str×α))(x:Str),a.lookup x=Y->∀c,(x,c)∉a:= by grind
section
variable{X:Cx}{N W G:Q1}{k:Nat}
def oA(g:Good X N W G k){tg an cp:Expr}{cq:RM}{f:Scope}{dF:Pos}{B frees G':Q1}{fm:Q4}{mi:Mx MIt}{gt:Mg}{mt:Mx Bool}{me:Mx PV}(C:wr X N f B frees fm)(nd:(B++frees).Nodup)(hq:∀x∈G',f.names.lookup x=J .globalImplicit)(dbg:∀x∈(B++frees)++G',(x==("__debug__":Str))=T/\(x==("__classdict__":Str))=T/\x≠"__name__")(hi:MI X tg an mi)(hY:∀am:Cx,am.prog=X.prog->am.w=X.w->am.K=X.K->am.mg=X.mg->am.base=X.base->am.env.scope=relabel f X.env->Good am (B++frees) B G' k->MG am tg gt/\HN am cq mt/\ME am cp me)(hs:∀x,foldedSetIterable an X.env x=pure x){use:Option (Value->Sem Unit)}{Qv:RQ}{pp:Pos}{Jr:Q8}{s:Shared}{Z:L2.St}{H:Hp}{Q:VK}(dx:Inv X Jr Z H s)(tm:tM X (RV' X) (kn B.length fm mi gt mt me) Z H Q)(fin:∀(e9 C:Addr) (H6:Hp) (s7:Shared) (m7:RT),Inv X Jr Z H6 s7->H6 C=Y->s7.heap.Ns C m7->C≠X.env.locals->X.s₀.heap.objs.size<=C->C∉X.fs->(∀x c,X.env.cells.lookup x=J c->c≠C)->(∀p∈X.pn++Jr,p.1≠C)->Q (.ref e9) H6 ->
   compPost (model X.prog X.w) X.A X.xe use Qv (.ref e9) C (.ok .next) s7):
  wpAny (model X.prog X.w) X.A (comprehension (.ListComp cp [⟨tg,an,cq,0⟩] f dF) f X.env pp (newList []) T (eval an X.env) use) Qv X.xe s:=by
 obtain⟨U,ab,h,rs,rh,q⟩:=tm;have a9:∀y∈f.names,y.2=.free->∃c,X.env.cells.lookup y.1=J c:=λy hy e=>dx.ok.has y.1 (.inl (C.cl _ (C.all y hy e)));refine wpAny_comprehension_free (use:=use) rfl hs (oQ a9) C.kind C.names ?_;generalize ds:iM X.env f.names []=cl;have eu:∀x a,cl.lookup x=J a->X.env.cells.lookup x=J a\/((X.env.cells.lookup x)=Y/\a=0):=λx a e=>by
  rw[<-ds]at e
  have:=(kw (env:=X.env) (x:=x) f.names [] (λa z=>by simp at z)).1 a e
  cases z:X.env.cells.lookup x with
  |none=>right;rw[z]at this;exact⟨rfl,this⟩
  |some c=>left;rw[z]at this;rw[this];rfl
 have eh:∀x∈frees,∃c,cl.lookup x=J c/\X.env.cells.lookup x=J c:=λx hx=>by
  obtain⟨c,hc⟩:=dx.ok.has x (.inl (C.cl x hx));have hm:(∃kk,(x,kk)∈f.names/\kk=.free):=⟨.free,PySem.mem_of_lookup (C.hf x hx),rfl⟩;obtain⟨a,ha⟩:=(kw (env:=X.env) (x:=x) f.names [] (λa z=>by simp at z)).2 (.inl hm);rw[ds]at ha;rcases eu x a ha with z|⟨z,_⟩
  .rw[hc]at z;cases z;exact⟨c,ha,hc⟩
  .rw[hc]at z;cases z
 have ew:∀x a,cl.lookup x=J a->X.env.cells.lookup x=J a/\x∈frees:=λx a e=>by
   have only:∀(l:List (Str×NameKind))(cs:List (Str×Addr))(x:Str)(a:Addr),(iM X.env l cs).lookup x=J a->(x,NameKind.free)∈l\/cs.lookup x=J a:=by
    intro l
    induction l with
    |nil=>intro cs x a e;exact .inr e
    |cons y l ih =>
     intro cs x a e;obtain⟨n,kk⟩:=y;rcases ih _ x a e with z|z
     .exact .inl (l_ _ z)
     .split at z
      .rename_i hk
       have hz:kk=NameKind.free:=by simpa using hk
       rw[AT]at z
       split at z
       .rename_i e'
        have:x=n:=by simpa using e'
        subst this;subst hz;exact .inl rl
       .exact .inr z
      .exact .inr z
   have e':=e;rw[<-ds]at e';rcases only _ _ x a e' with z'|z'
   .refine⟨?_,C.all _ z' rfl⟩;rcases eu x a e with z|⟨z,_⟩
    .exact z
    .obtain⟨c,hc⟩:=a9 _ z' rfl;rw[z]at hc;cases hc
   .simp at z'
 have start:=hi Jr s Z H (CS X U H ab gt mt me (Ap B.length fm ab) Q) dx
  ⟨U,ab,h,rs,rh,Ful.bind q λU1 H1 it gs h1 _ l1 ca jr q1=>⟨U1,it,h1,l1,ca,jr,q1⟩⟩
 refine wpAny_mono start (λx hC ea=>wpAny_mono ea (λhH F er=>?_) λ_ _ e=>e) λ_ _ e=>e;obtain⟨f0,fp,tn,gs,H2,rfl,I2,R,e0,f2,U1,it,h1,l1,ca,jr,q1⟩:=er;refine wpAny_newObj_type ?_;have g1:H2 F.heap.objs.size=Y:=I2.hok.fresh (ii _);have M:=I2.lnew (ys:=[]) (its:=[]) (t':=F.toks) .nil (ux _);obtain⟨dV,l3⟩:=ca.new g1 (o:=.lst []) (ho:=.lst []) ⟨[],rfl,.nil⟩;generalize g3:({ F with heap:=F.heap.push { cls:=.type "list",data:=.seq ([]:Q7).toArray},toks:=F.toks}:Shared)=E at M;generalize eC:lg H2 F.heap.objs.size (.lst [])=L at M dV l3;have hA:L F.heap.objs.size=J (.lst []):=by rw[<-eC];exact bI
 have g9:E.heap=F.heap.push { cls:=.type "list",data:=.seq ([]:Q7).toArray}:=by rw[<-g3]
 have cd:tn 0 E.heap:=R.keep _ _ _ e0 λb _ o e=>by rw[g9];exact n3 _ e
 have b0:∀b∈fp,hX X Jr L b:=λb S=>by
  obtain⟨a0,a1⟩:=f2 b S;refine⟨?_,a1⟩;obtain⟨o,eo,_⟩:=R.obj _ _ e0 b S;rw[<-eC,aT (tt (mj eo))];exact a0
 have c4:wpAny (model X.prog X.w) X.A (newFunctionEnv f X.env.globals cl [] X.env.qual Y .none (J X.env)) (λvd e7 =>
    codeAny (model X.prog X.w) X.A (.compStart (.ListComp cp [⟨tg,an,cq,0⟩] f dF) 0 (.ref f0) (.ref F.heap.objs.size) { vd with scope:=relabel f X.env}) (compPost (model X.prog X.w) X.A X.xe use Qv (.ref F.heap.objs.size) vd.locals) e7) X.xe E:=by
  refine oX ?_;have O:∀b o,E.heap.get? b=J o->(pushCells (E.heap.push { cls:=.type "dict",data:=.dict #[]}) f.names).get? b=J o:=λb o e=>pushCells_keeps _ _ b o (n3 _ e);have ei:=(Heap.Ns.new E.heap (.type "dict")).keeps (pushCells_keeps f.names _);have b6:=cellsFrom_ok f.names (E.heap.push { cls:=.type "dict",data:=.dict #[]}) (E.heap.objs.size+1) [] ⟨λ_ _ hm=>(nomatch hm),List.Pairwise.nil⟩ (by rw[C8];exact ii _);rw[C8]at b6;rw[cO];have cb:=eD f.names (E.heap.objs.size+1);generalize cellsFrom (E.heap.objs.size+1) f.names []=cn at b6 cb ⊢;generalize pushCells (E.heap.push { cls:=.type "dict",data:=.dict #[]}) f.names=h' at O ei b6 ⊢;dsimp only[newEnv];have a8:∀x c,(cn++cl).lookup x=J c->((x,c)∈cn/\f.names.lookup x=J .cell/\E.heap.objs.size<c/\h'.IsCell c Y)\/(X.env.cells.lookup x=J c/\f.names.lookup x=J .free):=λx c e=>by
   rw[kM]at e
   cases z:cn.lookup x with
   |some c' =>
    rw[z]at e
    have:c'=c:=by simpa using e
    subst this;have m:=PySem.mem_of_lookup z;obtain⟨q1,q2⟩:=b6.empty x c' m;exact .inl ⟨m,C.cell _ ((cb x).mp ⟨c',m⟩) rfl,q2,q1⟩
   |none =>
    rw[z]at e;obtain⟨q1,q2⟩:=ew x c (by simpa using e);exact .inr ⟨q1,C.hf x q2⟩
  have e8:∀x c,x∈frees->cl.lookup x=J c->(cn++cl).lookup x=J c:=λx c hx e=>by
   rw[kM]
   cases z:cn.lookup x with
   |none=>simpa using e
   |some c' =>
    have:=C.cell _ ((cb x).mp ⟨c',PySem.mem_of_lookup z⟩) rfl
    rw[C.hf x hx]at this;cases this
  have old:∀x c,X.env.cells.lookup x=J c->c<E.heap.objs.size:=λx c e=>by
   obtain⟨v,qc⟩:=M.cell x c e;exact qc.lt
  have ok:(cU X f (cn++cl) E L fp (B++frees)).Ok:=by
   refine⟨M.ok.mod,C.kind,M.ok.glob,M.ok.blt,ii _,λx y c h1 h2=>?_,λx hx=>?_,λx c hx e=>?_,M.ok.hd,M.ok.frames,.inl rfl,
    λb S=>⟨?_,λx c e z=>?_⟩,M.bs,l7 M.ok.bsz M.sz,λb o e S=>?_,λb S z=>?_,M.stack,M.stkFree⟩
   .rcases a8 x c h1 with⟨a1,_,a2,_⟩|⟨a1,_⟩<;>rcases a8 y c h2 with⟨b1,_,b2,_⟩|⟨b1,_⟩
    .exact PySem.name_of_addr b6.apart a1 b1
    .exact absurd (LD a2 (old y c b1)) (zr _)
    .exact absurd (LD b2 (old x c a1)) (zr _)
    .exact M.ok.inj x y c a1 b1
   .
    have bm:(relabel f X.env).names.lookup x=J .cell\/(relabel f X.env).names.lookup x=J .free:=hx
    cases e:f.names.lookup x with
    |none =>
     exfalso;have nn:∀(l:List (Str×NameKind)),l.lookup x=Y->(l.map λ(n,k)=>if(k==NameKind.free&&X.env.scope.kind == .function&&X.env.kindOf n==J .cell)then(n,NameKind.cell)else(n,k)).lookup x=Y:=by
      intro l
      induction l with
      |nil=>intro _;rfl
      |cons y l ih =>
       intro hl;obtain⟨n,kk⟩:=y;rw[AT]at hl
       split at hl
       .cases hl
       .rename_i f7
        rw[nt];dsimp only
        split<;>(rw[AT];simp only[f7];exact ih hl)
     have e2:=nn f.names e;rcases bm with z|z
     .rw[show(relabel f X.env).names.lookup x=Y from e2]at z;cases z
     .rw[show(relabel f X.env).names.lookup x=Y from e2]at z;cases z
    |some kk =>
     have e2:=bS (env:=X.env) M.ok.kind e;have hk:kk=.free\/kk=.cell:=by
      rcases bm with z|z
      .rw[show(relabel f X.env).names.lookup x=_ from e2]at z;have z':=Option.some.inj z;by_cases zz:kk=.free/\X.env.kindOf x=J .cell
       .exact .inl zz.1
       .rw[d_ zz]at z';exact .inr z'
      .rw[show(relabel f X.env).names.lookup x=_ from e2]at z;have z':=Option.some.inj z;by_cases zz:kk=.free/\X.env.kindOf x=J .cell
       .exact .inl zz.1
       .rw[d_ zz]at z';exact .inl z'
     rcases hk with hk|hk
     .subst hk;have hf:=C.all _ (PySem.mem_of_lookup e) rfl;obtain⟨c,h1,_⟩:=eh x hf;exact⟨c,e8 x c hf h1⟩
     .subst hk;obtain⟨c,hc⟩:=(cb x).mpr (PySem.mem_of_lookup e);show ∃c,(cn++cl).lookup x=J c;rw[kM]
      cases z:cn.lookup x with
      |some c'=>exact⟨c',rfl⟩
      |none=>exact absurd hc (yF cn x z c)
   .have bm:=of_decide_eq_true hx;rcases a8 x c e with⟨_,_,q,_⟩|⟨_,q⟩
    .exact u0 q
    .rw[q]at bm;cases bm
   .obtain⟨o,eo,_⟩:=R.obj _ _ cd b S;exact tt (mj eo)
   .rcases a8 x c e with⟨_,_,q,_⟩|⟨q,_⟩
    .obtain⟨o,eo,_⟩:=R.obj _ _ cd b S;exact absurd (LD q (z▸mj eo)) (zr _)
    .exact (b0 b S).2.2.2.2.1 x c q z
   .obtain⟨_,_,_,h4,_⟩:=b0 b S;rcases h4 with h4|h4
    .exact M.ok.noex b o e h4
    .exact absurd (q_ (mj e) (l7 M.ok.bsz h4)) (zr _)
   .obtain⟨_,h2,h3,_⟩:=b0 b S;rcases mu.mp (M.stkSub b z)with e|e
    .exact h2 e
    .exact h3 e
  obtain⟨mX,hF,lX⟩:=M.loc;have hw:Le U H (U1++[F.heap.objs.size]) L:=l1.trans l3
  let ax:L2.St:=List.replicate B.length Y++fm.map λi=>(Z[i]?).getD Y
  have g2:fm.length=frees.length:=by have:=congrArg List.length C.fm;simpa using this
  have ep:Inv (cU X f (cn++cl) E L fp (B++frees)) [] ax L { E with heap:=h',toks:=E.toks}:=by
   refine⟨ok,rfl,M.bare,Un.kept O,⟨_,ei,λi x v hN hv hB=>?_⟩,λx c e=>?_,?_,λx c e=>?_,λp hp=>absurd (show p∈([]:Q8)from hp) (by simp),M.hok.kept O,?_⟩
   .have da:(B++frees)[i]?=J x:=hN;have d0:B.length<=i:=by
     by_cases z:B.length<=i
     .exact z
     .exfalso;have as:ax[i]?=J (J v):=hv;rw[xu (by simp;ext),Ag]at as
      split at as<;>cases as
    have as:ax[i]?=J (J v):=hv;rw[zE (by simpa using d0),Im,s_]at as;rw[zE d0]at da
    cases ej:fm[i-B.length]? with
    |none=>rw[ej]at as;cases as
    |some j =>
     rw[ej]at as;have ef:=congrArg (λl=>l[i-B.length]?) C.fm;simp only[s_,ej,da,IB]at ef;have gi:N[j]?=J x:=by simpa using ef
     have ev:Z[j]?=J (J v):=by
      have:(Z[j]?).getD Y=J v:=by simpa using as
      cases z:Z[j]? with
      |none=>rw[z]at this;cases this
      |some o=>rw[z]at this;simp at this;rw[this]
     have hx:x∈frees:=zI da;have hh:LH X.env.scope x:=.inr (.inl (C.cl x hx));obtain⟨u,ru,d2⟩:=lX j x v (by rw[g.hN];exact gi) ev hh;refine⟨u,ru,.inr ⟨?_,?_⟩⟩
     .left;show(relabel f X.env).names.lookup x=J .cell
      have:=bS (env:=X.env) M.ok.kind (C.hf x hx)
      rw[b_ ⟨rfl,C.cl x hx⟩]at this;exact this
     .rcases d2 with⟨hk,_⟩|⟨_,c,hc,db⟩
      .rw[C.cl x hx]at hk;cases hk
      .obtain⟨c',h1,h2⟩:=eh x hx;rw[hc]at h2;cases h2;obtain⟨o,eo,ed⟩:=db;exact⟨c,e8 x c hx h1,o,O _ _ eo,ed⟩
   .rcases a8 x c e with⟨_,_,_,q⟩|⟨q,_⟩
    .exact⟨Y,q⟩
    .obtain⟨v,o,eo,ed⟩:=M.cell x c q;exact⟨v,o,O _ _ eo,ed⟩
   .exact M.hok.fresh (ii _)
   .rcases a8 x c e with⟨_,_,q,_⟩|⟨q,_⟩
    .exact M.hok.fresh (u0 q)
    .exact M.freeC x c q
   .show ax.length=(B++frees).length;simp[ax,g2]
  have gY:Good (cU X f (cn++cl) E L fp (B++frees)) (B++frees) B G' k:=by
   refine⟨rfl,nd,λx hx=>?_,λx hx=>?_,λx hx=>?_,dbg,g.calm,g.room,PassesOwn.never⟩
   .rcases mh.mp hx with z|z
    .rcases C.hv x z with z|z
     .left
      have:=bS (env:=X.env) M.ok.kind z
      rw[d_ (λq=>nomatch q.1)]at this;exact this
     .right
      have:=bS (env:=X.env) M.ok.kind z
      rw[d_ (λq=>nomatch q.1)]at this;exact this
    .right
     have:=bS (env:=X.env) M.ok.kind (C.hf x z)
     rw[b_ ⟨rfl,C.cl x z⟩]at this;exact this
   .rcases C.hv x hx with z|z
    .right
     have:=bS (env:=X.env) M.ok.kind z
     rw[d_ (λq=>nomatch q.1)]at this;exact this
    .exact .inl (decide_eq_true z)
   .have:=bS (env:=X.env) M.ok.kind (hq x hx)
    rw[d_ (λq=>nomatch q.1)]at this;exact this
  obtain⟨hg,ht,he⟩:=hY (cU X f (cn++cl) E L fp (B++frees)) rfl rfl rfl rfl rfl rfl gY;have g0:RS X.K (U1++[F.heap.objs.size]) L (Ap B.length fm ab) ax:=by
   refine⟨by simp[ax,Ap],λi v e=>?_⟩;unfold Ap at e;by_cases z:B.length<=i
   .rw[zE (by simpa using z),Im,s_]at e
    cases ej:fm[i-B.length]? with
    |none=>rw[ej]at e;cases e
    |some j =>
     rw[ej]at e;have ev:ab[j]?=J (J v):=by
      have:(ab[j]?).getD Y=J v:=by simpa using e
      cases z:ab[j]? with
      |none=>rw[z]at this;cases this
      |some o=>rw[z]at this;simp at this;rw[this]
     obtain⟨v',e',rv⟩:=rs.2 j v ev;refine⟨v',?_,rv.le hw⟩;show ax[i]?=_;rw[zE (by simpa using z),Im,s_,ej];simp[e']
   .rw[xu (by simp;ext),Ag]at e
    split at e<;>cases e
  have q3:Ful X (RV' X) ab (U1++[F.heap.objs.size]) L ((zK it h1.length gt mt me it.xs (Ap B.length fm ab) (h1++[.lst []])).bind λ_ h3=>.ok (.loc h1.length) h3) Q:=Ful.le l3 q1;have bi:(U1++[F.heap.objs.size])[h1.length]?=J F.heap.objs.size:=by rw[<-ca.len];simp
  have c1:∀b7:Shared,b7={ E with heap:=h',toks:=E.toks}->codeAny (model X.prog X.w) X.A (.compLoop (.ListComp cp [⟨tg,an,cq,0⟩] f dF) 0 (.ref f0) (.ref F.heap.objs.size) (compEnvC f (cn++cl) E.heap.objs.size X.env))
    (compPost (model X.prog X.w) X.A X.xe use Qv (.ref F.heap.objs.size) E.heap.objs.size) b7:=by
   rintro b7 rfl;refine qF (CI X (cU X f (cn++cl) E L fp (B++frees)) it tn fp (U1++[F.heap.objs.size]) L ab h1.length gt mt me Q) ?_ it.xs.length
    ⟨0,ax,L,_,_,_,rfl,ux _,ep,R.keep _ _ _ cd (λb _ o e=>O b o e),λb S=>(b0 b S).1,Le.refl _ _,g0,dV,by simpa using q3⟩
   rintro n s6 ⟨i,Z6,H6,U6,b3,h6,rfl,hD,I6,f1,es,l6,g8,dd,q6⟩;have b4:∀{H':Hp},(∀b∈fp,H' b=Y)->∀b∈fp,hX (cU X f (cn++cl) E L fp (B++frees)) [] H' b:=λ{H'} hn b S =>
    ⟨hn b S,(ok.exf b S).1,ok.exfs b S,.inl S,(ok.exf b S).2,λp hp=>absurd (show p∈([]:Q8)from hp) (by simp)⟩
   by_cases be:i<it.xs.length
   .have ed:it.xs.drop i=it.xs[i]::it.xs.drop (i+1):=MK be;rw[ed]at q6;simp only[zK]at q6;by_cases hok:it.ok h6
    .rw[b_ hok]at q6;obtain⟨j1,_⟩:=jr U6 H6 h6 i (l3.trans l6) dd hok;obtain⟨go,yl⟩:=j1 be;refine k_ (R.item (cU X f (cn++cl) E L fp (B++frees)) rfl rfl rfl g.calm i [] s6 Z6 H6 (λ_ _=>False) I6 (b4 es) f1 go) λr s7 ⟨u,hr,h7⟩=>?_;subst hr;refine k_ h7 λ_ s8 ⟨x8,H8,I8,r8,y8,c9,f6⟩=>?_;obtain⟨U8,x,l8,g6,ex,rx⟩:=yl x8 H8 y8;have gy:x=it.xs[i]:=by rw[zF be]at ex;exact(Option.some.inj ex).symm
     subst gy;have g7:=I8.pinned (b4 f6) (R.obj _ _ c9);have q8:=Ful.le l8 q6;have back:∀{Z9:L2.St}{H9:Hp}{s9:Shared},Inv (cU X f (cn++cl) E L fp (B++frees)) ([]++ju fp s8.heap) Z9 H9 s9->Inv (cU X f (cn++cl) E L fp (B++frees)) [] Z9 H9 s9/\tn (i+1) s9.heap/\∀b∈fp,H9 b=Y:=λ{Z9 H9 s9} I9=>by
      refine⟨I9.unpinned,R.keep _ _ _ c9 λb S o e=>(I9.pin (b,o) (pk _ (pk _ (fS S e)))).1,λb S=>?_⟩;obtain⟨o,e,d⟩:=R.obj _ _ c9 b S;exact(I9.pin (b,o) (pk _ (pk _ (fS S e)))).2.1
     cases eg:gt it.xs[i] b3 h6 with
     |nx P h9 =>
      rw[eg]at q8;dsimp only at q8
      refine k_ (hg _ s8 Z6 H8 x8 u (λZ' H'=>∃U',Le U8 H8 U' H'/\RH X.K X.mg U' H' h9/\RS X.K U' H' P Z') g7 r8 ⟨U8,b3,h6,_,g8.le l8,g6,rx,by
       show kL _ _ _ (gt it.xs[i] b3 h6) _
       rw[eg];exact λU' H' Z' l r s=>⟨U',l,r,s⟩⟩) λ_ s9 ⟨Z9,H9,I9,U9,l9,g5,cF⟩=>?_
      have q9:=Ful.le l9 q8
      cases em:mt P h9 with
      |ok b a7 =>
       rw[em,Out.ne_ok]at q9;rw[Out.bind_ok]at q9
       refine k_ (ht _ s9 Z9 H9 (λb' H'=>b'=b/\∃U',Le U9 H9 U' H'/\RH X.K X.mg U' H' a7) I9 ⟨U9,P,h9,cF,g5,by
        show Ful _ _ _ _ _ (mt P h9) _
        rw[em];exact λU' H' v' l r e=>⟨e.symm,U',l,r⟩⟩) λb' hj ⟨c7,ek,eb,dt,a3,c2⟩=>?_
       subst eb;have aj:=Ful.le a3 q9
       cases b' with
       |false =>
        rw[d_ AQ]at aj ⊢;obtain⟨fa,en,f3⟩:=back ek;exact⟨_,by ext,i+1,Z9,c7,dt,P,a7,rfl,be,fa,en,f3,l6.trans (l8.trans (l9.trans a3)),cF.le a3,c2,aj⟩
       |true =>
        rw[b_ rfl]at aj ⊢
        cases ee:me P a7 with
        |ok v el =>
         rw[ee,Out.ne_ok]at aj;rw[Out.bind_ok]at aj
         refine k_ (he _ hj Z9 c7 (λv' H'=>∃U',Le dt c7 U' H'/\RH X.K X.mg U' H' el/\RP X.K U' H' v v') ek ⟨dt,P,a7,cF.le a3,c2,by
          show Ful _ _ _ _ _ (me P a7) _
          rw[ee];exact λU' H' v' l r e=>⟨U',l,r,e⟩⟩) λgg f5 ⟨v',c3,g4,d1,e6,c5,c0,ey⟩=>?_
         have ay:=Ful.le c5 aj;have b5:Le (U1++[F.heap.objs.size]) L e6 c3:=l6.trans (l8.trans (l9.trans (a3.trans c5)));obtain⟨oa,gx,hu⟩:=c0.obj (b5.get bi);rw[gx]at ay
         cases oa with
         |dic ks xs=>exact ay.elim
         |exc x=>exact ay.elim
         |lst ys =>
          dsimp only at ay;by_cases bj:ys.length<sizeLine
          .rw[b_ bj]at ay;obtain⟨dc,ge,ry⟩:=hu;obtain⟨fl,c6⟩:=c0.put (b5.get bi) (o:=.lst (ys++[v])) (ho:=.lst (dc++[v'])) ⟨_,rfl,ry.append (.cons ey .nil)⟩;have ap:=oD (X:=cU X f (cn++cl) E L fp (B++frees)) _ f5 Z9 c3 (.ref F.heap.objs.size) [v'] (.ref F.heap.objs.size) [gg] (λ_ H'=>H'=lg c3 F.heap.objs.size (.lst (dc++[v']))) g4 rfl (.cons d1 .nil) ⟨F.heap.objs.size,dc,v',rfl,rfl,ge,by rw[<-ry.length];exact bj,rfl⟩;refine k_ ap λ_ hE ⟨_,hG,gF,_,eH⟩=>?_;subst eH;obtain⟨ez,f4,et⟩:=back gF;exact⟨_,by ext,i+1,Z9,_,e6,P,_,rfl,be,ez,f4,et,b5.trans c6,(cF.le a3).le (c5.trans c6),fl,Ful.le c6 ay⟩
          .rw[d_ bj]at ay;exact ay.elim
        |exc x el=>rw[ee]at aj;exact aj.elim
        |bad=>rw[ee]at aj;exact aj.elim
      |exc x a7=>rw[em]at q9;exact q9.elim
      |bad=>rw[em]at q9;exact q9.elim
     |_=>rw[eg]at q8;exact q8.elim
    .rw[d_ hok]at q6;exact q6.elim
   .have e:i=it.xs.length:=by ext
    rw[e,List.drop_length]at q6;simp only[zK]at q6;by_cases hok:it.ok h6
    .rw[b_ hok]at q6;obtain⟨_,j2⟩:=jr U6 H6 h6 i (l3.trans l6) dd hok;refine k_ (R.done (cU X f (cn++cl) E L fp (B++frees)) rfl rfl rfl g.calm i [] s6 Z6 H6 (λ_ _=>False) I6 (b4 es) f1 (j2 (by ext))) λr s7 ⟨hr,I7⟩=>?_;subst hr;obtain⟨m7,gV,_⟩:=I7.loc;have IX:=M.call' (s':=s7) (ch:=fp) I7.os I7.base I7.hok I7.bare λb S=>by
      obtain⟨_,a2,_,a4,a5,a6⟩:=b0 b S;exact⟨a4,a2,a5,a6⟩
     exact fin _ _ H6 s7 m7 IX I7.free gV (AX M.lt) M.sz (M.nofs (ii _)) (λx c e z=>by
      obtain⟨v,qc⟩:=M.cell x c e
      exact absurd qc.lt (by rw[z];exact zr _)) (λp hp z=>absurd (mj (M.pin p hp).1) (by rw[z];exact zr _)) (q6 U6 H6 _ (Le.refl _ _) dd (.loc (l6.get bi)))
    .rw[d_ hok]at q6;exact q6.elim
  exact codeAny_compStart_list (c1 _ rfl) (R.self X.A 0 _ _ _ (R.keep _ _ _ cd (λb _ o e=>O b o e)) (c1 _ rfl))
 exact c4
def BF(g:Good X N W G k){z j r:Expr}{l:RM}{i:Scope}{L:Pos}{f frees u:Q1}{fm:Q4}{O:Mx MIt}{M:Mg}{mt:Mx Bool}{P:Mx PV}(C:wr X N i f frees fm)(nd:(f++frees).Nodup)(F:∀x∈u,i.names.lookup x=J .globalImplicit)(dbg:∀x∈(f++frees)++u,(x==("__debug__":Str))=T/\(x==("__classdict__":Str))=T/\x≠"__name__")(U:MI X z j O)(hY:∀a:Cx,a.prog=X.prog->a.w=X.w->a.K=X.K->a.mg=X.mg->a.base=X.base->a.env.scope=relabel i X.env->Good a (f++frees) f u k->MG a z M/\HN a l mt/\ME a r P)(hs:∀x,foldedSetIterable j X.env x=pure x:=by intro _;rfl):ME X (.ListComp r [⟨z,j,l,0⟩] i L) (kn f.length fm O M mt P):=by
 intro Jr s Z H Q B tm;refine oA g C nd F dbg U hY hs B tm λE D S s7 m7 IX hC ns hL R aj y hp q=>?_;refine⟨m7,ns,λab zl=>⟨.ref E,S,?_,rfl,q⟩⟩;exact IX.turned (t':=s7.toks) (λb o hb e=>zl.extBut b o hb e) hC hL (.inr R) y hp
def BG(g:Good X N W G k)(i:Nat){y:Str}{py B:Pos}{Q u F:Expr}{E:RM}{a:Scope}{O:Pos}{j frees G':Q1}{fm:Q4}{mi:Mx MIt}{gt:Mg}{mt:Mx Bool}{me:Mx PV}(M:N[i]?=J y)(hw:W[i]?=J y)(ab:swapsWith (.ListComp F [⟨Q,u,E,0⟩] a O) (J (.Name y py)) B.line X.env=pure I)(C:wr X N a j frees fm)(nd:(j++frees).Nodup)(as:∀x∈G',a.names.lookup x=J .globalImplicit)(dbg:∀x∈(j++frees)++G',(x==("__debug__":Str))=T/\(x==("__classdict__":Str))=T/\x≠"__name__")(hi:MI X Q u mi)(hY:∀f:Cx,f.prog=X.prog->f.w=X.w->f.K=X.K->f.mg=X.mg->f.base=X.base->f.env.scope=relabel a X.env->Good f (j++frees) j G' k->MG f Q gt/\HN f E mt/\ME f F me)(hs:∀x,foldedSetIterable u X.env x=pure x:=by intro _;rfl):MS X (.Assign [.Name y py] (.ListComp F [⟨Q,u,E,0⟩] a O) B) (bc i (kn j.length fm mi gt mt me)):=by
 intro Jr s Z H D an tm;obtain⟨U,R,h,rs,rh,q⟩:=tm;rw[exec_Assign_Name_used _ _ _ _ ab];refine c_ (wpAny_standAt (c_ ?_))
 refine c_ (wpAny_mono (oA g C nd as dbg hi hY hs an
  ⟨U,R,h,rs,rh,bf.ex q λU1 H1 v v' h1 l r z w=>w U1 H1 _ (Le.refl _ _) r ((rs.le l).set i z)⟩ λL P S s7 m7 IX hC ns hL hz ap am hp q6=>?_) (λ_ s' hq=>h_ (h_ hq)) λ_ _ e=>e)
 .obtain⟨o,es,ep,ho,hd,hr⟩:=id ns;have IP:Inv X (Jr++[(P,o)]) Z S s7:=IX.pins_of λp aj=>(mh.mp aj).elim (λz=>IX.pin p (pk _ z)) λz=>by
   have e:p=(P,o):=by simpa using z
   subst e;exact⟨ho,hC,hL,ap,λv z=>by rw[hd]at z;cases z⟩
  have st:=sT (pos:=py) (by rw[g.hN];exact g.nd) (g.x M) (g.loc y (aL M)) (g.fn y (aL hw)) (Jr++[(P,o)]) s7 Z S (.ref L) (.ref L) (λZ' H'=>Z'=Z.set i (J (.ref L))/\H'=S) IP rfl ⟨rfl,rfl⟩;refine k_ st λ_ s8 ⟨Z8,H8,I8,e1,e2⟩=>?_;subst e1;subst e2;have pn:=I8.pin (P,o) (pk _ (pk _ (by simp)));refine⟨m7,⟨o,es,ep,pn.1,hd,hr⟩,λax zl=>⟨_,_,?_,q6⟩⟩;exact(I8.unpinned).turned (t':=s8.toks) (λb o hb e=>zl.extBut b o hb e) hC hL (.inr hz) am hp
end
@[inline]abbrev Fb:Q7:=[.type "ValueError",.type "Exception",.type "BaseException",.type "object"]
structure BH(K:g_)(mg:Aa)(x:Str)(C:Addr):Prop where
 bd:mg x=J (.ref C)
 ok:PySem.W.excIn K C Fb "ValueError.__new__"=I
abbrev JN(X:Cx)(x:Str)(C:Addr):Prop:=BH X.K X.mg x C
def BI{K:g_}{h:Heap}{C:Addr}{u:Q7}{a:String}(E:K.In h)(q:PySem.W.excIn K C u a=I):
  ∃y N L q bs i R sub P f M B F H z G S,h.get? C=J (excClassObj L q C N bs y i R sub P f M B F H z G a)/\h.Ns N S/\S "__init__"=Y/\OwnTail h u y/\∀base r,PySem.W.mroIn K C base=J r->(Value.ref C::y).contains base=r:=by
 unfold PySem.W.excIn at q
 split at q
 .rename_i M cd sl W
  split at q
  .rename_i C' y B F H z n G Z U
   simp only[Ix,beq_iff_eq,Hu]at q;obtain⟨⟨⟨⟨⟨rfl,rfl⟩,j⟩,ht⟩,hok⟩,O⟩:=q;obtain⟨L,bs,X,ns,qn,hd,R,sub,P,f,aj⟩:=cd;subst Z j;have Q:sl=#[B,F,H,z,J (.builtin n),G]:=by obtain⟨l⟩:=sl;simp only at U;rw[U]
   subst Q
   exact⟨y,ns,L,qn,bs,hd,R,sub,P,f,M,B,F,H,z,G,_,E _ _ W,.of_isNs (PySem.W.isNs_of_in E hok),PySem.W.nsMap_none_of_in E hok O,PySem.W.tail_of_in E ht,λbase r e=>by
    unfold PySem.W.mroIn PySem.W.clsIn at e;rw[W]at e
    simpa using e⟩
  .cases q
 .cases q
section
variable{X:Cx}{N W G:Q1}{k:Nat}
def mE(x:Str)(m:Mx (Q0)):nw:=xO m λa Z h=>if a.length<=sizeLine then .rse ⟨x,[]⟩ Z h else .bad
def xy(g:Good X N W G k){x:Str}{j:Nat}{C:Addr}(hj:G[j]?=J x)(S:JN X x C){e:Expr}{B:RM}{m:Mx (Q0)}{np a ap:Pos}(ha:MA X (e::B) m)(he:starEach (e::B) X.env=(T,eval e X.env)::starEach B X.env:=by rfl)(R:(backTo a (starEach B X.env)).any (·.1)=T:=by rfl):
  MS X (.Raise (J (.Call (.Name x np) (e::B) [] a)) Y ap) (mE x m):=by
 intro Jr s Z H D f ⟨U,E,h,rs,rh,q⟩;have d:=g.dbg x (pk _ (aL hj));obtain⟨bm,Nn,nm,qn,bs,F,sn,sub,ab,an,dd,k0,k1,k2,k3,k5,mN,hC,hN,aj,L,_⟩:=BI f.mod.kin S.ok;refine wpAny_Raise_call_subT (nm:=nm) (q:=qn) (N:=Nn) (bs:=bs) (hdct:=F) (sn:=sn) (sub:=sub) (ab:=ab) (col:=an) (dd:=dd) (k0:=k0) (k1:=k1) (k2:=k2) (k3:=k3) (k5:=k5)
  PySem.F.excBase_ValueError (L.hasType PySem.F.excBase_ValueError.hasBase) (f.ok.hd g.calm) (by rw[he];show(T||(backTo a (starEach B X.env)).any (·.1))=T;rw[R];rfl) aj (tN f (g.gl x (aL hj)) S.bd ⟨rfl,?_⟩ d.1)
 have A:=ha a Jr s Z H (λvs u=>∃i xs M,Le U H i u/\RH X.K X.mg i u M/\RPs X.K i u xs vs/\bf X i u (if xs.length<=sizeLine then .rse ⟨x,[]⟩ E M else .bad) D) f
  ⟨U,E,h,rs,rh,bf.ex q λi u v v' M l r z w=>⟨i,v,M,l,r,z,w⟩⟩
 rw[he]at A ⊢;refine Calls.evalArgs_plain (wpAny_mono A (λus s2 ⟨vs,u,P,rv,i,xs,M,l1,am,rx,w⟩=>?_) λ_ _ y=>y);by_cases Q:xs.length<=sizeLine
 .rw[b_ Q]at w;refine⟨rfl,by rw[<-rv.length,<-rx.length];exact Q,P.bk _ _ hC,hN.keeps P.bk,L.keeps P.bk,λh' ea O=>?_⟩;have I0:=Inv.unpinned (Jr:=[]) P;exact w ea C i u Z { s2 with heap:=h'} s2.heap us rfl S.bd (Le.refl _ _) am (rs.le l1) I0 O
 .rw[d_ Q]at w;exact w.elim
end
section
variable{X:Cx}{N W G:Q1}{k:Nat}{Z:L2.St}{H:Hp}{s:Shared}
end
section
variable{prog:Program}{w:World}{A:Around}{E:RQ}{h:Heap}{g:Array GenState}{d:Drawn}{t:Nat}{os:OsState}{a C:Addr}{o:Obj}{K:g_}
end
section
variable{X:Cx}{N W G:Q1}{k:Nat}
end
def ze(xs:Q0)(h:MH):RN:=match xs with
 |[x]=>(match x with
  |.tup _=>(match rd 60 h x with
   |some d=>if d.showable=I/\d.shown.length<=sizeLine then .ok (.str d.shown) h else .bad
   |none=>.bad)
  |.frl _=>(match rd 60 h x with
   |some d=>if d.showable=I/\d.shown.length<=sizeLine then .ok (.str d.shown) h else .bad
   |none=>.bad)
  |.loc _=>(match rd 60 h x with
   |some d=>if d.showable=I/\d.shown.length<=sizeLine then .ok (.str d.shown) h else .bad
   |none=>.bad)
  |_=>.bad)
 |_=>.bad
def kq(hf:∀v d,f v=J d->d.depth<=n/\d.hasDict=T):∀{xs:Q0}{a:List PyData},bW f xs=J a->PyData.depthAll a<=n/\PyData.hasDictAll a=T
 |[],a,e=>by cases e;simp[PyData.depthAll,PyData.hasDictAll]
 |x::r,a,e=>by
  simp only[bW]at e
  split at e
  .rename_i d i e1 e2
   cases e;obtain⟨y,j⟩:=hf _ _ e1;obtain⟨u,l⟩:=kq hf e2;simp only[PyData.depthAll,PyData.hasDictAll,j,l];exact⟨⋯,rfl⟩
  .cases e
def kN:∀(n:Nat)(v:PV)(d:PyData),rd n h v=J d->d.depth<=n/\d.hasDict=T
 |0,v,d,e=>by
  cases v<;>simp only[rd]at e<;>cases e<;>simp[PyData.depth,PyData.hasDict]
 |n+1,v,d,e=>by
  have key:∀xs,(∀f,bW (rd n h) xs=J f->PyData.depthAll f<=n/\PyData.hasDictAll f=T):=λxs f=>kq (kN n)
  cases v with
  |non=>cases e;simp[PyData.depth,PyData.hasDict]
  |bl b=>cases e;simp[PyData.depth,PyData.hasDict]
  |int b=>cases e;simp[PyData.depth,PyData.hasDict]
  |str b=>cases e;simp[PyData.depth,PyData.hasDict]
  |tup xs =>
   simp only[rd,ub]at e;obtain⟨f,e1,rfl⟩:=e;obtain⟨a,b⟩:=key xs f e1;exact⟨by simp only[PyData.depth];lia,by simp only[PyData.hasDict,b]⟩
  |frl xs =>
   simp only[rd,ub]at e;obtain⟨f,e1,rfl⟩:=e;obtain⟨a,b⟩:=key xs f e1;exact⟨by simp only[PyData.depth];lia,by simp only[PyData.hasDict,b]⟩
  |loc m =>
   simp only[rd]at e
   split at e
   .rename_i xs _
    simp only[ub]at e;obtain⟨f,e1,rfl⟩:=e;obtain⟨a,b⟩:=key xs f e1;exact⟨by simp only[PyData.depth];lia,by simp only[PyData.hasDict,b]⟩
   .cases e
section
variable{X:Cx}{N W G:Q1}{k:Nat}
def kG{l:Q8}{Z:L2.St}{H:Hp}{s:Shared}{U:Q6}{h:MH}{x:PV}{a:Addr}{Q:VK}(j:Room k X.A)(f:Inv X l Z H s)(r:RH X.K X.mg U H h)(C:RP X.K U H x (.ref a))(q:gu X (RV' X) U H (match rd 60 h x with
   |some d=>if d.showable=I/\d.shown.length<=sizeLine then .ok (.str d.shown) h else .bad
   |none=>.bad) Q):wpAny (model X.prog X.w) X.A (call (.builtin "repr") [.ref a]) (EP X l Z Q) X.xe s:=by
 cases e:rd 60 h x with
 |none=>rw[e]at q;exact q.elim
 |some d =>
  rw[e]at q;dsimp only at q;by_cases z:d.showable=I/\d.shown.length<=sizeLine
  .rw[b_ z]at q;obtain⟨F,i⟩:=dU f r 60 x (.ref a) (.ref a) d C rfl e;obtain⟨L,y⟩:=kN 60 x d e;refine repr_of_reads' i z.1 (PyData.noDict_hsm y) j.gd (by have:=j.un;lia) (λ_ _ e=>e) (λE u M B=>⟨.str d.shown,H,f.kept B,⟨u,rfl⟩,q U H _ (Le.refl _ _) r (.str _)⟩) z.2
  .rw[d_ z]at q;exact q.elim
def fU(g:Good X N W G k):bG X (.builtin "repr") ze:=by
 intro B s Z H xs C Q a r ⟨U,h,E,l,rp,q⟩
 cases rp with
 |nil=>exact q.elim
 |cons u z =>
  cases z with
  |cons _ _=>cases u<;>exact q.elim
  |nil =>
   cases r with
   |cons f y =>
    cases y
    cases u with
    |tup i j=>cases f;exact kG g.room a l (.tup i j) q
    |frl i j=>cases f;exact kG g.room a l (.frl i j) q
    |loc e=>cases f;exact kG g.room a l (.loc e) q
    |_=>exact q.elim
def wU(g:Good X N W G k){x:Str}{j:Nat}(u:G[j]?=J x)(z:∃C,JN X x C){e:Expr}{f:RM}{m:Mx (Q0)}{y a l:Pos}(r:MA X (e::f) m)(B:starEach (e::f) X.env=(T,eval e X.env)::starEach f X.env:=by rfl)(i:(backTo a (starEach f X.env)).any (·.1)=T:=by rfl):
  MS X (.Raise (J (.Call (.Name x y) (e::f) [] a)) Y l) (mE x m):=let⟨_,h⟩:=z;xy g u h r B i
end
def Fc(AL:X.env.scope=sc)(j:scope.kind=.function)(B:∀y∈scope.names,y.2=.cell->scope.names.lookup y.1=J .cell)(r:∀y∈scope.names,y.2=.local->scope.names.lookup y.1=J .local)(E:∀x∈a,scope.names.lookup x=J .local\/scope.names.lookup x=J .cell)(l:∀x∈frees,scope.names.lookup x=J .free)(u:∀y∈scope.names,y.2=.free->y.1∈frees)(z:fm.map (λi=>N[i]?)=frees.map J)(f:∀x∈frees,sc.names.lookup x=J .cell):wr X N scope a frees fm :=
 ⟨j,B,r,E,l,u,z,λx C=>by rw[<-AL]at f;exact f x C⟩
section
variable{Z:ll}{h:MH}
@[simp]theorem HP:mE x m Z h=(m Z h).go Z λvs Z h=>if vs.length<=sizeLine then .rse ⟨x,[]⟩ Z h else .bad:=rfl
@[simp]theorem JO{nv:Nat}{fm:Q4}{mi:Mx MIt}{gt:Mg}{mt:Mx Bool}{me:Mx PV}:kn nv fm mi gt mt me Z h =
 (mi Z h).bind λit h1=>(zK it h1.length gt mt me it.xs (Ap nv fm Z) (h1++[.lst []])).bind λ_ h3=>.ok (.loc h1.length) h3:=rfl
def JP{o:MO}{g:MH}:(h++o::g)[h.length]?=J o:=by simp
end
def dM(s:String):PyData.strOk (Str.ofString s)=I:=by
 rw[Str.ofString_eq_toList];unfold PyData.strOk;simp only[List.all_toArray,List.all_map,Lw];intro c _;simp only[Function.comp]
 have:=c.valid
 have a:c.toNat<0x110000:=by
  rcases this with z|z
  .have:c.toNat<0xd800:=z;lia
  .exact z.2
 simpa using a
def dg(f:PyData.strOk a=I)(i:PyData.strOk b=I):PyData.strOk (a++b)=I:=by unfold PyData.strOk at *;rw[Str.cps_append,Array.all_append,f,i];rfl
def zf(f:Nat->Q0->MH->RN)(m:Mx PV)(i:Mx (Q0)):Mx PV:=λZ h=>(m Z h).bind λo a=>match o with
 |.loc n=>(match a[n]? with
  |some (.lst _)=>(i Z a).bind λl j=>(f n l j).ne
  |_=>.bad)
 |_=>.bad
def cv(n:Nat)(a:Q0)(h:MH):RN:=match a,h[n]? with
 |[v],J (.lst xs)=>if xs.length<sizeLine then .ok .non (h.set n (.lst (xs++[v])))else .bad
 |_,_=>.bad
def im(n:Nat)(a:Q0)(h:MH):RN:=match a with
 |[.loc m]=>(match h[n]?,h[m]? with
  |some (.lst xs),J (.lst ys)=>if xs.length+ys.length<=sizeLine then .ok .non (h.set n (.lst (xs++ys)))else .bad
  |_,_=>.bad)
 |[.tup ys]=>(match h[n]? with
  |some (.lst xs)=>if xs.length+ys.length<=sizeLine then .ok .non (h.set n (.lst (xs++ys)))else .bad
  |_=>.bad)
 |_=>.bad
def BJ(n:Nat)(a:Q0)(h:MH):RN:=match a,h[n]? with
 |[],J (.lst xs)=>(match xs[xs.length-1]? with
  |some y=>.ok y (h.set n (.lst xs.dropLast))
  |none=>.bad)
 |_,_=>.bad
def RPs.dropLast{K:g_}{U:Q6}{H:Hp}{xs:Q0}{ys:List V}(r:RPs K U H xs ys):RPs K U H xs.dropLast ys.dropLast:=by rw[Lm,Lm,r.length];exact r.take _
section
variable{X:Cx}{N W G:Q1}{k:Nat}
def BK(X:Cx)(f:Nat->Q0->MH->RN):V->List V->Hp->VK->Prop:=λx j H Q=>∃U h n a i,x=.ref a/\U[n]?=J a/\RH X.K X.mg U H h/\RPs X.K U H i j/\gu X (RV' X) U H (f n i h) Q
def jE:AJ X "list.append" (BK X cv):=by
 intro B s Z H x R v O Q j P z ⟨U,h,n,a,S,e,l,u,rp,q⟩;subst e;obtain⟨o,M,L⟩:=u.obj l;unfold cv at q
 cases rp with
 |nil=>exact q.elim
 |cons y E =>
  cases E with
  |cons _ _=>exact q.elim
  |nil =>
   rw[M]at q
   cases o with
   |lst xs =>
    dsimp only at q;by_cases f:xs.length<sizeLine
    .rw[b_ f]at q;obtain⟨ys,C,r⟩:=L;obtain⟨i,F⟩:=u.put l (o:=.lst (xs++[_])) ⟨_,rfl,r.append (.cons y .nil)⟩;exact oD B s Z H _ _ v O Q j P z ⟨a,ys,_,rfl,rfl,C,by rw[<-r.length];exact f,q U _ .non F i .non⟩
    .rw[d_ f]at q;exact q.elim
   |_=>exact q.elim
def oT(l b:Addr)(f:Array Value)(n:Nat)(a:Array Value)(i:¬(!f.isEmpty&&Builtin.List.listTooLong (f.size+a.size))=I)(u:f.size<=sizeLine)(r:f.size+a.size<=sizeLine+1):
  Meets (Builtin.«list.extend» ⟨[.ref l,.ref b],[]⟩) (λ_ R s=>s.heap.get? l=J { cls:=.type "list",data:=.seq f n}/\IsTup s.heap b a/\R (.ok (.ret Value.none)) { s with heap:=s.heap.update l (Obj.mapSeq λx=>x++a),toks:=s.toks}):=by
 intro prog w A R s ⟨y,⟨o,z,B,E,hd⟩,h⟩;have j:(f++a).size<=sizeLine+1:=by rw[Is];exact r
 show wpAny _ A.in1 (Builtin.List.listExtendWith (.ref l) (.ref b) .none) _ _ s;refine c_ (wpAny_typeOf ⟨o,z,B⟩ ?_);have C:(Builtin.List.listSameRef (.ref l) (.ref b)||Value.type "tuple" == Value.type "list" || Value.type "tuple" == Value.type "tuple")=I:=by simp
 simp only[C];refine c_ ?_;refine c_ (wpAny_seqItems z hd (h_ ?_));refine c_ ?_;refine c_ (wpAny_seqItems y rfl (h_ ?_));simp only[i];refine c_ (wpAny_updateSeq y rfl ?_ (hz:=u) (_hz':=j));exact h_ h
def wo:AJ X "list.extend" (BK X im):=by
 intro Jr s Z H x vs v us Q j rx rv ⟨U,h,n,a,ps,e,R,P,rp,q⟩;subst e;obtain⟨o,eo,ro⟩:=P.obj R;unfold im at q
 cases rp with
 |nil=>exact q.elim
 |cons r1 t1 =>
  cases t1 with
  |cons _ _=>cases r1<;>exact q.elim
  |nil =>
   cases r1 with
   |@loc m b em =>
    obtain⟨o2,ab,aj⟩:=P.obj em;dsimp only at q;rw[eo,ab]at q
    cases o with
    |lst xs =>
     cases o2 with
     |lst C =>
      dsimp only at q;by_cases l:xs.length+C.length<=sizeLine
      .rw[b_ l]at q;obtain⟨ys,O,E⟩:=ro;obtain⟨L,ew,M⟩:=aj;obtain⟨y,l'⟩:=P.put R (o:=.lst (xs++C)) (ho:=.lst (ys++L)) ⟨_,rfl,E.append M⟩;exact wP Jr s Z H _ _ v us Q j rx rv ⟨a,b,ys,L,rfl,rfl,O,ew,by rw[<-E.length,<-M.length];exact l,q U _ .non l' y .non⟩
      .rw[d_ l]at q;exact q.elim
     |_=>exact q.elim
    |_=>exact q.elim
   |@tup C a2 L sq rr =>
    rw[eo]at q
    cases o with
    |lst xs =>
     dsimp only at q;by_cases l:xs.length+C.length<=sizeLine
     .rw[b_ l]at q;obtain⟨ys,O,E⟩:=ro;obtain⟨y,l'⟩:=P.put R (o:=.lst (xs++C)) (ho:=.lst (ys++L)) ⟨_,rfl,E.append rr⟩;cases rx;obtain⟨u,rfl,ru⟩:=rv.one;cases ru;obtain⟨z,i,n,r,ap,e⟩:=j.lstM O;obtain⟨f,r2,pl,as⟩:=j.tuple sq;have am:ys.length+L.length<=sizeLine:=by rw[<-E.length,<-rr.length];exact l
      have an:=r2.length;have S:i.toArray.size+f.toArray.size<=sizeLine:=by rw[n9,n9];lia
      have B:¬(!i.toArray.isEmpty&&Builtin.List.listTooLong (i.toArray.size+f.toArray.size))=I:=by rw[lf S,M2];exact AQ
      refine call_meets F.slot_list_extend ⟨_,e,rfl⟩ F.entry_list_extend (F.args_list_extend_2 _ _) (oT a _ i.toArray n f.toArray B (by rw[n9];lia) ⋯) ⟨e,pl,?_⟩;refine⟨.non,_,j.lset (its':=i++f) O e (by simp) (r.append r2) ?_,rfl,q U _ .non l' y .non⟩;rw[v3];lia
     .rw[d_ l]at q;exact q.elim
    |_=>exact q.elim
   |_=>exact q.elim
def Fd:AJ X "list.pop" (BK X BJ):=by
 intro F s Z H x S v P Q r R E ⟨U,h,n,a,ps,e,u,C,rp,q⟩;subst e;obtain⟨o,O,M⟩:=C.obj u;unfold BJ at q
 cases rp with
 |cons _ _=>exact q.elim
 |nil =>
  rw[O]at q
  cases o with
  |lst xs =>
   obtain⟨ys,L,l⟩:=M;dsimp only at q
   cases ex:xs[xs.length-1]? with
   |none=>rw[ex]at q;exact q.elim
   |some y =>
    rw[ex]at q;obtain⟨B,f,j⟩:=l.get ex;obtain⟨i,z⟩:=C.put u (o:=.lst xs.dropLast) ⟨_,rfl,l.dropLast⟩;exact ED F s Z H _ _ v P Q r R E ⟨a,ys,B,rfl,rfl,L,by rw[<-l.length];exact f,q U _ B z i (j.le z)⟩
  |_=>exact q.elim
variable{o e:Expr}{es:RM}{name:Str}{apos cpos:Pos}{id:String}{f:Nat->Q0->MH->RN}{m:Mx PV}{ma:Mx (Q0)}
def Dm{B:TA}(u:∀Z H Q,tM X (RVs' X) ma Z H Q->B Z H Q){Z:L2.St}{H:Hp}{Q:VK}(tm:tM X (RV' X) (zf f m ma) Z H Q):tM X (RV' X) m Z H (λx r=>LM X.K "list" x r/\B Z r λxs F=>BK X f x xs F Q):=by
 obtain⟨U,j,h,C,rh,q⟩:=tm;refine⟨U,j,h,C,rh,?_⟩;refine Ful.bind q λU1 r x x' h1 _ S l rx i=>?_
 cases rx with
 |@loc n a E =>
  obtain⟨ob,eo,ro⟩:=l.obj E;dsimp only at i;rw[eo]at i
  cases ob with
  |lst xs =>
   obtain⟨ys,R,ry⟩:=ro;refine⟨.inl ⟨rfl,ys,SqL.of R⟩,u Z r _ ⟨U1,j,h1,C.le S,l,?_⟩⟩;exact Ful.bind i λP F M O h2 _ l2 z y L=>⟨P,h2,n,a,M,rfl,l2.get E,z,y,L.zero⟩
  |_=>exact i.elim
 |_=>exact i.elim
def u5(slot:Slot "list" name id)(r:typeOf (.builtin id)=pure (.type "method_descriptor"))(B:AJ X id (BK X f))(u:ME X o m)(C:MA X (e::es) ma)(i:attributeBase o name X.env (eval o X.env)=eval o X.env:=by rfl)(l:((backTo cpos (starEach (e::es) X.env)).all (λx=>!x.1)&&(backToKw cpos (keywordEach [] X.env)).all (λx=>x.1.isSome)
   && decide ((e::es).length+([]:List Keyword).length+(if([]:List Keyword).isEmpty then 0 else 1)<30))=I:=by rfl)(j:(apos.endLine==cpos.line)=I:=by rfl)(y:starEach (e::es) X.env=(T,eval e X.env)::starEach es X.env:=by rfl)(a:(backTo cpos (starEach es X.env)).any (·.1)=T:=by rfl):
  ME X (.Call (.Attribute o name apos) (e::es) [] cpos) (zf f m ma) :=
 PE.imp (Jk PySem.F.plainAttrs_list slot r B u C i l j y a) λZ H Q q=>Dm (λ_ _ _ z=>z) q
def Fe(slot:Slot "list" name id)(j:typeOf (.builtin id)=pure (.type "method_descriptor"))(r:AJ X id (BK X f))(l:ME X o m)(a:attributeBase o name X.env (eval o X.env)=eval o X.env:=by rfl)(i:(apos.endLine==cpos.line)=I:=by rfl):
  ME X (.Call (.Attribute o name apos) [] [] cpos) (zf f m ia) :=
 PE.imp (EC PySem.F.plainAttrs_list slot j r l a i) λZ H Q q=>by
  have z:=Dm (λZ H Q ⟨U,u,h,B,y,z⟩=>z U H [] (Le.refl _ _) y .nil) q;exact z
@[simp]theorem NV:zf f m ma Z h=(m Z h).bind λo h1=>match o with
 |.loc n=>(match h1[n]? with
  |some (.lst _)=>(ma Z h1).bind λvs h2=>(f n vs h2).ne
  |_=>.bad)
 |_=>.bad:=rfl
end
def sK(f:PyData.strOk sep=I):∀{a:Q1},(∀t∈a,PyData.strOk t=I)->PyData.strOk (Str.join sep a)=I
 |[],_=>by simp[Str.join,PyData.strOk,Str.empty]
 |[x],h=>h x (by simp)
 |x::y::r,h=>by
  show PyData.strOk (x++sep++Str.join sep (y::r))=I;exact dg (dg (h x (by simp)) f) (sK f λt i=>h t (l_ _ i))
def qy:∀{ts:Q1},(∀t∈ts,t.length<=L)->(Str.join ", " ts).length<=(L+2)*ts.length
 |[],_=>ux _
 |[x],h=>by have:=h x (by simp);show x.length<=_;simp;lia
 |x::y::r,h=>by
  show(x++(", ":Str)++Str.join ", " (y::r)).length<=_
  have:=h x (by simp)
  have f:=qy (ts:=y::r) λt a=>h t (l_ _ a);have e2:(", ":Str).length=2:=by decide
  rw[Str.length_append,Str.length_append,e2]
  have:(L+2)*(x::y::r).length=(L+2)+(L+2)*(y::r).length:=by rw[y_,Nat.mul_succ];lia
  lia
structure Sh(L:Nat)(d:PyData):Prop where
 able:d.showable=I
 ok:PyData.strOk d.shown=I
 len:d.shown.length<=L
def Sh.mono(s:Sh L d)(h:L<=M):Sh M d:=⟨s.able,s.ok,l7 s.len h⟩
def qo:∀{ds:List PyData},(∀d∈ds,Sh L d)->PyData.showableAll ds=I/\(∀t∈PyData.shownAll ds,PyData.strOk t=I/\t.length<=L)/\(PyData.shownAll ds).length=ds.length
 |[],_=>⟨rfl,(λt h=>nomatch h),rfl⟩
 |d::ds,h=>by
  obtain⟨a,b,c⟩:=qo (ds:=ds) λx i=>h x (l_ _ i);have hd:=h d (by simp);refine⟨by simp only[PyData.showableAll,a,hd.able,M5],λt f=>?_,by simp only[PyData.shownAll,y_,c]⟩;simp only[PyData.shownAll,mu]at f;rcases f with rfl|f
  .exact⟨hd.ok,hd.len⟩
  .exact b t f
def sZ:∀{i:Q1}{k:Nat}{a:Str},PyData.strOk a=I->(∀t∈i,PyData.strOk t=I)->PyData.strOk (textFrom k a i)=I
 |[],k,a,f,_=>f
 |t::r,k,a,f,h=>by
  show PyData.strOk (textFrom (k+1) _ r)=I;refine sZ (dg ?_ (h t (by simp))) λt j=>h t (l_ _ j);exact dg f (dM _)
def qq:∀{a:Q1}{k:Nat}{acc:Str},(∀t∈a,t.length<=L)->(textFrom k acc a).length<=acc.length+(L+2)*a.length
 |[],k,acc,_=>by show acc.length<=_;simp
 |t::r,k,acc,h=>by
  have e2:(", ":Str).length=2:=by decide
  have f:=h t (by simp);have j:∀b:Str,(textFrom (k+1) b r).length<=b.length+(L+2)*r.length:=λb=>qq λt f=>h t (l_ _ f);show(textFrom (k+1) _ r).length<=_;refine l7 (j _) ?_;rw[Str.length_append,y_,Nat.mul_succ];split
  .rw[Str.length_append,e2];lia
  .have i:("":Str).length=0:=by decide
   rw[Str.length_append,i];lia
def BL(h:∀d∈ds,Sh L d):Sh ((L+2)*ds.length+2) (.list ds):=by
 obtain⟨a,b,c⟩:=qo h;have e1:("[":Str).length=1:=by decide
 have e2:("]":Str).length=1:=by decide
 refine⟨by simp only[PyData.showable,a],?_,?_⟩
 .simp only[PyData.shown,listText];exact dg (sZ (dM _) λt f=>(b t f).1) (dM _)
 .simp only[PyData.shown,listText]
  have:=qq (k:=0) (acc:="[") λt f=>(b t f).2
  rw[c,e1]at this;rw[Str.length_append,e2];lia
def xF(h:∀d∈ds,Sh L d):Sh ((L+2)*ds.length+3) (.tuple ds):=by
 obtain⟨a,b,c⟩:=qo h;have e1:("(":Str).length=1:=by decide
 have e2:∀z:Bool,(Str.ofString (if z=I then ",)" else ")")).length<=2:=by decide
 refine⟨by simp only[PyData.showable,a],?_,?_⟩
 .simp only[PyData.shown,tupleText];exact dg (dg (dM _) (sK (dM _) λt f=>(b t f).1)) (dM _)
 .simp only[PyData.shown,tupleText]
  have:=qy λt f=>(b t f).2
  rw[c]at this;rw[Str.length_append,Str.length_append,e1]
  have:=e2 ((PyData.shownAll ds).length==1)
  lia
def Ff(h:i.natAbs.log2<1920):Sh 2000 (.int i):=by
 have a:=PySem.int_text_length_le (by decide) h;have e1:(Str.ofString (toString i)).length=(toString i).length:=by rw[Str.ofString_eq_toList];simp only[Str.length,n9,n_];exact String.length_toList
 exact⟨by simpa [PyData.showable]using h,dM _,by show(Str.ofString (toString i)).length<=2000;lia⟩
def bt(h:MH):PV->Option (Q0)
 |.tup xs=>J xs
 |.frl xs=>J xs
 |.loc n=>(match h[n]? with
  |some (.lst xs)=>J xs
  |_=>Y)
 |_=>Y
section
variable{X:Cx}{N W G:Q1}{k:Nat}
def fT(B:RH X.K X.mg U H h)(y:RP X.K U H x x')(e:bt h x=J xs):∃a ys,x'=.ref a/\(SqL X.K H a ys\/SqT X.K H a ys)/\RPs X.K U H xs ys:=by
 cases y with
 |tup s r=>cases e;exact⟨_,_,rfl,.inr s,r⟩
 |frl s r=>cases e;exact⟨_,_,rfl,.inl s.sq,r⟩
 |@loc n a f =>
  obtain⟨o,u,l⟩:=B.obj f;simp only[bt,u]at e
  cases o with
  |lst ys =>
   cases e;obtain⟨i,j,z⟩:=l;exact⟨a,i,rfl,.inl (SqL.of j),z⟩
  |_=>cases e
 |_=>cases e
def lO(f g:PV->PV->MH->RN)(a b c:Mx PV):Mx PV:=λZ h=>(a Z h).bind λx j=>(b Z j).bind λy l=>(f x y l).ne.bind λz i=>match z with
 |.bl t=>if t=I then(c Z i).bind λw r=>(g y w r).ne else .ok (.bl T) i
 |_=>.bad
variable{a b c:Expr}{ma mb mc:Mx PV}{f g':PV->PV->MH->RN}{op op':CmpOp}{pos:Pos}
def xL{Z:L2.St}{H:Hp}{Q:VK}(q:tM X (RV' X) (lO f g' ma mb mc) Z H Q):xc (rJ X f) (rJ X g') (tM X (RV' X) ma) (tM X (RV' X) mb) (tM X (RV' X) mc) Z H Q:=by
 obtain⟨U,i,h,r,rh,q⟩:=q;refine⟨U,i,h,r,rh,Ful.bind q λU1 H1 x x' h1 _ P E rx q1=>?_⟩;refine⟨U1,i,h1,r.le P,E,Ful.bind q1 λL H2 y y' h2 _ S F M q2=>?_⟩;refine⟨L,h2,x,y,F,rx.le S,M,?_⟩;have key:Ful X (RV' X) i L H2 (f x y h2).ne (λz l=>∃k,z=.bl k/\(if k=I then tM X (RV' X) mc Z l λO R=>rJ X g' y' O R Q else Q (.bl T) l)):=Ful.bind q2 λU3 l z z' h3 _ l3 j rz u=>by
  cases rz with
  |bl t =>
   refine⟨t,rfl,?_⟩
   cases t with
   |true =>
    exact⟨U3,i,h3,r.le (P.trans (S.trans l3)),j,Ful.bind u λU4 R w O h4 _ l4 B C q4=>⟨U4,h4,y,w,B,(M.le l3).le l4,C,q4.zero⟩⟩
   |false =>
    exact u U3 l _ (Le.refl _ _) j (.bl _)
  |_=>exact u.elim
 exact key.zero
def zb(j:u7 X (compareOp op) f)(i:u7 X (compareOp op') g')(r:ME X a ma)(y:ME X b mb)(l:ME X c mc)(u:lastMarks [op,op'] [b,c]=T:=by with_unfolding_all rfl):ME X (.Compare a [op,op'] [b,c] pos) (lO f g' ma mb mc) :=
 PE.imp (yR j i r y l u) λ_ _ _ q=>xL q
@[simp]theorem HQ:lO f g' ma mb mc Z h=(ma Z h).bind λx h1=>(mb Z h1).bind λy h2=>(f x y h2).ne.bind λz h3=>match z with
 |.bl t=>if t=I then(mc Z h3).bind λw h4=>(g' y w h4).ne else .ok (.bl T) h3
 |_=>.bad:=rfl
def BM(j:Bool)(x y:PV)(h:MH):RN:=match bt h y with
 |some ys=>(match rd 60 h x,bW (rd 60 h) ys with
  |some d,J i=>if d.canLay0=I/\PyData.canLayAll0 i=I then .ok (.bl (if j then !i.any (λe=>PyData.eqv e d)else i.any (λe=>PyData.eqv e d))) h else .bad
  |_,_=>.bad)
 |none=>.bad
def mF:∀{i:List PyData},PyData.canLayAll0 i=I->∀d∈i,d.canLay0=I
 |e::i,h,d,hd=>by
  simp only[PyData.canLayAll0,Ix]at h;rcases mu.mp hd with rfl|hd
  .exact h.1
  .exact mF h.2 d hd
def oC(hf:∀u d i,Reads hp u d i->fq u=PyData.eqv d dx):∀{j:Q7}{l:List PyData}{i:Q6},ReadsAll hp j l i->j.any fq=l.any λe=>PyData.eqv e dx
 |_,_,_,.nil=>rfl
 |_,_,_,.cons r t=>by rw[HF,HF,hf _ _ _ r,oC hf t]
def oj:∀{j:Q7}{l:List PyData}{y:Q6},ReadsAll hp j l y->∀u∈j,∃d i,d∈l/\Reads hp u d i
 |_,_,_,.nil,u,h=>nomatch h
 |_,_,_,.cons r t,u,h=>by
  rcases mu.mp h with rfl|h
  .exact⟨_,_,rl,r⟩
  .obtain⟨d,i,hd,z⟩:=oj t u h;exact⟨d,i,l_ _ hd,z⟩
def fq(l:Heap)(j:PyData)(u:Value):Bool:=if z:∃d i,Reads l u d i then PyData.eqv z.choose j else T
def Dn(r:Reads hp u d i):fq hp dx u=PyData.eqv d dx:=by have z:∃d i,Reads hp u d i:=⟨d,i,r⟩;unfold fq;rw[dif_pos z];obtain⟨l,j⟩:=z.choose_spec;rw[<-(Reads.unique r _ _ j).1]
def Do(hr:Room k X.A)(F:Bool):u7 X (compareOp (if F then .NotIn else .In)) (BM F):=by
 intro Jr s Z H x' y' u v Q j ab am ⟨U,h,x,y,P,rx,ry,q⟩;unfold BM at q
 cases es:bt h y with
 |none=>rw[es]at q;exact q.elim
 |some ys =>
  rw[es]at q;dsimp only at q;obtain⟨a,zs,rfl,R,aj⟩:=fT P ry es
  cases ex:rd 60 h x with
  |none=>rw[ex]at q;exact q.elim
  |some l =>
   rw[ex]at q
   cases ed:bW (rd 60 h) ys with
   |none=>rw[ed]at q;exact q.elim
   |some ds =>
    rw[ed]at q;dsimp only at q;by_cases hl:l.canLay0=I/\PyData.canLayAll0 ds=I
    .rw[b_ hl]at q;cases am;obtain⟨_,rX⟩:=dU j P 60 x x' u l rx ab ex;have ap:=(kN 60 x l ex).1;have C:∀(i:Q7),au zs i->(∀w∈i,SeqAt.EqAt X.A.in1 s w u (fq s.heap l w))/\i.any (fq s.heap l)=ds.any λe=>PyData.eqv e l:=λi B=>by
      obtain⟨as,RA⟩:=eZ (λv v' u d r1 r2 e=>dU j P 60 v v' u d r1 r2 e) aj B ed;refine⟨λw z=>?_,oC (λu d as r=>Dn r) RA⟩;obtain⟨d,an,hd,S⟩:=oj RA w z;rw[Dn S];refine SeqAt.eqAt_reads d l X.A.in1 s w u _ _ S rX (mF hl.2 d hd) hl.1 ?_
      have:=hr.un
      lia
     cases F with
     |false =>
      rcases R with M|M
      .obtain⟨i,B,E,hz⟩:=j.list M;obtain⟨O,L⟩:=C i B;refine SeqAt.in_listAt (fq s.heap l) E.isList (λw z=>O w (by simpa using z)) ⟨.bl _,H,j,rfl,?_⟩;rw[show i.toArray.any (fq s.heap l)=i.any (fq s.heap l) by simp,L];exact q U H _ (Le.refl _ _) P (.bl _)
      .obtain⟨i,B,E,hz⟩:=j.tuple M;obtain⟨O,L⟩:=C i B;refine SeqAt.in_tupleAt (fq s.heap l) E (λw z=>O w (by simpa using z)) ⟨.bl _,H,j,rfl,?_⟩;rw[show i.toArray.any (fq s.heap l)=i.any (fq s.heap l) by simp,L];exact q U H _ (Le.refl _ _) P (.bl _)
     |true =>
      rcases R with M|M
      .obtain⟨i,B,E,hz⟩:=j.list M;obtain⟨O,L⟩:=C i B;refine SeqAt.notIn_listAt (fq s.heap l) E.isList (λw z=>O w (by simpa using z)) ⟨.bl _,H,j,rfl,?_⟩;rw[show i.toArray.any (fq s.heap l)=i.any (fq s.heap l) by simp,L];exact q U H _ (Le.refl _ _) P (.bl _)
      .obtain⟨i,B,E,hz⟩:=j.tuple M;obtain⟨O,L⟩:=C i B;refine SeqAt.notIn_tupleAt (fq s.heap l) E (λw z=>O w (by simpa using z)) ⟨.bl _,H,j,rfl,?_⟩;rw[show i.toArray.any (fq s.heap l)=i.any (fq s.heap l) by simp,L];exact q U H _ (Le.refl _ _) P (.bl _)
    .rw[d_ hl]at q;exact q.elim
def x_(xs:Q0)(h:MH):RN:=match xs with
 |[x]=>(match bt h x with
  |some ys=>oy ys h
  |none=>.bad)
 |_=>.bad
def yW(xs:Q0)(h:MH):RN:=match xs with
 |[x]=>(match bt h x with
  |some ys=>.ok (.tup ys) h
  |none=>.bad)
 |_=>.bad
def sE:bG X (.type "list") x_:=by
 intro E s Z H xs M Q j r ⟨U,h,O,z,rp,q⟩
 cases rp with
 |nil=>exact q.elim
 |cons B F =>
  cases F with
  |cons _ _=>exact q.elim
  |nil =>
   rename_i x y
   unfold x_ at q
   cases u:bt h x with
   |none=>simp only[u]at q;exact q.elim
   |some ys =>
    simp only[u]at q;obtain⟨a,C,rfl,l,i⟩:=fT z B u;obtain⟨_,L⟩:=km z i q;exact qR E s Z H _ M Q j r ⟨a,C,rfl,l,L⟩
def ye:bG X (.type "tuple") yW:=by
 intro F s Z H xs M Q j r ⟨U,h,ps,E,rp,q⟩
 cases rp with
 |nil=>exact q.elim
 |cons P S =>
  cases S with
  |cons _ _=>exact q.elim
  |nil =>
   rename_i x y
   unfold yW at q
   cases C:bt h x with
   |none=>simp only[C]at q;exact q.elim
   |some ys =>
    simp only[C]at q;obtain⟨a,z,rfl,B,i⟩:=fT E P C;rcases B with u|u
    .refine je F s Z H _ M Q j r ⟨a,z,rfl,.inl ⟨u,λl O=>?_⟩⟩;obtain⟨R,L⟩:=E.tup O z;exact q U _ _ L R (.tup (SqT.of bI) (i.le L))
    .exact je F s Z H _ M Q j r ⟨a,z,rfl,.inr ⟨u,q U H _ (Le.refl _ _) E (.tup u i)⟩⟩
def eS(xs:Q0)(lo i:RL):Q0:=(xs.drop (HT.li xs.length 0 lo)).take (HT.li xs.length xs.length i-HT.li xs.length 0 lo)
def Fg(x:PV)(lo i:RL)(h:MH):RN:=match x with
 |.tup xs=>if HT.li xs.length 0 lo=0/\HT.li xs.length xs.length i=xs.length then .bad else .ok (.tup (eS xs lo i)) h
 |.frl xs=>.ok (.loc h.length) (h++[.lst (eS xs lo i)])
 |.loc n=>(match h[n]? with
  |some (.lst xs)=>.ok (.loc h.length) (h++[.lst (eS xs lo i)])
  |_=>.bad)
 |_=>.bad
def QR(X:Cx)(f:PV->RL->RL->MH->RN):V->RL->RL->Hp->VK->Prop:=λj lo i H Q=>∃U h x,RH X.K X.mg U H h/\RP X.K U H x j/\gu X (RV' X) U H (f x lo i h) Q
def nh{K:g_}{U:Q6}{H:Hp}{xs:Q0}{ys:List V}(r:RPs K U H xs ys)(lo i:RL):RPs K U H (eS xs lo i) (kO ys lo i):=by unfold eS kO;rw[r.length];exact(r.drop _).take _
def JQ:LL X (QR X Fg):=by
 intro L s Z H x' v C F lo i sl Q j S O E P ⟨U,h,x,r,R,q⟩
 cases R with
 |tup M B =>
  unfold Fg at q;dsimp only at q
  rename_i xs a ys
  by_cases z:HT.li xs.length 0 lo=0/\HT.li xs.length xs.length i=xs.length
  .rw[b_ z]at q;exact q.elim
  .rw[d_ z]at q;refine Ey L s Z H _ v C F lo i sl Q j S O E P ⟨a,ys,rfl,M,by rw[<-B.length];exact z,λp y=>?_⟩;obtain⟨u,l⟩:=r.tup y (kO ys lo i);exact q U _ _ l u (.tup (SqT.of bI) ((nh B lo i).le l))
 |frl M B =>
  rename_i xs a ys
  refine tF L s Z H _ v C F lo i sl Q j S O E P ⟨a,ys,rfl,M.sq,λp y=>?_⟩;obtain⟨u,l⟩:=r.new y (o:=.lst (eS xs lo i)) ⟨_,rfl,nh B lo i⟩;exact q _ _ _ l u (.loc (by rw[<-r.len];simp))
 |@loc n a en =>
  obtain⟨o,eo,ro⟩:=r.obj en;unfold Fg at q;dsimp only at q;rw[eo]at q
  cases o with
  |lst xs =>
   obtain⟨ys,ey,ry⟩:=ro;refine tF L s Z H _ v C F lo i sl Q j S O E P ⟨a,ys,rfl,SqL.of ey,λp y=>?_⟩;obtain⟨u,l⟩:=r.new y (o:=.lst (eS xs lo i)) ⟨_,rfl,nh ry lo i⟩;exact q _ _ _ l u (.loc (by rw[<-r.len];simp))
  |_=>exact q.elim
 |_=>exact q.elim
def MO'(X:Cx)(e:Option Expr)(m:Mx (RL)):Prop:=PO X e (tM X Jn m)
def NW:Mx (RL):=λ_ h=>.ok Y h
def NX(m:Mx PV):Mx (RL):=λZ h=>(m Z h).bind λv j=>match v with
 |.int i=>.ok (J i) j
 |_=>.bad
def tf:MO' X Y NW:=λl s Z H Q i ⟨U,j,h,u,r,q⟩=>Bg l s Z H Q i (q U H Y (Le.refl _ _) r rfl)
def tR(h:ME X e m):MO' X (J e) (NX m):=λE s Z H Q l ⟨U,j,C,y,F,q⟩=>Bh h E s Z H Q l ⟨U,j,C,y,F,Ful.bind q λL z v M P _ O r B u=>by
 cases B with
 |int i=>exact⟨i,rfl,u L z (J i) (Le.refl _ _) r rfl⟩
 |_=>exact u.elim⟩
def NY(m:Mx PV)(u y:Mx (RL)):Mx PV:=λZ h=>(m Z h).bind λx j=>(u Z j).bind λlo r=>(y Z r).bind λi l=>(Fg x lo i l).ne
def Dp{e:Expr}{lo r:Option Expr}{m:Mx PV}{E z:Mx (RL)}{O:Pos}(he:ME X e m)(L:MO' X lo E)(M:MO' X r z):ME X (.Subscript e (.Slice lo r Y O) pos) (NY m E z) :=
 PE.imp (yM JQ he L M) λZ H Q ⟨U,i,h,l,rh,q⟩=>⟨U,i,h,l,rh,Ful.bind q λU1 H1 x x' h1 _ B u rx F=>⟨U1,i,h1,l.le B,u,Ful.bind F λR H2 lo aj h2 _ C y S P=>by
  subst S
  exact⟨R,i,h2,l.le (B.trans C),y,Ful.bind P λU3 H3 r ab h3 _ l3 j eh q3=>by
   subst eh
   exact⟨U3,h3,x,j,(rx.le C).le l3,q3.zero⟩⟩⟩⟩
end
section
variable{X:Cx}{N W G:Q1}{k:Nat}
def kJ{A:Around}{E:RQ}{L:Q8}{Z:L2.St}{H:Hp}{s:Shared}{a:Addr}{ys:List V}{Q:RQ}(C:A.handled=Y)(u:Inv X L Z H s)(y:SqL X.K H a ys\/SqT X.K H a ys)(h:∀(f:Q7)(z:Heap)(It:Addr)(St:Nat->Heap->Prop),au ys f->Walks X.prog X.w A It [It,a] [It] f.toArray.size (λi v=>f.toArray[i]?=J v) St->St 0 z->(∀b∈[It,a],b<z.objs.size)->(∀b o,s.heap.get? b=J o->z.get? b=J o)->s.heap.objs.size=It->Q (.ref It) { s with heap:=z}):
  wpAny (model X.prog X.w) A (pyIter (.ref a)) Q E s:=by
 have sz:∀(o:Obj),a<s.heap.objs.size->∀b∈[s.heap.objs.size,a],b<(s.heap.push o).objs.size:=λo j b r=>by
  rw[C8];rcases mu.mp r with rfl|r
  .exact Hx _
  .rcases mu.mp r with rfl|r
   .exact Hv j
   .cases r
 rcases y with y|y
 .obtain⟨f,B,F,_⟩:=u.list y;have l:=F.isList;have j:a<s.heap.objs.size:=by obtain⟨_,e,_⟩:=l;exact mj e
  exact wpAny_pyIter_list l (h f _ _ _ B (Walks.list C _ a (tt j) f.toArray) ⟨⟨_,tr _ rfl,rfl,rfl⟩,l.push _⟩ (sz _ j) (λb o e=>n3 _ e) rfl)
 .obtain⟨f,B,l,_⟩:=u.tuple y;have j:a<s.heap.objs.size:=by obtain⟨_,e,_⟩:=l;exact mj e
  exact wpAny_pyIter_tuple l (h f _ _ _ B (Walks.tuple C _ a (tt j) f.toArray) ⟨⟨_,tr _ rfl,rfl,rfl⟩,l.push _⟩ (sz _ j) (λb o e=>n3 _ e) rfl)
def uw{s:Shared}{f a:Heap}{It:Addr}(l:∀b o,s.heap.get? b=J o->f.get? b=J o)(e:s.heap.objs.size=It)(i:∀b o,b∉[It]->f.get? b=J o->a.get? b=J o):∀b o,s.heap.get? b=J o->a.get? b=J o:=λb o q=>by
 refine i b o (λj=>?_) (l b o q)
 have:b=It:=by simpa using j
 exact absurd (mj q) (by rw[this,e];exact zr _)
def kK:Q0->Option (List Bool)
 |[]=>J []
 |.bl b::r=>(kK r).map (b::·)
 |_=>Y
def eY:Q0->Option (Q2)
 |[]=>J []
 |.int i::r=>(eY r).map (i::·)
 |_=>Y
def BN{K:g_}{U:Q6}{H:Hp}:∀{xs:Q0}{ys:List V}{bs:List Bool}{a:Q7},RPs K U H xs ys->au ys a->kK xs=J bs->a=bs.map Value.bool:=by
 intro xs
 induction xs with
 |nil=>intro ys bs a r v e;cases r;cases v;cases e;rfl
 |cons x xs y =>
  intro ys bs a r v e
  cases r with
  |cons f j =>
   cases v with
   |cons l i =>
    cases f with
    |bl b =>
     simp only[kK,ub]at e;obtain⟨z,u,rfl⟩:=e;rw[y j i u,show _=Value.bool b from l];rfl
    |_=>cases e
def pP{K:g_}{U:Q6}{H:Hp}:∀{xs:Q0}{ys:List V}{j:Q2}{f:Q7},RPs K U H xs ys->au ys f->eY xs=J j->f.length=j.length/\∀(i:Nat)(u:Value),f[i]?=J u->∃t,u=.int (j.getD i 0) t:=by
 intro xs
 induction xs with
 |nil=>intro ys j f r v e;cases r;cases v;cases e;exact⟨rfl,λi u h=>by simp at h⟩
 |cons x xs M =>
  intro ys j f r v e
  cases r with
  |cons l z =>
   cases v with
   |cons B y =>
    cases l with
    |int b =>
     simp only[eY,ub]at e;obtain⟨C,L,rfl⟩:=e;obtain⟨a,F⟩:=M z y L;obtain⟨E,rfl⟩:=B;refine⟨by simp[a],λi u h=>?_⟩
     cases i with
     |zero=>simp at h;exact⟨E,by rw[<-h];rfl⟩
     |succ i=>obtain⟨t,e⟩:=F i u (by simpa using h);exact⟨t,by rw[e];simp⟩
    |_=>cases e
def rW(bs:List Bool):TruthOf X.prog X.w A (λi v=>(bs.map Value.bool).toArray[i]?=J v) (λi=>bs.getD i T):=λi v s Q E a f=>by
 have:v=.bool (bs.getD i T):=by
  have a:(List.map Value.bool bs).toArray[i]?=J v:=a;rw[Ht,s_,ub]at a;obtain⟨b,e,rfl⟩:=a
  simp_all
 subst this;exact wpAny_truthy_bool f
def vL(bs:List Bool):(List.range bs.length).any (λi=>bs.getD i T)=bs.any id:=by
 induction bs with
 |nil=>rfl
 |cons b r a =>
  rw[y_,Pu,HF,List.any_map,HF,<-a];rfl
def BO(xs:Q0)(h:MH):RN:=match xs with
 |[x]=>(match (bt h x).bind kK with
  |some bs=>.ok (.bl (bs.any id)) h
  |none=>.bad)
 |_=>.bad
def Fh(g:Good X N W G k):bG X (.builtin "any") BO:=by
 intro Jr s Z H xs us Q f r ⟨U,h,ps,C,rp,q⟩
 cases rp with
 |nil=>exact q.elim
 |cons E P =>
  cases P with
  |cons _ _=>exact q.elim
  |nil =>
   rename_i x y
   unfold BO at q
   cases z:(bt h x).bind kK with
   |none=>simp only[z]at q;exact q.elim
   |some bs =>
    simp only[z]at q;obtain⟨ys,e1,e2⟩:=AC.mp z;obtain⟨a,zs,rfl,l,i⟩:=fT C E e1
    cases r with
    |cons L O =>
     cases O;cases L;refine call_any_walk (kJ g.room.hd f l λj h2 It St F R st fp kp u=>?_);have B:=BN i F e2;refine⟨It,_,_,_,_,St,_,rfl,R,st,by rw[B];exact rW bs,λS tk kk=>?_⟩;have M:j.toArray.size=bs.length:=by rw[B];simp
     rw[M,vL];exact⟨.bl _,H,f.kept (uw kp u kk),rfl,q U H _ (Le.refl _ _) C (.bl _)⟩
def kj(b:Nat->Nat->Bool)(a:Q2):Int:=a.getD (argBest b (a.length-1)) 0
def zL(xs:Q0)(h:MH):RN:=match xs with
 |[x]=>(match (bt h x).bind eY with
  |some a=>if 0<a.length then .ok (.int (kj (λi j=>decide (a.getD i 0>a.getD j 0)) a)) h else .bad
  |none=>.bad)
 |[.int i,.int j]=>.ok (.int (if j>i then j else i)) h
 |_=>.bad
def zM(xs:Q0)(h:MH):RN:=match xs with
 |[x]=>(match (bt h x).bind eY with
  |some a=>if 0<a.length then .ok (.int (kj (λi j=>decide (a.getD i 0<a.getD j 0)) a)) h else .bad
  |none=>.bad)
 |[.int i,.int j]=>.ok (.int (if j<i then j else i)) h
 |_=>.bad
def BP(g:Good X N W G k):bG X (.builtin "max") zL:=by
 intro Jr s Z H xs us Q f r ⟨U,h,ps,O,rp,q⟩;unfold zL at q
 split at q
 .rename_i x
  cases rp with
  |cons u F =>
  cases F
  cases E:(bt h x).bind eY with
  |none=>simp only[E]at q;exact q.elim
  |some M =>
   simp only[E]at q;by_cases C:0<M.length
   .rw[b_ C]at q;obtain⟨ys,e1,e2⟩:=AC.mp E;obtain⟨a,zs,rfl,B,y⟩:=fT O u e1
    cases r with
    |cons ru tu =>
     cases tu;cases ru;refine call_max_walk (kJ g.room.hd f B λz h2 It St S Wk st fp kp L=>?_);obtain⟨el,P⟩:=pP y S e2;have j:z.toArray.size=M.length:=by exact el
     refine⟨It,_,_,_,_,St,_,rfl,Wk,st,fp,by rw[j];exact C,CmpOf.ints_gt (λi=>M.getD i 0) (λi v hv=>P i v (by simpa using hv)),λv h' tk hP kk=>?_⟩;have l:=hP;rw[j,Ht]at l;obtain⟨t,rfl⟩:=P _ v l;exact⟨.int _,H,f.kept (uw kp L kk),⟨t,rfl⟩,q U H _ (Le.refl _ _) O (.int _)⟩
   .rw[d_ C]at q;exact q.elim
 .cases rp with
  |cons u F =>
   cases F with
   |cons R t2 =>
    cases t2;cases u;cases R;exact nY g.calm Jr s Z H _ us Q f r ⟨_,_,rfl,q U H _ (Le.refl _ _) O (.int _)⟩
 .exact q.elim
def BQ(g:Good X N W G k):bG X (.builtin "min") zM:=by
 intro Jr s Z H xs us Q f r ⟨U,h,ps,O,rp,q⟩;unfold zM at q
 split at q
 .rename_i x
  cases rp with
  |cons u F =>
  cases F
  cases E:(bt h x).bind eY with
  |none=>simp only[E]at q;exact q.elim
  |some M =>
   simp only[E]at q;by_cases C:0<M.length
   .rw[b_ C]at q;obtain⟨ys,e1,e2⟩:=AC.mp E;obtain⟨a,zs,rfl,B,y⟩:=fT O u e1
    cases r with
    |cons ru tu =>
     cases tu;cases ru;refine call_min_walk (kJ g.room.hd f B λz h2 It St S Wk st fp kp L=>?_);obtain⟨el,P⟩:=pP y S e2;have j:z.toArray.size=M.length:=by exact el
     refine⟨It,_,_,_,_,St,_,rfl,Wk,st,fp,by rw[j];exact C,CmpOf.ints_lt (λi=>M.getD i 0) (λi v hv=>P i v (by simpa using hv)),λv h' tk hP kk=>?_⟩;have l:=hP;rw[j,Ht]at l;obtain⟨t,rfl⟩:=P _ v l;exact⟨.int _,H,f.kept (uw kp L kk),⟨t,rfl⟩,q U H _ (Le.refl _ _) O (.int _)⟩
   .rw[d_ C]at q;exact q.elim
 .cases rp with
  |cons u F =>
   cases F with
   |cons R t2 =>
    cases t2;cases u;cases R;exact oq g.calm Jr s Z H _ us Q f r ⟨_,_,rfl,q U H _ (Le.refl _ _) O (.int _)⟩
 .exact q.elim
end
def RH.loose{K:g_}{mg:Aa}{U:Q6}{H:Hp}{h:MH}(r:RH K mg U H h){p:Addr}(j:H p=Y)(i:HO):RH K mg U (lg H p i) h/\Le U H U (lg H p i):=by
 have f:∀n a,U[n]?=J a->a≠p:=λn a e z=>by
  obtain⟨B,_,q⟩:=r.obj e;rw[z,j]at q;exact q.some rfl
 have l:Le U H U (lg H p i):=⟨⟨[],by simp⟩,λa xs e=>by rw[aT (bv e j)];exact e,λa y u e=>by rw[aT (bv e j)];exact e⟩;exact⟨⟨r.len,r.nd,λn a o e1 e2=>by rw[aT (f n a e1)];exact(r.at' n a o e1 e2).le l⟩,l⟩
section
variable{X:Cx}{N W G:Q1}{k:Nat}
def jC(xs:Q0)(i:Int)(v:PV):Q0 :=
 let k:=if i<0 then(i+(xs.length:Int)).toNat else min i.toNat xs.length
 xs.take k++v::xs.drop k
def jU(n:Nat)(a:Q0)(h:MH):RN:=match a with
 |[.int i,v]=>(match h[n]? with
  |some (.lst xs)=>if(-(2^63)<=i/\i<2^63)/\xs.length<sizeLine then .ok .non (h.set n (.lst (jC xs i v)))else .bad
  |_=>.bad)
 |_=>.bad
def vA:AJ X "list.insert" (BK X jU):=by
 intro Jr s Z H x vs v us Q l rx rv ⟨U,h,n,a,ps,e,en,rh,rp,q⟩;subst e;obtain⟨o,eo,ro⟩:=rh.obj en;unfold jU at q
 split at q
 .rename_i i O
  cases rp with
  |cons r1 t1 =>
   cases t1 with
   |cons r2 t2 =>
    cases t2;cases r1;rw[eo]at q
    cases o with
    |lst xs =>
     dsimp only at q;by_cases B:(-(2^63)<=i/\i<2^63)/\xs.length<sizeLine
     .rw[b_ B]at q;obtain⟨ys,ey,L⟩:=ro;cases rx
      cases rv with
      |cons C P=>cases P with
       |cons M R =>
        cases R
        rename_i S u1 u2
        obtain⟨t,rfl⟩:=C;obtain⟨z,f,nn,r,j,e⟩:=l.lstM ey
        let kk:=if i<0 then(i+(f.length:Int)).toNat else min i.toNat f.length
        have y:RPs X.K U H (jC xs i O) (ys.take kk++S::ys.drop kk):=by
         have:(if i<0 then(i+(xs.length:Int)).toNat else min i.toNat xs.length)=kk:=by rw[L.length,j]
         unfold jC;rw[this];exact(L.take kk).append (.cons r2 (L.drop kk))
        obtain⟨F,l'⟩:=rh.put en (o:=.lst (jC xs i O)) ⟨_,rfl,y⟩;refine call_meets PySem.F.slot_list_insert ⟨_,e,rfl⟩ PySem.F.entry_list_insert (PySem.F.args_list_insert_3 _ _ _) (AutoListH.list_insert_list_int_val_1 a f.toArray nn i t u2 (by rw[fitsIndex_both B.1.1 B.1.2];simp) (by rw[n9];ext)) ⟨e,?_⟩;have u:=(r.take kk).append (.cons M (r.drop kk));have E:(ys.take kk++S::ys.drop kk).length<=sizeLine:=by
         rw[<-y.length];have e1:(jC xs i O).length=xs.length+1:=by unfold jC;simp only[v3,y_,AG,DM];ext
         ext
        refine⟨.non,_,l.lset (its':=f.take kk++u2::f.drop kk) ey e ?_ u E,rfl,q U _ .non l' F .non⟩;simp[kk,List.extract];refine C2 ?_;rw[DM];exact ii _
     .rw[d_ B]at q;exact q.elim
    |_=>exact q.elim
 .exact q.elim
def lZ:∀(n:Nat)(lo:Int)(a:Q7),a.length=n->(∀(i:Nat)(v:Value),a[i]?=J v->∃t,v=.int (lo+i) t)->au ((List.range n).map λi=>V.int (lo+(i:Nat))) a
 |0,lo,a,f,_=>by cases a with|nil=>exact .nil|cons _ _=>simp at f
 |n+1,lo,a,f,h=>by
  cases a with
  |nil=>simp at f
  |cons u a =>
   rw[Pu,nt,zu];obtain⟨t,e⟩:=h 0 u rfl;refine .cons ⟨t,e⟩ ?_;have j:=lZ n (lo+1) a (by simpa using f) λi v hv=>by
    obtain⟨t,e⟩:=h (i+1) v (by simpa using hv);exact⟨t,by rw[e];congr 1;push_cast;ext⟩
   have e2:((λi=>V.int (lo+((i:Nat):Int)))∘Nat.succ)=λi=>V.int (lo+1+((i:Nat):Int)):=by funext i;simp only[Function.comp];congr 1;push_cast;ext
   rw[e2];exact j
def oG{K:g_}{U:Q6}{H:Hp}{lo:Int}:∀(l:Q4),RPs K U H (l.map λ(i:Nat)=>PV.int (lo+(i:Int))) (l.map λ(i:Nat)=>V.int (lo+(i:Int)))
 |[]=>.nil
 |i::l=>.cons (.int _) (oG l)
end
end MM
namespace SetT
open PySem.SetTable
def dP(xs:Array Nat):Prop:=∀a b u v:Nat,a<b->xs[a]?=J u->xs[b]?=J v->u<v
def yZ(xs:Array Nat)(j:Nat)(H:dP xs):∀l lo i:Nat,i-lo<=l->lo<=i->i<=xs.size ->
  (∀a v,xs[a]?=J v->a<lo->v<j)->(∀a v,xs[a]?=J v->i<=a->j<=v) ->
  below.go xs j l lo i<=xs.size/\(∀a v,xs[a]?=J v->a<below.go xs j l lo i->v<j) /\
   (∀a v,xs[a]?=J v->below.go xs j l lo i<=a->j<=v):=by
 intro l
 induction l with
 |zero =>
  intro lo i P Q E C z
  have:lo=i:=by lia
  subst this;exact⟨E,C,z⟩
 |succ f M =>
  intro lo i P Q E C z;unfold below.go;by_cases y:lo<i
  .simp only[y,if_true];have u:(lo+i)/2<xs.size:=by lia
   have B:xs[(lo+i)/2]?=J (xs[(lo+i)/2]'u):=Ij u;have hd:xs.getD ((lo+i)/2) j=xs[(lo+i)/2]'u:=by simp[Array.getD,u]
   rw[hd];by_cases F:xs[(lo+i)/2]'u<j
   .simp only[F,if_true];apply M
    .lia
    .lia
    .lia
    .intro a v r L;by_cases G:a=(lo+i)/2
     .subst G;rw[B]at r;cases r;exact F
     .have:=H a ((lo+i)/2) v _ ⋯ r B;lia
    .exact z
   .simp only[F,if_false];apply M
    .lia
    .lia
    .lia
    .exact C
    .intro a v r O;by_cases G:a=(lo+i)/2
     .subst G;rw[B]at r;cases r;lia
     .have:=H ((lo+i)/2) a _ v ⋯ B r;lia
  .simp only[y,if_false]
   have:lo=i:=by lia
   subst this;exact⟨E,C,z⟩
def dv(xs:Array Nat)(j:Nat)(f:dP xs):
  below xs j<=xs.size/\(∀a v,xs[a]?=J v->a<below xs j->v<j)/\(∀a v,xs[a]?=J v->below xs j<=a->j<=v):=by
 apply yZ xs j f
 .lia
 .lia
 .lia
 .lia
 .intro a v i h
  simp_all
def gD(xs:Array Nat)(i j:Nat)(f:dP xs)(h:xs[i]?=J j):below xs j=i:=by
 obtain⟨_,y,u⟩:=dv xs j f;by_cases z:i<below xs j
 .have:=y i j h z;lia
 .by_cases r:below xs j=i
  .exact r
  .have a:below xs j<i:=by lia
   have B:i<xs.size:=by grind
   have l:xs[below xs j]?=J (xs[below xs j]'⋯):=Ij ⋯;have C:=f _ i _ j a l h;have E:=u _ _ l (ii _);lia
def zg(a:Array Nat)(s:Nat):Prop:=∃i:Nat,a[i]?=J s
def sL(j:Nat):has (#[]:Array Nat) j=T:=by unfold has;simp
def oz(t:SetTable)(a:dP t.place)(i s:Nat)(h:t.place[i]?=J s):t.slot s=.live i:=by unfold SetTable.slot;simp only[gD t.place i s a h,h];simp
def uz(t:SetTable)(hd:t.dummies=#[])(s:Nat)(h:¬zg t.place s):t.slot s=.empty:=by
 unfold SetTable.slot;simp only[hd,sL];split
 .rename_i a
  exact absurd ⟨_,by simpa using a⟩ h
 .simp
def bU(xs:Array α)(p:Nat)(x:α)(l:p<=xs.size)(i:Nat):
  (insertAt xs p x)[i]?=if i<p then xs[i]? else if i=p then J x else xs[i-1]?:=by
 unfold insertAt;have e1:(xs.extract 0 p).size=p:=by simp;lia
 rw[Array.getElem?_append];simp only[AV,e1];split
 .rw[Array.getElem?_push];simp only[e1];split
  .rename_i a;subst a;simp
  .rw[Ik];lia
 .have a:¬i<p:=by lia
  have j:¬i=p:=by lia
  rw[Ik];have e2:p+(i-(p+1))=i-1:=by lia
  simp only[e2];split
  .rfl
  .rename_i f
   rw[MP];simp at f;lia
def cK(xs:Array α)(p:Nat)(x:α)(a:p<=xs.size):(insertAt xs p x).size=xs.size+1:=by unfold insertAt;simp;lia
def rD(f:α->β)(xs:Array α)(p:Nat)(x:α):(insertAt xs p x).map f=insertAt (xs.map f) p (f x):=by unfold insertAt;simp
def lL(x M:Nat):x % (M+1)<=M:=DL (Nat.mod_lt x (Nat.succ_pos M))
def zA(M:Nat)(p:Probe):Probe :=
 if p.more>0 then { p with j:=p.j+1,more:=p.more-1} else
 { p with j:=(leap M p.i p.perturb).1,more:=runEnd M (leap M p.i p.perturb).1-(leap M p.i p.perturb).1,i:=(leap M p.i p.perturb).1,perturb:=(leap M p.i p.perturb).2}
def ut(t:SetTable)(p:Probe):t.advance p=zA t.mask p:=by unfold SetTable.advance zA;rfl
def BR(M:Nat)(h:Int):Probe:={ j:=bits h % (M+1),more:=runEnd M (bits h % (M+1))-bits h % (M+1),i:=bits h % (M+1),perturb:=bits h,dummy:=Y}
def st(M:Nat)(h:Int):Nat->Probe
 |0=>BR M h
 |n+1=>zA M (st M h n)
def sl(M:Nat)(h:Int)(n:Nat):Nat:=(st M h n).j
def fB(M i:Nat)(h:i<=M):i<=runEnd M i/\runEnd M i<=M/\runEnd M i-i<=9:=by unfold runEnd;split<;>lia
def vo(M:Nat)(h:Int)(n:Nat):(st M h n).i<=M/\(st M h n).j+(st M h n).more=runEnd M (st M h n).i/\(st M h n).dummy=Y:=by
 induction n with
 |zero =>
  have a:bits h % (M+1)<=M:=lL _ _
  have:=fB M _ a
  refine⟨a,?_,rfl⟩;show bits h % (M+1)+(runEnd M (bits h % (M+1))-bits h % (M+1))=runEnd M (bits h % (M+1));lia
 |succ n f =>
  show(zA M (st M h n)).i<=M/\(zA M (st M h n)).j+(zA M (st M h n)).more=runEnd M (zA M (st M h n)).i/\(zA M (st M h n)).dummy=Y;unfold zA;split
  .lia
  .have a:(leap M (st M h n).i (st M h n).perturb).1<=M:=lL _ _
   have:=fB M _ a
   grind
def Dq(M:Nat)(h:Int)(n:Nat):sl M h n<=M:=by
 have:=vo M h n
 have a:=fB M _ this.1;unfold sl;lia
def base(M:Nat)(h:Int):Nat->Nat×Nat
 |0=>(bits h % (M+1),bits h)
 |b+1=>leap M (base M h b).1 (base M h b).2
def m8(M:Nat)(h:Int)(b:Nat):(base M h b).1<=M:=by
 cases b with
 |zero=>exact lL _ _
 |succ b =>
  exact lL _ _
def tb(M:Nat)(h:Int):Nat->Nat
 |0=>0
 |b+1=>tb M h b+(runEnd M (base M h b).1-(base M h b).1)+1
def JR(M:Nat)(h:Int)(b:Nat):tb M h b<=10*b:=by
 induction b with
 |zero=>exact ii _
 |succ b a =>
  have:=fB M _ (m8 M h b)
  show tb M h b+(runEnd M (base M h b).1-(base M h b).1)+1<=10*(b+1);lia
def JS(M:Nat)(h:Int)(b k:Nat):Probe :=
 { j:=(base M h b).1+k,more:=runEnd M (base M h b).1-(base M h b).1-k,i:=(base M h b).1,perturb:=(base M h b).2,dummy:=Y}
def rg(M:Nat)(h:Int)(b:Nat):∀k,k<=runEnd M (base M h b).1-(base M h b).1->st M h (tb M h b+k)=JS M h b k:=by
 induction b with
 |zero =>
  intro k
  induction k with
  |zero=>intro _;rfl
  |succ k f =>
   intro i;show zA M (st M h (tb M h 0+k))=_;rw[f ⋯];unfold zA JS;lia
 |succ b a =>
  intro k
  induction k with
  |zero =>
   intro _;show zA M (st M h (tb M h b+(runEnd M (base M h b).1-(base M h b).1)))=_;rw[a _ (ii _)];unfold zA JS;simp;exact⟨rfl,rfl,rfl,rfl⟩
  |succ k f =>
   intro i;show zA M (st M h (tb M h (b+1)+k))=_;rw[f ⋯];unfold zA JS
   have:runEnd M (base M h (b+1)).1-(base M h (b+1)).1-k>0:=by lia
   lia
def BS(h:Int):bits h<2^64:=by unfold bits;lia
def vh(M:Nat)(h:Int):∀b,(base M h b).2=bits h/32^b:=by
 intro b
 induction b with
 |zero=>simp[base]
 |succ b a =>
  show(base M h b).2/32=_;rw[a,Nat.div_div_eq_div_mul,Nat.pow_succ]
def uH(M:Nat)(h:Int)(b:Nat)(a:13<=b):(base M h b).2=0:=by rw[vh];apply Nat.div_eq_of_lt;have f:=BS h;have i:32^13<=32^b:=Nat.pow_le_pow_right (by decide) a;lia
def zB(M:Nat):Nat->Nat->Nat
 |0,x=>x
 |n+1,x=>(zB M n x*5+1) % (M+1)
def yw(M:Nat)(h:Int)(n:Nat):(base M h (13+n)).1=zB M n (base M h 13).1:=by
 induction n with
 |zero=>rfl
 |succ n a =>
  show((base M h (13+n)).1*5+1+(base M h (13+n)).2/32) % (M+1)=(zB M n (base M h 13).1*5+1) % (M+1);rw[a,uH M h (13+n) ⋯]
def j6(M:Nat)(a b x:Nat):zB M (a+b) x=zB M a (zB M b x):=by
 induction a with
 |zero=>simp[zB]
 |succ a f=>rw[Nat.succ_add];show(zB M (a+b) x*5+1) % (M+1)=(zB M a (zB M b x)*5+1) % (M+1);rw[f]
def HR(M:Nat):Nat->Nat->Q4
 |0,_=>[]
 |n+1,x=>x::HR M n ((x*5+1) % (M+1))
def xR(M n x:Nat):zB M n ((x*5+1) % (M+1))=zB M (n+1) x:=by
 have:=j6 M n 1 x
 rw[this];rfl
def si(M:Nat)(s:Nat):∀n x,s∈HR M n x->∃m,m<n/\zB M m x=s:=by
 intro n
 induction n with
 |zero=>intro x h;cases h
 |succ n a =>
  intro x h
  cases h with
  |head=>exact⟨0,⋯,rfl⟩
  |tail _ h =>
   obtain⟨m,f,e⟩:=a _ h;exact⟨m+1,⋯,by rw[<-e,xR]⟩
def eP(M:Nat):Prop:=zB M (M+1) 0=0/\∀s,s<=M->s∈HR M (M+1) 0
set_option maxRecDepth 100000 in
theorem JT:eP 7:=⟨by decide,by
 have:∀s:Fin 8,(HR 7 8 0).contains s.val=I:=by decide
 intro s a;have:=this ⟨s,⋯⟩;simpa using this⟩
set_option maxRecDepth 100000 in
theorem Fi:eP 31:=⟨by decide,by
 have:(List.range 32).all (λs=>(HR 31 32 0).contains s)=I:=by decide
 intro s f;have a:=Lw.mp this s (by simp;lia)
 simpa using a⟩
set_option maxRecDepth 100000 in
theorem BU:eP 127:=⟨by decide,by
 have:(List.range 128).all (λs=>(HR 127 128 0).contains s)=I:=by decide
 intro s f;have a:=Lw.mp this s (by simp;lia)
 simpa using a⟩
def vX(M:Nat)(hf:eP M)(x s:Nat)(l:x<=M)(j:s<=M):∃m,m<=2*M+1/\m<=M/\zB M m x=s:=by
 obtain⟨a,r,f⟩:=si M x _ _ (hf.2 x l);obtain⟨b,u,i⟩:=si M s _ _ (hf.2 s j);by_cases h:a<=b
 .refine⟨b-a,⋯,⋯,?_⟩;rw[<-f,<-j6,DK h];exact i
 .refine⟨M+1-a+b,⋯,⋯,?_⟩;rw[<-f,<-j6]
  have:M+1-a+b+a=b+(M+1):=by lia
  rw[this,j6,hf.1];exact i
def mG(M:Nat)(hf:eP M)(h:Int)(s:Nat)(a:s<=M):∃b,b<=M+13/\(base M h b).1=s:=by obtain⟨m,_,f,e⟩:=vX M hf (base M h 13).1 s (m8 M h 13) a;exact⟨13+m,⋯,by rw[yw];exact e⟩
def yP(M:Nat)(hf:eP M)(h:Int)(s:Nat)(a:s<=M):∃n,n<=10*(M+13)/\sl M h n=s:=by
 obtain⟨b,f,e⟩:=mG M hf h s a;refine⟨tb M h b,?_,?_⟩
 .have:=JR M h b;lia
 .have:=rg M h b 0 ⋯
  unfold sl;rw[Nat.add_zero]at this;rw[this];show(base M h b).1+0=s;lia
structure WF(M:Nat)(pl:Array Nat)(hs:Array Int):Prop where
 rise:dP pl
 bound:∀i v:Nat,pl[i]?=J v->v<=M
 size:pl.size=hs.size
 reach:∀(i:Nat)(h:Int)(v:Nat),hs[i]?=J h->pl[i]?=J v->∃n,sl M h n=v/\∀m,m<n->zg pl (sl M h m)
def dC{α:Type}{xs:Array α}{i:Nat}{v:α}(h:xs[i]?=J v):i<xs.size:=by grind
def dh{α:Type}(xs:Array α)(i:Nat)(h:i<xs.size):∃v,xs[i]?=J v:=⟨_,Ij h⟩
def v7(j:Array Nat)(r:dP j)(M:Nat)(h:∀s,s<=M->zg j s):∀s i:Nat,s<=M->j[i]?=J s->s<=i:=by
 intro s
 induction s with
 |zero=>lia
 |succ s u =>
  intro i z a;obtain⟨k,f⟩:=h s ⋯;have y:=u k ⋯ f;by_cases B:k<i
  .lia
  .by_cases l:k=i
   .subst l;rw[f]at a;cases a
   .have:=r i k (s+1) s ⋯ a f;lia
def vB(f:Array Nat)(l:dP f)(M:Nat)(u:f.size<=M):∃s,s<=M/\¬zg f s:=by
 apply Classical.byContradiction;intro r;have a:∀s,s<=M->zg f s:=by
  intro s y
  simp_all
 obtain⟨i,j⟩:=a M (ii _)
 have:=v7 f l M a M i (ii _) j
 have:=dC j
 lia
def JU(P:Nat->Prop):∀n,P n->∃m,m<=n/\P m/\∀k,k<m->¬P k:=by
 intro n
 induction n using Nat.strongRecOn with
 |_ n j =>
  intro i;by_cases h:∃k,k<n/\P k
  .obtain⟨k,f,a⟩:=h;obtain⟨m,l,r⟩:=j k f a;exact⟨m,⋯,r⟩
  .exact⟨n,ii _,i,λk f a=>h ⟨k,f,a⟩⟩
def u9(a:Array Nat)(u:dP a)(M:Nat)(hf:eP M)(i:a.size<=M)(h:Int):
  ∃n,n<=10*(M+13)/\¬zg a (sl M h n)/\∀m,m<n->zg a (sl M h m):=by
 obtain⟨s,l,f⟩:=vB a u M i;obtain⟨n,z,e⟩:=yP M hf h s l;obtain⟨m,B,r,j⟩:=JU (λn=>¬zg a (sl M h n)) n (by rw[e];exact f);exact⟨m,⋯,r,λk y=>Classical.byContradiction (j k y)⟩
def xJ(t:SetTable)(hd:t.dummies=#[])(O:dP t.place)(hashAt:Nat->Int)(h:Int)(y:Nat)(Q:¬zg t.place (sl t.mask h y))(B:∀m,m<y->zg t.place (sl t.mask h m)):
  ∀j n,n<=y->y-n<j ->
   (probe.go t hashAt h j (st t.mask h n)=J (.empty (sl t.mask h y) Y) /\
    ∀m i:Nat,n<=m->m<y->t.place[i]?=J (sl t.mask h m)->hashAt i≠h) \/
   (∃m i:Nat,n<=m/\m<y/\t.place[i]?=J (sl t.mask h m)/\hashAt i=h /\
    probe.go t hashAt h j (st t.mask h n)=J (.candidate (sl t.mask h m) i (st t.mask h (m+1))) /\
    ∀z l:Nat,n<=z->z<m->t.place[l]?=J (sl t.mask h z)->hashAt l≠h):=by
 intro j
 induction j with
 |zero=>intro n h1 h2;lia
 |succ f ih =>
  intro n h1 h2;by_cases he:n=y
  .subst he;left;refine⟨?_,λm i L F=>by lia⟩;unfold probe.go;have u:=uz t hd _ Q;unfold sl at u;simp only[u]
   have:=(vo t.mask h n).2.2
   rw[this];rfl
  .obtain⟨i,H⟩:=B n ⋯;have u:=oz t O i _ H;have R:probe.go t hashAt h (f+1) (st t.mask h n)=if hashAt i==h then J (.candidate (sl t.mask h n) i (st t.mask h (n+1)))else probe.go t hashAt h f (st t.mask h (n+1)):=by
    conv=>lhs;unfold probe.go
    unfold sl at u;simp only[u,ut];rfl
   by_cases C:hashAt i=h
   .right;refine⟨n,i,ii _,⋯,H,C,?_,λz l L F=>by lia⟩;rw[R];simp[C]
   .have G:probe.go t hashAt h (f+1) (st t.mask h n)=probe.go t hashAt h f (st t.mask h (n+1)):=by
     rw[R];simp[C]
    rw[G];have r:∀l:Nat,t.place[l]?=J (sl t.mask h n)->l=i:=by intro l P;have a:=gD _ _ _ O H;have b:=gD _ _ _ O P;lia
    rcases ih (n+1) ⋯ ⋯with⟨U,Z⟩|⟨m,i2,q1,X,q3,W,S,q6⟩
    .left;refine⟨U,?_⟩;intro m l L F E;by_cases M:m=n
     .subst M;rw[r l E];exact C
     .exact Z m l ⋯ F E
    .right;refine⟨m,i2,⋯,X,q3,W,S,?_⟩;intro z l L F E;by_cases M:z=n
     .subst M;rw[r l E];exact C
     .exact q6 z l ⋯ F E
def nA(f:Array Nat)(p s:Nat)(l:p<=f.size)(x:Nat)(h:zg f x):zg (insertAt f p s) x:=by
 obtain⟨i,j⟩:=h;by_cases r:i<p
 .exact⟨i,by rw[bU _ _ _ l];simp[r,j]⟩
 .refine⟨i+1,?_⟩;rw[bU _ _ _ l];have a:¬i+1<p:=by lia
  have b:¬i+1=p:=by lia
  simp[a,b,j]
def xq(j:Array Nat)(s:Nat)(r:dP j)(C:¬zg j s):dP (insertAt j (below j s) s):=by
 obtain⟨H,y,B⟩:=dv j s r;intro a b u v z l f;rw[bU _ _ _ H]at l f;have E:=λi F=>C ⟨i,F⟩
 split at l
 .rename_i G
  have L:=y a u l G
  split at f
  .exact r a b u v z l f
  .split at f
   .cases f;exact L
   .exact r a (b-1) u v ⋯ l f
 .split at l
  .have e1:¬b<below j s:=by lia
   have e2:¬b=below j s:=by lia
   simp only[e1,e2,if_false]at f
   have:=B (b-1) v f ⋯
   have M:v≠s:=λe=>E (b-1) (by rw[f,e]);lia
  .have e1:¬b<below j s:=by lia
   have e2:¬b=below j s:=by lia
   simp only[e1,e2]at f;exact r (a-1) (b-1) u v ⋯ l f
def Fj(M:Nat)(a:Array Nat)(B:Array Int)(w:WF M a B)(h:Int)(n:Nat)(C:¬zg a (sl M h n))(y:∀m,m<n->zg a (sl M h m)):
  WF M (insertAt a (below a (sl M h n)) (sl M h n)) (insertAt B (below a (sl M h n)) h):=by
 have l:=(dv a (sl M h n) w.rise).1;have z:below a (sl M h n)<=B.size:=by have:=w.size;lia
 refine⟨xq a _ w.rise C,?_,?_,?_⟩
 .intro i v j;rw[bU _ _ _ l]at j
  split at j
  .exact w.bound _ _ j
  .split at j
   .cases j;exact Dq M h n
   .exact w.bound _ _ j
 .rw[cK _ _ _ l,cK _ _ _ z,w.size]
 .intro i G v f hv;rw[bU _ _ _ l]at hv;rw[bU _ _ _ z]at f
  split at hv
  .rename_i E
   simp only[E]at f;obtain⟨k,e,r⟩:=w.reach i G v f hv;exact⟨k,e,λm u=>nA _ _ _ l _ (r m u)⟩
  .rename_i E
   split at hv
   .rename_i F
    simp only[F]at f;cases hv;simp at f;cases f;exact⟨n,rfl,λm u=>nA _ _ _ l _ (y m u)⟩
   .rename_i F
    simp only[E,F]at f;obtain⟨k,e,r⟩:=w.reach (i-1) G v f hv;exact⟨k,e,λm u=>nA _ _ _ l _ (r m u)⟩
def gM(ow:Array (RV))(s:Nat):Prop:=∃i:Nat,ow[s]?=J (J i)
structure LC(M:Nat)(ow:Array (RV))(k:Nat)(hs:Array Int):Prop where
 size:ow.size=M+1
 own:∀i,i<k->∃j:Nat,ow[j]?=J (J i)
 inj:∀i j j':Nat,ow[j]?=J (J i)->ow[j']?=J (J i)->j=j'
 lt:∀j i:Nat,ow[j]?=J (J i)->i<k
 reach:∀(j i:Nat)(h:Int),ow[j]?=J (J i)->hs[i]?=J h->∃n,sl M h n=j/\∀m,m<n->gM ow (sl M h m)
def iV(ow:Array (RV))(s:Nat)(a:s<ow.size):(ow.getD s (J 0)).isNone=I↔¬gM ow s:=by
 unfold gM
 have:=Ij a
 simp only[Array.getD,a,this]
 cases h:ow[s]'a with
 |none=>simp[h]
 |some v=>simp[h]
def vn(M:Nat)(hf:eP M)(ow:Array (RV))(S:ow.size=M+1)(h:Int)(s:Nat)(X:s<=M)(G:¬gM ow s):
  ∀a b,M+13<b+a->(∀m,m<tb M h b->gM ow (sl M h m)) ->
   ∃n,layClean.free M ow a (base M h b).1 (base M h b).2=J (sl M h n)/\¬gM ow (sl M h n)/\∀m,m<n->gM ow (sl M h m):=by
 have r:∀b c,b<c->tb M h b<tb M h c:=by
  intro b c Z
  induction c with
  |zero=>lia
  |succ c H =>
   show tb M h b<tb M h c+(runEnd M (base M h c).1-(base M h c).1)+1;by_cases e:b=c
   .subst e;lia
   .have:=H ⋯;lia
 intro a
 induction a with
 |zero =>
  intro b U i;obtain⟨C,Q,e⟩:=mG M hf h s X;have B:=r C b ⋯;have u:=i _ B;have y:=rg M h C 0 ⋯;rw[Nat.add_zero]at y;unfold sl at u;rw[y]at u
  have:(JS M h C 0).j=s:=by show(base M h C).1+0=s;lia
  rw[this]at u;exact absurd u G
 |succ f H =>
  intro b U i;have E:=m8 M h b;have ab:=fB M _ E;have l:∀k,k<=runEnd M (base M h b).1-(base M h b).1->sl M h (tb M h b+k)=(base M h b).1+k:=by intro k O;unfold sl;rw[rg M h b k O];rfl
  unfold layClean.free
  cases HV:(List.range (runEnd M (base M h b).1+1-(base M h b).1)).find? λk=>(ow.getD ((base M h b).1+k) (J 0)).isNone with
  |some k =>
   rw[List.find?_range_eq_some]at HV;obtain⟨W,R,p3⟩:=HV;have O:k<runEnd M (base M h b).1+1-(base M h b).1:=by simpa using R
   refine⟨tb M h b+k,?_,?_,?_⟩
   .rw[l k ⋯]
   .rw[l k ⋯];exact(iV ow _ ⋯).mp W
   .intro m L;by_cases B:m<tb M h b
    .exact i m B
    .have e:m=tb M h b+(m-tb M h b):=by lia
     rw[e,l _ ⋯];have u:=p3 (m-tb M h b) ⋯;have y:=iV ow ((base M h b).1+(m-tb M h b)) ⋯;apply Classical.byContradiction;intro F;rw[y.mpr F]at u;simp at u
  |none =>
   rw[List.find?_range_eq_none]at HV;have z:∀m,m<tb M h (b+1)->gM ow (sl M h m):=by
    intro m L;by_cases B:m<tb M h b
    .exact i m B
    .have P:m<tb M h b+(runEnd M (base M h b).1-(base M h b).1)+1:=L;have e:m=tb M h b+(m-tb M h b):=by lia
     rw[e,l _ ⋯];have u:=HV (m-tb M h b) ⋯;have y:=iV ow ((base M h b).1+(m-tb M h b)) ⋯;apply Classical.byContradiction;intro F;rw[y.mpr F]at u;simp at u
   exact H (b+1) ⋯ z
def BV(M:Nat)(ow:Array (RV))(k:Nat)(j:Array Int)(c:LC M ow k j)(L:k<=M):∃s,s<=M/\¬gM ow s:=by
 apply Classical.byContradiction;intro z;have r:=λs j=>Classical.byContradiction (λh=>z ⟨s,j,h⟩);have f:∀s,s<=M->ow[s]?=J (J ((ow.getD s Y).getD 0)):=by
  intro s j;obtain⟨i,H⟩:=r s j
  simp_all
 have y:((List.range (M+1)).map (λs=>(ow.getD s Y).getD 0)).Nodup:=by unfold List.Nodup;rw[Iu];apply List.Pairwise.imp_of_mem _ Lx;intro a b G E u e;have B:=f a (by simp at G;lia);have C:=f b (by simp at E;lia);rw[<-e]at C;exact u (c.inj _ _ _ B C)
 have l:((List.range (M+1)).map (λs=>(ow.getD s Y).getD 0)) ⊆ List.range k:=by
  intro x F;obtain⟨s,j,e⟩:=n6.mp F;have B:=f s (by simp at j;lia)
  have:=c.lt _ _ B
  rw[e]at this;simpa using this
 have:=List.Nodup.length_le_of_subset y l
 simp at this;lia
def BW(M:Nat)(hf:eP M)(ow:Array (RV))(k:Nat)(B:Array Int)(c:LC M ow k B)(S:k<=M)(h:Int)(P:B[k]?=J h):
  ∃j,layClean.free M ow (turns M) (bits h % (M+1)) (bits h)=J j/\LC M (ow.setIfInBounds j (J k)) (k+1) B:=by
 obtain⟨s,H,F⟩:=BV M ow k B c S;obtain⟨n,e,G,z⟩:=vn M hf ow c.size h s H F (turns M) 0 (by unfold turns;lia) (by intro m y;exact absurd y (Nat.not_lt_zero m));refine⟨sl M h n,e,?_⟩;have C:=Dq M h n;have E:sl M h n<ow.size:=by have:=c.size;lia
 have a:∀s:Nat,(ow.setIfInBounds (sl M h n) (J k))[s]?=if s=sl M h n then J (J k)else ow[s]?:=by
  intro s;by_cases e:sl M h n=s
  .subst e;simp[E]
  .have e2:¬s=sl M h n:=λx=>e x.symm;simp[e,e2]
 have l:∀s,gM ow s->gM (ow.setIfInBounds (sl M h n) (J k)) s:=by
  intro s ⟨i,L⟩;by_cases e:s=sl M h n
  .exact⟨k,by rw[a];simp[e]⟩
  .exact⟨i,by rw[a];simp[e,L]⟩
 refine⟨by simp[c.size],?_,?_,?_,?_⟩
 .intro i L;by_cases e:i=k
  .subst e;exact⟨sl M h n,by rw[a];simp⟩
  .obtain⟨j,C⟩:=c.own i ⋯;refine⟨j,?_⟩;rw[a]
   have:¬j=sl M h n:=λe=>G ⟨i,by rw[<-e];exact C⟩
   simp[this,C]
 .intro i j Q f u;rw[a]at f u;by_cases e1:j=sl M h n<;>by_cases e2:Q=sl M h n
  .rw[e1,e2]
  .simp[e1]at f;simp[e2]at u
   have:=c.lt _ _ u;lia
  .simp[e1]at f;simp[e2]at u
   have:=c.lt _ _ f;lia
  .simp[e1]at f;simp[e2]at u;exact c.inj _ _ _ f u
 .intro j i f;rw[a]at f;by_cases e1:j=sl M h n
  .simp[e1]at f;lia
  .simp[e1]at f;have:=c.lt _ _ f;lia
 .intro j i U f u;rw[a]at f;by_cases e1:j=sl M h n
  .simp[e1]at f;subst f;rw[P]at u;cases u;exact⟨n,e1.symm,λm y=>l _ (z m y)⟩
  .simp[e1]at f;obtain⟨O,R,r⟩:=c.reach _ _ _ f u;exact⟨O,R,λm y=>l _ (r m y)⟩
def Fk(M:Nat)(l:Array Int):LC M (Array.replicate (M+1) Y) 0 l:=by
 have a:∀(s i:Nat),(Array.replicate (M+1) (Y:RV))[s]?≠J (J i):=by
  intro s i h;rw[Array.getElem?_replicate]at h
  split at h<;>cases h
 exact⟨by simp,λi r=>by lia,λi j u h=>absurd h (a _ _),λj i h=>absurd h (a _ _),λj i h f=>absurd f (a _ _)⟩
def oP(M:Nat)(hf:eP M)(f:Array Int)(z:f.size<=M):∀(l:Q2)(ow:Array (RV))(k:Nat),
  LC M ow k f->(∀q:Nat,l[q]?=f[k+q]?)->k<=f.size ->
  ∃a,(l.foldl (init:=J (ow,k)) λu h=>do
   let(owner,k) <-u
   let j <-layClean.free M owner (turns M) (bits h % (M+1)) (bits h)
   pure (owner.setIfInBounds j (J k),k+1))=J (a,f.size)/\LC M a f.size f:=by
 intro l
 induction l with
 |nil =>
  intro ow k c i E
  have:=i 0
  simp at this;have r:k=f.size:=by lia
  subst r;exact⟨ow,rfl,c⟩
 |cons h l F =>
  intro ow k c i E;have y:=i 0;have B:=dC y.symm;obtain⟨j,e,C⟩:=BW M hf ow k f c ⋯ h y.symm
  obtain⟨a,e2,G⟩:=F (ow.setIfInBounds j (J k)) (k+1) C (by
   intro q
   have:=i (q+1)
   simp at this
   lia) ⋯
  refine⟨a,?_,G⟩;rw[<-e2];simp[e]
def rL(M:Nat)(hf:eP M)(a:Array Int)(f:a.size<=M):∃ow,layClean M a=J ow/\LC M ow a.size a:=by
 obtain⟨ow,e,c⟩:=oP M hf a f a.toList _ 0 (Fk M a) (by simp) ⋯;refine⟨ow,?_,c⟩;unfold layClean
 simp_all
def BX{L:Q4}(h:L.Pairwise (·<·)):dP L.toArray:=by intro a b u v l y z;simp at y z;obtain⟨j,f⟩:=qp.mp y;obtain⟨r,i⟩:=qp.mp z;rw[<-f,<-i];exact Lj.mp h a b j r l
def dJ{α β:Type}(f:α->Option β):∀(l:List α),(∀x,x∈l->∃v,f x=J v)->∀q:Nat,(l.filterMap f)[q]?=l[q]?.bind f:=by
 intro l
 induction l with
 |nil=>intro _ q;simp
 |cons x l i =>
  intro h q;obtain⟨v,hv⟩:=h x (by simp);rw[Lq,hv]
  cases q with
  |zero=>simp[hv]
  |succ q=>exact i (λy a=>h y (by simp[a])) q
def ja{α:Type}(a:Array α):(List.range a.size).filterMap (a[·]?)=a.toList:=by
 apply Iv;intro q;rw[dJ _ _ (by intro x f;exact dh a x (by simpa using f))];by_cases h:q<a.size
 .rw[List.getElem?_range h];simp
 .rw[DI (by simp;lia)];simp;lia
def BY{α:Type}(M:Nat)(hf:eP M)(E:α->Int)(B:Array α)(Z:B.size<=M)(fin mv:Nat)(led W:Bool):
  ∃pl u,laid M fin mv led W (B.map E)=J ({ mask:=M,place:=pl,dummies:=#[],finger:=fin,led:=led,moves:=mv,plain:=W},u) /\
   WF M pl ((u.filterMap (B[·]?)).map E)/\(u.filterMap (B[·]?)).size=B.size/\(u.filterMap (B[·]?)).toList.Perm B.toList /\
   u.toList.Perm (List.range B.size):=by
 obtain⟨ow,e,c⟩:=rL M hf (B.map E) (by simpa using Z);have hn:(B.map E).size=B.size:=by simp
 let f:Nat->Option (Nat×Nat):=λj=>(ow.getD j Y).map (j,·)
 let l:=(List.range (M+1)).filterMap f
 have H:∀j b,f j=J b↔(b.1=j/\ow[j]?=J (J b.2)):=by
  intro j b;show(ow.getD j Y).map (j,·)=J b↔_;by_cases F:j<ow.size
  .have:ow[j]?=J (ow[j]'F):=Ij F
   simp only[Array.getD,F,dite_true,this]
   cases h:ow[j]'F with
   |none=>simp[h]
   |some v =>
    simp[h];constructor
    .intro e;subst e;simp
    .rintro⟨e1,e2⟩;cases b;simp_all
  .simp[Array.getD,F]
 have z:∀b:Nat×Nat,b∈l↔ow[b.1]?=J (J b.2):=by
  intro b;rw[C5];constructor
  .rintro⟨j,_,F⟩;obtain⟨e1,e2⟩:=(H j b).mp F;rw[e1];exact e2
  .intro h;refine⟨b.1,?_,(H b.1 b).mpr ⟨rfl,h⟩⟩
   have:=dC h
   have:=c.size
   simp;lia
 have S:l.Pairwise (λa b=>a.1<b.1):=by show((List.range (M+1)).filterMap f).Pairwise _;rw[MN];apply List.Pairwise.imp _ (Pw (n:=M+1));intro a b U x hx y hy;rw[((H _ _).mp hx).1,((H _ _).mp hy).1];exact U
 have ab:(l.map (·.2)).Nodup:=by
  unfold List.Nodup;rw[Iu];apply List.Pairwise.imp_of_mem _ S;intro a b ha L U e;have Q:=(z a).mp ha;have R:=(z b).mp L;have e':a.2=b.2:=e;rw[<-e']at R
  have:=c.inj _ _ _ Q R
  lia
 have C:(l.map (·.2)).Perm (List.range B.size):=by
  rw[Pk ab Lx];intro i;rw[n6];constructor
  .rintro⟨b,L,e⟩
   have:=c.lt _ _ ((z b).mp L)
   rw[e]at this;simpa using this
  .intro X;obtain⟨j,F⟩:=c.own i (by simpa using X);exact⟨(j,i),(z (j,i)).mpr F,rfl⟩
 have O:((l.map (·.2)).filterMap (B[·]?)).Perm B.toList:=by
  have:=C.filterMap (B[·]?)
  rw[ja]at this;exact this
 have G:((l.map (·.2)).toArray.filterMap (B[·]?)).toList=(l.map (·.2)).filterMap (B[·]?):=by simp
 have P:∀x,x∈l.map (·.2)->∃v,B[x]?=J v:=by
  intro x hx
  have:=C.mem_iff.mp hx
  exact dh B x (by simpa using this)
 refine⟨(l.map (·.1)).toArray,(l.map (·.2)).toArray,?_,?_,?_,?_,?_⟩
 .unfold laid;rw[e];rfl
 .refine⟨BX (by rw[Iu];exact S),?_,?_,?_⟩
  .intro i v X;simp at X;obtain⟨b,L⟩:=X;have Q:=(z _).mp (zI L);have R:=dC Q
   have:=c.size
   have h3:v<ow.size:=R;lia
  .have Q:=O.length_eq;have R:(((l.map (·.2)).toArray.filterMap (B[·]?)).map E).size=((l.map (·.2)).filterMap (B[·]?)).length:=by
    rw[Array.size_map,<-yU,G]
   rw[R,Q]
   have:=C.length_eq
   simp at this ⊢;exact this
  .intro i h v hh hv;simp at hv;obtain⟨b,L⟩:=hv;have Q:=(z _).mp (zI L);have h3:((l.map (·.2)).toArray.filterMap (B[·]?))[i]?=B[b]?:=by
    rw[<-uY,G,dJ _ _ P];simp[L]
   rw[Array.getElem?_map,h3]at hh;obtain⟨n,en,r⟩:=c.reach v b h Q (by rw[Array.getElem?_map];exact hh);refine⟨n,en,?_⟩;intro m hm;obtain⟨i',aj⟩:=r m hm;have h5:=(z (sl M h m,i')).mpr aj;have h6:sl M h m∈l.map (·.1):=n6.mpr ⟨_,h5,rfl⟩;obtain⟨q,hq⟩:=yL.mp h6;exact⟨q,by simpa using hq⟩
 .rw[<-yU,G,O.length_eq];simp
 .rw[G];exact O
 .exact C
section
variable{prog:Program}{w:World}{A:Around}{E:RQ}{s:Shared}
abbrev TK(prog:Program)(w:World)(h:Heap)(k:Q2)(a:Addr):Prop:=IsTupleKey (intKind prog w) h k a
abbrev TH(prog:Program)(w:World)(k:Q2):Int:=tupleKeyHash (intKind prog w) k
def ItemsAre.ints(h:ItemsAre (intKind prog w) l f):∀v∈f,∃i t,v=.int i t:=by
 induction h with
 |nil=>intro v hv;cases hv
 |@cons k v l f j _ r =>
  intro u a
  cases a with
  |head =>
   cases v with
   |int i t=>exact⟨i,t,rfl⟩
   |_=>simp[intKind,Value.isInt]at j
  |tail _ a=>exact r u a
def iA(B:TK prog w s.heap ks a)(h:Q I s):wpAny (model prog w) A (hashByValue 8 (.ref a)) Q E s:=by
 have G:=B.typeIs;obtain⟨o,items,n,H,_,hd,C⟩:=B;refine c_ (wpAny_specialOf G F.slot_tuple_hash.lookup ?_);refine c_ (wpAny_seqItems H hd ?_);refine c_ ?_;rw[<-Array.forIn_toList];refine wpAny_forIn_list _ (λf r l=>r.1=Y/\l=s/\∀v∈f,∃i t,v=Value.int i t) _ ?_ ?_ _ _ ⟨rfl,rfl,ItemsAre.ints C⟩
 .rintro v f r l ⟨z,rfl,j⟩;obtain⟨i,t,rfl⟩:=j v rl;exact h_ ⟨rfl,rfl,λu y=>j u (l_ _ y)⟩
 .rintro⟨L,M⟩ l ⟨z,rfl,_⟩;subst z;exact h_ h
def fv(B:TK prog w s.heap ks a)(h:Q T s):wpAny (model prog w) A (ofAClassStatement 8 (.ref a)) Q E s:=by
 have F:=B.typeIs;obtain⟨o,items,n,G,_,hd,C⟩:=B;unfold ofAClassStatement;refine c_ (wpAny_typeOf F ?_);refine c_ ?_;refine h_ ?_;refine c_ (wpAny_seqItems G hd ?_);refine c_ ?_;rw[<-Array.forIn_toList];refine wpAny_forIn_list _ (λf r l=>r.1=Y/\l=s/\∀v∈f,∃i t,v=Value.int i t) _ ?_ ?_ _ _ ⟨rfl,rfl,ItemsAre.ints C⟩
 .rintro v f r l ⟨z,rfl,j⟩;obtain⟨i,t,rfl⟩:=j v rl;exact h_ ⟨rfl,rfl,λu y=>j u (l_ _ y)⟩
 .rintro⟨H,L⟩ l ⟨z,rfl,_⟩;subst z;exact h_ h
def mL{k:Q2}{a:Addr}{stored:Q7}{Q:Bool->Shared->Prop}(G:TK prog w s.heap k a)(f:∀v∈stored,∃b y,v=.ref b/\TK prog w s.heap y b)(h:Q T s):wpAny (model prog w) A (searchCouldBeSeen (.ref a) stored) Q E s:=by
 refine c_ ?_;refine wpAny_forIn_list _ (λj r z=>r.1=Y/\z=s/\∀v∈j,∃b y,v=Value.ref b/\TK prog w s.heap y b) _ ?_ ?_ _ _ ⟨rfl,rfl,f⟩
 .rintro v j r z ⟨C,rfl,f⟩;obtain⟨b,y,rfl,F⟩:=f v rl;have i:=λu B=>f u (l_ _ B);by_cases l:(a==b||(carriedByValue (.ref a)&&carriedByValue (.ref b)))=I
  .rw[b_ l];exact h_ ⟨rfl,rfl,i⟩
  .rw[d_ l];refine c_ (wpAny_eqIsQuiet_tuple G ?_);refine c_ (wpAny_eqIsQuiet_tuple F ?_);refine c_ (fv G ?_);refine c_ (fv F ?_);exact h_ ⟨rfl,rfl,i⟩
 .rintro⟨H,L⟩ z ⟨C,rfl,_⟩;subst C;exact h_ h
def fD(prog:Program)(w:World)(P:Addr->Prop)(h:Heap)(f:Array (Int×Value))(j:Q3):Prop :=
 f.size=j.length/\∀(i:Nat)(e:Int×Value)(k:Q2),f[i]?=J e->j[i]?=J k->∃a,e.2=.ref a/\TK prog w h k a/\e.1=TH prog w k/\P a
def fD.at'{P:Addr->Prop}{h:Heap}{j:Array (Int×Value)}{f:Q3}(x:fD prog w P h j f){i:Nat}{e:Int×Value}(l:j[i]?=J e):
  ∃k a,f[i]?=J k/\e.2=.ref a/\TK prog w h k a/\e.1=TH prog w k:=by
 have r:=dC l
 have:i<f.length:=by rw[<-x.1];exact r
 obtain⟨a,u,z,y,_⟩:=x.2 i e f[i] l (by simp);exact⟨f[i],a,by simp,u,z,y⟩
def fD.key{P:Addr->Prop}{h:Heap}{f:Array (Int×Value)}{j:Q3}(x:fD prog w P h f j){i:Nat}{k:Q2}(l:j[i]?=J k):
  ∃e a,f[i]?=J e/\e.2=.ref a/\TK prog w h k a/\e.1=TH prog w k:=by
 have u:i<f.size:=by rw[x.1];exact(qp.mp l).1
 obtain⟨e,r⟩:=dh f i u;obtain⟨a,y,B,z,_⟩:=x.2 i e k r l;exact⟨e,a,r,y,B,z⟩
def vU{P:Addr->Prop}{S:Addr}{o:Obj}{r:Array (Int×Value)}{ep:Nat}{t:SetTable}{ks:Q3}{k:Q2}{a:Addr}{n1:Nat}{Q:SetFound->Shared->Prop}(hu:A.units<cLine)(ho:s.heap.get? S=J o)(hd:o.data=.set r ep t)(hf:t.fits r.size=I)(a7:t.dummies=#[])(am:t.gaveWay=T)(W:WF t.mask t.place (r.map (·.1)))(u:fD prog w P s.heap r ks)(hk:TK prog w s.heap k a)(M:¬zg t.place (sl t.mask (TH prog w k) n1))(an:∀m,m<n1->zg t.place (sl t.mask (TH prog w k) m))(bj:n1<10*turns t.mask)(h1:k∈ks->Q (.there Y) s)(h2:k∉ks->Q (.free (sl t.mask (TH prog w k) n1) T) s):
  ∀(l n:Nat)(j:Option Probe),j.getD (t.probeStart (TH prog w k))=st t.mask (TH prog w k) n->n<=n1->n1-n<l ->
   (∀(m i:Nat),m<n->t.place[i]?=J (sl t.mask (TH prog w k) m)->ks[i]?≠J k) ->
   wpAny (model prog w) A (setSearchFrom S (.ref a) (TH prog w k) I l j) Q E s:=by
 intro l
 induction l with
 |zero=>intro n j _ _ h;lia
 |succ f ih =>
  intro n j a6 hn be z;unfold setSearchFrom;refine c_ (wpAny_setState_of ho hd hf ?_);dsimp only;rw[am];simp only[o0,if_false];rw[a6];have a5:=xJ t a7 W.rise (λi=>(r[i]?.map (·.1)).getD 0) (TH prog w k) n1 M an (10*turns t.mask) n hn ⋯;have F:∀i:Nat,ks[i]?=J k->∃m,m<n1/\t.place[i]?=J (sl t.mask (TH prog w k) m):=by
   intro i hi;obtain⟨e,b,C,_,_,U⟩:=u.key hi;have hl:i<t.place.size:=by have:=W.size;simp at this;rw[this];exact dC C
   obtain⟨v,hv⟩:=dh t.place i hl;obtain⟨m,em,hm⟩:=W.reach i (TH prog w k) v (by simp[C,U]) hv;refine⟨m,?_,by rw[em];exact hv⟩;by_cases ax:m<n1
   .exact ax
   .exfalso;by_cases R:m=n1
    .subst R;exact M ⟨i,by rw[em];exact hv⟩
    .exact M (hm n1 ⋯)
  rcases a5 with⟨e1,e2⟩|⟨m,i,q1,q2,q3,q4,q5,q6⟩
  .have L:t.probe (λi=>(r[i]?.map (·.1)).getD 0) (TH prog w k) (st t.mask (TH prog w k) n)=J (.empty (sl t.mask (TH prog w k) n1) Y):=e1;erw [L];dsimp only;refine h_ (h2 λab=>?_);obtain⟨i,hi⟩:=yL.mp ab;obtain⟨m,hm,hp⟩:=F i hi;by_cases a4:m<n
   .exact z m i a4 hp hi
   .obtain⟨e,b,C,_,_,U⟩:=u.key hi;exact e2 m i ⋯ hm hp (by simp[C,U])
  .have L:t.probe (λi=>(r[i]?.map (·.1)).getD 0) (TH prog w k) (st t.mask (TH prog w k) n)=J (.candidate (sl t.mask (TH prog w k) m) i (st t.mask (TH prog w k) (m+1))):=q5;erw [L];dsimp only;have a0:i<r.size:=by
    have:=W.size;simp at this;rw[<-this];exact dC q3
   obtain⟨e,C⟩:=dh r i a0;obtain⟨k',b,ap,eb,hb,U⟩:=u.at' C;obtain⟨eh,ev⟩:=e;simp only at eb U;subst eb
   have aj:wpAny (model prog w) A (do
     let J (_,y):=r[i]? | unsupported "internal:set-entry"
     let B <-holding [y] (eqBool y (.ref a))
     let(es',_,t') <-setState S
     if I&&B then return .there Y
     let J same:=t'.sameMemory t.moves t.mask|unsupported "set.changed-during-lookup:is-the-new-block-at-the-old-address"
     let X <-match(if same then t'.slot (sl t.mask (TH prog w k) m)else .empty) with
      |.live H=>match es'[H]? with
       |some (_,y')=>do pure (if <-isSame y' y then J H else Y)
       |none=>pure Y
      |_=>pure Y
     match X with
     |none=>rule "set.search.anew";setSearchFrom S (.ref a) (TH prog w k) I f Y
     |some H=>if B then return .there (J H)else setSearchFrom S (.ref a) (TH prog w k) I f (J (st t.mask (TH prog w k) (m+1)))) Q E s:=by
    rw[C];dsimp only;refine c_ (wpAny_holding (wpAny_eqBool_tuple hu hb hk ?_));refine c_ (wpAny_setState_of ho hd hf ?_);dsimp only;by_cases Z:k'=k
    .subst Z;simp only[decide_true,M5,if_true];exact h_ (h1 (yL.mpr ⟨i,ap⟩))
    .simp only[Z,decide_false,M2,o0,if_false];have as:t.sameMemory t.moves t.mask=J I:=by unfold SetTable.sameMemory;simp
     rw[as];simp only[if_true];rw[oz t W.rise i _ q3];dsimp only;rw[C];dsimp only;refine c_ (wpAny_isSame_ref_self ?_);simp only[if_true];refine c_ (h_ ?_);dsimp only;refine ih (m+1) _ rfl ⋯ ⋯ ?_;intro m' H bi O G;by_cases a3:m'<n
     .exact z m' H a3 O G
     .by_cases a8:m'<m
      .obtain⟨e,b,C,_,_,U⟩:=u.key G;exact q6 m' H ⋯ a8 O (by simp[C,U])
      .have:m'=m:=by lia
       subst this;have a1:=gD _ _ _ W.rise q3;have a2:=gD _ _ _ W.rise O
       have:H=i:=by lia
       subst this;rw[ap]at G;exact Z (Option.some.inj G)
   cases a9:t.led with
   |true =>
    simp only[HG,o0,if_false];exact aj
   |false =>
    simp only[M3,if_true];refine c_ (mL hk ?_ ?_)
    .intro v hv;obtain⟨e,ay,rfl⟩:=n6.mp hv;have R:e∈r.toList:=by
      have:e∈r.filter (λx=>x.1==TH prog w k):=Array.mem_toList_iff.mp ay
      exact Array.mem_toList_iff.mpr (Array.mem_filter.mp this).1
     obtain⟨q,hq⟩:=yL.mp R;obtain⟨k2,b2,_,e2,h2,_⟩:=u.at' (i:=q) (e:=e) (by simpa using hq);exact⟨b2,k2,e2,h2⟩
    .simp only[o0,if_false];exact aj
structure TTab(prog:Program)(w:World)(P:Addr->Prop)(h:Heap)(S:Addr)(led:Bool)(o:Obj)(es:Array (Int×Value))(ep:Nat)(t:SetTable)(ks:Q3):Prop where
 get:h.get? S=J o
 ex:o.ExactSet
 data:o.data=.set es ep t
 dm:t.dummies=#[]
 mask:t.mask=7\/t.mask=31\/t.mask=127
 plain:t.plain=I
 led':t.led=led
 wf:WF t.mask t.place (es.map (·.1))
 ents:fD prog w P h es ks
def j4(t:SetTable)(n:Nat):Prop:=n*5<t.mask*3
def cG(prog:Program)(w:World)(P:Addr->Prop)(h:Heap)(S:Addr)(led:Bool)(i:Q3):Prop :=
 ∃o f j t a,TTab prog w P h S led o f j t a/\j4 t f.size/\a.Perm i/\i.Nodup
def sd(h:M=7\/M=31\/M=127):eP M:=by
 rcases h with h|h | h<;>subst h
 .exact JT
 .exact Fi
 .exact BU
def TTab.size{P:Addr->Prop}{h:Heap}{S:Addr}{led:Bool}{o:Obj}{a:Array (Int×Value)}{i:Nat}{t:SetTable}{f:Q3}(x:TTab prog w P h S led o a i t f):t.place.size=a.size:=by have:=x.wf.size;simpa using this
def TTab.fits{P:Addr->Prop}{h:Heap}{S:Addr}{led:Bool}{o:Obj}{a:Array (Int×Value)}{j:Nat}{t:SetTable}{i:Q3}(x:TTab prog w P h S led o a j t i)(f:a.size<=t.mask):t.fits a.size=I:=by
 unfold SetTable.fits SetTable.fill
 have:=x.size
 simp[this,x.dm];exact f
def TTab.odd{P:Addr->Prop}{h:Heap}{S:Addr}{led:Bool}{o:Obj}{a:Array (Int×Value)}{i:Nat}{t:SetTable}{f:Q3}(x:TTab prog w P h S led o a i t f):t.gaveWay=T:=by unfold SetTable.gaveWay;rcases x.mask with h|h | h<;>rw[h]<;>rfl
def BZ(z:Heap.SameBut S h h')(r:h.get? S=J o)(j:o.ExactSet)(x:TK prog w h k a):TK prog w h' k a:=by
 obtain⟨u,items,n,f,i,hd,y⟩:=x;have l:a≠S:=by rintro rfl;obtain rfl:=Option.some.inj (f.symm.trans r);rw[j.1]at i;exact absurd i (by simp)
 exact⟨u,items,n,(z.2 a l).trans f,i,hd,y⟩
def oM(r:Heap.SameBut S h h')(l:h.get? S=J o)(j:o.ExactSet)(x:fD prog w P h es ks):fD prog w P h' es ks :=
 ⟨x.1,λi e k a b=>let⟨c,d,f,g⟩:=x.2 i e k a b;⟨c,d,BZ r l j f,g⟩⟩
def nT{h:Heap}{S:Addr}{o:Obj}{l a:Array (Int×Value)}{i:Nat}{t f:SetTable}(j:h.get? S=J o)(hd:o.data=.set l i t):
  (h.update S (Obj.putSet a f)).get? S=J { o with data:=.set a (i+1) f}:=by
 have:=Hs (Obj.putSet a f) j (by rw[putSet_of a f hd];rfl)
 rw[putSet_of a f hd]at this;exact this
def vy(x:fD prog w P h es ks)(f:Array Nat)(y:f.toList.Perm (List.range es.size)):
  fD prog w P h (f.filterMap (es[·]?)) (f.toList.filterMap (ks[·]?))/\(f.toList.filterMap (ks[·]?)).Perm ks:=by
 have l:∀i,i∈f.toList->i<es.size:=λi j=>by simpa using y.mem_iff.mp j
 have F:=λi j=>dh es i (l i j);have G:∀i,i∈f.toList->∃v,ks[i]?=J v:=λi j=>⟨_,zF (by rw[<-x.1];exact l i j)⟩;have e1:(f.filterMap (es[·]?)).toList=f.toList.filterMap (es[·]?):=by simp
 have z:(f.toList.filterMap (ks[·]?)).Perm ks:=by
  have a:=y.filterMap (ks[·]?);have b:(List.range es.size).filterMap (ks[·]?)=ks:=by
   have:=ja ks.toArray
   simp only[Ht]at this;rw[x.1];exact this
  rw[b]at a;exact a
 have C:(f.toList.filterMap (es[·]?)).Perm es.toList:=by have a:=y.filterMap (es[·]?);rw[ja]at a;exact a
 refine⟨⟨?_,?_⟩,z⟩
 .rw[<-yU,e1,C.length_eq,z.length_eq,yU,x.1]
 .intro i e k r u;rw[<-uY,e1,dJ _ _ F]at r;rw[dJ _ _ G]at u
  cases B:f.toList[i]? with
  |none=>rw[B]at r;cases r
  |some q =>
   rw[B]at r u;exact x.2 q e k r u
def JV:SetTable.sizeAbove (SetTable.grown 5)=32:=by decide
def JW:SetTable.sizeAbove (SetTable.grown 19)=128:=by decide
def pK{P:Addr->Prop}{S:Addr}{led:Bool}{o:Obj}{l:Array (Int×Value)}{W:Nat}{t:SetTable}{O:Q3}{f M:Nat}{Q:Unit->Shared->Prop}(a:TTab prog w P s.heap S led o l W t O)(z:l.size<=t.mask)(R:SetTable.sizeAbove f=M+1)(j:M=7\/M=31\/M=127)(r:l.size*5<M*3)(h:∀B o' y H U u,Heap.SameBut S s.heap B->TTab prog w P B S led o' y H U u->j4 U y.size->u.Perm O->Q () { s with heap:=B}):
  wpAny (model prog w) A (setRelay S f) Q E s:=by
 obtain⟨L,i,e1,w1,F,p1,X⟩:=BY M (sd j) (λe:Int×Value=>e.1) l ⋯ t.finger (t.movedTo M) t.led t.plain;have G:t.relaid (l.map (·.1)) f=J ({ mask:=M,place:=L,dummies:=#[],finger:=t.finger,led:=t.led,moves:=t.movedTo M,plain:=t.plain},i):=by unfold SetTable.relaid;rw[R];exact e1
 refine c_ (wpAny_setState_of a.get a.data (a.fits z) ?_);dsimp only;have C:¬SetTable.sizeAbove f>sizeLine:=by rw[R];rcases j with h|h | h<;>rw[h]<;>decide
 rw[d_ C,G];have Z:l.size<=sizeLine:=by rw[sizeLine_eq];rcases j with h|h | h<;>lia
 refine c_ (?_:wpAny _ _ (if((i.filterMap (l[·]?)).size != l.size)=I then _ else _) _ _ _);rw[d_ (by simp[F])];refine h_ ?_;refine wpAny_storeSet_of a.get a.data ?_ (by rw[F];exact Z);have sb:=Heap.SameBut.update s.heap S (Obj.putSet (i.filterMap (l[·]?)) { mask:=M,place:=L,dummies:=#[],finger:=t.finger,led:=t.led,moves:=t.movedTo M,plain:=t.plain});obtain⟨n1,n2⟩:=vy a.ents i X;refine h _ _ _ _ _ _ sb ⟨nT a.get a.data,a.ex,rfl,rfl,j,a.plain,a.led',w1,oM sb a.get a.ex n1⟩ ?_ n2;rw[F];exact r
def xW(x:fD prog w P h es ks)(y:p<=es.size)(F:TK prog w h k a)(B:P a):
  fD prog w P h (insertAt es p (TH prog w k,.ref a)) (ks.take p++k::ks.drop p):=by
 have G:=x.1;refine⟨?_,?_⟩
 .rw[cK _ _ _ y];simp;lia
 .intro i e u j f;rw[bU _ _ _ y]at j;by_cases r:i<p
  .rw[b_ r]at j;rw[xu (by simp;lia),Lk r]at f;exact x.2 i e u j f
  .rw[d_ r]at j;rw[zE (by simp;lia)]at f;have l:(ks.take p).length=p:=by simp;lia
   rw[l]at f;by_cases z:i=p
   .rw[b_ z]at j
    have:i-p=0:=by lia
    rw[this]at f;simp at f;cases j;subst f;exact⟨a,rfl,F,rfl,B⟩
   .rw[d_ z]at j;obtain⟨q,C⟩:∃q,i-p=q+1:=⟨i-p-1,⋯⟩;rw[C,zG,Lu]at f
    have:p+q=i-1:=by lia
    rw[this]at f;exact x.2 (i-1) e u j f
def yG(p:Nat)(k:Q2):(ks.take p++k::ks.drop p).Perm (ks++[k]):=by have a:(ks.take p++k::ks.drop p).Perm (k::(ks.take p++ks.drop p)):=Iy;rw[C3]at a;exact a.trans (Pm k ks).symm
def Fl{P:Addr->Prop}{S a:Addr}{led:Bool}{H:Q3}{k:Q2}{Q:Bool->Shared->Prop}(hu:A.units<cLine)(f:cG prog w P s.heap S led H)(hk:TK prog w s.heap k a)(hP:P a)(a2:k∈H\/H.length<66)(h:∀b C,Heap.SameBut S s.heap C->cG prog w P C S led (if k∈H then H else H++[k])->Q b { s with heap:=C}):
  wpAny (model prog w) A (setAddHashed S (.ref a) (TH prog w k)) Q E s:=by
 obtain⟨o,z,ep,t,G,f,hr,W,ax⟩:=f;unfold j4 at hr;have Z:z.size<=t.mask:=by rcases f.mask with e|e | e<;>rw[e]at hr ⊢<;>lia
 have hf:=f.fits Z;have a4:t.place.size<=t.mask:=by rw[f.size];exact Z
 obtain⟨l,a7,ay,X⟩:=u9 t.place f.wf.rise t.mask (sd f.mask) a4 (TH prog w k);have a3:t.mask<=127:=by rcases f.mask with e|e | e<;>lia
 have a5:z.size=H.length:=by rw[f.ents.1,W.length_eq]
 refine wpAny_holding ?_;refine c_ (wpAny_setState_of f.get f.data hf ?_);dsimp only;have a1:byScan (.ref a) z=T:=rfl;rw[a1];unfold setSearch;refine c_ (vU (n1:=l) (ks:=G) hu f.get f.data hf f.dm f.odd f.wf f.ents hk ay X (by unfold turns;lia) ?_ ?_ 100000 0 Y rfl (ux _) ⋯ (λm i hm=>absurd hm (Nat.not_lt_zero m)))
 .intro L;have r:k∈H:=W.mem_iff.mp L;dsimp only;refine h_ ?_
  have:=h T s.heap (Heap.SameBut.refl _ _)
  rw[b_ r]at this;exact this ⟨o,z,ep,t,G,f,hr,W,ax⟩
 .intro L;have r:k∉H:=λx=>L (W.mem_iff.mpr x);have a6:H.length<66:=a2.resolve_left r;rw[d_ r]at h;dsimp only;refine c_ (wpAny_setState_of f.get f.data hf ?_);dsimp only;have as:t.put (sl t.mask (TH prog w k) l)=({ t with place:=insertAt t.place (below t.place (sl t.mask (TH prog w k) l)) (sl t.mask (TH prog w k) l)},below t.place (sl t.mask (TH prog w k) l)):=by
   unfold SetTable.put;simp only[f.dm,sL,o0,if_false]
  rw[as];dsimp only;rw[b_ f.plain];refine c_ (iA hk ?_);simp only[if_true];have hp:=(dv t.place (sl t.mask (TH prog w k) l) f.wf.rise).1;have a0:below t.place (sl t.mask (TH prog w k) l)<=z.size:=by rw[<-f.size];exact hp
  have F:=cK z (below t.place (sl t.mask (TH prog w k) l)) (TH prog w k,.ref a) a0;refine c_ (wpAny_storeSet_of f.get f.data ?_ (by rw[F,sizeLine_eq];lia))
  have sb:=Heap.SameBut.update s.heap S (Obj.putSet (insertAt z (below t.place (sl t.mask (TH prog w k) l)) (TH prog w k,.ref a))
   { t with place:=insertAt t.place (below t.place (sl t.mask (TH prog w k) l)) (sl t.mask (TH prog w k) l)})
  have T2:TTab prog w P (s.heap.update S (Obj.putSet (insertAt z (below t.place (sl t.mask (TH prog w k) l)) (TH prog w k,.ref a))
    { t with place:=insertAt t.place (below t.place (sl t.mask (TH prog w k) l)) (sl t.mask (TH prog w k) l)})) S led
    { o with data:=.set (insertAt z (below t.place (sl t.mask (TH prog w k) l)) (TH prog w k,.ref a)) (ep+1) { t with place:=insertAt t.place (below t.place (sl t.mask (TH prog w k) l)) (sl t.mask (TH prog w k) l)}}
    (insertAt z (below t.place (sl t.mask (TH prog w k) l)) (TH prog w k,.ref a)) (ep+1)
    { t with place:=insertAt t.place (below t.place (sl t.mask (TH prog w k) l)) (sl t.mask (TH prog w k) l)}
    (G.take (below t.place (sl t.mask (TH prog w k) l))++k::G.drop (below t.place (sl t.mask (TH prog w k) l))):=by
   refine⟨nT f.get f.data,f.ex,rfl,f.dm,f.mask,f.plain,f.led',?_,oM sb f.get f.ex (xW f.ents a0 hk hP)⟩;rw[rD];exact Fj t.mask t.place (z.map (·.1)) f.wf (TH prog w k) l ay X
  have O:(G.take (below t.place (sl t.mask (TH prog w k) l))++k::G.drop (below t.place (sl t.mask (TH prog w k) l))).Perm (H++[k]):=(yG _ k).trans (W.append_right [k]);have R:(H++[k]).Nodup:=by
   rw[zR];refine⟨ax,by simp,λx hx y hy=>?_⟩
   have:y=k:=by simpa using hy
   subst this;rintro rfl;exact r hx
  have U:({ t with place:=insertAt t.place (below t.place (sl t.mask (TH prog w k) l)) (sl t.mask (TH prog w k) l)}:SetTable).fill=z.size+1:=by unfold SetTable.fill;rw[cK _ _ _ hp,f.size];simp[f.dm]
  by_cases j:({ t with place:=insertAt t.place (below t.place (sl t.mask (TH prog w k) l)) (sl t.mask (TH prog w k) l)}:SetTable).tooFull=I
  .have B:(z.size+1)*5>=t.mask*3:=by
    unfold SetTable.tooFull at j;rw[U]at j;simpa using j
   rw[b_ (by rw[j];rfl)];have an:(t.mask=7/\z.size=4)\/(t.mask=31/\z.size=18):=by rcases f.mask with e|e | e<;>rw[e]at hr B<;>lia
   refine c_ (wpAny_mono (Q:=λ_ s'=>∃C,s'={ s with heap:=C}/\Heap.SameBut S s.heap C/\cG prog w P C S led (H++[k])) ?_ (λu s' hq=>?_) λ_ _ x=>x)
   .rcases an with⟨c1,c2⟩|⟨c1,c2⟩
    .have e5:z.size+1=5:=by lia
     rw[e5];refine pK (M:=31) (s:={ s with heap:=_}) T2 (by rw[F];show z.size+1<=t.mask;lia) JV (.inr (.inl rfl)) (by rw[F];lia) λC o' aj ap t' ab am T3 r3 p3=>?_;exact⟨C,rfl,sb.trans am,o',aj,ap,t',ab,T3,r3,p3.trans O,R⟩
    .have e5:z.size+1=19:=by lia
     rw[e5];refine pK (M:=127) (s:={ s with heap:=_}) T2 (by rw[F];show z.size+1<=t.mask;lia) JW (.inr (.inr rfl)) (by rw[F];lia) λC o' aj ap t' ab am T3 r3 p3=>?_;exact⟨C,rfl,sb.trans am,o',aj,ap,t',ab,T3,r3,p3.trans O,R⟩
   .obtain⟨C,rfl,q1,q2⟩:=hq;exact h_ (h I C q1 q2)
  .have B:(z.size+1)*5<t.mask*3:=by
    unfold SetTable.tooFull at j;rw[U]at j;simpa using j
   rw[d_ (by simpa using j)];refine h_ (h I _ sb ⟨_,_,_,_,_,T2,?_,O,R⟩);unfold j4;rw[F];exact B
end
end SetT
namespace SetT
open PySem.SetTable PyProof.Rows
def aZ(a:Q3)(k:Q2):Q3:=if k∈a then a else a++[k]
def mm(l:Q3):Q3:=l.foldl aZ []
def yi(l:Q3)(k:Q2):mm (l++[k])=aZ (mm l) k:=by unfold mm;rw[MY];rfl
def wM(a:Q3)(k:Q2):a.length<=(aZ a k).length:=by unfold aZ;split<;>simp
def wC(l:Q3):∀a:Q3,a.length<=(l.foldl aZ a).length:=by
 induction l with
 |nil=>intro a;exact ii _
 |cons k l f=>intro a;exact l7 (wM a k) (f _)
def pQ(l:Q3)(i:Nat):(mm (l.take i)).length<=(mm l).length:=by
 have h:mm l=(l.drop i).foldl aZ (mm (l.take i)):=by unfold mm;rw[<-MY,C3]
 rw[h];exact wC _ _
def o3{l:Q3}{i:Nat}{k:Q2}(h:l[i]?=J k):mm (l.take (i+1))=aZ (mm (l.take i)) k:=by rw[AH,h];exact yi _ _
def wJ(x:Q2)(l:Q3):∀f:Q3,x∈l.foldl aZ f↔x∈f\/x∈l:=by
 induction l with
 |nil=>simp
 |cons k l j =>
  intro f;rw[M1,j];unfold aZ;split
  .rename_i h
   constructor
   .rintro (a|a)
    .exact .inl a
    .exact .inr (l_ _ a)
   .rintro (a|a)
    .exact .inl a
    .rcases mu.mp a with rfl|i
     .exact .inl h
     .exact .inr i
  .constructor
   .rintro (a|a)
    .rcases mh.mp a with i|i
     .exact .inl i
     .simp_all
    .exact .inr (l_ _ a)
   .rintro (a|a)
    .exact .inl (sv _ a)
    .rcases mu.mp a with rfl|i
     .exact .inl (pk _ (by simp))
     .exact .inr i
def eU(x:Q2)(l:Q3):x∈mm l↔x∈l:=by unfold mm;rw[wJ];simp
section
variable{prog:Program}{w:World}{A:Around}{E:RQ}{s:Shared}
abbrev PB(H0:Heap)(R:Addr->Prop):Addr->Prop:=λa=>(∃o,H0.get? a=J o)/\R a
def zh(a h:Heap):Prop:=∀b o,a.get? b=J o->h.get? b=J o
def ji(x:zh H0 h)(t:TK prog w H0 k a):TK prog w h k a:=by obtain⟨o,items,n,f,r⟩:=t;exact⟨o,items,n,x a o f,r⟩
def tW{j h l:Heap}{F:Addr->Prop}{S:Addr}{led:Bool}{C:Q3}(f:cG prog w (PB j F) h S led C)(G:∀o,h.get? S=J o->l.get? S=J o)(x:zh j h)(H:zh j l):cG prog w (PB j F) l S led C:=by
 obtain⟨o,L,Q,t,u,f,r,p,n⟩:=f;refine⟨o,L,Q,t,u,⟨G o f.get,f.ex,f.data,f.dm,f.mask,f.plain,f.led',f.wf,f.ents.1,λi e k a b=>?_⟩,r,p,n⟩;obtain⟨c,d,⟨y,z,m,M,q⟩,g,⟨O,B⟩,P⟩:=f.ents.2 i e k a b;have e1:=Option.some.inj (M.symm.trans (x c O B));subst e1;exact⟨c,d,⟨y,z,m,H c y B,q⟩,g,⟨y,B⟩,P⟩
def Aq(prog:Program)(w:World)(j:Heap)(items:Array Value)(f:Q3):Prop :=
 items.size=f.length/\∀(i:Nat)(v:Value)(k:Q2),items[i]?=J v->f[i]?=J k->∃a,v=.ref a/\TK prog w j k a
def uB{h:Heap}{S:Addr}{led:Bool}{P:Addr->Prop}{o:Obj}(l:h.get? S=J o)(j:o.ExactSet)(hd:o.data=.set #[] 0 (.fresh 0 0 led)):cG prog w P h S led []:=by
 refine⟨o,#[],0,.fresh 0 0 led,[],⟨l,j,hd,rfl,.inl rfl,rfl,rfl,⟨?_,?_,by simp[SetTable.fresh],?_⟩,rfl,?_⟩,?_,List.Perm.nil,LA⟩
 .intro a b u v _ f;simp[SetTable.fresh]at f
 .intro i v f;simp[SetTable.fresh]at f
 .intro i r v f;simp at f
 .intro i e k f;simp at f
 .show 0*5<7*3;decide
def rQ{RR:Addr->Prop}{R:Result->Shared->Prop}{H:Addr}{fp M:Q6}{G:Array GenState->Array GenState->Prop}{n:Nat}{P:Nat->Value->Prop}{St:Nat->Shared->Prop}(hu:A.units+1<cLine)(W:WalksS prog w A.in1 H fp M G n P St)(S:Addr)(U:S∉fp){H0:Heap}(a0:H0.get? S=Y)(ay:∀b∈M,H0.get? b=Y){led:Bool}(u:Q3)(hn:u.length=n)(an:∀i v k,P i v->u[i]?=J k->∃a,v=.ref a/\TK prog w H0 k a/\RR a)(a5:(mm u).length<=66):
  ∀(c i:Nat)(s:Shared),n-i=c->i<=n->St i s->zh H0 s.heap->cG prog w (PB H0 RR) s.heap S led (mm (u.take i)) ->
   (∀f,Moved (S::M) G s f->zh H0 f.heap->cG prog w (PB H0 RR) f.heap S led (mm u)->R (.ok (.ret .none)) f) ->
   codeAny (model prog w) A (.builtin "set.update.loop" ⟨[.ref S,.ref H],[]⟩) R s:=by
 have ab:S∉M:=λh=>U (W.sub _ h);have y:∀b∈M,b∈S::M:=λb C=>l_ _ C;have l:∀{s f:Shared},Moved M G s f->zh H0 s.heap->zh H0 f.heap:=λ{s f} r x b o e =>
  r.heap b o (λC=>by rw[ay b C]at e;cases e) (x b o e)
 intro c
 induction c with
 |zero =>
  intro i s hc hi B O hT z;have e:i=n:=by lia
  subst e;refine codeAny_builtin F.entry_set_update_loop ?_;refine c_ (W.done s _ _ B λf r=>?_);rw[<-hn,AU]at hT;exact h_ (z f (r.mono y) (l r O) (tW hT (λo e=>r.heap S o ab e) O (l r O)))
 |succ c ih =>
  intro i s hc hi B O hT z;have Z:i<n:=by lia
  refine codeAny_builtin F.entry_set_update_loop ?_;show wpAny _ A.in1 (pyNext (.ref H) >>= _) _ _ s;refine c_ (W.item i s _ _ Z B λv f hP aj r=>?_);obtain⟨k,hk⟩:∃k,u[i]?=J k:=⟨_,zF ⋯⟩;obtain⟨a,rfl,ha,hR⟩:=an i v k hP hk;have L:=l r O;have ax:=tW hT (λo e=>r.heap S o ab e) O L;have am:=ji L ha;show wpAny _ A.in1 (holding [Value.ref a] (setAdd S (.ref a)) >>= _) _ _ f;refine c_ (wpAny_holding ?_);unfold setAdd;refine wpAny_holding ?_;refine c_ (wpAny_pyHash_tuple (by show A.units+1<cLine;exact hu) am ?_);have j:=o3 hk;refine Fl (s:={ f with toks:=f.toks+(k.length+1)}) (by show A.units+1<cLine;exact hu) ax am ⟨let⟨o,_,_,ho,_⟩:=ha;⟨o,ho⟩,hR⟩ ?_ λb h' sb a3=>?_
  .have h1:=pQ u (i+1);rw[j]at h1;unfold aZ at h1;by_cases Q:k∈mm (u.take i)
   .exact .inl Q
   .rw[d_ Q]at h1;simp at h1;exact .inr ⋯
  .have as:zh H0 h':=λq o e=>by
    have hq:q≠S:=by rintro rfl;rw[a0]at e;cases e
    exact(sb.2 q hq).trans (L q o e)
   have ap:cG prog w (PB H0 RR) h' S led (mm (u.take (i+1))):=by rw[j];exact a3
   refine h_ ⟨plainId_quiet F.plain_set_update_loop _,ih (i+1) _ ⋯ Z (W.frame _ f _ _ aj (Hz _ _) λb C o e=>?_) as ap λa4 X a1 a2=>?_⟩
   .exact (sb.2 b (λq:b=S=>U (by rw[<-q];exact C))).trans e
   .refine z a4 (Moved.trans W.gtrans ((r.mono y).then_heap (Hz _ _) λb o C e=>?_) X) a1 a2;exact(sb.2 b (λq:b=S=>C (by rw[q];exact rl))).trans e
abbrev fI(led:Bool):Obj:={ cls:=.type "set",dict:=Y,data:=.set #[] 0 (.fresh 0 0 led)}
abbrev bC(w:World):Bool:=!w.params.followText "set-order"
def xK(a:Value)(h:Q₁ (.ref s.heap.objs.size) { s with heap:=s.heap.push (fI (bC w))}):
  codeAny (model prog w) A (.call (.builtin "set.__new__") ⟨[.type "set",a],[]⟩) (wants Q₁ E) s:=by
 refine codeAny_of_tree ?_;refine c_ (wpAny_of_eq (PySem.F.newCall_set_1 a) (h_ ⟨plainId_quiet PySem.F.plain_set_new _,codeAny_builtin PySem.F.entry_set_new ?_⟩));unfold Builtin.«set.__new__» Builtin.Frozenset.newClass;have f:=sub_set_self
 wp_walk
 refine wpAny_askSetting (h_ ?_);dsimp only;simp only[newObj];exact c_ (wpAny_alloc (h_ (h_ h)))
set_option maxHeartbeats 3200000 in
theorem oU(hh:A.handled=Y)(hu:A.units+16<cLine)(hl:s.heap.IsList l items)(hk:Aq prog w s.heap items ks)(ay:(mm ks).length<=66)(h:∀(u:Heap)(L:Nat),cG prog w (PB s.heap λa=>Value.ref a∈items.toList) u s.heap.objs.size (bC w) (mm ks)->zh s.heap u->s.toks<=L->Q (.ref s.heap.objs.size) { s with heap:=u,toks:=L}):
  wpAny (model prog w) A (call (.type "set") [.ref l]) Q E s:=by
 obtain⟨c,tl,a3⟩:=PySem.F.called_set.mro;have aj:=PySem.F.called_set.made;have a2:=PySem.F.called_set.sub;refine wpAny_call (codeAny_of_tree ?_);show wpAny _ _ (callAny (.type "set") _) _ _ _;refine h_ ⟨Code.quiet_builtin _ (by decide +kernel),codeAny_builtin PySem.F.entry_type_call ?_⟩;rw[Around.under_plain (weight_type_call_type "set" [.ref l] []) rfl];have h1:=PySem.F.called_set.notType;have h2:=PySem.F.called_set.canCreate;have a8:=PySem.F.typeCall_set_1 (.ref l)
 repeat (any_goals (first | assumption | wp_step))
 refine codeAny_mono (xK (.ref l) (E:=E) (Q₁:=λobj z=>obj=.ref s.heap.objs.size/\z={ s with heap:=s.heap.push (fI (bC w))}) ⟨rfl,rfl⟩) λr z hr=>?_
 cases r with
 |error e=>exact hr
 |ok fl =>
  cases fl with
  |ret obj =>
   obtain⟨rfl,rfl⟩:=hr;have hS:(s.heap.push (fI (bC w))).get? s.heap.objs.size=J (fI (bC w)):=tr _ rfl;have hT:Shared.TypeIs { s with heap:=s.heap.push (fI (bC w))} (.ref s.heap.objs.size) "set":=⟨_,hS,rfl⟩;have a9:=PySem.F.called_set.init.lookup;have be:=PySem.F.called_set.init.bind (.ref s.heap.objs.size)
   repeat (any_goals (first | assumption | wp_step))
   refine codeAny_mono (codeAny_call_builtin (R:=wants (λr B=>r=.none/\∃u L,B={ s with heap:=u,toks:=L} /\
     cG prog w (PB s.heap λa=>Value.ref a∈items.toList) u s.heap.objs.size (bC w) (mm ks)/\zh s.heap u/\s.toks<=L) E) PySem.F.called_set.init.plain PySem.F.entry_set_init (check_set_init_1 hT ?_)) λP B f=>?_
   .have a6:=hl;obtain⟨ol,X,U,nl,W⟩:=hl;obtain⟨a1,G,ap,y⟩:=ol;simp only at U W;subst U;subst W;have S:(s.heap.push (fI (bC w))).get? l=J { cls:=.type "list",dict:=G,data:=.seq items nl,slots:=y}:=n3 _ X;have a5:=PySem.F.sub_list_set;have a4:=PySem.F.sub_list_frozenset;have a7:(Value.type "list" == Value.type "dict")=T:=by decide
    have ab:(s.heap.push (fI (bC w))).IsList l items:=⟨_,S,rfl,nl,rfl⟩;unfold Builtin.«set.__init__» noKeywords Builtin.Frozenset.updateFrom;generalize as:pyIter=PI
    wp_walk
    subst as;refine wpAny_pyIter_list ab ?_;refine c_ (wpAny_runValue ?_);have M:l<s.heap.objs.size:=mj X;have am:A.in1.in1.in1.handled=Y:=by simp[hh]
    have F:(s.heap.push (fI (bC w))).objs.size=s.heap.objs.size+1:=by rw[C8]
    have O:l≠(s.heap.push (fI (bC w))).objs.size:=by rw[F];exact tt (Hv M)
    have j:∀b,s.heap.objs.size<=b->s.heap.get? b=Y:=λb hb=>by
     cases e:s.heap.get? b with
     |none=>rfl
     |some o=>exact absurd (mj e) (Nat.not_lt.mpr hb)
    have an:s.heap.objs.size∉[(s.heap.push (fI (bC w))).objs.size,l]:=by rw[F];simp only[mu,Hy,or_false,not_or];exact⟨tt (Hx _),AX M⟩
    refine rQ (RR:=λa=>Value.ref a∈items.toList) (H0:=s.heap) (led:=bC w) (by show A.units+1+1+1<cLine;lia) ((Walks.list am _ l O items).toS) s.heap.objs.size an (j _ (ii _)) ?_ ks hk.1.symm
     (λi v k hv a0=>let⟨a,e,t⟩:=hk.2 i v k hv a0;⟨a,e,t,by rw[<-e];exact yL.mpr ⟨i,by rw[uY];exact hv⟩⟩) ay (items.size-0) 0 _ ⋯ (ux _) ⟨⟨_,tr _ rfl,rfl,rfl⟩,(ab.push _)⟩ ?_ ?_ ?_
    .intro b hb
     have:b=(s.heap.push (fI (bC w))).objs.size:=by simpa using hb
     rw[this,F];exact j _ (C9 _)
    .intro b o e;exact n3 _ (n3 _ e)
    .exact uB (o:=fI (bC w)) (n3 _ hS) ⟨rfl,rfl,rfl⟩ rfl
    .intro s' hm hx C;obtain⟨u,g',d',Z,ax⟩:=s';have eg:g'=s.gens:=hm.gens;have ed:d'=s.drawn:=hm.drawn;have eo:ax=s.os:=hm.os;have et:s.toks<=Z:=hm.toks;subst eg;subst ed;subst eo;show wpAny _ _ _ _ _ _;refine h_ ?_;show wpAny _ _ (ret Value.none) _ _ _;exact h_ ⟨rfl,u,Z,rfl,C,hx,et⟩
   .cases P with
    |error e=>exact f
    |ok H =>
     cases H with
     |ret r =>
      obtain⟨rfl,u,L,rfl,C,hx,et⟩:=f
      repeat (any_goals (first | assumption | wp_step))
      exact h _ _ C hx et
     |_=>exact f.elim
  |_=>exact hr.elim
end
def cz:Slot "set_iterator" "__next__" "set_iterator.__next__" :=
 .of (owner:="set_iterator") (n:="__next__") (by kernel_rfl) (by decide +kernel) (by decide +kernel) (by decide +kernel) (.inl (by decide +kernel)) (by kernel_rfl)
def jw:Slot "set_iterator" "__iter__" "set_iterator.__iter__" :=
 .of (owner:="set_iterator") (n:="__iter__") (by kernel_rfl) (by decide +kernel) (by decide +kernel) (by decide +kernel) (.inl (by decide +kernel)) (by kernel_rfl)
def jd:entryFor table "set_iterator.__next__"=J Builtin.«set_iterator.__next__»:=entryFor_of_fast (by kernel_rfl)
def oR:entryFor table "set_iterator.__iter__"=J Builtin.«dict_keyiterator.__iter__» :=
 entryFor_alias (id':="dict_keyiterator.__iter__") (by kernel_rfl) rfl (by decide +kernel) (by kernel_rfl)
def jh(a:Value):argsOk "set_iterator.__next__" ⟨[a],[]⟩:=by unfold argsOk;kernel_rfl
def pz(a:Value):argsOk "set_iterator.__iter__" ⟨[a],[]⟩:=by unfold argsOk;kernel_rfl
def pD:entryFor table "set.__iter__"=J Builtin.«frozenset.__iter__» :=
 entryFor_alias (id':="frozenset.__iter__") (by kernel_rfl) rfl (by decide +kernel) (by kernel_rfl)
def tZ{α:Type}(l:List α)(i:Nat)(h:i<l.length):(l[i]::l.eraseIdx i).Perm l:=by
 rw[List.eraseIdx_eq_take_drop_succ];have e:l.take i++l[i]::l.drop (i+1)=l:=by rw[Px h,C3]
 exact Iy.symm.trans (List.Perm.of_eq e)
def B0(next:Nat->Nat):∀(a k:Nat)(left:List α)(i:Array α),left.length<=a->(pickOrder.go next a k left i).toList.Perm (i.toList++left):=by
 intro a
 induction a with
 |zero =>
  intro k left i h
  have:left=[]:=AD.mp ⋯
  subst this;unfold pickOrder.go;simp
 |succ f u =>
  intro k left i h;unfold pickOrder.go
  cases left with
  |nil=>simp
  |cons x l =>
   have j:next k % (x::l).length<(x::l).length:=Nat.mod_lt _ (by simp)
   have z:=zF j;rw[z];have r:((x::l).eraseIdx (next k % (x::l).length)).length<=f:=by rw[List.length_eraseIdx_of_lt j];lia
   refine(u (k+1) _ _ r).trans ?_;rw[AR,zJ];refine List.Perm.append_left _ ?_;have y:=(tZ _ _ j).symm;exact y.symm
def v6(next:Nat->Nat)(xs:Array α):(pickOrder next xs).toList.Perm xs.toList:=by
 unfold pickOrder
 have:=B0 next xs.size 0 xs.toList #[] (by simp)
 simpa using this
def vf(xs:Array Nat)(f:dP xs):below xs 0=0:=by
 obtain⟨i,a,_⟩:=dv xs 0 f;by_cases h:below xs 0=0
 .exact h
 .obtain⟨v,hv⟩:=dh xs 0 ⋯
  have:=a 0 v hv ⋯
  lia
def uQ(xs:Array Nat)(f:dP xs)(i j:Nat)(h:xs[i]?=J j):below xs (j+1)=i+1:=by
 obtain⟨z,u,r⟩:=dv xs (j+1) f;by_cases y:below xs (j+1)<=i
 .have:=r i j h y;lia
 .by_cases l:i+1<below xs (j+1)
  .obtain⟨v,hv⟩:=dh xs (i+1) ⋯;have a:=u (i+1) v hv l;have b:=f i (i+1) j v ⋯ h hv;lia
  .lia
section
variable{prog:Program}{w:World}{A:Around}{E:RQ}{s:Shared}
def bL(w:World)(S:Addr)(f:Nat)(a:Array (Int×Value)):Array (Int×Value):=if w.params.followText "set-order" then pickOrder (w.params.setOrder S f) a else a
def gT(w:World)(S:Addr)(f:Nat)(a:Array (Int×Value)):(bL w S f a).toList.Perm a.toList:=by
 unfold bL;split
 .exact v6 _ _
 .exact List.Perm.refl _
def JX(w:World)(f S:Addr)(o:Obj)(a:Array (Int×Value))(j:Nat)(t:SetTable)(i:Nat)(h:Heap):Prop :=
 h.get? S=J o/\∃slot:Nat,h.get? f=J { cls:=.type "set_iterator",dict:=Y,data:=.fields #[.int slot 0,.int i 0,.ref S,.int a.size 0,.int j 0],slots:=#[]} /\
  (w.params.followText "set-order"=T->below t.place slot=i)
end
section
variable{prog:Program}{w:World}{A:Around}{E:RQ}{s:Shared}{S it:Addr}{o:Obj}{es:Array (Int × Value)}{ep:Nat}{t:SetTable}{ks:Q3}
def nK(a:JX w it S o es ep t i s.heap):s.TypeIs (.ref it) "set_iterator":=let⟨_,_,h,_⟩:=a;⟨_,h,rfl⟩
def Wkd(prog:Program)(w:World)(S:Addr)(o:Obj)(es:Array (Int×Value))(ep:Nat)(t:SetTable):Prop :=
 o.ExactSet/\o.data=.set es ep t/\t.dummies=#[]/\t.plain=I/\t.led=bC w/\dP t.place/\t.place.size=es.size/\es.size<=t.mask
def sU{i:Nat}{h:Heap}{slot:Nat}{Q:Option (Value×Nat)->Shared->Prop}(y:Wkd prog w S o es ep t)(M:s.heap.get? S=J o)(F:w.params.followText "set-order"=T->below t.place slot=i)(r:∀(x:Int×Value) a,(bL w S ep es)[i]?=J x->(w.params.followText "set-order"=T->below t.place a=i+1)->Q (J (x.2,a)) s)(l:(bL w S ep es)[i]?=Y->Q Y s):
  wpAny (model prog w) A (setNext S slot i ep) Q E s:=by
 obtain⟨W,H,T3,U,P,R,T7,T8⟩:=y;have hf:t.fits es.size=I:=by unfold SetTable.fits SetTable.fill;simp[T7,T3];exact T8
 refine c_ (wpAny_setState_of M H hf ?_);unfold bL at r l
 cases f:w.params.followText "set-order" with
 |true =>
  rw[f]at r l;show wpAny _ _ (if w.params.followText "set-order"=I then _ else _) _ _ _;rw[f];simp only[bne_self_eq_false];refine c_ (c_ (wpAny_setState_of M H hf ?_));show wpAny _ _ (if w.params.followText "set-order"=I then _ else _) _ _ _;rw[f];refine c_ (wpAny_askSetting (h_ ?_));refine h_ ?_;show Q (((pickOrder (w.params.setOrder S ep) es)[i]?).map λe=>(e.2,slot)) s
  cases O:(pickOrder (w.params.setOrder S ep) es)[i]? with
  |none=>exact l O
  |some x=>exact r x slot O (λz=>nomatch z)
 |false =>
  rw[f]at r l;show wpAny _ _ (if w.params.followText "set-order"=I then _ else _) _ _ _;rw[f];have G:¬((!t.plain&&decide (es.size>1))=I):=by rw[U];simp
  refine(?_:wpAny _ _ (if(!t.plain&&decide (es.size>1))=I then _ else _) _ _ _);rw[d_ G];have B:¬((!t.led && !es.isEmpty)=I):=by rw[P];simp[f]
  refine c_ (?_:wpAny _ _ (if(!t.led && !es.isEmpty)=I then _ else _) _ _ _);rw[d_ B];refine h_ ?_;refine h_ ?_;have u:=F f;rw[u]
  cases C:es[i]? with
  |none=>exact l C
  |some x =>
   obtain⟨j,L⟩:=dh t.place i (by rw[T7];exact dC C);rw[L];exact r x (j+1) C (λ_=>uQ _ R i j L)
def Wkd.fits(a:Wkd prog w S o es ep t):t.fits es.size=I:=by obtain⟨l,r,T3,j,f,i,T7,T8⟩:=a;unfold SetTable.fits SetTable.fill;simp[T7,T3];exact T8
def rT{i:Nat}{x:Int×Value}{Q:Q9->Shared->Prop}(f:Wkd prog w S o es ep t)(y:S≠it)(l:JX w it S o es ep t i s.heap)(G:(bL w S ep es)[i]?=J x)(M:∀u,JX w it S o es ep t (i+1) u->Heap.SameBut it s.heap u->Q (J x.2) { s with heap:=u}):wpAny (model prog w) A (pyNext (.ref it)) Q E s:=by
 have F:=nK l;obtain⟨B,slot,C,z⟩:=l;refine c_ (wpAny_attempt (wpAny_callSpecial?_slot F cz (wpAny_call_entry cz F jd ?_ (jh _))));refine c_ (h_ ?_);refine c_ (wpAny_fieldsOf C rfl ?_);refine c_ (wpAny_setEntries_of B f.2.1 f.fits ?_);rw[d_ (by simp)];refine c_ ?_;rw[xZ,xZ,xZ];refine sU (h:=s.heap) f B z (λP a e1 e2=>?_) (λe1=>by rw[G]at e1;cases e1);rw[G]at e1;cases e1;refine c_ (wpAny_setField_rec C (by simp) λR L j=>?_);refine c_ (wpAny_setField_rec L (by simp) λO H r=>?_);refine h_ ⟨_,rfl,h_ (M O ⟨?_,a,?_,e2⟩ (j.trans r))⟩
 .rw[(j.trans r).2 S y];exact B
 .exact H
def uO{i:Nat}{Q:Q9->Shared->Prop}(F:A.handled=Y)(f:Wkd prog w S o es ep t)(j:JX w it S o es ep t i s.heap)(G:(bL w S ep es)[i]?=Y)(C:∀z,Heap.ExtBut it s.heap z->Q Y { s with heap:=z}):wpAny (model prog w) A (pyNext (.ref it)) Q E s:=by
 have B:=nK j;obtain⟨u,slot,y,r⟩:=j;refine c_ (wpAny_attempt (wpAny_callSpecial?_slot (name:=Str.ofString "__next__") B cz (wpAny_call_entry cz B jd ?_ (jh _))));refine c_ (m:=slotArgs "__next__" 0 _) (h_ ?_);refine c_ (wpAny_fieldsOf y rfl ?_);refine c_ (wpAny_setEntries_of u f.2.1 f.fits ?_);rw[d_ (by simp)];refine c_ ?_;rw[xZ,xZ,xZ];refine sU (h:=s.heap) f u r (λH l e1 e2=>by rw[G]at e1;cases e1) (λe1=>?_);refine c_ (wpAny_setField y rfl (by simp) ?_);refine c_ ?_;refine c_ (m:=firstArgMember _ _) (wpAny_of_eq (a:=Value.none) (by first | rfl | (simp only[firstArgMember])) ?_);refine wpAny_newObj_type ?_ (by size_fits);refine c_ (wpAny_handled ?_);rw[show A.in1.handled=Y from F];refine c_ (h_ (wpAny_throw ?_));refine c_ (wpAny_isInstance (T:="StopIteration") (b:=I) ⟨_,tr _ rfl,rfl⟩ isSubtype_stop ?_);exact h_ (C _ (((Heap.SameBut.update ..).extBut.push _).push _))
def vK(G:A.handled=Y)(z:S≠it)(j:Wkd prog w S o es ep t):
  Walks prog w A it [it,S] [it] es.size (λi v=>∃x,(bL w S ep es)[i]?=J x/\v=x.2) (λi h=>JX w it S o es ep t i h) where
 sub:=λb f=>by simp at f;simp[f]
 frame:=λ_ _ _ st B=>⟨B S (by simp) _ st.1,let⟨slot,a,b⟩:=st.2;⟨slot,B it (by simp) _ a,b⟩⟩
 item:=λi s Q E L st l=>by
  have F:(bL w S ep es).size=es.size:=by rw[<-yU,(gT w S ep es).length_eq,yU]
  obtain⟨x,C⟩:=dh (bL w S ep es) i ⋯;exact rT j z st C λr u sb=>l _ r s.toks ⟨x,C,rfl⟩ u λb o f e=>sb.extBut b o (λh=>f (by simp[h])) e
 done:=λs Q E st l=>by
  have F:(bL w S ep es).size=es.size:=by rw[<-yU,(gT w S ep es).length_eq,yU]
  exact uO G j st (MP ⋯) λr H=>l r s.toks λb o f e=>H b o (λh=>f (by simp[h])) e
 self:=λ_ s Q E st l=>by
  have y:=nK st;refine wpAny_pyIter_slot y jw (wpAny_call_entry jw y oR ?_ (pz _));exact h_ ⟨_,rfl,"set_iterator",_,y,cz.lookup,l⟩
def uq(a:Wkd prog w S o es ep t)(f:s.heap.get? S=J o)(l:Q (.ref s.heap.objs.size) { s with heap:=s.heap.push { cls:=.type "set_iterator",data:=.fields #[.int 0 0,.int 0 0,.ref S,.int es.size 0,.int ep 0]}}):
  wpAny (model prog w) A (pyIter (.ref S)) Q E s:=by
 have j:s.TypeIs (.ref S) "set":=⟨o,f,a.1.1⟩;refine wpAny_pyIter_slot j PySem.F.slot_set_iter (wpAny_call_entry PySem.F.slot_set_iter j pD ?_ (PySem.F.args_set_iter_1 _));refine c_ (c_ (h_ (h_ ?_)));refine c_ (c_ (wpAny_setEntries_of f a.2.1 a.fits (h_ ?_)));refine c_ (c_ (wpAny_setState_of f a.2.1 a.fits ?_));refine c_ (c_ (wpAny_askSetting (h_ (h_ ?_))));have i:(!w.params.followText "set-order" && (!t.plain&&decide (es.size>1)))=T:=by rw[a.2.2.2.1];simp
 refine(?_:wpAny _ _ (if(!w.params.followText "set-order" && (!t.plain&&decide (es.size>1)))=I then _ else _) _ _ _);rw[d_ (by rw[i];simp)];refine c_ (h_ ?_);refine c_ (wpAny_setEpoch_of f a.2.1 a.fits ?_);exact c_ (wpAny_newObj_type (h_ ⟨_,rfl,"set_iterator",_,⟨_,tr _ rfl,rfl⟩,cz.lookup,l⟩))
end
section
variable{prog:Program}{w:World}{A:Around}{E:RQ}{s:Shared}{S:Addr}{o:Obj}{es:Array (Int × Value)}{ep:Nat}{t:SetTable}
def yB(a:s.TypeIs (.ref S) "set")(f:Q T s):wpAny (model prog w) A (Builtin.List.listLengthHint (.ref S)) Q E s:=by refine c_ (wpAny_specialOf a PySem.F.slot_set_len.lookup ?_);dsimp only;refine c_ (wpAny_isInstance a sub_set_self ?_);refine c_ (wpAny_typeOf a ?_);exact h_ f
def qY(hh:A.handled=Y)(j:Wkd prog w S o es ep t)(ho:s.heap.get? S=J o)(hn:es.size<=sizeLine)(hQ:∀O tk,zh s.heap O->s.heap.objs.size<O.objs.size->s.toks<=tk->Q ((bL w S ep es).toList.map (·.2)) { s with heap:=O,toks:=tk}):
  wpAny (model prog w) A (collect (.ref S)) Q E s:=by
 have a:S<s.heap.objs.size:=mj ho;refine c_ (wpAny_runValue (codeAny_builtin PySem.F.entry_proto_collect ?_));refine c_ (wpAny_newObj_type ?_);refine h_ ⟨plainId_quiet PySem.F.plain_list_iadd _,codeAny_builtin PySem.F.entry_list_iadd ?_⟩;generalize hL:({ cls:=.type "list",data:=.seq ([]:Q7).toArray}:Obj)=f;have F:(s.heap.push f).get? S=J o:=n3 _ ho;have ap:(s.heap.push f).get? s.heap.objs.size=J f:=tr _ (by rw[<-hL];rfl);have l:(s.heap.push f).objs.size=s.heap.objs.size+1:=by rw[C8]
 show wpAny _ A.in1 (Builtin.List.listExtendWith (.ref s.heap.objs.size) (.ref S) (.ref s.heap.objs.size)) _ _ { s with heap:=s.heap.push f};have aj:Shared.TypeIs { s with heap:=s.heap.push f} (.ref S) "set":=⟨o,F,j.1.1⟩;refine c_ (wpAny_typeOf aj ?_);have h1:Builtin.List.listSameRef (.ref s.heap.objs.size) (.ref S)=T:=by simp only[Builtin.List.listSameRef,beq_eq_false_iff_ne];exact AX a
 have h2:(Value.type "set" == Value.type "list")=T:=by decide
 have h3:(Value.type "set" == Value.type "tuple")=T:=by decide
 simp only[h1,h2,h3,Bool.or_false,o0,if_false];refine c_ (uq (s:={ s with heap:=s.heap.push f}) j F ?_);generalize hI:({ cls:=.type "set_iterator",data:=.fields #[.int 0 0,.int 0 0,.ref S,.int es.size 0,.int ep 0]}:Obj)=B;have R:((s.heap.push f).push B).get? S=J o:=n3 _ F;have U:((s.heap.push f).push B).get? s.heap.objs.size=J f:=n3 _ ap;have an:((s.heap.push f).push B).get? (s.heap.push f).objs.size=J B:=tr _ (by rw[<-hI];rfl);show wpAny _ A.in1 _ _ _ { s with heap:=(s.heap.push f).push B};have as:Shared.TypeIs { s with heap:=(s.heap.push f).push B} (.ref S) "set":=⟨o,R,j.1.1⟩;refine c_ (wpAny_holding (yB as ?_));rw[b_ (by decide +kernel)];refine c_ (wpAny_rule ?_);refine c_ ?_;show wpAny _ A.in1 (updateSeq s.heap.objs.size (·.push .none) >>= λ_=>updateSeq s.heap.objs.size (·.pop)) _ _ _;subst hL;refine c_ (wpAny_updateSeq U rfl ?_);have r:=Hs (Obj.mapSeq (·.push Value.none)) U rfl;refine wpAny_updateSeq r rfl ?_;have H:=Hs (Obj.mapSeq (·.pop)) r rfl;have C:∀b M,b≠s.heap.objs.size->((s.heap.push { cls:=.type "list",data:=.seq ([]:Q7).toArray}).push B).get? b=J M ->
   ((((s.heap.push { cls:=.type "list",data:=.seq ([]:Q7).toArray}).push B).update s.heap.objs.size (Obj.mapSeq (·.push Value.none))).update s.heap.objs.size (Obj.mapSeq (·.pop))).get? b=J M :=
  λb M L e=>(Ll _ _ (Ne.symm L)).trans ((Ll _ _ (Ne.symm L)).trans e)
 have y:s.heap.objs.size≠(s.heap.push { cls:=.type "list",data:=.seq ([]:Q7).toArray}).objs.size:=by rw[l];exact tt (Hx _)
 have Z:S≠(s.heap.push { cls:=.type "list",data:=.seq ([]:Q7).toArray}).objs.size:=by rw[l];exact tt (Hv a)
 have hW:=(vK (A:=A.in1) (it:=(s.heap.push { cls:=.type "list",data:=.seq ([]:Q7).toArray}).objs.size) hh Z j).toS;have ab:s.heap.objs.size∉[(s.heap.push { cls:=.type "list",data:=.seq ([]:Q7).toArray}).objs.size,S]:=by simp only[mu,Hy,or_false,not_or];exact⟨y,AX a⟩
 refine h_ ⟨plainId_quiet PySem.F.plain_extend_loop _,codeAny_extend_loopS hW hn _ ab _ es.size 0 _ _ _ rfl (ux _) ?_ H (ItemsOf.nil _) λs' z c' P X u=>?_⟩
 .refine⟨C S _ (tt a) R,0,?_,λ_=>vf _ j.2.2.2.2.2.1⟩;subst hI;exact C _ _ (Ne.symm y) an
 .show wpAny _ A (load s.heap.objs.size >>= _) _ _ s';refine c_ (wpAny_load X ?_);refine h_ ?_;have G:z.toList=(bL w S ep es).toList.map (·.2):=by
   have hl:(bL w S ep es).size=es.size:=by rw[<-yU,(gT w S ep es).length_eq,yU]
   apply Iv;intro i;by_cases hi:i<es.size
   .obtain⟨v,hv⟩:=dh z i (by rw[u.1];exact hi);obtain⟨x,hx,e⟩:=u.2 i v hv;rw[uY,hv,s_,uY,hx,e];rfl
   .rw[DI (by rw[yU,u.1];lia),DI (by rw[n_,yU,hl];lia)]
  rw[G];obtain⟨O,g',d',W,am⟩:=s';have eg:g'=s.gens:=P.gens;have ed:d'=s.drawn:=P.drawn;have eo:am=s.os:=P.os;have et:s.toks<=W:=P.toks;subst eg;subst ed;subst eo;refine hQ O W (λb M e=>?_) (mj X) et;have L:b<s.heap.objs.size:=mj e;refine P.heap b M ?_ (C b M (tt L) (n3 _ (n3 _ e)));simp only[mu,Hy,or_false,not_or];exact⟨tt L,by rw[l];exact tt (Hv L)⟩
def rG(hh:A.handled=Y)(f:cG prog w (PB H0 R) s.heap S (bC w) ks)(hx:zh H0 s.heap)(hQ:∀B M O F,zh s.heap B->s.heap.objs.size<B.objs.size->s.toks<=M->Aq prog w H0 (List.toArray O) F->(∀v∈O,∃a,v=.ref a/\R a)->F.Perm ks->Q O { s with heap:=B,toks:=M}):
  wpAny (model prog w) A (collect (.ref S)) Q E s:=by
 obtain⟨o,es,ep,t,r,f,hr,ab,aj⟩:=f;unfold j4 at hr;have L:es.size<=t.mask:=by rcases f.mask with e|e | e<;>rw[e]at hr ⊢<;>lia
 have am:t.mask<=127:=by rcases f.mask with e|e | e<;>lia
 refine qY hh ⟨f.ex,f.data,f.dm,f.plain,f.led',f.wf.rise,f.size,L⟩ f.get (by rw[sizeLine_eq];lia) λB M e1 e3 e2=>?_;have hp:=gT w S ep es;have l:∀e∈es.toList,∃k a,e.2=.ref a/\TK prog w H0 k a/\R a:=by intro e y;obtain⟨i,j⟩:=yL.mp y;rw[uY]at j;obtain⟨k,u⟩:∃k,r[i]?=J k:=⟨_,zF (by rw[<-f.ents.1];exact dC j)⟩;obtain⟨c,d,⟨oc,U,m,X,q⟩,g,⟨Z,W⟩,hR⟩:=f.ents.2 i e k j u;have e3:oc=Z:=Option.some.inj (X.symm.trans (hx c Z W));subst e3;exact⟨k,c,d,⟨oc,U,m,W,q⟩,hR⟩
 let H:Int×Value->Q2:=λe=>Classical.epsilon λk=>∃a,e.2=.ref a/\TK prog w H0 k a
 have G:∀e∈es.toList,∃a,e.2=.ref a/\TK prog w H0 (H e) a:=by intro e y;obtain⟨k,a,z,h2,_⟩:=l e y;exact Classical.epsilon_spec (p:=λk=>∃a,e.2=.ref a/\TK prog w H0 k a) ⟨k,a,z,h2⟩
 have C:es.toList.map H=r:=by
  apply Iv;intro i;rw[s_,uY]
  cases j:es[i]? with
  |none =>
   have:r.length<=i:=by
    rw[<-f.ents.1]
    have:=MC.mp j
    lia
   rw[DI this];rfl
  |some e =>
   obtain⟨k,u⟩:∃k,r[i]?=J k:=⟨_,zF (by rw[<-f.ents.1];exact dC j)⟩;obtain⟨c,d,X,g,⟨Z,W⟩,_⟩:=f.ents.2 i e k j u;have y:e∈es.toList:=yL.mpr ⟨i,by rw[uY];exact j⟩;obtain⟨a,z,h2⟩:=G e y;rw[d]at z;cases z;have P:=ji hx h2;rw[u];show J (H e)=J k;rw[IsTupleKey.inj P X]
 refine hQ B M _ ((bL w S ep es).toList.map H) e1 e3 e2 ⟨by simp,?_⟩ ?_ ?_
 .intro i v k hv u;rw[Ht,s_]at hv;rw[s_]at u
  cases j:(bL w S ep es).toList[i]? with
  |none=>rw[j]at hv;cases hv
  |some e =>
   rw[j]at hv u;cases hv;cases u;exact G e (hp.mem_iff.mp (zI j))
 .intro v hv;obtain⟨e,y,rfl⟩:=n6.mp hv;obtain⟨k,a,z,_,P⟩:=l e (hp.mem_iff.mp y);exact⟨a,z,P⟩
 .have:=hp.map H
  rw[C]at this;exact this.trans ab
end
end SetT
namespace SortT
open PyProof.Rows
structure ul(prog:Program)(w:World)(A:Around)(E:RQ)(s:Shared)(kd:SortKind)(O:KeyOrd) where
 key:Keyed->O.α
 dflt:O.α
 good:Keyed->Prop
 ask:∀(x y:Keyed)(st:SortSt)(Q:Option Bool->SortSt->Prop),good x->good y->kindOf st=kd->Q (J (O.blt (key x) (key y))) st->wpS (model prog w) A E s (lt' x y) Q st
section
variable{prog:Program}{w:World}{A:Around}{E:RQ}{s:Shared}{kd:SortKind}{O:KeyOrd}(C:ul prog w A E s kd O)
def kk(xs:Array Keyed)(i:Nat):O.α:=match xs[i]? with
 |some p=>C.key p
 |none=>C.dflt
def rb(xs:Array Keyed)(lo a:Nat):Prop:=∀i j,lo<=i->i<=j->j<a->O.kle (kk C xs i) (kk C xs j)
def HU(xs:Array Keyed)(lo a:Nat):Prop:=∀i j,lo<=i->i<=j->j<a->O.kle (kk C xs j) (kk C xs i)
def ce(xs:Array Keyed):Prop:=∀p,p∈xs.toList->C.good p
structure SB(kd:SortKind)(a₀:Array Keyed)(st:SortSt):Prop where
 perm:(arrOf st).Perm a₀
 kind:kindOf st=kd
 failed:failedOf st=Y
def ci(lo:Nat)(xs ys:Array Keyed):Prop:=∀i,i<lo->ys[i]?=xs[i]?
def ci.rfl'{lo:Nat}{xs:Array Keyed}:ci lo xs xs:=λ_ _=>rfl
def ci.trans{lo:Nat}{xs ys f:Array Keyed}(h:ci lo xs ys)(g:ci lo ys f):ci lo xs f:=λi a=>(g i a).trans (h i a)
variable{C}{a₀:Array Keyed}{st:SortSt}
def SB.size(h:SB kd a₀ st):(arrOf st).size=a₀.size:=h.perm.size_eq
def SB.arr(h:SB kd a₀ st)(a:xs.Perm (arrOf st)):SB kd a₀ (setArr st xs):=⟨a.trans h.perm,h.kind,h.failed⟩
def SB.good(h:SB kd a₀ st)(a:ce C a₀):ce C (arrOf st):=λp f=>a p ((MD.mp h.perm).mem_iff.mp f)
def dQ(h:xs[i]?=ys[j]?):kk C xs i=kk C ys j:=by unfold kk;rw[h]
def aO(h:xs[i]?=J p):kk C xs i=C.key p:=by unfold kk;rw[h]
def ba{xs:Array Keyed}(g:ce C xs){i:Nat}{p:Keyed}(h:xs[i]?=J p):C.good p:=by refine g p (yL.mpr ⟨i,?_⟩);rw[uY];exact h
def aQ(a:i<xs.size)(h:∀p,xs[i]?=J p->Q p st):wpS (model prog w) A E s (elem' xs i) Q st:=by rw[elem'_eq];have e:=getElem?_pos xs i a;rw[e];exact wpS_pure (h _ e)
def jo{i j:Nat}{Q:Option Bool->SortSt->Prop}(a:SB kd a₀ st)(f:ce C a₀)(u:i<a₀.size)(z:j<a₀.size)(h:Q (J (O.blt (kk C (arrOf st) i) (kk C (arrOf st) j))) st):wpS (model prog w) A E s (ltAt' i j) Q st:=by
 refine wpS_bind (wpS_get ?_);refine wpS_bind (aQ (by rw[a.size];exact u) λx r=>wpS_bind (aQ (by rw[a.size];exact z) λy l=>?_));rw[aO r,aO l]at h;exact C.ask x y st Q (ba (a.good f) r) (ba (a.good f) l) a.kind h
def oJ(j:src<xs.size)(hd:d<=src)(i:Nat):
  kk C (bubble xs src d) i=if i=src-d then kk C xs src else if src-d<i/\i<=src then kk C xs (i-1)else kk C xs i:=by
 have e:=getElem?_bubble j d hd i;split
 .next a=>rw[b_ a]at e;exact dQ e
 .next a =>
  rw[d_ a]at e;split
  .next f=>rw[b_ f]at e;exact dQ e
  .next f=>rw[d_ f]at e;exact dQ e
def jy(f:j<=xs.size)(q:Nat):
  kk C (mirror xs i j ((j-i)/2)) q=if i<=q/\q<j then kk C xs (i+j-1-q)else kk C xs q:=by
 have e:=getElem?_mirror_all (i:=i) f q;split
 .next a=>rw[b_ a]at e;exact dQ e
 .next a=>rw[d_ a]at e;exact dQ e
def dq(f:j<=xs.size)(a:∀q,i<=q->q<j->kk C xs q=kk C xs (j-1))(q:Nat):
  kk C (mirror xs i j ((j-i)/2)) q=kk C xs q:=by
 rw[jy f];split
 .next h=>rw[a (i+j-1-q) ⋯ ⋯,a q h.1 h.2]
 .rfl
def eX{xs:Array Keyed}{lo i j:Nat}(a:j<=xs.size)(h:lo<=i):ci lo xs (mirror xs i j ((j-i)/2)):=λq f=>by
 rw[getElem?_mirror_all a,d_ ⋯]
def rR{xs:Array Keyed}{lo src d:Nat}(a:src<xs.size)(hd:d<=src)(h:lo<=src-d):ci lo xs (bubble xs src d):=λq f=>by
 rw[getElem?_bubble a d hd,d_ ⋯,d_ ⋯]
abbrev AS:=Option (RV)×Nat
abbrev DS:=Option (RV)×Nat×Nat
def jm(p a f:Nat):StateT SortSt Sem AS :=
 forIn [a:f] ((Y,a):AS) λ_ c=>do
  let q <-ltAt' (p+c.2) (p+c.2-1)
  match q with
  |some z=>if z=I then pure (ForInStep.done (Y,c.2))else pure (ForInStep.yield (Y,c.2+1))
  |_=>pure (ForInStep.done (J Y,c.2))
def Fm(p n a:Nat):StateT SortSt Sem (RV):=do
 reverseSlice' p (p+n)
 let c <-jm p n a
 match c.1 with
 |some r=>pure r
 |none=>pure (J c.2)
def B1(p n a:Nat):StateT SortSt Sem DS :=
 forIn [n:a] ((Y,n,0):DS) λ_ c=>do
  let q <-ltAt' (p+c.2.1) (p+c.2.1-1)
  match q with
  |some z =>
   if z=I then
    if c.2.2>0 then do
     reverseSlice' (p+c.2.1-(c.2.2+1)) (p+c.2.1)
     pure (ForInStep.yield (Y,c.2.1+1,0))
    else pure (ForInStep.yield (Y,c.2.1+1,0))
   else do
    let q <-ltAt' (p+c.2.1-1) (p+c.2.1)
    match q with
    |some z=>if z=I then pure (ForInStep.done (Y,c.2.1,c.2.2))else pure (ForInStep.yield (Y,c.2.1+1,c.2.2+1))
    |_=>pure (ForInStep.done (J Y,c.2.1,c.2.2))
  |_=>pure (ForInStep.done (J Y,c.2.1,c.2.2))
def Fo(p n a:Nat):StateT SortSt Sem (RV):=do
 liftM (rule "list.sort.descending-run")
 let c <-B1 p (n+1) a
 match c.1 with
 |some r=>pure r
 |none =>
  if c.2.2>0 then do
   reverseSlice' (p+c.2.1-(c.2.2+1)) (p+c.2.1)
   Fm p c.2.1 a
  else Fm p c.2.1 a
def Fp(p a:Nat):countRun' p a=(do
  let c <-jm p 1 a
  match c.1 with
  |some r=>pure r
  |none =>
   if(c.2==a)=I then pure (J c.2)
   else if c.2>1 then do
    let q <-ltAt' p (p+c.2-1)
    match q with
    |some z=>if z=I then pure (J c.2)else do
      reverseSlice' p (p+c.2)
      Fo p c.2 a
    |_=>pure Y
   else Fo p c.2 a):=by
 refine congrArg (λg=>jm p 1 a >>= g) (funext λc=>?_);obtain⟨r,n⟩:=c
 cases r with
 |some r=>rfl
 |none =>
  dsimp only;split
  .rfl
  .split
   .congr 1;funext x
    cases x with
    |none=>rfl
    |some z =>
     dsimp only;split
     .rfl
     .refine congrArg _ (funext λ_=>?_);refine congrArg _ (funext λ_=>?_);refine congrArg (λg=>B1 p (n+1) a >>= g) (funext λy=>?_);obtain⟨l,j,B⟩:=y
      cases l with
      |some l=>rfl
      |none =>
       dsimp only;split
       .refine congrArg _ (funext λ_=>?_);refine congrArg _ (funext λ_=>?_);refine congrArg (λg=>jm p j a >>= g) (funext λf=>?_);obtain⟨i,u⟩:=f;cases i<;>rfl
       .refine congrArg _ (funext λ_=>?_);refine congrArg (λg=>jm p j a >>= g) (funext λf=>?_);obtain⟨i,u⟩:=f;cases i<;>rfl
   .refine congrArg _ (funext λ_=>?_);refine congrArg (λg=>B1 p (n+1) a >>= g) (funext λy=>?_);obtain⟨l,j,B⟩:=y
    cases l with
    |some l=>rfl
    |none =>
     dsimp only;split
     .refine congrArg _ (funext λ_=>?_);refine congrArg _ (funext λ_=>?_);refine congrArg (λg=>jm p j a >>= g) (funext λf=>?_);obtain⟨i,u⟩:=f;cases i<;>rfl
     .refine congrArg _ (funext λ_=>?_);refine congrArg (λg=>jm p j a >>= g) (funext λf=>?_);obtain⟨i,u⟩:=f;cases i<;>rfl
def sF(L:ce C a₀)(R:p+nrem<=a₀.size)(U:1<=a)(F:a<=nrem)(M:SB kd a₀ st)(G:rb C (arrOf st) p (p+a))(h:∀n,a<=n->n<=nrem->rb C (arrOf st) p (p+n)->(n=nrem\/O.klt (kk C (arrOf st) (p+n)) (kk C (arrOf st) (p+n-1)))->Q (Y,n) st):
  wpS (model prog w) A E s (jm p a nrem) Q st:=by
 refine wpS_forRange (I:=λx c f=>f=st/\c=(Y,x)/\rb C (arrOf st) p (p+x)) ?_ ?_ ⟨rfl,rfl,G⟩
 .rintro x c f H S ⟨rfl,rfl,l⟩;refine wpS_bind (jo M L ⋯ ⋯ ?_)
  cases z:O.blt (kk C (arrOf f) (p+x)) (kk C (arrOf f) (p+x-1)) with
  |true=>exact wpS_pure (h x H ⋯ l (.inr z))
  |false =>
   refine wpS_pure ⟨rfl,rfl,λi j B y P=>?_⟩;by_cases r:j<p+x
   .exact l i j B y r
   .have e:j=p+x:=by lia
    subst e;by_cases u:i=p+x
    .subst u;exact KeyOrd.kle_refl _
    .exact KeyOrd.kle_trans (l i (p+x-1) B ⋯ ⋯) z
 .simp_all
def j8(h:Q () (setArr st (mirror (arrOf st) i j ((j-i)/2)))):wpS (model prog w) A E s (reverseSlice' i j) Q st:=by exact wpS_modify h
def sM(G:ce C a₀)(y:p+nrem<=a₀.size)(F:1<=n)(r:n<=nrem)(u:SB kd a₀ st)(z:HU C (arrOf st) p (p+n))(h:∀m a,SB kd a₀ a->ci p (arrOf st) (arrOf a)->pendingOf a=pendingOf st->1<=m->m<=nrem->rb C (arrOf a) p (p+m)->Q (J m) a):
  wpS (model prog w) A E s (Fm p n nrem) Q st:=by
 have f:p+n<=(arrOf st).size:=by rw[u.size];lia
 refine wpS_bind (j8 ?_);have l:=u.arr (mirror_perm (arrOf st) p (p+n) ((p+n-p)/2));refine wpS_bind (sF G y F r l (λi j M L R=>?_) λm P H B _=>wpS_pure (h m _ l (eX f (ii _)) rfl ⋯ H B));rw[jy f,jy f,b_ ⋯,b_ ⋯];exact z _ _ ⋯ ⋯ ⋯
def B2{p n l:Nat}{Q:DS->SortSt->Prop}(h0:ce C a₀)(hn:p+l<=a₀.size)(h1:1<=n)(M:n<=l)(hB:SB kd a₀ st)(hs:HU C (arrOf st) p (p+n))(h:∀m q f,SB kd a₀ f->ci p (arrOf st) (arrOf f)->pendingOf f=pendingOf st->n<=m->m<=l->HU C (arrOf f) p (p+m)->q+1<=m ->
   (∀i,p+m-(q+1)<=i->i<p+m->kk C (arrOf f) i=kk C (arrOf f) (p+m-1))->Q (Y,m,q) f):
  wpS (model prog w) A E s (B1 p n l) Q st:=by
 refine wpS_forRange (I:=λx c f=>∃q,c=(Y,x,q)/\SB kd a₀ f/\ci p (arrOf st) (arrOf f)/\pendingOf f=pendingOf st/\HU C (arrOf f) p (p+x)/\q+1<=x /\
   ∀i,p+x-(q+1)<=i->i<p+x->kk C (arrOf f) i=kk C (arrOf f) (p+x-1)) ?_ ?_ ⟨0,rfl,hB,ci.rfl',rfl,hs,⋯,λi a b=>by congr 1;lia⟩
 .rintro x c f Z aj ⟨q,rfl,r,u,y,hf,L,B⟩;have F:p+x<=(arrOf f).size:=by rw[r.size];lia
  have z:∀xs:Array Keyed,(∀i,kk C xs i=kk C (arrOf f) i)->O.kle (kk C (arrOf f) (p+x)) (kk C (arrOf f) (p+x-1))->HU C xs p (p+(x+1)):=by
   intro xs hk X i j hi ab hj;rw[hk,hk];by_cases S:j<p+x
   .exact hf i j hi ab S
   .have e:j=p+x:=by lia
    subst e;by_cases W:i=p+x
    .subst W;exact KeyOrd.kle_refl _
    .exact KeyOrd.kle_trans X (hf i (p+x-1) hi ⋯ ⋯)
  dsimp only;refine wpS_bind (jo r h0 ⋯ ⋯ ?_)
  cases P:O.blt (kk C (arrOf f) (p+x)) (kk C (arrOf f) (p+x-1)) with
  |true =>
   dsimp only;rw[b_ rfl];by_cases G:q>0
   .rw[b_ G];refine wpS_bind (j8 (wpS_pure ⟨0,rfl,r.arr (mirror_perm _ _ _ _),u.trans (eX F ⋯),y,z _ (dq F B) (KeyOrd.kle_of_klt P),⋯,λi a b=>by congr 1;lia⟩))
   .rw[d_ G];exact wpS_pure ⟨0,rfl,r,u,y,z _ (λ_=>rfl) (KeyOrd.kle_of_klt P),⋯,λi a b=>by congr 1;lia⟩
  |false =>
   dsimp only;rw[d_ (by simp)];refine wpS_bind (jo r h0 ⋯ ⋯ ?_)
   cases H:O.blt (kk C (arrOf f) (p+x-1)) (kk C (arrOf f) (p+x)) with
   |true =>
    dsimp only;rw[b_ rfl];exact wpS_pure (h x q f r u y Z ⋯ hf L B)
   |false =>
    dsimp only;rw[d_ (by simp)];have R:kk C (arrOf f) (p+x)=kk C (arrOf f) (p+x-1):=KeyOrd.kle_antisymm H P;refine wpS_pure ⟨q+1,rfl,r,u,y,z _ (λ_=>rfl) H,⋯,λi a b=>?_⟩;have e1:p+(x+1)-1=p+x:=by lia
    rw[e1];by_cases U:i=p+x
    .subst U;rfl
    .rw[R];exact B i ⋯ ⋯
 .rintro c f ⟨q,rfl,r,u,y,hf,L,B⟩;have e:max n l=l:=by lia
  rw[e]at hf L B ⊢;exact h l q f r u y M (ii _) hf L B
def pA{p n f:Nat}{Q:RV->SortSt->Prop}(S:ce C a₀)(P:p+f<=a₀.size)(G:n+1<=f)(hB:SB kd a₀ st)(hs:HU C (arrOf st) p (p+(n+1)))(h:∀m a,SB kd a₀ a->ci p (arrOf st) (arrOf a)->pendingOf a=pendingOf st->1<=m->m<=f->rb C (arrOf a) p (p+m)->Q (J m) a):
  wpS (model prog w) A E s (Fo p n f) Q st:=by
 refine wpS_bind (wpS_lift (wpAny_rule ⟨rfl,?_⟩));refine wpS_bind (B2 S P ⋯ G hB hs λm q a r z B ab y hf hq W=>?_);dsimp only;have l:p+m<=(arrOf a).size:=by rw[r.size];lia
 by_cases F:q>0
 .rw[b_ F];refine wpS_bind (j8 (sM S P ⋯ y (r.arr (mirror_perm _ _ _ _)) ?_ λR u L M H=>h R u L ((z.trans (eX l ⋯)).trans M) (H.trans B)));intro i j X U Z;rw[dq l W,dq l W];exact hf i j X U Z
 .rw[d_ F];exact sM S P ⋯ y r hf λR u L M H=>h R u L (z.trans M) (H.trans B)
def su(M:ce C a₀)(S:p+nrem<=a₀.size)(h1:1<=nrem)(z:SB kd a₀ st)(h:∀m f,SB kd a₀ f->ci p (arrOf st) (arrOf f)->pendingOf f=pendingOf st->1<=m->m<=nrem->rb C (arrOf f) p (p+m)->Q (J m) f):
  wpS (model prog w) A E s (countRun' p nrem) Q st:=by
 rw[Fp];refine wpS_bind (sF M S (ii 1) h1 z (λi j L G Z=>by have e:i=j:=⋯;subst e;exact KeyOrd.kle_refl _) λn X a2 l P=>?_);by_cases r:n=nrem
 .rw[b_ (by simpa using r)];exact wpS_pure (h n st z ci.rfl' rfl X a2 l)
 .rw[d_ (by simpa using r)];have B:=P.resolve_left r;by_cases F:n>1
  .rw[b_ F];refine wpS_bind (jo z M ⋯ ⋯ ?_)
   cases hz:O.blt (kk C (arrOf st) p) (kk C (arrOf st) (p+n-1)) with
   |true =>
    dsimp only;exact wpS_pure (h n st z ci.rfl' rfl X a2 l)
   |false =>
    dsimp only;have u:p+n<=(arrOf st).size:=by rw[z.size];lia
    have a:∀q,p<=q->q<p+n->kk C (arrOf st) q=kk C (arrOf st) (p+n-1):=λq H R =>
     KeyOrd.kle_antisymm (l q (p+n-1) H ⋯ ⋯) (KeyOrd.kle_trans hz (l p q (ii _) H R))
    refine wpS_bind (j8 (pA M S ⋯ (z.arr (mirror_perm _ _ _ _)) ?_ λm2 W H R b3=>h m2 W H ((eX u (ii _)).trans R) b3));intro i j L G Z;rw[dq u a,dq u a];by_cases U:j<p+n
    .rw[a i L ⋯,a j ⋯ U];exact KeyOrd.kle_refl _
    .have e:j=p+n:=by lia
     subst e;by_cases y:i=p+n
     .subst y;exact KeyOrd.kle_refl _
     .rw[a i L ⋯];exact KeyOrd.kle_of_klt B
  .rw[d_ F];have e:n=1:=by lia
   subst e;refine pA M S ⋯ z ?_ h;intro i j L G Z;by_cases y:i=j
   .subst y;exact KeyOrd.kle_refl _
   .have e1:i=p:=by lia
    have e2:j=p+1:=by lia
    subst e1;subst e2;exact KeyOrd.kle_of_klt B
end
section
variable{prog:Program}{w:World}{A:Around}{E:RQ}{s:Shared}{kd:SortKind}{O:KeyOrd}{C:ul prog w A E s kd O}{a₀:Array Keyed}{st:SortSt}
def PZ{l m r k x:Nat}(a:l<=m)(b:m<r)(h:r-l<=k-x):m-l<=k-(x+1):=by rw[M4];exact Io (q_ (Nat.sub_lt_sub_right a b) h)
def P0{l m r k x:Nat}(a:l<=m)(h:r-l<=k-x):r-(m+1)<=k-(x+1):=by rw[M4,M4];exact Nat.sub_le_sub_right (l7 (Lr a r) h) 1
def P1{l r k:Nat}(a:l<=r)(h:r-l<=k-max 0 k):l=r:=Nat.le_antisymm a (Py.1 (Nat.le_zero.1 (Nat.sub_eq_zero_of_le (Nat.le_max_right 0 k)▸h)))
def QS{l r:Nat}(h:¬l>=r):l<=(l+r)/2/\(l+r)/2<r:=by lia
def Fq{l r:Nat}(h:¬l>=r):l<=l+(r-l)/2/\l+(r-l)/2<r:=by lia
def sD(h0:ce C a₀)(hn:p+n<=a₀.size)(hok:ok<=n)(hB:SB kd a₀ st)(hs:rb C (arrOf st) p (p+ok))(h:∀f,SB kd a₀ f->ci p (arrOf st) (arrOf f)->pendingOf f=pendingOf st->rb C (arrOf f) p (p+n)->Q I f):wpS (model prog w) A E s (binarySort' p n ok) Q st:=by
 rw[binarySort'_eq]
 refine wpS_bind (wpS_mono (wpS_forRange (I:=λk c f=>c=(Y,())/\SB kd a₀ f/\ci p (arrOf st) (arrOf f)/\pendingOf f=pendingOf st/\rb C (arrOf f) p (p+min k n))
  (Q:=λc f=>c=(Y,())/\SB kd a₀ f/\ci p (arrOf st) (arrOf f)/\pendingOf f=pendingOf st/\rb C (arrOf f) p (p+n)) ?_ ?_ ?_) ?_)
 .rintro k c f aj ab ⟨rfl,z,G,H,y⟩;have ek:min k n=k:=by lia
  rw[ek]at y
  refine wpS_bind (wpS_mono (wpS_forRange (I:=λx c u=>u=f/\∃l r,c=(Y,l,r)/\l<=r/\r<=k/\r-l<=k-x /\
    (∀i,p<=i->i<p+l->O.kle (kk C (arrOf f) i) (kk C (arrOf f) (p+k)))/\∀i,p+r<=i->i<p+k->O.klt (kk C (arrOf f) (p+k)) (kk C (arrOf f) i))
   (Q:=λc u=>u=f/\∃l r,c=(Y,l,r)/\l<=k /\
    (∀i,p<=i->i<p+l->O.kle (kk C (arrOf f) i) (kk C (arrOf f) (p+k)))/\∀i,p+l<=i->i<p+k->O.klt (kk C (arrOf f) (p+k)) (kk C (arrOf f) i)) ?_ ?_ ?_) ?_)
  .rintro x c u _ hx ⟨rfl,l,r,rfl,R,L,U,B,F⟩;by_cases P:l>=r
   .rw[b_ P];have e:l=r:=by lia
    subst e;exact wpS_pure ⟨rfl,l,l,rfl,L,B,F⟩
   .rw[d_ P];have⟨Z,m2⟩:=QS P;have m3:=q_ m2 L;dsimp only;generalize (l+r)/2=m at *;refine wpS_bind (jo z h0 ⋯ ⋯ ?_)
    cases hz:O.blt (kk C (arrOf u) (p+k)) (kk C (arrOf u) (p+m)) with
    |true =>
     simp only[if_true];exact wpS_pure ⟨rfl,l,m,rfl,Z,u0 m3,PZ Z m2 U,B,λi a b=>KeyOrd.klt_of_klt_of_kle hz (y _ _ (Hz ..) a b)⟩
    |false =>
     simp only[o0,if_false];exact wpS_pure ⟨rfl,m+1,r,rfl,m2,L,P0 Z U,λi a b=>KeyOrd.kle_trans (y i (p+m) a (DL b) (Ls m3 p)) hz,F⟩
  .rintro c u ⟨rfl,l,r,rfl,R,L,U,B,F⟩;have e:=P1 R U;subst e;exact⟨rfl,l,l,rfl,L,B,F⟩
  .exact⟨rfl,0,k,rfl,⋯,⋯,⋯,λi a b=>by lia,λi a b=>by lia⟩
  .rintro c u ⟨rfl,l,r,rfl,W,B,F⟩;dsimp only;rw[moveDown'_eq];have M:p+k<(arrOf u).size:=by rw[z.size];lia
   have ed:p+k-(p+l)=k-l:=Nat.add_sub_add_left _ _ _;have X:k-l<=p+k:=l7 (AI _ _) (Nat.le_add_left _ _);have e2:p+k-(k-l)=p+l:=by rw[Nat.add_sub_assoc (AI _ _),Iz W]
   rw[ed];refine wpS_bind (wpS_modify (wpS_pure ⟨rfl,z.arr (bubble_perm _ _ _),G.trans (rR M X (e2▸Hz _ _)),H,?_⟩));have e1:min (k+1) n=k+1:=by lia
   rw[e1];intro i j hi S hj;show O.kle (kk C (bubble (arrOf u) (p+k) (k-l)) i) (kk C (bubble (arrOf u) (p+k) (k-l)) j);rw[oJ M X,oJ M X,e2]
   repeat' split
   all_goals first
    |(exfalso;lia)
    |exact KeyOrd.kle_refl _
    |exact B _ ⋯ ⋯
    |exact KeyOrd.kle_of_klt (F _ ⋯ ⋯)
    |exact y _ _ ⋯ ⋯ ⋯
 .rintro c f ⟨hc,z,G,H,y⟩;refine⟨hc,z,G,H,?_⟩;have e:min (max (max ok 1) n) n=n:=Ly (Nat.le_max_right ..)
  rwa [e]at y
 .refine⟨rfl,hB,ci.rfl',rfl,λi j hi S hj=>?_⟩;by_cases h1:ok=0
  .have e:i=j:=by lia
   subst e;exact KeyOrd.kle_refl _
  .exact hs i j hi S ⋯
 .rintro c f ⟨rfl,z,G,H,y⟩;exact wpS_pure (h f z G H y)
def gallop':Bool->Keyed->Array Keyed->Nat->Nat->Nat->StateT SortSt Sem (RV):=sortPriv% PySem.Builtin.gallop
def nE(left:Bool)(key:Keyed)(arr:Array Keyed)(base i:Nat):StateT SortSt Sem (Option Bool):=do
 let x <-elem' arr (base+i)
 if left then lt' x key else return (<-lt' key x).map (!·)
def uS(left:Bool)(key:Keyed)(arr:Array Keyed)(base n a:Nat):gallop' left key arr base n a=(do
  let mut la:=0
  let mut of:=1
  let mut lo:=0
  let mut hi:=0
  let J rt <-nE left key arr base a|return Y
  if rt then
   let f:=n-a
   for _ in [0:n] do
    if of>=f then break
    let J q <-nE left key arr base (a+of)|return Y
    if !q then break
    la:=of
    of:=2*of+1
   lo:=a+la+1
   hi:=a+min of f
  else
   let f:=a+1
   for _ in [0:n] do
    if of>=f then break
    let J q <-nE left key arr base (a-of)|return Y
    if q then break
    la:=of
    of:=2*of+1
   lo:=a+1-min of f
   hi:=a-la
  for _ in [0:n] do
   if lo>=hi then break
   let m:=lo+(hi-lo)/2
   let J q <-nE left key arr base m|return Y
   if q then lo:=m+1 else hi:=m
  return J hi):=rfl
def h8(C:ul prog w A E s kd O)(left:Bool)(key:Keyed)(arr:Array Keyed)(i:Nat):Bool:=if left then O.blt (kk C arr i) (C.key key)else !O.blt (C.key key) (kk C arr i)
def jP(l:kindOf st=kd)(j:ce C arr)(a:C.good key)(r:base+i<arr.size)(h:Q (J (h8 C left key arr (base+i))) st):wpS (model prog w) A E s (nE left key arr base i) Q st:=by
 refine wpS_bind (aQ r λx f=>?_);unfold h8 at h;rw[aO f]at h
 cases left with
 |true =>
  exact C.ask x key st Q (ba j f) a l h
 |false =>
  exact wpS_bind (C.ask key x st _ a (ba j f) l (wpS_pure h))
def JY(left:Bool)(key:Keyed)(arr:Array Keyed)(base n lo a:Nat):StateT SortSt Sem DS :=
 forIn [:n] ((Y,lo,a):DS) λ_ c =>
  if c.2.1>=c.2.2 then pure (ForInStep.done (Y,c.2.1,c.2.2))
  else do
   let q <-nE left key arr base (c.2.1+(c.2.2-c.2.1)/2)
   match q with
   |some q=>if q=I then pure (ForInStep.yield (Y,c.2.1+(c.2.2-c.2.1)/2+1,c.2.2))else pure (ForInStep.yield (Y,c.2.1,c.2.1+(c.2.2-c.2.1)/2))
   |_=>pure (ForInStep.done (J Y,c.2.1,c.2.2))
section
variable{left:Bool}{key:Keyed}{arr:Array Keyed}{base n:Nat}
def fP(r:base+n<=arr.size)(f:rb C arr base (base+n)):∀i j,i<=j->j<n->h8 C left key arr (base+j)=I->h8 C left key arr (base+i)=I:=by
 intro i j l u;have a:=f (base+i) (base+j) ⋯ ⋯ ⋯;unfold h8
 cases left with
 |true=>exact λq=>KeyOrd.klt_of_kle_of_klt a q
 |false =>
  simp only[o0,if_false,Hu];exact λq=>KeyOrd.kle_trans a q
def iR(r:base+n<=arr.size)(u:rb C arr base (base+n)):∀i j,i<=j->j<n->h8 C left key arr (base+i)=T->h8 C left key arr (base+j)=T:=by
 intro i j f y l
 cases a:h8 C left key arr (base+j) with
 |false=>rfl
 |true=>rw[fP r u i j f y a]at l;cases l
def qL{lo hi:Nat}{Q:DS->SortSt->Prop}(Z:kindOf st=kd)(hg:ce C arr)(y:C.good key)(P:base+n<=arr.size)(W:rb C arr base (base+n))(L:lo<=hi)(S:hi<=n)(h1:∀i,i<lo->h8 C left key arr (base+i)=I)(X:∀i,hi<=i->i<n->h8 C left key arr (base+i)=T)(h:∀k,k<=n->(∀i,i<k->h8 C left key arr (base+i)=I)->(∀i,k<=i->i<n->h8 C left key arr (base+i)=T)->Q (Y,k,k) st):
  wpS (model prog w) A E s (JY left key arr base n lo hi) Q st:=by
 refine wpS_forRange (I:=λx c j=>j=st/\∃l r,c=(Y,l,r)/\l<=r/\r<=n/\r-l<=n-x/\(∀i,i<l->h8 C left key arr (base+i)=I)/\∀i,r<=i->i<n->h8 C left key arr (base+i)=T)
  ?_ ?_ ⟨rfl,lo,hi,rfl,L,S,⋯,h1,X⟩
 .rintro x c j _ hx ⟨rfl,l,r,rfl,z,f,B,G,F⟩;by_cases u:l>=r
  .rw[b_ u];have e:l=r:=by lia
   subst e;exact wpS_pure (h l f G F)
  .rw[d_ u];have⟨M,R⟩:=Fq u;have H:=q_ R f;dsimp only;generalize l+(r-l)/2=m at *;refine wpS_bind (jP Z hg y (q_ (Ls H _) P) ?_)
   cases U:h8 C left key arr (base+m) with
   |true =>
    simp only[if_true];exact wpS_pure ⟨rfl,_,_,rfl,R,f,P0 M B,λi hi=>fP P W i m (DL hi) H U,F⟩
   |false =>
    simp only[o0,if_false];exact wpS_pure ⟨rfl,_,_,rfl,M,u0 H,PZ M R B,G,λi a b=>iR P W m i a b U⟩
 .rintro c j ⟨rfl,l,r,rfl,z,f,B,G,F⟩;have e:=P1 z B;subst e;exact h l f G F
def Mf{x of:Nat}(h:x+1<=of):of<2*of+1/\x+1+1<=2*of+1:=by lia
def P2{f of h n:Nat}(a:f<of)(b:h+f<n):h+f+1<=h+min of (n-h)/\h+min of (n-h)<=n :=
 ⟨Nat.add_le_add_left (Nat.le_min.2 ⟨a,PC b⟩) h,l7 (Nat.add_le_add_left (Nat.min_le_right ..) h) (M6 (C4 (u0 (Lv (Hz ..) b))))⟩
def HV{f of h:Nat}(a:f<of)(b:f<=h):h+1-min of (h+1)<=h-f :=
 Nat.add_sub_add_right h 1 f▸Lr (Nat.le_min.2 ⟨a,DN b⟩) (h+1)
def du{f:Nat}{Q:RV->SortSt->Prop}(U:kindOf st=kd)(W:ce C arr)(u:C.good key)(G:base+n<=arr.size)(R:f<n)(M:rb C arr base (base+n))(h:∀k,k<=n->(∀i,i<k->h8 C left key arr (base+i)=I)->(∀i,k<=i->i<n->h8 C left key arr (base+i)=T)->Q (J k) st):
  wpS (model prog w) A E s (gallop' left key arr base n f) Q st:=by
 rw[uS];refine wpS_bind (jP U W u ⋯ ?_)
 cases hz:h8 C left key arr (base+f) with
 |true =>
  refine wpS_bind (wpS_mono (wpS_forRange (I:=λx c l=>l=st/\∃j of,c=(Y,j,of)/\j<of/\x+1<=of/\f+j<n/\h8 C left key arr (base+(f+j))=I)
   (Q:=λc l=>l=st/\∃j of,c=(Y,j,of)/\j<of/\f+j<n/\h8 C left key arr (base+(f+j))=I/\(n-f<=of\/of<n-f/\h8 C left key arr (base+(f+of))=T)) ?_ ?_
    ⟨rfl,0,1,rfl,⋯,⋯,R,hz⟩) ?_)
  .rintro x c l _ hx ⟨rfl,j,of,rfl,z,H,y,B⟩;dsimp only;by_cases r:of>=n-f
   .rw[b_ r];exact wpS_pure ⟨rfl,j,of,rfl,z,y,B,.inl r⟩
   .rw[d_ r];have S:=Nat.add_lt_of_lt_sub' (MZ r);have⟨o1,Z⟩:=Mf H;refine wpS_bind (jP U W u (q_ (Ls S _) G) ?_)
    cases P:h8 C left key arr (base+(f+of)) with
    |true =>
     simp only[HG,o0,if_false];exact wpS_pure ⟨rfl,_,_,rfl,o1,Z,S,P⟩
    |false =>
     simp only[M3,if_true];exact wpS_pure ⟨rfl,j,of,rfl,z,y,B,.inr ⟨MZ r,P⟩⟩
  .rintro c l ⟨rfl,j,of,rfl,z,H,y,B⟩;exact⟨rfl,j,of,rfl,z,y,B,.inl (l7 (AI ..) (Hw H))⟩
  .rintro c l ⟨rfl,j,of,rfl,z,y,B,F⟩;dsimp only;refine wpS_bind (qL (lo:=f+j+1) (hi:=f+min of (n-f)) U W u G M (P2 z y).1 (P2 z y).2 (λi L=>fP G M i (f+j) (DL L) y B) (λi a b=>?_) λk a b c=>wpS_pure (h k a b c));rcases F with F|⟨F,X⟩
   .rw[Ly F]at a;lia
   .rw[C7 (u0 F)]at a;exact iR G M (f+of) i a b X
 |false =>
  simp only[o0,if_false]
  refine wpS_bind (wpS_mono (wpS_forRange (I:=λx c l=>l=st/\∃j of,c=(Y,j,of)/\j<of/\x+1<=of/\j<=f/\h8 C left key arr (base+(f-j))=T)
   (Q:=λc l=>l=st/\∃j of,c=(Y,j,of)/\j<of/\j<=f/\h8 C left key arr (base+(f-j))=T/\(f+1<=of\/of<f+1/\h8 C left key arr (base+(f-of))=I)) ?_ ?_
    ⟨rfl,0,1,rfl,⋯,⋯,⋯,hz⟩) ?_)
  .rintro x c l _ hx ⟨rfl,j,of,rfl,z,H,y,B⟩;dsimp only;by_cases r:of>=f+1
   .rw[b_ r];exact wpS_pure ⟨rfl,j,of,rfl,z,y,B,.inl r⟩
   .rw[d_ r];have⟨o1,Z⟩:=Mf H;have S:=MZ r;refine wpS_bind (jP U W u (q_ (Ls (Lv (AI ..) R) _) G) ?_)
    cases P:h8 C left key arr (base+(f-of)) with
    |true =>
     simp only[if_true];exact wpS_pure ⟨rfl,j,of,rfl,z,y,B,.inr ⟨S,P⟩⟩
    |false =>
     simp only[o0,if_false];exact wpS_pure ⟨rfl,_,_,rfl,o1,Z,DL S,P⟩
  .rintro c l ⟨rfl,j,of,rfl,z,H,y,B⟩;exact⟨rfl,j,of,rfl,z,y,B,.inl (l7 (DN (u0 R)) H)⟩
  .rintro c l ⟨rfl,j,of,rfl,z,y,B,F⟩;dsimp only;refine wpS_bind (qL (lo:=f+1-min of (f+1)) (hi:=f-j) U W u G M (HV z y) (l7 (AI ..) (u0 R)) (λi L=>?_) (λi a b=>iR G M (f-j) i a b B) λk a b c=>wpS_pure (h k a b c));rcases F with F|⟨F,X⟩
   .rw[Ly F,Nat.sub_self]at L
    nomatch L
   .rw[C7 (u0 F),Nat.succ_sub (DL F)]at L;exact fP G M i (f-of) (DL L) (Lv (AI ..) R) X
end
end
def kI:Array Keyed->Array Keyed->StateT SortSt Sem (Array Keyed):=sortPriv% PySem.Builtin.mergeLo
def B3:Nat->StateT SortSt Sem Unit:=sortPriv% PySem.Builtin.setMinGallop
section
variable{prog:Program}{w:World}{A:Around}{E:RQ}{s:Shared}{kd:SortKind}{O:KeyOrd}(C:ul prog w A E s kd O)
def LS(l:List Keyed):Prop:=l.Pairwise λx y=>O.kle (C.key x) (C.key y)
def LB(l m:List Keyed):Prop:=∀x∈l,∀y∈m,O.kle (C.key x) (C.key y)
variable{C}
def bQ(f:LS C l)(i:LS C m)(a:LB C l m):LS C (l++m):=by unfold LS;rw[List.pairwise_append];exact⟨f,i,a⟩
def lR{xs:Array Keyed}{lo hi:Nat}(u:hi<=xs.size)(h:rb C xs lo hi):LS C (xs.extract lo hi).toList:=by
 unfold LS;rw[Lj];intro i j l a r;have y:(xs.extract lo hi).size=hi-lo:=by simp;lia
 have f:j<(xs.extract lo hi).size:=by exact a
 have e1:(xs.extract lo hi).toList[i]=xs[lo+i]'⋯:=by simp
 have e2:(xs.extract lo hi).toList[j]=xs[lo+j]'⋯:=by simp
 rw[e1,e2]
 have:=h (lo+i) (lo+j) ⋯ ⋯ ⋯
 rw[aO (getElem?_pos xs (lo+i) ⋯),aO (getElem?_pos xs (lo+j) ⋯)]at this;exact this
def jJ(h:LS C xs.toList):rb C xs 0 xs.size:=by
 intro i j _ f a;rw[aO (getElem?_pos xs i ⋯),aO (getElem?_pos xs j a)];by_cases e:i=j
 .subst e;exact KeyOrd.kle_refl _
 .unfold LS at h;rw[Lj]at h
  have:=h i j (by simp;lia) (by simpa using a) ⋯
  simpa using this
structure MI(C:ul prog w A E s kd O)(a b ou:Array Keyed)(i j:Nat):Prop where
 perm:(ou.toList++(a.toList.drop i++b.toList.drop j)).Perm (a.toList++b.toList)
 srt:LS C ou.toList
 low:LB C ou.toList (a.toList.drop i++b.toList.drop j)
variable{a b ou:Array Keyed}{i j:Nat}
def MI.size(m:MI C a b ou i j)(l:i<=a.size)(f:j<=b.size):ou.size+(a.size-i)+(b.size-j)=a.size+b.size:=by
 have:=m.perm.length_eq
 simp at this;lia
def ie{xs:Array Keyed}{i:Nat}{p:Keyed}(h:xs[i]?=J p):xs.toList.drop i=p::xs.toList.drop (i+1):=by
 have f:i<xs.toList.length:=by
  have:=(Ii.mp h).1
  simpa using this
 have e:xs.toList[i]=p:=by
  have:=(Ii.mp h).2
  simpa using this
 rw[<-e,Px f]
def iq{xs:Array Keyed}(h:LS C xs.toList)(i:Nat):LS C (xs.toList.drop i):=h.sublist (List.drop_sublist i _)
def iB{xs:Array Keyed}(h:LS C xs.toList){i:Nat}{p:Keyed}(r:xs[i]?=J p):∀y∈xs.toList.drop i,O.kle (C.key p) (C.key y):=by
 have f:=iq h i;rw[ie r]at f ⊢;unfold LS at f;rw[Iq]at f;intro y l;rcases mu.mp l with rfl|l
 .exact KeyOrd.kle_refl _
 .exact f.1 y l
def MI.pushA(m:MI C a b ou i j)(H:LS C a.toList)(F:LS C b.toList){p:Keyed}(B:a[i]?=J p)(G:∀q,b[j]?=J q->O.kle (C.key p) (C.key q)):MI C a b (ou.push p) (i+1) j:=by
 have hd:=ie B;have z:∀y∈a.toList.drop i++b.toList.drop j,O.kle (C.key p) (C.key y):=by
  intro y f;rcases mh.mp f with f|f
  .exact iB H B y f
  .cases r:b[j]? with
   |none =>
    have:b.toList.drop j=[]:=Il (by have:=MC.mp r;simpa using this)
    rw[this]at f;cases f
   |some q=>exact KeyOrd.kle_trans (G q r) (iB F r y f)
 refine⟨?_,?_,?_⟩
 .have:=m.perm
  rw[hd]at this;rw[AR,zJ];exact this
 .rw[AR];refine bQ m.srt (by unfold LS;simp) λx l y f=>?_
  have:y=p:=by simpa using f
  subst this;exact m.low x l y (sv _ (by rw[hd];exact rl))
 .intro x l y f;rw[AR]at l;have u:y∈a.toList.drop i++b.toList.drop j:=by
   simp_all
  rcases mh.mp l with l|l
  .exact m.low x l y u
  .have:x=p:=by simpa using l
   subst this;exact z y u
def MI.pushB(m:MI C a b ou i j)(H:LS C a.toList)(F:LS C b.toList){p:Keyed}(B:b[j]?=J p)(G:∀q,a[i]?=J q->O.kle (C.key p) (C.key q)):MI C a b (ou.push p) i (j+1):=by
 have hd:=ie B;have z:∀y∈a.toList.drop i++b.toList.drop j,O.kle (C.key p) (C.key y):=by
  intro y f;rcases mh.mp f with f|f
  .cases r:a[i]? with
   |none =>
    have:a.toList.drop i=[]:=Il (by have:=MC.mp r;simpa using this)
    rw[this]at f;cases f
   |some q=>exact KeyOrd.kle_trans (G q r) (iB H r y f)
  .exact iB F B y f
 refine⟨?_,?_,?_⟩
 .have:=m.perm
  rw[hd]at this;rw[AR,zJ];refine List.Perm.trans (List.Perm.append_left _ ?_) this;show(p::(a.toList.drop i++b.toList.drop (j+1))).Perm _;exact Iy.symm
 .rw[AR];refine bQ m.srt (by unfold LS;simp) λx l y f=>?_
  have:y=p:=by simpa using f
  subst this;exact m.low x l y (pk _ (by rw[hd];exact rl))
 .intro x l y f;rw[AR]at l;have u:y∈a.toList.drop i++b.toList.drop j:=by
   rcases mh.mp f with f|f
   .exact sv _ f
   .exact pk _ (by rw[hd];exact l_ _ f)
  rcases mh.mp l with l|l
  .exact m.low x l y u
  .have:x=p:=by simpa using l
   subst this;exact z y u
def jt{xs:Array Keyed}{i k:Nat}{p:Keyed}(h:xs[i+k]?=J p):xs.extract i (i+(k+1))=(xs.extract i (i+k)).push p:=by
 apply C6.mp;simp only[Lo,AR,ML];have e1:i+(k+1)-i=k+1:=by lia
 have e2:i+k-i=k:=by lia
 rw[e1,e2,AH,Lu,uY,h];rfl
def MI.moveA(m:MI C a b ou i j)(z:LS C a.toList)(B:LS C b.toList):∀k,i+k<=a.size->(∀r p q,r<k->a[i+r]?=J p->b[j]?=J q->O.kle (C.key p) (C.key q))->MI C a b (ou++a.extract i (i+k)) (i+k) j:=by
 intro k
 induction k with
 |zero =>
  intro _ _;have e:ou++a.extract i (i+0)=ou:=by apply C6.mp;simp
  rw[e];exact m
 |succ k F =>
  intro G u;have l:=getElem?_pos a (i+k) ⋯;have y:=(F ⋯ λr p q H=>u r p q ⋯).pushA z B l (λq f=>u k _ q ⋯ l f);have e:ou++(a.extract i (i+k)).push (a[i+k]'⋯)=(ou++a.extract i (i+k)).push (a[i+k]'⋯):=by simp
  rw[jt l,e];exact y
def MI.moveB(m:MI C a b ou i j)(z:LS C a.toList)(B:LS C b.toList):∀k,j+k<=b.size->(∀r p q,r<k->b[j+r]?=J p->a[i]?=J q->O.kle (C.key p) (C.key q))->MI C a b (ou++b.extract j (j+k)) i (j+k):=by
 intro k
 induction k with
 |zero =>
  intro _ _;have e:ou++b.extract j (j+0)=ou:=by apply C6.mp;simp
  rw[e];exact m
 |succ k F =>
  intro G u;have l:=getElem?_pos b (j+k) ⋯;have y:=(F ⋯ λr p q H=>u r p q ⋯).pushB z B l (λq f=>u k _ q ⋯ l f);have e:ou++(b.extract j (j+k)).push (b[j+k]'⋯)=(ou++b.extract j (j+k)).push (b[j+k]'⋯):=by simp
  rw[jt l,e];exact y
def MR(C:ul prog w A E s kd O)(a b f:Array Keyed):Prop:=f.toList.Perm (a.toList++b.toList)/\LS C f.toList
def gQ{xs:Array Keyed}{i:Nat}:(xs.extract i xs.size).toList=xs.toList.drop i:=by rw[Lo];exact C2 (by simp)
def MI.all(m:MI C a b ou i j)(f:LS C a.toList)(l:LS C b.toList)(h:a.size<=i\/b.size<=j):MR C a b (ou++a.extract i a.size++b.extract j b.size):=by
 have e:(ou++a.extract i a.size++b.extract j b.size).toList=ou.toList++(a.toList.drop i++b.toList.drop j):=by rw[DJ,DJ,gQ,gQ,zJ]
 unfold MR;rw[e];refine⟨m.perm,bQ m.srt ?_ m.low⟩;rcases h with h|h
 .have:a.toList.drop i=[]:=Il (by simpa using h)
  rw[this];exact iq l j
 .have:b.toList.drop j=[]:=Il (by simpa using h)
  rw[this,HD];exact iq f i
def MI.one(m:MI C a b ou i j)(B:LS C a.toList)(F:LS C b.toList)(h:i+1=a.size)(z:∀x q,x∈b.toList->a[i]?=J q->O.kle (C.key x) (C.key q)):MR C a b (ou++b.extract j b.size++a.extract i a.size):=by
 have e:(ou++b.extract j b.size++a.extract i a.size).toList=ou.toList++(b.toList.drop j++a.toList.drop i):=by rw[DJ,DJ,gQ,gQ,zJ]
 unfold MR;rw[e];have u:=getElem?_pos a i ⋯;have hd:=ie u;have f:a.toList.drop (i+1)=[]:=Il (by simp;lia);rw[f]at hd;refine⟨(List.Perm.append_left _ PD).trans m.perm,bQ m.srt (bQ (iq F j) (iq B i) ?_) ?_⟩
 .intro x r y l;rw[hd]at l
  have:y=a[i]'⋯:=by simpa using l
  subst this;exact z x _ (List.mem_of_mem_drop r) u
 .intro x r y l;exact m.low x r y (mh.mpr (mh.mp l).symm)
end
structure Eqv(st st':SortSt):Prop where
 kind:kindOf st'=kindOf st
 arr:arrOf st'=arrOf st
 pend:pendingOf st'=pendingOf st
 failed:failedOf st'=failedOf st
def Eqv.rfl'{st:SortSt}:Eqv st st:=⟨rfl,rfl,rfl,rfl⟩
def Eqv.trans{st a f:SortSt}(x:Eqv st a)(y:Eqv a f):Eqv st f:=⟨y.kind.trans x.kind,y.arr.trans x.arr,y.pend.trans x.pend,y.failed.trans x.failed⟩
abbrev GS:=Option (Array Keyed)×Array Keyed×Nat×Nat×Nat×Nat×Nat
def Fs(a b f:Array Keyed)(i j g na nb:Nat):StateT SortSt Sem (ForInStep GS):=do
 let x <-elem' a i
 if(i+1+1==a.size)=I then pure (ForInStep.done (J (f.push x++b.extract j b.size++a.extract (i+1) a.size),f.push x,i+1,j,g,na,nb))
 else if(decide (na<7)&&decide (nb<7))=I then pure (ForInStep.done (Y,f.push x,i+1,j,g,na,nb))
 else pure (ForInStep.yield (Y,f.push x,i+1,j,g,na,nb))
def Ft(a b f:Array Keyed)(i j g na nb:Nat):StateT SortSt Sem (ForInStep GS):=do
 let x <-elem' b j
 if(j+1==b.size)=I then pure (ForInStep.done (J (f.push x++a.extract i a.size++b.extract (j+1) b.size),f.push x,i,j+1,g,na,nb))
 else do
  let y <-elem' a i
  let q <-gallop' I y b (j+1) (b.size-(j+1)) 0
  match q with
  |some k =>
   if k>0 then
    if(j+1+k==b.size)=I then
     pure (ForInStep.done (J (f.push x++b.extract (j+1) (j+1+k)++a.extract i a.size++b.extract (j+1+k) b.size),f.push x++b.extract (j+1) (j+1+k),i,j+1+k,g,na,k))
    else Fs a b (f.push x++b.extract (j+1) (j+1+k)) i (j+1+k) g na k
   else Fs a b (f.push x) i (j+1) g na k
  |_=>pure (ForInStep.done (J (f.push x++a.extract i a.size++b.extract (j+1) b.size),f.push x,i,j+1,g,na,nb))
def B4(a b f:Array Keyed)(i j g na nb:Nat):StateT SortSt Sem (ForInStep GS):=do
 B3 g
 let x <-elem' b j
 let q <-gallop' T x a i (a.size-i) 0
 match q with
 |some k =>
  if k>0 then
   if(i+k+1==a.size)=I then
    pure (ForInStep.done (J (f++a.extract i (i+k)++b.extract j b.size++a.extract (i+k) a.size),f++a.extract i (i+k),i+k,j,g,k,nb))
   else if(i+k==a.size)=I then
    pure (ForInStep.done (J (f++a.extract i (i+k)++a.extract (i+k) a.size++b.extract j b.size),f++a.extract i (i+k),i+k,j,g,k,nb))
   else Ft a b (f++a.extract i (i+k)) (i+k) j g k nb
  else Ft a b f i j g k nb
 |_=>pure (ForInStep.done (J (f++a.extract i a.size++b.extract j b.size),f,i,j,g,na,nb))
abbrev HW:=Option (Array Keyed)×Array Keyed×Nat×Nat×Nat×Nat
abbrev LCt:=Option (Array Keyed)×Array Keyed×Nat×Nat×Nat
def NZ(a b:Array Keyed)(g:Nat)(c:HW):StateT SortSt Sem (ForInStep HW):=do
 let x <-elem' b c.2.2.2.1
 let y <-elem' a c.2.2.1
 let q <-lt' x y
 match q with
 |some q =>
  if q=I then do
   let z <-elem' b c.2.2.2.1
   if(c.2.2.2.1+1==b.size)=I then pure (ForInStep.done (J (c.2.1.push z++a.extract c.2.2.1 a.size++b.extract (c.2.2.2.1+1) b.size),c.2.1.push z,c.2.2.1,c.2.2.2.1+1,0,c.2.2.2.2.2+1))
   else if c.2.2.2.2.2+1>=g then pure (ForInStep.done (Y,c.2.1.push z,c.2.2.1,c.2.2.2.1+1,0,c.2.2.2.2.2+1))
   else pure (ForInStep.yield (Y,c.2.1.push z,c.2.2.1,c.2.2.2.1+1,0,c.2.2.2.2.2+1))
  else do
   let z <-elem' a c.2.2.1
   if(c.2.2.1+1+1==a.size)=I then pure (ForInStep.done (J (c.2.1.push z++b.extract c.2.2.2.1 b.size++a.extract (c.2.2.1+1) a.size),c.2.1.push z,c.2.2.1+1,c.2.2.2.1,c.2.2.2.2.1+1,0))
   else if c.2.2.2.2.1+1>=g then pure (ForInStep.done (Y,c.2.1.push z,c.2.2.1+1,c.2.2.2.1,c.2.2.2.2.1+1,0))
   else pure (ForInStep.yield (Y,c.2.1.push z,c.2.2.1+1,c.2.2.2.1,c.2.2.2.2.1+1,0))
 |_=>pure (ForInStep.done (J (c.2.1++a.extract c.2.2.1 a.size++b.extract c.2.2.2.1 b.size),c.2.1,c.2.2.1,c.2.2.2.1,c.2.2.2.2.1,c.2.2.2.2.2))
def N0(a b:Array Keyed)(c:GS):StateT SortSt Sem (ForInStep GS) :=
 if c.2.2.2.2.1>1 then B4 a b c.2.1 c.2.2.1 c.2.2.2.1 (c.2.2.2.2.1-1) c.2.2.2.2.2.1 c.2.2.2.2.2.2
 else B4 a b c.2.1 c.2.2.1 c.2.2.2.1 c.2.2.2.2.1 c.2.2.2.2.2.1 c.2.2.2.2.2.2
def P4(c:GS):StateT SortSt Sem (ForInStep LCt) :=
 match c.1 with
 |some r=>pure (ForInStep.done (J r,c.2.1,c.2.2.1,c.2.2.2.1,c.2.2.2.2.1))
 |none=>do
  B3 (c.2.2.2.2.1+1)
  pure (ForInStep.yield (Y,c.2.1,c.2.2.1,c.2.2.2.1,c.2.2.2.2.1+1))
def P5(a b:Array Keyed)(g:Nat)(c:HW):StateT SortSt Sem (ForInStep LCt) :=
 match c.1 with
 |some r=>pure (ForInStep.done (J r,c.2.1,c.2.2.1,c.2.2.2.1,g))
 |none=>do
  liftM (rule "list.sort.gallop")
  let e <-forIn [:a.size+b.size] ((Y,c.2.1,c.2.2.1,c.2.2.2.1,g+1,c.2.2.2.2.1,c.2.2.2.2.2):GS) λ_ e=>N0 a b e
  P4 e
def P6(a b:Array Keyed)(c:LCt):StateT SortSt Sem (ForInStep LCt):=do
 let d <-forIn [:a.size+b.size] ((Y,c.2.1,c.2.2.1,c.2.2.2.1,0,0):HW) λ_ d=>NZ a b c.2.2.2.2 d
 P5 a b c.2.2.2.2 d
def P7(a b:Array Keyed)(x:Keyed):StateT SortSt Sem (Array Keyed):=do
 let g <-get
 let r <-forIn [:a.size+b.size] ((Y,#[x],0,1,gallopOf g):LCt) λ_ c=>P6 a b c
 match r.1 with
 |some r=>pure r
 |none=>liftM (unsupported "internal:list.sort.merge-bound":Sem (Array Keyed))
def N1(a b:Array Keyed):kI a b=(do
 liftM (rule "list.sort.merge-lo")
 let x <-elem' b 0
 if(1==b.size)=I then pure (#[x]++a.extract 0 a.size++b.extract 1 b.size)
 else if(0+1==a.size)=I then pure (#[x]++b.extract 1 b.size++a.extract 0 a.size)
 else P7 a b x):=by
 refine congrArg (Bind.bind _) (funext λ_=>congrArg (Bind.bind _) (funext λx=>congrArg (λz=>ite _ _ (ite _ _ z)) ?_));have e:∀{α β:Type}{x y:StateT SortSt Sem α}{f h:α->StateT SortSt Sem β},x=y->(∀a,f a=h a)->(x >>= f)=(y >>= h):=λe f=>by rw[e,funext f]
 refine congrArg (Bind.bind _) (funext λg=>e (congrArg (forIn _ _) (funext λ_=>funext λc=>?_)) λ⟨r,_⟩=>by cases r<;>rfl);refine e rfl λd=>?_;obtain⟨i,j⟩:=d
 cases i with
 |some r=>rfl
 |none=>exact congrArg (Bind.bind _) (funext λ_=>e rfl λ⟨r,_⟩=>by cases r<;>rfl)
section
variable{prog:Program}{w:World}{A:Around}{E:RQ}{s:Shared}{kd:SortKind}{O:KeyOrd}{C:ul prog w A E s kd O}{st:SortSt}{a b:Array Keyed}
structure yb(C:ul prog w A E s kd O)(a b:Array Keyed):Prop where
 ga:ce C a
 gb:ce C b
 sa:LS C a.toList
 sb:LS C b.toList
 na:1<=a.size
 nb:1<=b.size
 fst:∀p q,b[0]?=J p->a[0]?=J q->O.kle (C.key p) (C.key q)
 lst:∀x q,x∈b.toList->a[a.size-1]?=J q->O.kle (C.key x) (C.key q)
def LI(C:ul prog w A E s kd O)(a b:Array Keyed)(N:Nat)(c:GS):Prop:=c.1=Y/\MI C a b c.2.1 c.2.2.1 c.2.2.2.1/\c.2.2.1+1<a.size/\c.2.2.2.1<b.size/\N<=c.2.1.size
def jI(C:ul prog w A E s kd O)(a b:Array Keyed)(N:Nat)(st:SortSt)(r:ForInStep GS)(f:SortSt):Prop:=Eqv st f/\match r with
 |.done c=>(∃x,c.1=J x/\MR C a b x)\/LI C a b N c
 |.yield c=>LI C a b N c
def tP(f:yb C a b)(m:MI C a b ou i j)(M:i+1<a.size)(G:j<b.size)(hN:N<=ou.size)(u:∀p q,a[i]?=J p->b[j]?=J q->O.kle (C.key p) (C.key q)):
  wpS (model prog w) A E s (Fs a b ou i j g na nb) (jI C a b N st) st:=by
 refine wpS_bind (aQ ⋯ λx F=>?_);have z:=m.pushA f.sa f.sb F (λq r=>u x q F r);have L:(ou.push x).size=ou.size+1:=AV ..;by_cases l:i+1+1=a.size
 .rw[b_ (by simpa using l)];exact wpS_pure ⟨Eqv.rfl',.inl ⟨_,rfl,z.one f.sa f.sb l λy q H r=>f.lst y q H (by rw[<-l];exact r)⟩⟩
 .rw[d_ (by simpa using l)];have B:LI C a b N (Y,ou.push x,i+1,j,g,na,nb):=⟨rfl,z,⋯,G,⋯⟩;split
  .exact wpS_pure ⟨Eqv.rfl',.inr B⟩
  .exact wpS_pure ⟨Eqv.rfl',B⟩
def sX(f:yb C a b)(hk:kindOf st=kd)(m:MI C a b ou i j)(R:i+1<a.size)(hj:j<b.size)(hN:N<=ou.size)(P:∀p q,b[j]?=J p->a[i]?=J q->O.kle (C.key p) (C.key q)):
  wpS (model prog w) A E s (Ft a b ou i j g na nb) (jI C a b N st) st:=by
 refine wpS_bind (aQ hj λx S=>?_);have M:=m.pushB f.sa f.sb S (λq u=>P x q S u);have ab:(ou.push x).size=ou.size+1:=AV ..;by_cases U:j+1=b.size
 .rw[b_ (by simpa using U)];exact wpS_pure ⟨Eqv.rfl',.inl ⟨_,rfl,M.all f.sa f.sb (.inr ⋯)⟩⟩
 .rw[d_ (by simpa using U)];refine wpS_bind (aQ ⋯ λy G=>?_);refine wpS_bind (du (C:=C) hk f.gb (ba f.ga G) ⋯ ⋯ ?_ λk Z H L=>?_)
  .intro p q F Q u;exact jJ f.sb p q (ux _) Q ⋯
  .have z:∀r p q,r<k->b[j+1+r]?=J p->a[i]?=J q->O.kle (C.key p) (C.key q):=λr p q hr F u=>by
    have:=H r hr
    unfold h8 at this;rw[aO F]at this;rw[G]at u;cases u;exact KeyOrd.kle_of_klt this
   have l:∀p q,a[i]?=J p->b[j+1+k]?=J q->O.kle (C.key p) (C.key q):=λp q F u=>by
    have aj:=(Ii.mp u).1
    have:=L k (ii _) ⋯
    unfold h8 at this;rw[aO u]at this;rw[G]at F;cases F;exact this
   dsimp only;by_cases B:k>0
   .rw[b_ B];have W:=M.moveB f.sa f.sb k ⋯ z;by_cases X:j+1+k=b.size
    .rw[b_ (by simpa using X)];exact wpS_pure ⟨Eqv.rfl',.inl ⟨_,rfl,W.all f.sa f.sb (.inr ⋯)⟩⟩
    .rw[d_ (by simpa using X)];exact tP f W R ⋯ (by rw[Is];lia) l
   .rw[d_ B];have e:k=0:=by lia
    subst e;exact tP f M R ⋯ ⋯ l
def sH(f:yb C a b)(hk:kindOf st=kd)(m:MI C a b ou i j)(hi:i+1<a.size)(M:j<b.size)(hN:N<=ou.size):
  wpS (model prog w) A E s (B4 a b ou i j g na nb) (jI C a b N st) st:=by
 unfold B4;refine wpS_bind (wpS_modify ?_);have ev:Eqv st (SortSt.mk' (kindOf st) (arrOf st) (pendingOf st) g (failedOf st)):=⟨rfl,rfl,rfl,rfl⟩;refine wpS_mono (Q:=jI C a b N (SortSt.mk' (kindOf st) (arrOf st) (pendingOf st) g (failedOf st))) ?_ λr ab h=>⟨ev.trans h.1,h.2⟩;have z:kindOf (SortSt.mk' (kindOf st) (arrOf st) (pendingOf st) g (failedOf st))=kd:=hk;refine wpS_bind (aQ M λx R=>?_);refine wpS_bind (du (C:=C) z f.ga (ba f.gb R) ⋯ ⋯ ?_ λk Z L P=>?_)
 .intro p q G S u;exact jJ f.sa p q (ux _) S ⋯
 .have B:∀r p q,r<k->a[i+r]?=J p->b[j]?=J q->O.kle (C.key p) (C.key q):=λr p q hr G u=>by
   have:=L r hr
   unfold h8 at this;rw[aO G]at this;rw[R]at u;cases u;simp only[o0,if_false,Hu]at this;exact this
  have l:∀p q,b[j]?=J p->a[i+k]?=J q->O.kle (C.key p) (C.key q):=λp q G u=>by
   have aj:=(Ii.mp u).1
   have:=P k (ii _) ⋯
   unfold h8 at this;rw[aO u]at this;rw[R]at G;cases G;simp only[o0,if_false,MV]at this;exact KeyOrd.kle_of_klt this
  dsimp only;by_cases F:k>0
  .rw[b_ F];have U:=m.moveA f.sa f.sb k ⋯ B;by_cases H:i+k+1=a.size
   .rw[b_ (by simpa using H)];exact wpS_pure ⟨Eqv.rfl',.inl ⟨_,rfl,U.one f.sa f.sb H λy q X u=>f.lst y q X (by rw[<-H];exact u)⟩⟩
   .rw[d_ (by simpa using H)];by_cases W:i+k=a.size
    .rw[b_ (by simpa using W)];exact wpS_pure ⟨Eqv.rfl',.inl ⟨_,rfl,U.all f.sa f.sb (.inl ⋯)⟩⟩
    .rw[d_ (by simpa using W)];exact sX f z U ⋯ M (by rw[Is];lia) l
  .rw[d_ F];have e:k=0:=by lia
   subst e;exact sX f z m hi M hN l
def JZ(C:ul prog w A E s kd O)(a b:Array Keyed)(N:Nat)(c:HW):Prop:=c.1=Y/\MI C a b c.2.1 c.2.2.1 c.2.2.2.1/\c.2.2.1+1<a.size/\c.2.2.2.1<b.size/\N<=c.2.1.size
def N2(C:ul prog w A E s kd O)(a b:Array Keyed)(N:Nat)(c:LCt):Prop:=c.1=Y/\MI C a b c.2.1 c.2.2.1 c.2.2.2.1/\c.2.2.1+1<a.size/\c.2.2.2.1<b.size/\N<=c.2.1.size
def N3(C:ul prog w A E s kd O)(a b:Array Keyed)(N:Nat)(st:SortSt)(r:ForInStep HW)(f:SortSt):Prop:=match r with
 |.done c=>f=st/\((∃x,c.1=J x/\MR C a b x)\/JZ C a b N c)
 |.yield c=>f=st/\JZ C a b N c
def Fv(C:ul prog w A E s kd O)(a b:Array Keyed)(N:Nat)(st:SortSt)(r:ForInStep LCt)(f:SortSt):Prop:=match r with
 |.done c=>Eqv st f/\∃x,c.1=J x/\MR C a b x
 |.yield c=>Eqv st f/\N2 C a b N c
def Fw(f:yb C a b)(H:kindOf st=kd)(M:MI C a b ou' i' j')(F:i'+1<a.size)(r:j'<b.size)(hN:N<=ou'.size):
  wpS (model prog w) A E s (NZ a b g (Y,ou',i',j',na,nb)) (N3 C a b (N+1) st) st:=by
 unfold NZ;dsimp only;refine wpS_bind (aQ r λp G=>wpS_bind (aQ ⋯ λq B=>?_));refine wpS_bind (C.ask p q st _ (ba f.gb G) (ba f.ga B) H ?_)
 cases L:O.blt (C.key p) (C.key q) with
 |true =>
  dsimp only;refine wpS_bind (aQ r λR i=>?_);rw[G]at i;cases i;have z:=M.pushB f.sa f.sb G (λQ l=>by rw[B]at l;cases l;exact KeyOrd.kle_of_klt L);have j:(ou'.push p).size=ou'.size+1:=AV ..;by_cases u:j'+1=b.size
  .rw[b_ (by simpa using u)];exact wpS_pure ⟨rfl,.inl ⟨_,rfl,z.all f.sa f.sb (.inr ⋯)⟩⟩
  .rw[d_ (by simpa using u)];split
   .exact wpS_pure ⟨rfl,.inr ⟨rfl,z,F,⋯,by rw[j];lia⟩⟩
   .exact wpS_pure ⟨rfl,rfl,z,F,⋯,by rw[j];lia⟩
 |false =>
  dsimp only;refine wpS_bind (aQ ⋯ λQ l=>?_);rw[B]at l;cases l;have z:=M.pushA f.sa f.sb B (λR i=>by rw[G]at i;cases i;exact L);have j:(ou'.push q).size=ou'.size+1:=AV ..;by_cases u:i'+1+1=a.size
  .rw[b_ (by simpa using u)];exact wpS_pure ⟨rfl,.inl ⟨_,rfl,z.one f.sa f.sb u λy q P B=>f.lst y q P (by rw[<-u];exact B)⟩⟩
  .rw[d_ (by simpa using u)];split
   .exact wpS_pure ⟨rfl,.inr ⟨rfl,z,⋯,r,by rw[j];lia⟩⟩
   .exact wpS_pure ⟨rfl,rfl,z,⋯,r,by rw[j];lia⟩
def Fx(j:Eqv BR st)(f:(∃x,c.1=J x/\MR C a b x)\/LI C a b N c):wpS (model prog w) A E s (P4 c) (Fv C a b N BR) st:=by
 obtain⟨H,z,B,F,G,u,l⟩:=c;rcases f with⟨r,i,y⟩|⟨f,i⟩
 .cases i;exact wpS_pure ⟨j,r,rfl,y⟩
 .cases f;exact wpS_bind (wpS_modify (wpS_pure ⟨j.trans ⟨rfl,rfl,rfl,rfl⟩,rfl,i⟩))
def Fy(j:yb C a b)(u:kindOf st=kd)(h:LI C a b N c):wpS (model prog w) A E s (N0 a b c) (jI C a b N st) st:=by
 obtain⟨_,r,f,i,l⟩:=h;unfold N0;split
 .exact sH j u r f i l
 .exact sH j u r f i l
def Fz(u:yb C a b)(M:kindOf st=kd)(B:Eqv BR st)(l:(∃x,c.1=J x/\MR C a b x)\/JZ C a b N c):wpS (model prog w) A E s (P5 a b g c) (Fv C a b N BR) st:=by
 obtain⟨S,H,W,U,na,nb⟩:=c;rcases l with⟨r,j,P⟩|⟨l,j⟩
 .cases j;exact wpS_pure ⟨B,r,rfl,P⟩
 .cases l;refine wpS_bind (wpS_lift (wpAny_rule ⟨rfl,?_⟩));refine wpS_bind (wpS_mono (wpS_forRange (I:=λy c i=>Eqv st i/\LI C a b N c) (Q:=λc i=>Eqv st i/\((∃x,c.1=J x/\MR C a b x)\/LI C a b N c)) ?_ ?_ ⟨Eqv.rfl',rfl,j⟩) ?_)
  .rintro y c i _ R ⟨f,F⟩;refine wpS_mono (Fy u (f.kind.trans M) F) λr G j=>?_
   cases r with
   |done L=>exact⟨f.trans j.1,j.2⟩
   |yield L=>exact⟨f.trans j.1,j.2⟩
  .rintro c i ⟨f,z⟩;exact⟨f,.inr z⟩
  .rintro c i ⟨f,l⟩;exact Fx (B.trans f) l
def FA(i:yb C a b)(F:kindOf st=kd)(h:N2 C a b N c):wpS (model prog w) A E s (P6 a b c) (Fv C a b (N+1) st) st:=by
 obtain⟨z,G⟩:=h
 refine wpS_bind (wpS_mono (wpS_forRange (I:=λy c f=>f=st/\JZ C a b (N+y) c)
  (Q:=λc f=>f=st/\((∃x,c.1=J x/\MR C a b x)\/JZ C a b (N+1) c)) ?_ ?_ ⟨rfl,rfl,G⟩) ?_)
 .rintro y c f _ R ⟨rfl,P⟩;obtain⟨z,M,B,l,j⟩:=P;refine wpS_mono (Fw i F M B l j) λr H u=>?_
  cases r with
  |done L=>exact⟨u.1,u.2.imp_right λh=>⟨h.1,h.2.1,h.2.2.1,h.2.2.2.1,l7 ⋯ h.2.2.2.2⟩⟩
  |yield L=>exact u
 .rintro c f ⟨rfl,h⟩;exact⟨rfl,.inr ⟨h.1,h.2.1,h.2.2.1,h.2.2.2.1,l7 ⋯ h.2.2.2.2⟩⟩
 .rintro c f ⟨rfl,z⟩;exact Fz i F Eqv.rfl' z
def FC(u:yb C a b)(G:kindOf st=kd)(y:MI C a b #[x0] 0 1)(L:0+1<a.size)(B:1<b.size)(h:∀x f,Eqv st f->MR C a b x->Q x f):wpS (model prog w) A E s (P7 a b x0) Q st:=by
 refine wpS_bind (wpS_get ?_)
 refine wpS_bind (wpS_mono (wpS_forRange (I:=λx c f=>Eqv st f/\N2 C a b (x+1) c)
  (Q:=λc f=>Eqv st f/\∃x,c.1=J x/\MR C a b x) ?_ ?_ ⟨Eqv.rfl',rfl,y,L,B,ii _⟩) ?_)
 .rintro x c f _ P ⟨j,l⟩;refine wpS_mono (FA u (j.kind.trans G) l) λr z i=>?_
  cases r with
  |done F=>exact⟨j.trans i.1,i.2⟩
  |yield F=>exact⟨j.trans i.1,i.2⟩
 .rintro c f ⟨j,l⟩;exfalso;have y:=l.2.2.1;have S:=l.2.2.2.1
  have:=l.2.1.size ⋯ ⋯
  have:=l.2.2.2.2
  lia
 .rintro c f ⟨j,r,i,H⟩;obtain⟨M,R⟩:=c;cases i;exact wpS_pure (h r f j H)
def FD(f:yb C a b)(L:kindOf st=kd)(h:∀x j,Eqv st j->MR C a b x->Q x j):wpS (model prog w) A E s (kI a b) Q st:=by
 rw[N1];refine wpS_bind (wpS_lift (wpAny_rule ⟨rfl,?_⟩));have G:=f.na;have F:=f.nb;refine wpS_bind (aQ ⋯ λB i=>?_);have P:MI C a b #[] 0 0:=⟨by simp,by unfold LS;simp,λx M=>by simp at M⟩;have r:MI C a b #[B] 0 1:=by
  have:=P.pushB f.sa f.sb i (λq u=>f.fst B q i u)
  simpa using this
 by_cases z:1=b.size
 .rw[b_ (by simpa using z)]
  have:=r.all f.sa f.sb (.inr ⋯)
  exact wpS_pure (h _ st Eqv.rfl' (by simpa using this))
 .rw[d_ (by simpa using z)];by_cases l:0+1=a.size
  .rw[b_ (by simpa using l)]
   have:=r.one f.sa f.sb l λy q H u=>f.lst y q H (by rw[<-l];exact u)
   exact wpS_pure (h _ st Eqv.rfl' (by simpa using this))
  .rw[d_ (by simpa using l)];exact FC f L r ⋯ ⋯ h
end
def zl{m k:Nat}(a:1<=m)(b:m<=k):m-1<k:=q_ (C_ a DP) b
def AL{m k:Nat}(h:k<m):m-k=m-(k+1)+1:=(Nat.succ_pred_eq_of_pos (Nat.sub_pos_of_lt h)).symm
def Mh{m k s:Nat}(h:k<m)(b:m<=s):m-(k+1)<s:=q_ (C_ (Nat.zero_lt_of_lt h) (Nat.succ_pos k)) b
def kS:Array Keyed->Array Keyed->StateT SortSt Sem (Array Keyed):=sortPriv% PySem.Builtin.mergeHi
section
variable{prog:Program}{w:World}{A:Around}{E:RQ}{s:Shared}{kd:SortKind}{O:KeyOrd}{C:ul prog w A E s kd O}{a b ou:Array Keyed}{m n:Nat}{st:SortSt}
structure HI(C:ul prog w A E s kd O)(a b ou:Array Keyed)(m n:Nat):Prop where
 perm:(a.toList.take m++b.toList.take n++ou.toList.reverse).Perm (a.toList++b.toList)
 srt:LS C ou.toList.reverse
 hgh:LB C (a.toList.take m++b.toList.take n) ou.toList.reverse
def HI.size(h:HI C a b ou m n)(f:m<=a.size)(i:n<=b.size):ou.size+m+n=a.size+b.size:=by
 have:=h.perm.length_eq
 simp at this;lia
def j9{xs:Array Keyed}{i:Nat}{p:Keyed}(h:xs[i]?=J p):xs.toList.take (i+1)=xs.toList.take i++[p]:=by rw[AH,uY,h];rfl
def ij{xs:Array Keyed}(h:LS C xs.toList)(i:Nat):LS C (xs.toList.take i):=h.sublist (MX i _)
def jY{xs:Array Keyed}(h:LS C xs.toList){i:Nat}{p:Keyed}(l:xs[i]?=J p):∀y∈xs.toList.take (i+1),O.kle (C.key y) (C.key p):=by
 have j:=ij h (i+1);rw[j9 l]at j ⊢;unfold LS at j;rw[List.pairwise_append]at j;intro y f;rcases mh.mp f with f|f
 .exact j.2.2 y f p (by simp)
 .have:y=p:=by simpa using f
  subst this;exact KeyOrd.kle_refl _
def gB(p:Keyed):(ou.push p).toList.reverse=p::ou.toList.reverse:=by simp
def HI.pushA(h:HI C a b ou (m+1) n)(G:LS C a.toList)(B:LS C b.toList){p:Keyed}(z:a[m]?=J p)(u:1<=n)(l:n<=b.size)(F:∀q,b[n-1]?=J q->O.kle (C.key q) (C.key p)):HI C a b (ou.push p) m n:=by
 have hd:=j9 z;obtain⟨q,j⟩:∃q,b[n-1]?=J q:=⟨_,getElem?_pos b (n-1) (zl u l)⟩;have r:∀y∈a.toList.take m++b.toList.take n,O.kle (C.key y) (C.key p):=by
  intro y f;rcases mh.mp f with f|f
  .exact jY G z y (by rw[hd];exact sv _ f)
  .refine KeyOrd.kle_trans (jY B j y ?_) (F q j);rw[DK u];exact f
 refine⟨?_,?_,?_⟩
 .have:=h.perm
  rw[hd]at this;rw[gB];refine List.Perm.trans ?_ this;have e1:(a.toList.take m++b.toList.take n++p::ou.toList.reverse).Perm (p::(a.toList.take m++b.toList.take n++ou.toList.reverse)):=Iy;have e2:(a.toList.take m++[p]++b.toList.take n++ou.toList.reverse).Perm (p::(a.toList.take m++b.toList.take n++ou.toList.reverse)):=by simp_all
  exact e1.trans e2.symm
 .rw[gB];unfold LS;rw[Iq];refine⟨λy f=>h.hgh p (sv _ (by rw[hd];simp)) y f,h.srt⟩
 .rw[gB];intro x i y f;rcases mu.mp f with rfl|f
  .exact r x i
  .refine h.hgh x ?_ y f;rcases mh.mp i with i|i
   .exact sv _ (by rw[hd];exact sv _ i)
   .exact pk _ i
def HI.pushB(h:HI C a b ou m (n+1))(G:LS C a.toList)(B:LS C b.toList){p:Keyed}(z:b[n]?=J p)(u:1<=m)(l:m<=a.size)(F:∀q,a[m-1]?=J q->O.kle (C.key q) (C.key p)):HI C a b (ou.push p) m n:=by
 have hd:=j9 z;obtain⟨q,j⟩:∃q,a[m-1]?=J q:=⟨_,getElem?_pos a (m-1) (zl u l)⟩;have r:∀y∈a.toList.take m++b.toList.take n,O.kle (C.key y) (C.key p):=by
  intro y f;rcases mh.mp f with f|f
  .refine KeyOrd.kle_trans (jY G j y ?_) (F q j);rw[DK u];exact f
  .exact jY B z y (by rw[hd];exact sv _ f)
 refine⟨?_,?_,?_⟩
 .have:=h.perm
  simp_all
 .rw[gB];unfold LS;rw[Iq];refine⟨λy f=>h.hgh p (pk _ (by rw[hd];simp)) y f,h.srt⟩
 .rw[gB];intro x i y f;rcases mu.mp f with rfl|f
  .exact r x i
  .refine h.hgh x ?_ y f;rcases mh.mp i with i|i
   .exact sv _ i
   .exact pk _ (by rw[hd];exact sv _ i)
def qz{xs:Array Keyed}{m k:Nat}{p:Keyed}(f:k<m)(i:m<=xs.size)(h:xs[m-(k+1)]?=J p):ou++(xs.extract (m-(k+1)) m).reverse=(ou++(xs.extract (m-k) m).reverse).push p:=by apply C6.mp;simp only[DJ,Array.toList_reverse,AR,Lo,ML];rw[Iz f,Iz (u0 f),ie h,<-AL f];simp
def HI.moveA(h:HI C a b ou m n)(M:LS C a.toList)(G:LS C b.toList)(y:m<=a.size)(H:1<=n)(j:n<=b.size):∀k,k<=m->(∀r p q,m-k<=r->r<m->a[r]?=J p->b[n-1]?=J q->O.kle (C.key q) (C.key p)) ->
  HI C a b (ou++(a.extract (m-k) m).reverse) (m-k) n:=by
 intro k
 induction k with
 |zero =>
  intro _ _;have e:ou++(a.extract (m-0) m).reverse=ou:=by apply C6.mp;simp
  rw[e];exact h
 |succ k L =>
  intro f z;have u:=getElem?_pos a (m-(k+1)) (Mh f y);have B:=L (u0 f) λr p q i=>z r p q (l7 (Lr (C9 k) _) i);have e:=AL f;rw[qz f y u];rw[e]at B;have F:=B.pushA M G u H j (λq l=>z _ _ q (ii _) (Mh f (ii _)) u l);rw[<-e]at F;exact F
def HI.moveB(h:HI C a b ou m n)(M:LS C a.toList)(H:LS C b.toList)(y:n<=b.size)(G:1<=m)(i:m<=a.size):∀k,k<=n->(∀r p q,n-k<=r->r<n->b[r]?=J p->a[m-1]?=J q->O.kle (C.key q) (C.key p)) ->
  HI C a b (ou++(b.extract (n-k) n).reverse) m (n-k):=by
 intro k
 induction k with
 |zero =>
  intro _ _;have e:ou++(b.extract (n-0) n).reverse=ou:=by apply C6.mp;simp
  rw[e];exact h
 |succ k L =>
  intro f z;have u:=getElem?_pos b (n-(k+1)) (Mh f y);have B:=L (u0 f) λr p q j=>z r p q (l7 (Lr (C9 k) _) j);have e:=AL f;rw[qz f y u];rw[e]at B;have F:=B.pushB M H u G i (λq l=>z _ _ q (ii _) (Mh f (ii _)) u l);rw[<-e]at F;exact F
def kT{xs:Array Keyed}{i:Nat}:(xs.extract 0 i).toList=xs.toList.take i:=by rw[Lo,ML];simp
def HI.all(h:HI C a b ou m n)(i:LS C a.toList)(j:LS C b.toList)(f:m=0\/n=0):MR C a b (a.extract 0 m++b.extract 0 n++ou.reverse):=by
 have e:(a.extract 0 m++b.extract 0 n++ou.reverse).toList=a.toList.take m++b.toList.take n++ou.toList.reverse:=by simp_all
 unfold MR;rw[e];refine⟨h.perm,bQ ?_ h.srt h.hgh⟩;rcases f with rfl|rfl
 .simpa using ij j n
 .simpa using ij i m
def HI.one(h:HI C a b ou m n)(f:yb C a b)(F:n=1):MR C a b (b.extract 0 n++a.extract 0 m++ou.reverse):=by
 subst F;have e:(b.extract 0 1++a.extract 0 m++ou.reverse).toList=b.toList.take 1++a.toList.take m++ou.toList.reverse:=by rw[DJ,DJ,kT,kT,Array.toList_reverse]
 unfold MR;rw[e];have z:=f.nb;have B:=f.na;have r:=getElem?_pos b 0 ⋯;have u:=getElem?_pos a 0 ⋯;have hd:=j9 r;refine⟨(List.Perm.append_right _ PD).trans h.perm,bQ (bQ (ij f.sb 1) (ij f.sa m) ?_) h.srt ?_⟩
 .intro x l y j;have i:x=b[0]'⋯:=by
   have:=l
   rw[hd]at this;simpa using this
  subst i;refine KeyOrd.kle_trans (f.fst _ _ r u) (iB f.sa u y ?_);exact Lp j
 .intro x l y j;exact h.hgh x (mh.mpr (mh.mp l).symm) y j
end
abbrev HS:=Option (Array Keyed)×Nat×Nat×Array Keyed×Nat×Nat×Nat
def FE(a b f:Array Keyed)(m n g i j:Nat):StateT SortSt Sem (ForInStep HS):=do
 let x <-elem' a (m-1)
 if(m-1==0)=I then pure (ForInStep.done (J (a.extract 0 (m-1)++b.extract 0 n++(f.push x).reverse),m-1,n,f.push x,g,i,j))
 else if(decide (i<7)&&decide (j<7))=I then pure (ForInStep.done (Y,m-1,n,f.push x,g,i,j))
 else pure (ForInStep.yield (Y,m-1,n,f.push x,g,i,j))
def FF(a b f:Array Keyed)(m n g i j:Nat):StateT SortSt Sem (ForInStep HS):=do
 let x <-elem' b (n-1)
 if(n-1==1)=I then pure (ForInStep.done (J (b.extract 0 (n-1)++a.extract 0 m++(f.push x).reverse),m,n-1,f.push x,g,i,j))
 else do
  let y <-elem' a (m-1)
  let q <-gallop' I y b 0 (n-1) (n-1-1)
  match q with
  |some z =>
   if n-1-z>0 then
    if(z==1)=I then
     pure (ForInStep.done (J (b.extract 0 z++a.extract 0 m++(f.push x++(b.extract z (n-1)).reverse).reverse),m,z,f.push x++(b.extract z (n-1)).reverse,g,i,n-1-z))
    else if(z==0)=I then
     pure (ForInStep.done (J (a.extract 0 m++b.extract 0 z++(f.push x++(b.extract z (n-1)).reverse).reverse),m,z,f.push x++(b.extract z (n-1)).reverse,g,i,n-1-z))
    else FE a b (f.push x++(b.extract z (n-1)).reverse) m z g i (n-1-z)
   else FE a b (f.push x) m (n-1) g i (n-1-z)
  |_=>pure (ForInStep.done (J (a.extract 0 m++b.extract 0 (n-1)++(f.push x).reverse),m,n-1,f.push x,g,i,j))
def B5(a b f:Array Keyed)(m n g j i:Nat):StateT SortSt Sem (ForInStep HS):=do
 B3 g
 let x <-elem' b (n-1)
 let q <-gallop' T x a 0 m (m-1)
 match q with
 |some z =>
  if m-z>0 then
   if(z==0)=I then
    pure (ForInStep.done (J (a.extract 0 z++b.extract 0 n++(f++(a.extract z m).reverse).reverse),z,n,f++(a.extract z m).reverse,g,m-z,i))
   else FF a b (f++(a.extract z m).reverse) z n g (m-z) i
  else FF a b f m n g (m-z) i
 |_=>pure (ForInStep.done (J (a.extract 0 m++b.extract 0 n++f.reverse),m,n,f,g,j,i))
abbrev HB:=Option (Array Keyed)×Nat×Nat×Array Keyed×Nat×Nat
abbrev HC:=Option (Array Keyed)×Nat×Nat×Array Keyed×Nat
def N4(a b:Array Keyed)(g:Nat)(c:HB):StateT SortSt Sem (ForInStep HB):=do
 let x <-elem' b (c.2.2.1-1)
 let y <-elem' a (c.2.1-1)
 let q <-lt' x y
 match q with
 |some q =>
  if q=I then do
   let z <-elem' a (c.2.1-1)
   if(c.2.1-1==0)=I then pure (ForInStep.done (J (a.extract 0 (c.2.1-1)++b.extract 0 c.2.2.1++(c.2.2.2.1.push z).reverse),c.2.1-1,c.2.2.1,c.2.2.2.1.push z,c.2.2.2.2.1+1,0))
   else if c.2.2.2.2.1+1>=g then pure (ForInStep.done (Y,c.2.1-1,c.2.2.1,c.2.2.2.1.push z,c.2.2.2.2.1+1,0))
   else pure (ForInStep.yield (Y,c.2.1-1,c.2.2.1,c.2.2.2.1.push z,c.2.2.2.2.1+1,0))
  else do
   let z <-elem' b (c.2.2.1-1)
   if(c.2.2.1-1==1)=I then pure (ForInStep.done (J (b.extract 0 (c.2.2.1-1)++a.extract 0 c.2.1++(c.2.2.2.1.push z).reverse),c.2.1,c.2.2.1-1,c.2.2.2.1.push z,0,c.2.2.2.2.2+1))
   else if c.2.2.2.2.2+1>=g then pure (ForInStep.done (Y,c.2.1,c.2.2.1-1,c.2.2.2.1.push z,0,c.2.2.2.2.2+1))
   else pure (ForInStep.yield (Y,c.2.1,c.2.2.1-1,c.2.2.2.1.push z,0,c.2.2.2.2.2+1))
 |_=>pure (ForInStep.done (J (a.extract 0 c.2.1++b.extract 0 c.2.2.1++c.2.2.2.1.reverse),c.2.1,c.2.2.1,c.2.2.2.1,c.2.2.2.2.1,c.2.2.2.2.2))
def N5(a b:Array Keyed)(c:HS):StateT SortSt Sem (ForInStep HS) :=
 if c.2.2.2.2.1>1 then B5 a b c.2.2.2.1 c.2.1 c.2.2.1 (c.2.2.2.2.1-1) c.2.2.2.2.2.1 c.2.2.2.2.2.2
 else B5 a b c.2.2.2.1 c.2.1 c.2.2.1 c.2.2.2.2.1 c.2.2.2.2.2.1 c.2.2.2.2.2.2
def P8(c:HS):StateT SortSt Sem (ForInStep HC) :=
 match c.1 with
 |some r=>pure (ForInStep.done (J r,c.2.1,c.2.2.1,c.2.2.2.1,c.2.2.2.2.1))
 |none=>do
  B3 (c.2.2.2.2.1+1)
  pure (ForInStep.yield (Y,c.2.1,c.2.2.1,c.2.2.2.1,c.2.2.2.2.1+1))
def P9(a b:Array Keyed)(g:Nat)(c:HB):StateT SortSt Sem (ForInStep HC) :=
 match c.1 with
 |some r=>pure (ForInStep.done (J r,c.2.1,c.2.2.1,c.2.2.2.1,g))
 |none=>do
  liftM (rule "list.sort.gallop")
  let e <-forIn [:a.size+b.size] ((Y,c.2.1,c.2.2.1,c.2.2.2.1,g+1,c.2.2.2.2.1,c.2.2.2.2.2):HS) λ_ e=>N5 a b e
  P8 e
def P_(a b:Array Keyed)(c:HC):StateT SortSt Sem (ForInStep HC):=do
 let d <-forIn [:a.size+b.size] ((Y,c.2.1,c.2.2.1,c.2.2.2.1,0,0):HB) λ_ d=>N4 a b c.2.2.2.2 d
 P9 a b c.2.2.2.2 d
def Qa(a b:Array Keyed)(x:Keyed):StateT SortSt Sem (Array Keyed):=do
 let g <-get
 let r <-forIn [:a.size+b.size] ((Y,a.size-1,b.size,#[x],gallopOf g):HC) λ_ c=>P_ a b c
 match r.1 with
 |some r=>pure r
 |none=>liftM (unsupported "internal:list.sort.merge-bound":Sem (Array Keyed))
def N6(a b:Array Keyed):kS a b=(do
 liftM (rule "list.sort.merge-hi")
 let x <-elem' a (a.size-1)
 if(a.size-1==0)=I then pure (a.extract 0 (a.size-1)++b.extract++#[x].reverse)
 else if(b.size==1)=I then pure (b.extract++a.extract 0 (a.size-1)++#[x].reverse)
 else Qa a b x):=by
 refine congrArg (Bind.bind _) (funext λ_=>congrArg (Bind.bind _) (funext λx=>congrArg (λz=>ite _ _ (ite _ _ z)) ?_));have e:∀{α β:Type}{x y:StateT SortSt Sem α}{f h:α->StateT SortSt Sem β},x=y->(∀a,f a=h a)->(x >>= f)=(y >>= h):=λe f=>by rw[e,funext f]
 refine congrArg (Bind.bind _) (funext λg=>e (congrArg (forIn _ _) (funext λ_=>funext λc=>?_)) λ⟨r,_⟩=>by cases r<;>rfl);refine e rfl λd=>?_;obtain⟨i,j⟩:=d
 cases i with
 |some r=>rfl
 |none=>exact congrArg (Bind.bind _) (funext λ_=>e rfl λ⟨r,_⟩=>by cases r<;>rfl)
section
variable{prog:Program}{w:World}{A:Around}{E:RQ}{s:Shared}{kd:SortKind}{O:KeyOrd}{C:ul prog w A E s kd O}{st:SortSt}{a b:Array Keyed}
def FG(C:ul prog w A E s kd O)(a b:Array Keyed)(N:Nat)(c:HS):Prop :=
 c.1=Y/\HI C a b c.2.2.2.1 c.2.1 c.2.2.1/\1<=c.2.1/\c.2.1<=a.size/\2<=c.2.2.1/\c.2.2.1<=b.size/\N<=c.2.2.2.1.size
def lE(C:ul prog w A E s kd O)(a b:Array Keyed)(N:Nat)(st:SortSt)(r:ForInStep HS)(f:SortSt):Prop:=Eqv st f/\match r with
 |.done c=>(∃x,c.1=J x/\MR C a b x)\/FG C a b N c
 |.yield c=>FG C a b N c
def tq(f:yb C a b)(h:HI C a b ou m n)(r:1<=m)(i:m<=a.size)(F:2<=n)(j:n<=b.size)(hN:N<=ou.size)(y:∀p q,b[n-1]?=J p->a[m-1]?=J q->O.kle (C.key p) (C.key q)):wpS (model prog w) A E s (FE a b ou m n g ca cb) (lE C a b N st) st:=by
 refine wpS_bind (aQ (zl r i) λx G=>?_);have e:=(DK r).symm;have H:HI C a b (ou.push x) (m-1) n:=by have z:=h;rw[e]at z;exact z.pushA f.sa f.sb G (Hw F) j (λq L=>y q x L G)
 have u:(ou.push x).size=ou.size+1:=AV ..;by_cases l:m-1=0
 .rw[b_ (by simpa using l)];exact wpS_pure ⟨Eqv.rfl',.inl ⟨_,rfl,H.all f.sa f.sb (.inl l)⟩⟩
 .rw[d_ (by simpa using l)];have B:FG C a b N (Y,m-1,n,ou.push x,g,ca,cb):=⟨rfl,H,Ir l,u0 (zl r i),F,j,u▸Nat.le_succ_of_le hN⟩;split
  .exact wpS_pure ⟨Eqv.rfl',.inr B⟩
  .exact wpS_pure ⟨Eqv.rfl',B⟩
def sI(f:yb C a b)(hk:kindOf st=kd)(h:HI C a b ou m n)(L:1<=m)(j:m<=a.size)(hn:2<=n)(ab:n<=b.size)(hN:N<=ou.size)(aj:∀p q,a[m-1]?=J p->b[n-1]?=J q->O.kle (C.key p) (C.key q)):wpS (model prog w) A E s (FF a b ou m n g ca cb) (lE C a b N st) st:=by
 have P:=Hw hn;have G:=zl P ab;refine wpS_bind (aQ G λx hx=>?_);have e:=(DK P).symm;have h1:HI C a b (ou.push x) m (n-1):=by have h':=h;rw[e]at h';exact h'.pushB f.sa f.sb hx L j (λq i=>aj q x i hx)
 have X:(ou.push x).size=ou.size+1:=AV ..;by_cases z1:n-1=1
 .rw[b_ (by simpa using z1)];exact wpS_pure ⟨Eqv.rfl',.inl ⟨_,rfl,h1.one f z1⟩⟩
 .rw[d_ (by simpa using z1)];refine wpS_bind (aQ (zl L j) λy U=>?_);refine wpS_bind (du (C:=C) hk f.gb (ba f.ga U) ⋯ (C_ (Io hn) DP) ?_ λz hz W Z=>?_)
  .intro p q u am i;exact jJ f.sb p q (ux _) am ⋯
  .have l:∀r p q,r<z->b[r]?=J p->a[m-1]?=J q->O.kle (C.key p) (C.key q):=λr p q hr u i=>by
    have:=W r hr
    unfold h8 at this;rw[qr,aO u]at this;rw[U]at i;cases i;exact KeyOrd.kle_of_klt this
   have M:∀r p q,z<=r->r<n-1->b[r]?=J p->a[m-1]?=J q->O.kle (C.key q) (C.key p):=λr p q F B u i=>by
    have:=Z r F B
    unfold h8 at this;rw[qr,aO u]at this;rw[U]at i;cases i;exact this
   dsimp only;by_cases H:n-1-z>0
   .rw[b_ H];have ez:=Iz hz;have R:=h1.moveB f.sa f.sb (u0 G) L j (n-1-z) (AI ..) (λr p q F B=>M r p q (ez▸F) B);rw[ez]at R;by_cases S:z=1
    .rw[b_ (by simpa using S)];exact wpS_pure ⟨Eqv.rfl',.inl ⟨_,rfl,R.one f S⟩⟩
    .rw[d_ (by simpa using S)];by_cases Q:z=0
     .rw[b_ (by simpa using Q)];exact wpS_pure ⟨Eqv.rfl',.inl ⟨_,rfl,R.all f.sa f.sb (.inr Q)⟩⟩
     .rw[d_ (by simpa using Q)];exact tq f R L j ⋯ ⋯ (by rw[Is];lia) (λp q u i=>l (z-1) p q (Nat.sub_one_lt Q) u i)
   .rw[d_ H];exact tq f h1 L j ⋯ (u0 G) (X▸Nat.le_succ_of_le hN) (λp q u i=>l (n-1-1) p q (q_ (C_ (Io hn) DP) (PF (Pz H))) u i)
def tO(f:yb C a b)(hk:kindOf st=kd)(h:HI C a b ou m n)(R:1<=m)(B:m<=a.size)(P:2<=n)(j:n<=b.size)(hN:N<=ou.size):
  wpS (model prog w) A E s (B5 a b ou m n g ca cb) (lE C a b N st) st:=by
 unfold B5;refine wpS_bind (wpS_modify ?_);have ev:Eqv st (SortSt.mk' (kindOf st) (arrOf st) (pendingOf st) g (failedOf st)):=⟨rfl,rfl,rfl,rfl⟩;refine wpS_mono (Q:=lE C a b N (SortSt.mk' (kindOf st) (arrOf st) (pendingOf st) g (failedOf st))) ?_ λr ab h=>⟨ev.trans h.1,h.2⟩;have H:kindOf (SortSt.mk' (kindOf st) (arrOf st) (pendingOf st) g (failedOf st))=kd:=hk;refine wpS_bind (aQ (zl (Hw P) j) λx X=>?_);refine wpS_bind (du (C:=C) H f.ga (ba f.gb X) ⋯ (C_ R DP) ?_ λz hz S U=>?_)
 .intro p q u Z i;exact jJ f.sa p q (ux _) Z ⋯
 .have l:∀r p q,r<z->a[r]?=J p->b[n-1]?=J q->O.kle (C.key p) (C.key q):=λr p q hr u i=>by
   have:=S r hr
   unfold h8 at this;rw[qr,aO u]at this;rw[X]at i;cases i;simp only[o0,if_false,Hu]at this;exact this
  have M:∀r p q,z<=r->r<m->a[r]?=J p->b[n-1]?=J q->O.kle (C.key q) (C.key p):=λr p q F y u i=>by
   have:=U r F y
   unfold h8 at this;rw[qr,aO u]at this;rw[X]at i;cases i;simp only[o0,if_false,MV]at this;exact KeyOrd.kle_of_klt this
  dsimp only;by_cases G:m-z>0
  .rw[b_ G];have ez:=Iz hz;have W:=h.moveA f.sa f.sb B (Hw P) j (m-z) (AI ..) (λr p q F y=>M r p q (ez▸F) y);rw[ez]at W;by_cases L:z=0
   .rw[b_ (by simpa using L)];exact wpS_pure ⟨Eqv.rfl',.inl ⟨_,rfl,W.all f.sa f.sb (.inl L)⟩⟩
   .rw[d_ (by simpa using L)];exact sI f H W (Ir L) (l7 hz B) P j (by rw[Is];lia) (λp q u i=>l (z-1) p q (Nat.sub_one_lt L) u i)
  .rw[d_ G];exact sI f H h R B P j hN (λp q u i=>l (m-1) p q (zl R (PF (Pz G))) u i)
def J0(C:ul prog w A E s kd O)(a b:Array Keyed)(N:Nat)(c:HB):Prop :=
 c.1=Y/\HI C a b c.2.2.2.1 c.2.1 c.2.2.1/\1<=c.2.1/\c.2.1<=a.size/\2<=c.2.2.1/\c.2.2.1<=b.size/\N<=c.2.2.2.1.size
def N7(C:ul prog w A E s kd O)(a b:Array Keyed)(N:Nat)(c:HC):Prop :=
 c.1=Y/\HI C a b c.2.2.2.1 c.2.1 c.2.2.1/\1<=c.2.1/\c.2.1<=a.size/\2<=c.2.2.1/\c.2.2.1<=b.size/\N<=c.2.2.2.1.size
def J1(C:ul prog w A E s kd O)(a b:Array Keyed)(N:Nat)(st:SortSt)(r:ForInStep HB)(f:SortSt):Prop:=match r with
 |.done c=>f=st/\((∃x,c.1=J x/\MR C a b x)\/J0 C a b N c)
 |.yield c=>f=st/\J0 C a b N c
def um(C:ul prog w A E s kd O)(a b:Array Keyed)(N:Nat)(st:SortSt)(r:ForInStep HC)(f:SortSt):Prop:=match r with
 |.done c=>Eqv st f/\∃x,c.1=J x/\MR C a b x
 |.yield c=>Eqv st f/\N7 C a b N c
def FH(f:yb C a b)(Q:kindOf st=kd)(L:HI C a b ou' m' n')(l:1<=m')(j:m'<=a.size)(B:2<=n')(i:n'<=b.size)(hN:N<=ou'.size):
  wpS (model prog w) A E s (N4 a b g (Y,m',n',ou',ca,cb)) (J1 C a b (N+1) st) st:=by
 unfold N4;dsimp only;have F:=Hw B;have na:=zl l j;have nb:=zl F i;refine wpS_bind (aQ nb λp P=>wpS_bind (aQ na λq M=>?_));refine wpS_bind (C.ask p q st _ (ba f.gb P) (ba f.ga M) Q ?_)
 cases R:O.blt (C.key p) (C.key q) with
 |true =>
  dsimp only;refine wpS_bind (aQ na λU y=>?_);rw[M]at y;cases y;have em:=(DK l).symm;have G:HI C a b (ou'.push q) (m'-1) n':=by have H:=L;rw[em]at H;exact H.pushA f.sa f.sb M F i (λW r=>by rw[P]at r;cases r;exact KeyOrd.kle_of_klt R)
  have u:(ou'.push q).size=ou'.size+1:=AV ..;by_cases z:m'-1=0
  .rw[b_ (by simpa using z)];exact wpS_pure ⟨rfl,.inl ⟨_,rfl,G.all f.sa f.sb (.inl z)⟩⟩
  .rw[d_ (by simpa using z)];split
   .exact wpS_pure ⟨rfl,.inr ⟨rfl,G,Ir z,u0 na,B,i,u▸DN hN⟩⟩
   .exact wpS_pure ⟨rfl,rfl,G,Ir z,u0 na,B,i,u▸DN hN⟩
 |false =>
  dsimp only;rw[d_ (by simp)];refine wpS_bind (aQ nb λW r=>?_);rw[P]at r;cases r;have S:=(DK F).symm;have G:HI C a b (ou'.push p) m' (n'-1):=by have H:=L;rw[S]at H;exact H.pushB f.sa f.sb P l j (λU y=>by rw[M]at y;cases y;exact R)
  have u:(ou'.push p).size=ou'.size+1:=AV ..;by_cases z:n'-1=1
  .rw[b_ (by simpa using z)];exact wpS_pure ⟨rfl,.inl ⟨_,rfl,G.one f z⟩⟩
  .rw[d_ (by simpa using z)];split
   .exact wpS_pure ⟨rfl,.inr ⟨rfl,G,l,j,⋯,u0 nb,u▸DN hN⟩⟩
   .exact wpS_pure ⟨rfl,rfl,G,l,j,⋯,u0 nb,u▸DN hN⟩
def FI(j:Eqv BR st)(f:(∃x,c.1=J x/\MR C a b x)\/FG C a b N c):wpS (model prog w) A E s (P8 c) (um C a b N BR) st:=by
 obtain⟨H,F,B,y,G,z,l⟩:=c;rcases f with⟨r,i,u⟩|⟨f,i⟩
 .cases i;exact wpS_pure ⟨j,r,rfl,u⟩
 .cases f;exact wpS_bind (wpS_modify (wpS_pure ⟨j.trans ⟨rfl,rfl,rfl,rfl⟩,rfl,i⟩))
def FJ(r:yb C a b)(z:kindOf st=kd)(h:FG C a b N c):wpS (model prog w) A E s (N5 a b c) (lE C a b N st) st:=by
 obtain⟨_,y,j,f,l,i,u⟩:=h;unfold N5;split
 .exact tO r z y j f l i u
 .exact tO r z y j f l i u
def FK(u:yb C a b)(M:kindOf st=kd)(B:Eqv BR st)(l:(∃x,c.1=J x/\MR C a b x)\/J0 C a b N c):wpS (model prog w) A E s (P9 a b g c) (um C a b N BR) st:=by
 obtain⟨U,X,W,H,Z,R⟩:=c;rcases l with⟨r,j,P⟩|⟨l,j⟩
 .cases j;exact wpS_pure ⟨B,r,rfl,P⟩
 .cases l;refine wpS_bind (wpS_lift (wpAny_rule ⟨rfl,?_⟩));refine wpS_bind (wpS_mono (wpS_forRange (I:=λy c i=>Eqv st i/\FG C a b N c) (Q:=λc i=>Eqv st i/\((∃x,c.1=J x/\MR C a b x)\/FG C a b N c)) ?_ ?_ ⟨Eqv.rfl',rfl,j⟩) ?_)
  .rintro y c i _ S ⟨f,F⟩;refine wpS_mono (FJ u (f.kind.trans M) F) λr G j=>?_
   cases r with
   |done L=>exact⟨f.trans j.1,j.2⟩
   |yield L=>exact⟨f.trans j.1,j.2⟩
  .rintro c i ⟨f,z⟩;exact⟨f,.inr z⟩
  .rintro c i ⟨f,l⟩;exact FI (B.trans f) l
def FL(j:yb C a b)(R:kindOf st=kd)(h:N7 C a b N c):wpS (model prog w) A E s (P_ a b c) (um C a b (N+1) st) st:=by
 obtain⟨M,U,S,F,X,i,G⟩:=h
 refine wpS_bind (wpS_mono (wpS_forRange (I:=λy c f=>f=st/\J0 C a b (N+y) c)
  (Q:=λc f=>f=st/\((∃x,c.1=J x/\MR C a b x)\/J0 C a b (N+1) c)) ?_ ?_ ⟨rfl,rfl,U,S,F,X,i,G⟩) ?_)
 .rintro y c f _ hy ⟨rfl,h1⟩;obtain⟨M,P,B,u,H,l,z⟩:=h1;refine wpS_mono (FH j R P B u H l z) λr W L=>?_
  cases r with
  |done Z=>exact⟨L.1,L.2.imp_right λh=>⟨h.1,h.2.1,h.2.2.1,h.2.2.2.1,h.2.2.2.2.1,h.2.2.2.2.2.1,l7 ⋯ h.2.2.2.2.2.2⟩⟩
  |yield Z=>exact L
 .rintro c f ⟨rfl,h⟩;exact⟨rfl,.inr ⟨h.1,h.2.1,h.2.2.1,h.2.2.2.1,h.2.2.2.2.1,h.2.2.2.2.2.1,l7 ⋯ h.2.2.2.2.2.2⟩⟩
 .rintro c f ⟨rfl,M⟩;exact FK j R Eqv.rfl' M
def FM(u:yb C a b)(G:kindOf st=kd)(L:HI C a b #[x0] (a.size-1) b.size)(y:1<=a.size-1)(B:2<=b.size)(h:∀x f,Eqv st f->MR C a b x->Q x f):wpS (model prog w) A E s (Qa a b x0) Q st:=by
 refine wpS_bind (wpS_get ?_)
 refine wpS_bind (wpS_mono (wpS_forRange (I:=λx c f=>Eqv st f/\N7 C a b (x+1) c)
  (Q:=λc f=>Eqv st f/\∃x,c.1=J x/\MR C a b x) ?_ ?_ ⟨Eqv.rfl',rfl,L,y,AI _ _,B,ii _,ii _⟩) ?_)
 .rintro x c f _ P ⟨l,j⟩;refine wpS_mono (FL u (l.kind.trans G) j) λr z i=>?_
  cases r with
  |done F=>exact⟨l.trans i.1,i.2⟩
  |yield F=>exact⟨l.trans i.1,i.2⟩
 .rintro c f ⟨l,j⟩;exfalso
  have:=j.2.1.size j.2.2.2.1 j.2.2.2.2.2.1
  have:=j.2.2.2.2.2.2
  lia
 .rintro c f ⟨l,r,i,H⟩;obtain⟨M,R⟩:=c;cases i;exact wpS_pure (h r f l H)
def FN(f:yb C a b)(M:kindOf st=kd)(h:∀x i,Eqv st i->MR C a b x->Q x i):wpS (model prog w) A E s (kS a b) Q st:=by
 rw[N6];refine wpS_bind (wpS_lift (wpAny_rule ⟨rfl,?_⟩));have G:=f.na;have r:=f.nb;refine wpS_bind (aQ ⋯ λB j=>?_)
 have P:HI C a b #[] a.size b.size:=⟨by
   have e1:a.toList.take a.size=a.toList:=C2 (by simp);have e2:b.toList.take b.size=b.toList:=C2 (by simp)
   rw[e1,e2];simp,by unfold LS;simp,λx _ y H=>by simp at H⟩
 have z:HI C a b #[B] (a.size-1) b.size:=by
  have e:a.size=a.size-1+1:=by lia
  have F:HI C a b #[] (a.size-1+1) b.size:=by rw[<-e];exact P
  have:=F.pushA f.sa f.sb j r (ii _) (λq L=>f.lst q B (yL.mpr ⟨_,by rw[uY];exact L⟩) j)
  simpa using this
 by_cases u:a.size-1=0
 .rw[b_ (by simpa using u)];exact wpS_pure (h _ st Eqv.rfl' (z.all f.sa f.sb (.inl u)))
 .rw[d_ (by simpa using u)];by_cases l:b.size=1
  .rw[b_ (by simpa using l)];exact wpS_pure (h _ st Eqv.rfl' (z.one f l))
  .rw[d_ (by simpa using l)];exact FM f M z ⋯ ⋯ h
end
def rO(i:Nat):mergeAt' i=(do
 let c <-get
 let(J (sa,na,pw),J (sb,nb,_)):=((pendingOf c)[i]?,(pendingOf c)[i+1]?)|unsupported "internal:list.sort.pending"
 set (setPending c (((pendingOf c).setIfInBounds i (sa,na+nb,pw)).eraseIdxIfInBounds (i+1)))
 let J k <-gallop' T (<-elem' (arrOf c) sb) (arrOf c) sa na 0|return T
 let(sa,na):=(sa+k,na-k)
 if na==0 then return I
 let J nb <-gallop' I (<-elem' (arrOf c) (sa+na-1)) (arrOf c) sb nb (nb-1)|return T
 if nb==0 then return I
 let x:=(arrOf c).extract sa sb
 let y:=(arrOf c).extract sb (sb+nb)
 let f <-if na<=nb then kI x y else kS x y
 modify λc=>setArr c (f.toList.zipIdx.foldl (λa (p,j)=>a.setIfInBounds (sa+j) p) (arrOf c))
 return (failedOf (<-get)).isNone):=rfl
def B6(f:Nat):∀(l:List Keyed)(q:Nat)(xs:Array Keyed)(i:Nat),((l.zipIdx q).foldl (λa (p:Keyed×Nat)=>a.setIfInBounds (f+p.2) p.1) xs)[i]? =
  if f+q<=i/\i<f+q+l.length/\i<xs.size then l[i-(f+q)]? else xs[i]?:=by
 intro l
 induction l with
 |nil=>intro q xs i;rw[d_ (by simp;lia)];rfl
 |cons p l j =>
  intro q xs i;rw[List.zipIdx_cons,M1,j];simp only[Array.size_setIfInBounds]
  grind
def xm{xs ou:Array Keyed}{off:Nat}(h:off+ou.size<=xs.size):
  (ou.toList.zipIdx.foldl (λa (p:Keyed×Nat)=>a.setIfInBounds (off+p.2) p.1) xs).toList=xs.toList.take off++(ou.toList++xs.toList.drop (off+ou.size)):=by
 apply Iv;intro i;rw[uY,B6];have f:(xs.toList.take off).length=off:=by simp;lia
 by_cases j:i<off
 .rw[d_ ⋯,xu ⋯,Lk j,uY]
 .rw[zE ⋯,f];by_cases l:i<off+ou.size
  .rw[b_ ⟨⋯,by simpa using l,⋯⟩,xu (by simp;lia)];congr 1
  .rw[d_ (by simp;lia),zE (by simp;lia),Lu,uY];congr 1;simp;lia
section
variable{prog:Program}{w:World}{A:Around}{E:RQ}{s:Shared}{kd:SortKind}{O:KeyOrd}{C:ul prog w A E s kd O}{a₀:Array Keyed}{st:SortSt}
def gN{xs:Array Keyed}{lo l i j:Nat}(h:rb C xs lo l)(a:lo<=i)(f:i<=j)(u:j<l){p q:Keyed}(r:xs[i]?=J p)(y:xs[j]?=J q):O.kle (C.key p) (C.key q):=by
 have:=h i j a f u
 rw[aO r,aO y]at this;exact this
def sQ{xs:Array Keyed}{lo f:Nat}{p:Keyed}(j:f<=xs.size)(h:p∈(xs.extract lo f).toList):∃i,lo<=i/\i<f/\xs[i]?=J p:=by
 obtain⟨q,a⟩:=yL.mp h;rw[uY,Ik]at a
 split at a
 .exact⟨lo+q,⋯,⋯,a⟩
 .cases a
def FO{xs:Array Keyed}{i j k:Nat}(a:i<=j)(u:j<=k)(r:k<=xs.size):xs.toList=xs.toList.take i++((xs.extract i j).toList++(xs.extract j k).toList++xs.toList.drop k):=by
 have e1:(xs.extract i j).toList=(xs.toList.drop i).take (j-i):=by simp
 have e2:(xs.extract j k).toList=(xs.toList.drop j).take (k-j):=by simp
 rw[e1,e2];have f:(xs.toList.drop j).take (k-j)++xs.toList.drop k=xs.toList.drop j:=by
  have:=C3 (k-j) (xs.toList.drop j)
  simp_all
 have l:(xs.toList.drop i).take (j-i)++xs.toList.drop j=xs.toList.drop i:=by
  have:=C3 (j-i) (xs.toList.drop i)
  rw[List.drop_drop]at this;rw[C4 a]at this;exact this
 rw[zJ,f,l,C3]
def rH{n1 pw:Nat}{Q:Bool->SortSt->Prop}(h0:ce C a₀)(hB:SB kd a₀ st)(h1:1<=n1)(h2:n1<a₀.size)(hp:pendingOf st=#[(0,n1,pw),(n1,a₀.size-n1,0)])(G:rb C (arrOf st) 0 n1)(B:rb C (arrOf st) n1 a₀.size)(h:∀an,SB kd a₀ an->(pendingOf an).size=1->rb C (arrOf an) 0 a₀.size->Q I an):wpS (model prog w) A E s (mergeAt' 0) Q st:=by
 have as:=hB.size;have hg:=hB.good h0;have ap:=u0 h2;rw[rO];refine wpS_bind (wpS_get ?_);rw[hp];have e0:(#[(0,n1,pw),(n1,a₀.size-n1,0)]:Array (Nat×Nat×Nat))[0]?=J (0,n1,pw):=rfl;have e1:(#[(0,n1,pw),(n1,a₀.size-n1,0)]:Array (Nat×Nat×Nat))[0+1]?=J (n1,a₀.size-n1,0):=rfl;rw[e0,e1];dsimp only;refine wpS_bind ?_;have a9:∀(c:SortSt)(Q':PUnit->SortSt->Prop),Q' ⟨⟩ c->wpS (model prog w) A E s (set c:StateT SortSt Sem PUnit) Q' st:=λc Q' hq=>by
  unfold wpS;rw[StateT.run_set];exact h_ ⟨rfl,hq⟩
 refine a9 _ _ ?_;obtain⟨M,H⟩:∃c,c=setPending st (((#[(0,n1,pw),(n1,a₀.size-n1,0)]:Array (Nat×Nat×Nat)).setIfInBounds 0 (0,n1+(a₀.size-n1),pw)).eraseIdxIfInBounds (0+1)):=⟨_,rfl⟩;rw[<-H];have F:SB kd a₀ M:=by rw[H];exact⟨hB.perm,hB.kind,hB.failed⟩
 have a0:(pendingOf M).size=1:=by rw[H];simp[pendingOf]
 have be:arrOf M=arrOf st:=by rw[H]
 clear H;have W:rb C (arrOf st) 0 n1->rb C (arrOf st) n1 a₀.size->(∀i j,i<n1->n1<=j->j<a₀.size->O.kle (kk C (arrOf st) i) (kk C (arrOf st) j))->rb C (arrOf M) 0 a₀.size:=by
  intro g1 g2 g3 i j _ a4 X;rw[be];by_cases c1:j<n1
  .exact g1 i j (ux _) a4 c1
  .by_cases c2:i<n1
   .exact g3 i j c2 ⋯ X
   .exact g2 i j ⋯ a4 X
 refine wpS_bind (aQ ⋯ λb0 am=>?_);refine wpS_bind (du (C:=C) F.kind hg (ba hg am) ⋯ ⋯ (by rw[qr];exact G) λk hk b2 bm=>?_);have Z:∀r p,r<k->(arrOf st)[r]?=J p->O.kle (C.key p) (C.key b0):=λr p hr f=>by
  have:=b2 r hr
  unfold h8 at this;rw[qr,aO f]at this;simp only[o0,if_false,Hu]at this;exact this
 have a3:∀r p,k<=r->r<n1->(arrOf st)[r]?=J p->O.kle (C.key b0) (C.key p):=λr p P U f=>by
  have:=bm r P U
  unfold h8 at this;rw[qr,aO f]at this;simp only[o0,if_false,MV]at this;exact KeyOrd.kle_of_klt this
 dsimp only;rw[qr];have R:∀i,i<a₀.size->∃p,(arrOf st)[i]?=J p:=λi u=>⟨_,getElem?_pos _ i ⋯⟩;by_cases z1:n1-k=0
 .rw[b_ (by simpa using z1)];refine wpS_pure (h M F a0 (W G B λi j u bi S=>?_));obtain⟨p,f⟩:=R i ⋯;obtain⟨q,z⟩:=R j S;rw[aO f,aO z];exact KeyOrd.kle_trans (Z i p (q_ u (Py.1 z1)) f) (gN B (ii _) bi S am z)
 .rw[d_ (by simpa using z1)];have ez:k+(n1-k)-1=n1-1:=by rw[C4 hk]
  rw[ez];refine wpS_bind (aQ (as▸Lv (AI ..) h2) λal ax=>?_);refine wpS_bind (du (C:=C) F.kind hg (ba hg ax) (M6 ((C4 ap).trans as.symm)) (C_ (Nat.sub_pos_of_lt h2) DP) (by rw[C4 ap];exact B) λm hm a2 bj=>?_);have a1:∀r p,n1<=r->r<n1+m->(arrOf st)[r]?=J p->O.kle (C.key p) (C.key al):=λr p P U f=>by
   have:=a2 (r-n1) (Nat.sub_lt_left_of_lt_add P U)
   unfold h8 at this;rw[C4 P,aO f]at this;exact KeyOrd.kle_of_klt this
  have ab:∀r p,n1+m<=r->r<a₀.size->(arrOf st)[r]?=J p->O.kle (C.key al) (C.key p):=λr p P U f=>by
   have a5:=Nat.le_of_add_right_le P
   have:=bj (r-n1) (PC P) (Nat.sub_lt_sub_right a5 U)
   unfold h8 at this;rw[C4 a5,aO f]at this;exact this
  dsimp only;by_cases z2:m=0
  .rw[b_ (by simpa using z2)];refine wpS_pure (h M F a0 (W G B λi j u bi S=>?_));obtain⟨p,f⟩:=R i ⋯;obtain⟨q,z⟩:=R j S;rw[aO f,aO z];exact KeyOrd.kle_trans (gN G (ux _) (Io u) (C_ h1 DP) f ax) (ab j q ⋯ S z)
  .rw[d_ (by simpa using z2)];have mx:=C7 (as.symm▸ap:n1<=(arrOf st).size);have mg:n1+m<=(arrOf st).size:=as.symm▸Nat.add_le_of_le_sub' ap hm;have my:=C7 mg;have sx:((arrOf st).extract k n1).size=n1-k:=by rw[Array.size_extract,mx]
   have sy:((arrOf st).extract n1 (n1+m)).size=m:=by rw[Array.size_extract,my,Pq]
   have gx:∀r,r<n1-k->((arrOf st).extract k n1)[r]?=(arrOf st)[k+r]?:=λr hr=>by rw[Ik,mx,b_ hr]
   have gy:∀r,r<m->((arrOf st).extract n1 (n1+m))[r]?=(arrOf st)[n1+r]?:=λr hr=>by rw[Ik,my,Pq,b_ hr]
   have ay:∀p,p∈((arrOf st).extract k n1).toList->∃i,k<=i/\i<n1/\(arrOf st)[i]?=J p:=λp f=>sQ ⋯ f;have aj:∀p,p∈((arrOf st).extract n1 (n1+m)).toList->∃i,n1<=i/\i<n1+m/\(arrOf st)[i]?=J p:=λp f=>sQ mg f;have a7:yb C ((arrOf st).extract k n1) ((arrOf st).extract n1 (n1+m)):=by
    refine⟨λp f=>?_,λp f=>?_,lR ⋯ λi j a b c=>G i j (ux _) b c,lR ⋯ λi j a b c=>B i j a b ⋯,⋯,⋯,?_,?_⟩
    .obtain⟨i,_,_,u⟩:=ay p f;exact ba hg u
    .obtain⟨i,_,_,u⟩:=aj p f;exact ba hg u
    .intro p q f z;rw[gy 0 ⋯]at f;rw[gx 0 ⋯]at z;have e:(arrOf st)[n1+0]?=J b0:=am;rw[e]at f;cases f;exact a3 (k+0) q ⋯ ⋯ z
    .intro x q hx z;obtain⟨i,i1,i2,u⟩:=aj x hx;rw[sx,gx _ ⋯]at z;rw[<-Nat.add_sub_assoc (Ir z1),ez,ax]at z;cases z;exact a1 i x i1 i2 u
   have fin:∀L l,Eqv M l->MR C ((arrOf st).extract k n1) ((arrOf st).extract n1 (n1+m)) L ->
     wpS (model prog w) A E s (do
      modify λc=>setArr c (L.toList.zipIdx.foldl (λa (p:Keyed×Nat)=>a.setIfInBounds (k+p.2) p.1) (arrOf c))
      return (failedOf (<-get)).isNone) Q l:=by
    intro L l ev mr;refine wpS_bind (wpS_modify ?_);refine wpS_bind (wpS_get (wpS_pure ?_));have ea:arrOf l=arrOf st:=ev.arr.trans be;have so:L.size=n1-k+m:=by
     have:=mr.1.length_eq
     rw[yU,v3,yU,yU,sx,sy]at this;exact this
    have eo:k+L.size=n1+m:=by rw[so,<-Nat.add_assoc,C4 hk]
    have hl:=xm (xs:=arrOf l) (ou:=L) (off:=k) (by rw[ea,eo];exact mg);rw[eo,ea]at hl;have b3:=FO (xs:=arrOf st) (i:=k) (j:=n1) (k:=n1+m) hk (Hz ..) mg;have Fq:(failedOf (setArr l (L.toList.zipIdx.foldl (λa (p:Keyed×Nat)=>a.setIfInBounds (k+p.2) p.1) (arrOf l)))).isNone=I:=by show(failedOf l).isNone=I;rw[ev.failed,F.failed];rfl
    rw[Fq];have b1:LS C (L.toList.zipIdx.foldl (λa (p:Keyed×Nat)=>a.setIfInBounds (k+p.2) p.1) (arrOf l)).toList:=by
     rw[ea,hl];have mo:∀p,p∈L.toList->(∃i,k<=i/\i<n1/\(arrOf st)[i]?=J p)\/(∃i,n1<=i/\i<n1+m/\(arrOf st)[i]?=J p):=λp f =>
      (mh.mp (mr.1.mem_iff.mp f)).imp (ay p) (aj p)
     have mt:∀p,p∈(arrOf st).toList.take k->∃i,i<k/\(arrOf st)[i]?=J p:=λp f=>by
      obtain⟨i,u⟩:=yL.mp f;by_cases c:i<k
      .rw[Lk c,uY]at u;exact⟨i,c,u⟩
      .rw[DI (by simp;lia)]at u;cases u
     have md:∀p,p∈(arrOf st).toList.drop (n1+m)->∃i,n1+m<=i/\i<a₀.size/\(arrOf st)[i]?=J p:=λp f=>by
      obtain⟨i,u⟩:=yL.mp f;rw[Lu,uY]at u
      have:=(Ii.mp u).1
      exact⟨n1+m+i,⋯,⋯,u⟩
     refine bQ ?_ (bQ mr.2 ?_ ?_) ?_
     .have:=lR (C:=C) (xs:=arrOf st) (lo:=0) (hi:=k) ⋯ λi j a b c=>G i j a b ⋯
      rw[kT]at this;exact this
     .have:=lR (C:=C) (xs:=arrOf st) (lo:=n1+m) (hi:=(arrOf st).size) (ii _) λi j a b c=>B i j ⋯ b ⋯
      rw[gQ]at this;exact this
     .intro x hx y hy;obtain⟨j,j1,j2,X⟩:=md y hy;rcases mo x hx with⟨i,i1,i2,u⟩|⟨i,i1,i2,u⟩
      .exact KeyOrd.kle_trans (gN G (ux _) (Io i2) (C_ h1 DP) u ax) (ab j y j1 j2 X)
      .exact gN B i1 ⋯ j2 u X
     .intro x hx y hy;obtain⟨i,i1,u⟩:=mt x hx;rcases mh.mp hy with hy|hy
      .rcases mo y hy with⟨j,j1,j2,X⟩|⟨j,j1,j2,X⟩
       .exact gN G (ux _) ⋯ j2 u X
       .exact KeyOrd.kle_trans (Z i x i1 u) (gN B (ii _) j1 ⋯ am X)
      .obtain⟨j,j1,j2,X⟩:=md y hy;exact KeyOrd.kle_trans (Z i x i1 u) (gN B (ii _) ⋯ j2 am X)
    have a6:(L.toList.zipIdx.foldl (λa (p:Keyed×Nat)=>a.setIfInBounds (k+p.2) p.1) (arrOf l)).Perm (arrOf st):=by rw[MD,ea,hl];refine List.Perm.trans ?_ (List.Perm.of_eq b3.symm);exact List.Perm.append_left _ (List.Perm.append_right _ mr.1)
    refine h _ ⟨a6.trans hB.perm,ev.kind.trans F.kind,ev.failed.trans F.failed⟩ ?_ ?_
    .show (pendingOf l).size=1;rw[ev.pend];exact a0
    .have:=jJ b1
     have e2:(L.toList.zipIdx.foldl (λa (p:Keyed×Nat)=>a.setIfInBounds (k+p.2) p.1) (arrOf l)).size=a₀.size:=(a6.trans hB.perm).size_eq;rw[e2]at this;exact this
   by_cases a8:n1-k<=m
   .rw[b_ a8];refine wpS_bind (FD a7 F.kind λL l ev mr=>?_);exact fin L l ev mr
   .rw[d_ a8];refine wpS_bind (FN a7 F.kind λL l ev mr=>?_);exact fin L l ev mr
end
def pU(a:2<=n)(h:n<64):minRun' n n 0=n:=by
 obtain⟨f,hf⟩:∃f,n=f+1:=⟨n-1,⋯⟩
 have:minRun' (f+1) n 0=n+0:=by rw[minRun'_succ,b_ h]
 rw[<-hf]at this;exact this
def vR(a:2<=n)(h:n<=66):1<=minRun' n n 0/\minRun' n n 0<=n/\n<=2*minRun' n n 0:=by
 by_cases c:n<64
 .rw[pU a c];lia
 .have:n=64\/n=65\/n=66:=by lia
  rcases this with e|e | e<;>subst e
  .have:minRun' 64 64 0=32:=by decide
   rw[this];lia
  .have:minRun' 65 65 0=33:=by decide
   rw[this];lia
  .have:minRun' 66 66 0=33:=by decide
   rw[this];lia
section
variable{prog:Program}{w:World}{A:Around}{E:RQ}{s:Shared}{kd:SortKind}{O:KeyOrd}{C:ul prog w A E s kd O}{a₀:Array Keyed}{st:SortSt}
def One(C:ul prog w A E s kd O)(a₀:Array Keyed)(f a:Nat)(st:SortSt):Prop:=SB kd a₀ st/\pendingOf st=#[(0,a,0)]/\f<=a/\a<=a₀.size/\rb C (arrOf st) 0 a
def J2(C:ul prog w A E s kd O)(a₀:Array Keyed)(a:Nat)(st:SortSt):Prop :=
 SB kd a₀ st/\1<=a/\a<a₀.size/\(∃f,pendingOf st=#[(0,a,f),(a,a₀.size-a,0)])/\rb C (arrOf st) 0 a/\rb C (arrOf st) a a₀.size
def pW{xs ys:Array Keyed}{p lo a:Nat}(h:ci p xs ys)(u:a<=p)(g:rb C xs lo a):rb C ys lo a:=by intro i j f l r;rw[dQ (h i ⋯),dQ (h j ⋯)];exact g i j f l r
def xD(h0:ce C a₀)(hB:SB kd a₀ st)(ax:pendingOf st=#[])(h2:2<=a₀.size)(a2:a₀.size<=66)(h:∀i,(arrOf i).Perm a₀->failedOf i=Y->rb C (arrOf i) 0 a₀.size->Q () i):wpS (model prog w) A E s sortRuns' Q st:=by
 obtain⟨m1,m2,m3⟩:=vR h2 a2;rw[sortRuns'_eq];refine wpS_bind (wpS_get ?_);dsimp only;rw[hB.size];generalize minRun' a₀.size a₀.size 0=mr at m1 m2 m3 ⊢
 refine wpS_bind (wpS_mono (wpS_forRange
  (I:=λx c i=>(x=0/\c=(Y,0)/\SB kd a₀ i/\pendingOf i=#[])\/(x=1/\∃f,c=(Y,f)/\One C a₀ mr f i)\/(2<=x/\c=(Y,a₀.size)/\∃f,J2 C a₀ f i))
  (Q:=λc i=>c=(Y,a₀.size)/\(One C a₀ mr a₀.size i\/∃f,J2 C a₀ f i)) ?_ ?_ (.inl ⟨rfl,rfl,hB,ax⟩)) ?_)
 .rintro x c i _ hx (⟨rfl,rfl,r,j⟩|⟨rfl,f,rfl,r,j,ay,as,R⟩|⟨a4,rfl,f,P⟩)
  .rw[d_ ⋯];simp only[Nat.sub_zero,qr];refine wpS_bind (su (p:=0) h0 ⋯ ⋯ r λm H u _ F a3 am B=>?_);rw[qr]at B;dsimp only;by_cases M:m<mr
   .rw[b_ M];refine wpS_bind (wpS_lift (wpAny_rule ⟨rfl,?_⟩));refine wpS_bind (sD (p:=0) h0 ⋯ ⋯ u (by rw[qr];exact B) λz G _ L S=>?_);simp only[HG,o0,if_false];refine wpS_bind (wpS_get ?_);have P:(pendingOf z).back?=Y:=by rw[L,F,j];rfl
    rw[P];dsimp only;refine wpS_bind (wpS_modify (wpS_pure (.inr (.inl ⟨trivial,_,rfl,⟨G.perm,G.kind,G.failed⟩,?_,⋯,⋯,?_⟩))))
    .show (pendingOf z).push _=_;rw[L,F,j];rfl
    .rw[qr]at S;exact S
   .rw[d_ M];refine wpS_bind (wpS_get ?_);have P:(pendingOf H).back?=Y:=by rw[F,j];rfl
    rw[P];dsimp only;refine wpS_bind (wpS_modify (wpS_pure (.inr (.inl ⟨trivial,_,rfl,⟨u.perm,u.kind,u.failed⟩,?_,⋯,⋯,B⟩))));show(pendingOf H).push _=_;rw[F,j];rfl
  .dsimp only;by_cases U:f>=a₀.size
   .rw[b_ U];have e:f=a₀.size:=by lia
    subst e;exact wpS_pure ⟨rfl,.inl ⟨r,j,ay,as,R⟩⟩
   .rw[d_ U];have a1:a₀.size-f<=mr:=by lia
    refine wpS_bind (su (p:=f) h0 ⋯ ⋯ r λm H u ab F a3 am B=>?_);dsimp only;by_cases M:m<mr
    .rw[b_ M];refine wpS_bind (wpS_lift (wpAny_rule ⟨rfl,?_⟩));have em:min (a₀.size-f) mr=a₀.size-f:=by lia
     rw[em];refine wpS_bind (sD (p:=f) h0 ⋯ ⋯ u B λz G aj L S=>?_);simp only[HG,o0,if_false];refine wpS_bind (wpS_get ?_);have W:pendingOf z=#[(0,f,0)]:=by rw[L,F,j]
     have P:(pendingOf z).back?=J (0,f,0):=by rw[W];rfl
     rw[P];dsimp only;refine wpS_bind (wpS_mono (wpS_forRange (I:=λ_ c l=>c=(Y,())/\l=z) (Q:=λc l=>c=(Y,())/\l=z) ?_ (λ_ _ hh=>hh) ⟨rfl,rfl⟩) ?_)
     .rintro y c l _ _ ⟨rfl,rfl⟩;refine wpS_bind (wpS_get ?_);rw[W];exact wpS_pure ⟨rfl,rfl⟩
     .rintro c l ⟨rfl,rfl⟩;dsimp only;refine wpS_bind (wpS_modify (wpS_bind (wpS_modify (wpS_pure (.inr (.inr ⟨⋯,?_,f,⟨G.perm,G.kind,G.failed⟩,⋯,⋯,⟨power' a₀.size (2*0+f) (2*0+f+f+(a₀.size-f)) a₀.size,?_⟩,(pW (ab.trans aj) (ii _) R),(by have e:f+(a₀.size-f)=a₀.size:=⋯;rw[e]at S;exact S)⟩))))))
      .have e:f+(a₀.size-f)=a₀.size:=by lia
       rw[e]
      .show ((pendingOf l).modify _ _).push _=_;rw[W];simp
    .rw[d_ M];have em:m=a₀.size-f:=by lia
     subst em;refine wpS_bind (wpS_get ?_);have Z:pendingOf H=#[(0,f,0)]:=by rw[F,j]
     have P:(pendingOf H).back?=J (0,f,0):=by rw[Z];rfl
     rw[P];dsimp only;refine wpS_bind (wpS_mono (wpS_forRange (I:=λ_ c l=>c=(Y,())/\l=H) (Q:=λc l=>c=(Y,())/\l=H) ?_ (λ_ _ hh=>hh) ⟨rfl,rfl⟩) ?_)
     .rintro y c l _ _ ⟨rfl,rfl⟩;refine wpS_bind (wpS_get ?_);rw[Z];exact wpS_pure ⟨rfl,rfl⟩
     .rintro c l ⟨rfl,rfl⟩;dsimp only;refine wpS_bind (wpS_modify (wpS_bind (wpS_modify (wpS_pure (.inr (.inr ⟨⋯,?_,f,⟨u.perm,u.kind,u.failed⟩,⋯,⋯,⟨power' a₀.size (2*0+f) (2*0+f+f+(a₀.size-f)) a₀.size,?_⟩,(pW ab (ii _) R),(by have e:f+(a₀.size-f)=a₀.size:=⋯;rw[e]at B;exact B)⟩))))))
      .have e:f+(a₀.size-f)=a₀.size:=by lia
       rw[e]
      .show ((pendingOf l).modify _ _).push _=_;rw[Z];simp
  .dsimp only;rw[b_ (ii _)];exact wpS_pure ⟨rfl,.inr ⟨f,P⟩⟩
 .rintro c i (⟨hx,_⟩|⟨hx,_⟩|⟨_,hc,P⟩)
  .lia
  .lia
  .exact⟨hc,.inr P⟩
 .rintro c i ⟨rfl,hc⟩;dsimp only;rcases hc with⟨r,j,_,_,R⟩|⟨f,r,a0,n12,⟨pw,j⟩,an,ap⟩
  .refine wpS_bind (wpS_mono (wpS_forRange (I:=λ_ c a=>a=i/\c=(Y,())) (Q:=λc a=>a=i/\c=(Y,())) ?_ (λ_ _ hh=>hh) ⟨rfl,rfl⟩) ?_)
   .rintro x c a _ _ ⟨rfl,rfl⟩;refine wpS_bind (wpS_get ?_);rw[b_ (by rw[j];exact ii 1)];exact wpS_pure ⟨rfl,rfl⟩
   .rintro c a ⟨rfl,rfl⟩;exact wpS_pure (h _ r.perm r.failed R)
  .refine wpS_bind (wpS_mono (wpS_forRange (I:=λx c a=>c=(Y,())/\((x=0/\a=i)\/(1<=x/\SB kd a₀ a/\(pendingOf a).size=1/\rb C (arrOf a) 0 a₀.size)))
    (Q:=λc a=>c=(Y,())/\SB kd a₀ a/\rb C (arrOf a) 0 a₀.size) ?_ ?_ ⟨rfl,.inl ⟨rfl,rfl⟩⟩) ?_)
   .rintro x c a _ _ ⟨rfl,X⟩;rcases X with⟨rfl,rfl⟩|⟨a5,b1,b2,b3⟩
    .refine wpS_bind (wpS_get ?_);rw[d_ (by rw[j];simp)];rw[j];refine wpS_bind (rH (n1:=f) (pw:=pw) h0 r a0 n12 j an ap λz c1 c2 c3=>?_);simp only[HG,o0,if_false];exact wpS_pure ⟨rfl,.inr ⟨⋯,c1,c2,c3⟩⟩
    .refine wpS_bind (wpS_get ?_);rw[b_ (by rw[b2];exact ii 1)];exact wpS_pure ⟨rfl,b1,b3⟩
   .rintro c a ⟨rfl,⟨hx,_⟩|⟨_,b1,_,b3⟩⟩
    .lia
    .exact⟨rfl,b1,b3⟩
   .rintro c a ⟨rfl,b1,b3⟩;exact wpS_pure (h _ b1.perm b1.failed b3)
end
end SortT
namespace SortT
open PyProof.Rows SetT PySem.W
def bH:Q2->Q2->Bool
 |[],[]=>T
 |[],_::_=>I
 |_::_,[]=>T
 |a::x,b::y=>if a=b then bH x y else decide (a<b)
def kz:∀x,bH x x=T
 |[]=>rfl
 |a::x=>by unfold bH;rw[b_ rfl];exact kz x
def lJ:∀x y z,bH x y=I->bH y z=I->bH x z=I
 |[],_::_,_::_,_,_=>rfl
 |a::x,b::y,c::z,i,f=>by
  unfold bH at i f ⊢;by_cases e1:a=b
  .rw[b_ e1]at i;by_cases e2:b=c
   .rw[b_ e2]at f;rw[b_ (e1.trans e2)];exact lJ x y z i f
   .rw[d_ e2]at f;rw[d_ (λq=>e2 (e1.symm.trans q)),e1];exact f
  .grind
def qk:∀x y z,bH x z=I->bH x y=I\/bH y z=I
 |[],[],_::_,_=>.inr rfl
 |[],_::_,_,_=>.inl rfl
 |_::_,[],_::_,_=>.inr rfl
 |a::x,b::y,c::z,h=>by
  unfold bH at h ⊢;by_cases e1:a=b
  .rw[b_ e1];by_cases e2:b=c
   .rw[b_ e2];rw[b_ (e1.trans e2)]at h;exact qk x y z h
   .rw[d_ (λq=>e2 (e1.symm.trans q)),e1]at h;rw[d_ e2];exact .inr h
  .grind
def iI:∀x y,bH x y=T->bH y x=T->x=y
 |[],[],_,_=>rfl
 |a::x,b::y,f,i=>by
  unfold bH at f i;by_cases e:a=b
  .rw[b_ e]at f;rw[b_ e.symm]at i;rw[e,iI x y f i]
  .rw[d_ e]at f;rw[d_ (λq=>e q.symm)]at i
   grind
def B7:KeyOrd:=⟨Q2,bH,kz,lJ,qk,iI⟩
def B8(l:Q3):Prop:=l.Pairwise λx y=>bH y x=T
section
variable{prog:Program}{w:World}{A:Around}{E:RQ}{s:Shared}
def q0(prog:Program)(w:World)(h:Heap)(v:Value):Q2:=Classical.epsilon λk=>∃a,v=.ref a/\TK prog w h k a
def f9(t:TK prog w h k a):q0 prog w h (.ref a)=k:=by
 have:=Classical.epsilon_spec (p:=λk=>∃b,Value.ref a=.ref b/\TK prog w h k b) ⟨k,a,rfl,t⟩
 obtain⟨b,e,f⟩:=this;cases e;exact IsTupleKey.inj f t
def FP:∀(xs ys:Q7)(l j:Q2)(i:Nat),ItemsAre (intKind prog w) l xs->ItemsAre (intKind prog w) j ys->fin=decide (xs.length<ys.length)->Q (bH l j) s ->
  KatLex prog w A b fin Q (xs.zip ys) i s:=by
 intro xs
 induction xs with
 |nil =>
  intro ys l j i F u hf a;cases F
  cases u with
  |nil=>rw[hf];exact a
  |cons L M=>rw[hf];exact a
 |cons x xs O =>
  intro ys l j i F u hf a
  cases F with
  |@cons f _ z _ L C =>
   cases u with
   |nil=>rw[hf];exact a
   |@cons r y B G M H =>
    obtain⟨R,rfl⟩:=Value.isInt_shape (k:=f) (v:=x) L;obtain⟨S,rfl⟩:=Value.isInt_shape (k:=r) (v:=y) M;refine kat_cons (wpAny_eqBool_int ?_);unfold bH at a;by_cases e:f=r
    .rw[b_ e]at a
     have:(f==r)=I:=by simpa using e
     rw[this];exact kat_yes (O G z B (i+1) C H (by rw[hf];simp) a)
    .rw[d_ e]at a
     have:(f==r)=T:=by simpa using e
     rw[this];refine kat_no ?_
     cases P:(b&&i==0) with
     |true=>exact oneLt_int a
     |false=>exact kat_one _ _ (wpAny_lt_int a)
def J3(prog:Program)(w:World)(A:Around)(E:RQ)(s:Shared)(b:Bool):ul prog w A E s (tuples' b) B7 where
 key:=λp=>q0 prog w s.heap p.1
 dflt:=([]:Q2)
 good:=λp=>∃a k,p.1=.ref a/\TK prog w s.heap k a
 ask:=λx y st Q O M R L=>by
  obtain⟨x1,W⟩:=x;obtain⟨y1,y2⟩:=y;obtain⟨G,B,ex,C⟩:=O;obtain⟨H,z,F,ty⟩:=M;simp only at ex F;subst ex;subst F;have P:Q (J (bH B z)) st:=by
   have S:=f9 C;have U:=f9 ty;have e:B7.blt (q0 prog w s.heap (.ref G)) (q0 prog w s.heap (.ref H))=bH B z:=by rw[S,U];rfl
   rw[<-e];exact L
  obtain⟨ox,ix,nx,i,_,l,u⟩:=C;obtain⟨Z,X,ny,j,_,r,f⟩:=ty;rw[lt'_eq];refine wpS_bind (wpS_get ?_);rw[R];refine wpS_bind (wpS_lift (wpAny_attempt (kat_lt i l j r (FP _ _ _ _ _ u f (by simp) ⟨rfl,?_⟩))));exact wpS_pure P
def pH{B:Q7}{F:Q3}{Q:SortKind->Shared->Prop}(X:Aq prog w s.heap B.toArray F)(O:∀k∈F,k≠[])(h1:0<B.length)(h:Q (tuples' I) s):
  wpAny (model prog w) A (keyKind' B.toArray) Q E s:=by
 have z:B.length=F.length:=by have:=X.1;simpa using this
 have key:∀(y:Q7)(j:Q3),y.length=j.length->(∀(i:Nat)(v:Value)(k:Q2),y[i]?=J v->j[i]?=J k->∃a,v=.ref a/\TK prog w s.heap k a)->(∀k∈j,k≠[]) ->
   ∃fs:Q7,fs.length=y.length/\KatTups s.heap y fs/\∀v∈fs,∃i t,v=.int i t:=by
  intro y
  induction y with
  |nil=>intro j _ _ _;exact⟨[],rfl,KatTups.nil,λv hv=>by cases hv⟩
  |cons u y ih =>
   intro j P r S
   cases j with
   |nil=>simp at P
   |cons k j =>
    obtain⟨a,rfl,o,items,n,ho,hc,hd,Z⟩:=r 0 u k rfl rfl;obtain⟨fs,U,G,L⟩:=ih j (by simpa using P) (λi v M hv f=>r (i+1) v M (by simpa using hv) (by simpa using f)) (λM f=>S M (l_ _ f))
    cases k with
    |nil=>exact absurd rfl (S [] rl)
    |cons R kr =>
     have C:=Z;generalize H:items.toList=l at C
     cases C with
     |@cons _ v0 _ vr h0 hr =>
      obtain⟨W,rfl⟩:=Value.isInt_shape h0;have hg:items[0]?=J (.int R W):=by rw[<-uY,H];rfl
      refine⟨.int R W::fs,by simp[U],KatTups.cons ho hc hd hg G,λv hv=>?_⟩;rcases mu.mp hv with rfl|hv
      .exact⟨_,_,rfl⟩
      .exact L v hv
 obtain⟨fs,U,G,L⟩:=key B F z (λi v k hv f=>X.2 i v k (by simpa using hv) f) O;refine kat_kind (T:=.type "int") G ⋯ (λv hv=>?_) (by decide) ?_
 .obtain⟨i,t,rfl⟩:=L v hv;exact .now
 .exact h
def wk(ho:s.heap.get? a=J (seqObj "list" vs.toArray n))(G:Aq prog w s.heap vs.toArray z)(ax:∀k∈z,k≠[])(a5:vs.length<=66)(h:∀(R:Q7) (O:Q3),Aq prog w s.heap R.toArray O->R.Perm vs->O.Perm z->B8 O->P (.done (.ret .none)) { s with heap:=sortedHeap s.heap a vs R.toArray}):
  wpAny (model prog w) A (Builtin.«list.sort» ⟨[.ref a],[]⟩) P E s:=by
 rw[list_sort_plain];have F:vs.length<=sizeLine:=by rw[sizeLine_eq];lia
 refine c_ (listItems_at ho rfl ?_);refine c_ (listUpdate_at ho rfl ?_ (by rw[n9];exact F) (ux _));obtain⟨e1,U⟩:∃e1,(s.heap.update a (Obj.mapSeq λ_=>(#[]:Array Value))).get? a=J (seqObj "list" #[] e1):=⟨_,get?_update_seq ho λ_=>#[]⟩;refine c_ (seqEpoch_at U rfl ?_);refine c_ (wpAny_newTuple ?_ (by show vs.length<=_;exact F));refine c_ (wpAny_newList ?_ (ux _));refine wpAny_holding ?_;have H:(((s.heap.update a (Obj.mapSeq λ_=>(#[]:Array Value))).push (seqObj "tuple" vs.toArray 0)).push (seqObj "list" #[] 0)).get? a=J (seqObj "list" #[] e1) :=
  n3 _ (n3 _ U)
 have ab:∀k b,TK prog w s.heap k b->TK prog w (((s.heap.update a (Obj.mapSeq λ_=>(#[]:Array Value))).push (seqObj "tuple" vs.toArray 0)).push (seqObj "list" #[] 0)) k b:=by
  rintro k b ⟨o,items,m,hb,hc,r⟩;have am:b≠a:=by rintro rfl;rw[ho]at hb;cases hb;have ay:Value.type "list"=Value.type "tuple":=hc;exact absurd ay (by decide)
  exact⟨o,items,m,n3 _ (n3 _ ((Ip _ _ _ _ am).trans hb)),hc,r⟩
 show wpAny (model prog w) A _ P E { s with heap:=((s.heap.update a (Obj.mapSeq λ_=>(#[]:Array Value))).push (seqObj "tuple" vs.toArray 0)).push (seqObj "list" #[] 0)};have aj:Aq prog w (((s.heap.update a (Obj.mapSeq λ_=>(#[]:Array Value))).push (seqObj "tuple" vs.toArray 0)).push (seqObj "list" #[] 0)) vs.toArray z :=
  ⟨G.1,λi v k hv l=>let⟨b,e,t⟩:=G.2 i v k hv l;⟨b,e,ab k b t⟩⟩
 have an:vs.toArray.size=vs.length:=by simp
 dsimp only;by_cases h2:vs.toArray.size<2
 .rw[b_ h2,b_ h2];refine c_ (h_ ?_);rw[StateT.run_pure];refine c_ (h_ ?_);dsimp only;refine c_ (seqEpoch_at H rfl ?_);have hz:((vs.toArray.zip vs.toArray).map (·.2))=vs.toArray:=by
   apply C6.mp;simp only[Array.toList_map,Array.toList_zip,List.toList_toArray];exact List.map_snd_zip (ii _)
  refine c_ (listUpdate_at H rfl ?_ (ux _) (by show((vs.toArray.zip vs.toArray).map (·.2)).size<=_;rw[hz,an];lia));simp only[bne_self_eq_false,o0,if_false];refine h_ ?_
  have:=h vs z G (List.Perm.refl _) (List.Perm.refl _) (by
   have W:z.length<2:=by have:=G.1;lia
   unfold B8
   match z,W with
   |[],_=>simp
   |[x],_=>simp)
  have e:(arrOf (SortSt.mk' general' (vs.toArray.zip vs.toArray) #[] 7 Y)).map (·.2)=vs.toArray:=hz;rw[e];exact this
 .rw[d_ h2,d_ h2];refine c_ (pH (s:={ s with heap:=_}) aj ax ⋯ ?_);have a0:(pairsOf vs).size=vs.length:=pairsOf_size vs
  refine c_ (wpAny_mono (xD (C:=J3 prog w A E { s with heap:=((s.heap.update a (Obj.mapSeq λ_=>(#[]:Array Value))).push (seqObj "tuple" vs.toArray 0)).push (seqObj "list" #[] 0)} I)
   (a₀:=pairsOf vs) (st:=SortSt.mk' (tuples' I) (vs.toArray.zip vs.toArray) #[] 7 Y)
   (Q:=λ_ f=>(arrOf f).Perm (pairsOf vs)/\failedOf f=Y/\rb (J3 prog w A E { s with heap:=((s.heap.update a (Obj.mapSeq λ_=>(#[]:Array Value))).push (seqObj "tuple" vs.toArray 0)).push (seqObj "list" #[] 0)} I) (arrOf f) 0 (pairsOf vs).size)
   ?_ ⟨Array.Perm.refl _,rfl,rfl⟩ rfl ⋯ ⋯ λf a1 a2 a3=>⟨a1,a2,a3⟩) ?_ λ_ _ e=>e)
  .intro p S;rw[pairsOf_toList]at S;obtain⟨q1,q2⟩:=mem_zip_self S;obtain⟨i,u⟩:=yL.mp q2
   obtain⟨k,l⟩:∃k,z[i]?=J k:=⟨_,zF (by
    have h3:=(qp.mp u).1
    have:=G.1;lia)⟩
   obtain⟨b,e,t⟩:=aj.2 i p.1 k (by simpa using u) l;exact⟨b,k,e,t⟩
  .rintro⟨⟨⟩,f⟩ s' ⟨rfl,S,hf,hs⟩;dsimp only;refine c_ (seqEpoch_at H rfl ?_);have hz:((arrOf f).map (·.2)).size=vs.length:=by rw[Array.size_map,S.size_eq,a0]
   refine c_ (listUpdate_at H rfl ?_ (ux _) (by show((arrOf f).map (·.2)).size<=_;rw[hz];lia));rw[hf];simp only[bne_self_eq_false,o0,if_false];refine h_ ?_;have W:(arrOf f).toList.Perm (vs.zip vs):=by rw[<-pairsOf_toList];exact MD.mp S
   have B:∀p,p∈(arrOf f).toList->p.1=p.2/\p.1∈vs:=λp ap=>mem_zip_self (W.mem_iff.mp ap);have hv:∀v,v∈vs->∃k b,v=.ref b/\TK prog w s.heap k b/\k∈z:=λv hv=>by
    obtain⟨i,u⟩:=yL.mp hv
    obtain⟨k,l⟩:∃k,z[i]?=J k:=⟨_,zF (by
     have h3:=(qp.mp u).1
     have:=G.1;lia)⟩
    obtain⟨b,e,t⟩:=G.2 i v k (by simpa using u) l;exact⟨k,b,e,t,yL.mpr ⟨i,l⟩⟩
   have X:vs.map (q0 prog w s.heap)=z:=by
    apply Iv;intro i;rw[s_]
    cases u:vs[i]? with
    |none =>
     have:=List.getElem?_eq_none_iff.mp u
     rw[DI (by have:=G.1;lia)];rfl
    |some v =>
     obtain⟨k,l⟩:∃k,z[i]?=J k:=⟨_,zF (by
      have h3:=(qp.mp u).1
      have:=G.1;lia)⟩
     obtain⟨b,e,t⟩:=G.2 i v k (by simpa using u) l;subst e;rw[l];show J (q0 prog w s.heap (.ref b))=J k;rw[f9 t]
   have L:∀v,v∈vs->q0 prog w (((s.heap.update a (Obj.mapSeq λ_=>(#[]:Array Value))).push (seqObj "tuple" vs.toArray 0)).push (seqObj "list" #[] 0)) v=q0 prog w s.heap v:=λv y=>by
    obtain⟨k,b,rfl,t,_⟩:=hv v y;rw[f9 t,f9 (ab k b t)]
   have M:=h ((arrOf f).toList.map (·.2)) ((arrOf f).toList.map λp=>q0 prog w s.heap p.1) ?_ ?_ ?_ ?_
   .have e:((arrOf f).toList.map (·.2)).toArray=(arrOf f).map (·.2):=by apply C6.mp;simp
    rw[e]at M;exact M
   .refine⟨by simp,λi v k y l=>?_⟩;rw[Ht,s_]at y;rw[s_]at l
    cases u:(arrOf f).toList[i]? with
    |none=>rw[u]at y;cases y
    |some p =>
     rw[u]at y l;cases y;cases l;obtain⟨q1,q2⟩:=B p (zI u);obtain⟨k,b,e,t,_⟩:=hv p.1 q2;refine⟨b,by show p.2=_;rw[<-q1];exact e,?_⟩;show TK prog w s.heap (q0 prog w s.heap p.1) b;rw[e,f9 t];exact t
   .have q:=W.map (·.2);rw[List.map_snd_zip (ii _)]at q;exact q
   .have q:=W.map λp=>q0 prog w s.heap p.1;have e2:(vs.zip vs).map (λp=>q0 prog w s.heap p.1)=z:=by
     rw[<-X]
     have:(vs.zip vs).map (λp=>q0 prog w s.heap p.1)=((vs.zip vs).map Prod.fst).map (q0 prog w s.heap):=by rw[zu];rfl
     rw[this,List.map_fst_zip (ii _)]
    rw[e2]at q;exact q
   .unfold B8;rw[Iu,Lj];intro i j u hj a4;have as:i<(arrOf f).size:=by simpa using u
    have Z:j<(arrOf f).size:=by simpa using hj
    have q:=hs i j (ux _) (u0 a4) (by rw[<-S.size_eq];exact Z);rw[aO (getElem?_pos _ i as),aO (getElem?_pos _ j Z)]at q;have m1:=(B (arrOf f)[i] (by simp)).2;have m2:=(B (arrOf f)[j] (by simp)).2;have q':bH (q0 prog w (((s.heap.update a (Obj.mapSeq λ_=>(#[]:Array Value))).push (seqObj "tuple" vs.toArray 0)).push (seqObj "list" #[] 0)) (arrOf f)[j].1)
     (q0 prog w (((s.heap.update a (Obj.mapSeq λ_=>(#[]:Array Value))).push (seqObj "tuple" vs.toArray 0)).push (seqObj "list" #[] 0)) (arrOf f)[i].1)=T:=q
    rw[L _ m1,L _ m2]at q';simpa using q'
def gS(j:h.get? a=J (seqObj "list" vs.toArray n))(f:Array Value):∃c,(sortedHeap h a vs f).get? a=J (seqObj "list" f c):=by obtain⟨e1,i⟩:∃e1,(h.update a (Obj.mapSeq λ_=>(#[]:Array Value))).get? a=J (seqObj "list" #[] e1):=⟨_,get?_update_seq j λ_=>#[]⟩;exact⟨_,get?_update_seq (n3 _ (n3 _ i)) λ_=>f⟩
def gr(i:b≠a)(j:h.get? b=J o)(f:Array Value):(sortedHeap h a vs f).get? b=J o:=by unfold sortedHeap;rw[Ip _ _ _ _ i];exact n3 _ (n3 _ ((Ip _ _ _ _ i).trans j))
structure Told(prog:Program)(w:World)(R:Value->Prop)(H0 h h':Heap)(l:Addr)(ks:Q3)(out:Q7)(ks':Q3):Prop where
 ext:zh h h'
 fresh:h.get? l=Y
 size:h.objs.size<=l
 at':∃c,h'.get? l=J (seqObj "list" out.toArray c)
 lie:Aq prog w H0 out.toArray ks'
 perm:ks'.Perm ks
 ris:B8 ks'
 mem:∀v∈out,R v
def om(hx:zh H0 s.heap)(am:∀k∈ks,k≠[])(ap:ks.length<=66)(hc:wpAny (model prog w) A.in1 (collect v) (λj s1=>∃G F f,s1={ s with heap:=G,toks:=F}/\zh s.heap G/\s.heap.objs.size<G.objs.size/\s.toks<=F/\Aq prog w H0 (List.toArray j) f/\f.Perm ks/\∀v∈j,R v) E s)(h:∀G F l r B,Told prog w R H0 s.heap G l ks r B->s.toks<=F->Q (.ref l) { s with heap:=G,toks:=F}):
  wpAny (model prog w) A (call (.builtin "sorted") [v]) Q E s:=by
 refine Calls.call_function_entry kind_sorted plain_sorted entry_sorted (args_sorted1 _) ?_;refine c_ (h_ ?_);refine c_ (wpAny_mono hc (λj s1 W=>?_) λ_ _ e=>e);obtain⟨z,F,f,rfl,U,O,ab,a,p1,hR⟩:=W;have M:j.length=f.length:=by have:=a.1;simpa using this
 have H:j.length<=66:=by rw[M,p1.length_eq];exact ap
 refine c_ (wpAny_newList ?_ (by rw[sizeLine_eq];lia));have C:(z.push (seqObj "list" j.toArray 0)).get? z.objs.size=J (seqObj "list" j.toArray 0):=tr _ rfl;have Z:∀b o,z.get? b=J o->(z.push (seqObj "list" j.toArray 0)).get? b=J o:=λb o e=>n3 _ e;have P:Aq prog w (z.push (seqObj "list" j.toArray 0)) j.toArray f:=⟨a.1,λi u k X S=>let⟨b,e,t⟩:=a.2 i u k X S;⟨b,e,ji (λc o ho=>Z c o (U c o (hx c o ho))) t⟩⟩
 refine c_ (wpAny_holding (wpAny_call_entry slot_list_sort ⟨_,C,rfl⟩ entry_list_sort
  (wk C P (λk S=>am k (p1.mem_iff.mp S)) H λr B l2 pv p2 r2=>⟨_,rfl,?_⟩) (args_list_sort _)))
 refine h_ ⟨_,rfl,?_⟩;have y:s.heap.get? z.objs.size=Y:=by
  cases e:s.heap.get? z.objs.size with
  |none=>rfl
  |some o=>exact absurd (mj (U _ _ e)) (zr _)
 refine h _ F z.objs.size r B ⟨λb o e=>?_,y,u0 O,gS C _,⟨l2.1,λi u k X S=>?_⟩,p2.trans p1,r2,λv hv=>hR v (pv.mem_iff.mp hv)⟩ ab
 .have hb:=tt (mj (U b o e));exact gr hb (Z b o (U b o e)) _
 .obtain⟨b,e,t⟩:=l2.2 i u k X S;have aj:r[i]?=J u:=by simpa using X
  have L:=pv.mem_iff.mp (zI aj);obtain⟨q,W⟩:=yL.mp L;obtain⟨k1,an⟩:∃k1,f[q]?=J k1:=⟨_,zF (by have:=(qp.mp W).1;lia)⟩;obtain⟨b1,e1,t1⟩:=a.2 q u k1 (by simpa using W) an;rw[e]at e1;cases e1;have t2:=ji (λc o ho=>Z c o (U c o (hx c o ho))) t1
  have:=IsTupleKey.inj t t2
  subst this;exact⟨b,e,t1⟩
def ve(G:A.handled=Y)(r:cG prog w (PB H0 R) s.heap S (bC w) y)(F:zh H0 s.heap)(B:∀k∈y,k≠[])(C:y.length<=66)(h:∀i j l u f,Told prog w (λv=>∃a,v=.ref a/\R a) H0 s.heap i l y u f->s.toks<=j->Q (.ref l) { s with heap:=i,toks:=j}):
  wpAny (model prog w) A (call (.builtin "sorted") [.ref S]) Q E s :=
 om F B C (rG (by simpa using G) r F λi j H f a z b c e d=>⟨i,j,f,rfl,a,z,b,c,d,e⟩) h
def rP{l:Addr}{f:Q7}{a:Q3}{Q:RQ}(G:s.heap.IsList l f.toArray)(C:Aq prog w s.heap f.toArray a)(u:∀k∈a,k≠[])(y:a.length<=66)(h:∀z F l r i,Told prog w (·∈f) s.heap s.heap z l a r i->s.toks<=F->Q (.ref l) { s with heap:=z,toks:=F}):
  wpAny (model prog w) A (call (.builtin "sorted") [.ref l]) Q E s:=by
 have B:f.length=a.length:=by have:=C.1;simpa using this
 refine om (λb o e=>e) u y (collect_list G ⟨_,s.toks,a,rfl,λb o e=>?_,by rw[Heap.size_update,size_push'];exact Hx _,ii _,C,List.Perm.refl _,λv hv=>hv⟩ (by rw[sizeLine_eq];lia)) h;have j:=mj e;rw[Ip _ _ _ _ (tt j)];exact n3 _ e
end
end SortT
namespace SortT
open PyProof.Rows PySem.W
section
variable{prog:Program}{w:World}{A:Around}{E:RQ}{s:Shared}{rk:Value->Int}{vs:Q7}
end
end SortT
namespace MM
open PySem.Spec PyProof.Rows L2 SetT SortT
def gU:Q0->Option (Q2)
 |[]=>J []
 |.int i::r=>(gU r).map (i::·)
 |_=>Y
def Mi:PV->Option (Q2)
 |.tup xs=>gU xs
 |_=>Y
def gk:Q0->Option (Q3)
 |[]=>J []
 |x::r=>(match Mi x,gk r with
  |some k,J a=>J (k::a)
  |_,_=>Y)
def kP(k:Q2):PV:=.tup (k.map .int)
def bE(l:Q3):Q3:=l.mergeSort λx y=>!bH y x
def bw(l:Q3):(bE l).Perm l:=List.mergeSort_perm _ _
def eV(l:Q3):B8 (bE l):=by
 have:=Pr (le:=λx y=>!bH y x) (λa b c f i=>by
   simp only[Hu]at f i ⊢
   exact KeyOrd.kle_trans (O:=B7) f i) (λa b=>by
   cases h:bH b a with
   |false=>simp
   |true =>
    have:bH a b=T:=KeyOrd.klt_asymm (O:=B7) h
    simp[this])
 unfold B8 bE
 simp_all
def iU(f:B8 l)(i:B8 m)(p:l.Perm m):l=m :=
 List.Perm.eq_of_pairwise (λa b _ _ x y=>iI a b y x) f i p
def pr:∀{xs:Q0}{k:Q2},gU xs=J k->xs=k.map .int
 |[],k,h=>by cases h;rfl
 |x::r,k,h=>by
  cases x with
  |int i =>
   unfold gU at h
   cases a:gU r with
   |none=>rw[a]at h;cases h
   |some f =>
    rw[a]at h;cases h;rw[pr a];rfl
  |_=>cases h
def FQ(h:Mi x=J k):x=kP k:=by
 cases x with
 |tup xs=>unfold kP;rw[pr (show gU xs=J k from h)]
 |_=>cases h
def m6:∀{xs:Q0}{a:Q3},gk xs=J a->xs=a.map kP
 |[],a,h=>by cases h;rfl
 |x::r,a,h=>by
  unfold gk at h
  cases f:Mi x with
  |none=>rw[f]at h;cases h
  |some k =>
   cases i:gk r with
   |none=>rw[f,i]at h;cases h
   |some j =>
    rw[f,i]at h;cases h;rw[FQ f,m6 i];rfl
def B9(K:g_)(H:Hp)(ys:List V)(f:Q3):Prop :=
 ys.length=f.length/\∀(i:Nat)(y:V)(k:Q2),ys[i]?=J y->f[i]?=J k->∃a,y=.ref a/\SqT K H a (k.map V.int)
def zN{K:g_}{U:Q6}{H:Hp}:∀{k:Q2}{ys:List V},RPs K U H (k.map PV.int) ys->ys=k.map V.int
 |[],ys,h=>by cases h;rfl
 |i::k,ys,h=>by
  cases h with
  |cons r t =>
   cases r;rw[zN t];rfl
def nC{K:g_}{U:Q6}{H:Hp}:∀{a:Q3}{ys:List V},RPs K U H (a.map kP) ys->B9 K H ys a
 |[],ys,h=>by cases h;exact⟨rfl,λi y k e=>by simp at e⟩
 |k::a,ys,h=>by
  cases h with
  |cons r t =>
   obtain⟨l,g⟩:=nC t;refine⟨by simp[l],λi y u e1 e2=>?_⟩
   cases i with
   |zero =>
    simp at e1 e2;subst e1;subst e2
    cases r with
    |tup f j =>
     rw[zN j]at f;exact⟨_,rfl,f⟩
   |succ i=>exact g i y u (by simpa using e1) (by simpa using e2)
def nr{K:g_}{U:Q6}{H:Hp}:∀{f:Q3}{ys:List V},B9 K H ys f->RPs K U H (f.map kP) ys
 |[],ys,h=>by
  have:=AD.mp (by have:=h.1;simpa using this)
  subst this;exact .nil
 |k::f,ys,h=>by
  cases ys with
  |nil=>have:=h.1;simp at this
  |cons y ys =>
   obtain⟨a,rfl,j⟩:=h.2 0 y k rfl rfl;refine .cons (.tup j (RPs.ints k)) (nr ⟨by have:=h.1;simpa using this,λi r l e1 e2=>h.2 (i+1) r l (by simpa using e1) (by simpa using e2)⟩)
def lU:∀{k:Q2}{a:Q7},au (k.map V.int) a->ItemsAre (intKind prog w) k a
 |[],_,h=>by cases h;exact .nil
 |i::k,_,h=>by
  cases h with
  |cons r t =>
   obtain⟨f,rfl⟩:=r;exact .cons (intKind_is _ _ _ _) (lU t)
section
variable{X:Cx}{Jr:List (Addr × Obj)}{Z:L2.St}{H:Hp}{s:Shared}
def fu(i:Inv X Jr Z H s)(h:SqT X.K H a (k.map V.int)):TK X.prog X.w s.heap k a:=by obtain⟨f,j,⟨o,l,r,n,hd⟩,_⟩:=i.tuple h;exact⟨o,f.toArray,n,l,r,hd,by simpa using lU j⟩
def sj(f:Inv X Jr Z H s)(h:B9 X.K H ys ks)(j:au ys its):Aq X.prog X.w s.heap its.toArray ks:=by
 refine⟨by simp[<-j.length,h.1],λi v k hv l=>?_⟩;have z:i<ys.length:=by rw[h.1];exact(qp.mp l).1
 obtain⟨a,e,y⟩:=h.2 i ys[i] k (by simp) l;obtain⟨u,B,r⟩:=j.get (show ys[i]?=J ys[i] by simp)
 have:v=u:=by simp_all
 subst this;rw[e]at r;exact⟨a,r,fu f y⟩
end
def Dr(prog:Program)(w:World)(S:Addr)(al:List (Q2×Addr))(h:Heap):Prop :=
 ∃o a f t,h.get? S=J o/\o.ExactSet/\o.data=.set a f t/\t.dummies=#[]/\(t.mask=7\/t.mask=31\/t.mask=127)/\t.plain=I/\t.led=bC w /\
  WF t.mask t.place (a.map (·.1))/\j4 t a.size/\a.toList=al.map λp=>(TH prog w p.1,Value.ref p.2)
def FR(f:cG prog w P h S (bC w) ks):
  ∃al,Dr prog w S al h/\(al.map (·.1)).Perm ks/\∀p∈al,TK prog w h p.1 p.2/\P p.2:=by
 obtain⟨o,H,U,t,y,f,L,F,O⟩:=f;have key:∀(l:List (Int×Value))(j:Q3),l.length=j.length->(∀(i:Nat)(e:Int×Value)(k:Q2),l[i]?=J e->j[i]?=J k->∃a,e.2=.ref a/\TK prog w h k a/\e.1=TH prog w k/\P a) ->
   ∃al:List (Q2×Addr),l=al.map (λp=>(TH prog w p.1,Value.ref p.2))/\al.map (·.1)=j/\∀p∈al,TK prog w h p.1 p.2/\P p.2:=by
  intro l
  induction l with
  |nil =>
   intro j u _
   have:=AD.mp (by simpa using u.symm)
   subst this;exact⟨[],rfl,rfl,λp r=>by cases r⟩
  |cons e l R =>
   intro j u g
   cases j with
   |nil=>simp at u
   |cons k j =>
    obtain⟨a,e1,e2,e3,e4⟩:=g 0 e k rfl rfl;obtain⟨al,G,C,z⟩:=R j (by simpa using u) λi Q M B E=>g (i+1) Q M (by simpa using B) (by simpa using E);refine⟨(k,a)::al,?_,by simp[C],λp r=>?_⟩
    .congr 1;obtain⟨X,W⟩:=e;simp only at e1 e3;rw[e1,e3]
    .rcases mu.mp r with rfl|r
     .exact⟨e2,e4⟩
     .exact z p r
 obtain⟨al,G,C,z⟩:=key H.toList y (by exact f.ents.1) λi e k B E=>f.ents.2 i e k (by rw[<-uY];exact B) E;exact⟨al,⟨o,H,U,t,f.get,f.ex,f.data,f.dm,f.mask,f.plain,f.led',f.wf,L,G⟩,by rw[C];exact F,z⟩
def B_(p:Dr prog w S al h)(O:∀q∈al,TK prog w h q.1 q.2)(r:(al.map (·.1)).Nodup):
  cG prog w (PB h λa=>∃k,(k,a)∈al) h S (bC w) (al.map (·.1)):=by
 obtain⟨o,H,U,t,F,C,W,M,R,G,L,Q,E,f⟩:=p;refine⟨o,H,U,t,al.map (·.1),⟨F,C,W,M,R,G,L,Q,?_,λi e k j y=>?_⟩,E,List.Perm.refl _,r⟩
 .rw[<-yU,f];simp
 .rw[<-uY,f,s_]at j;rw[s_]at y
  cases l:al[i]? with
  |none=>rw[l]at j;cases j
  |some q =>
   rw[l]at j y;cases j;cases y;have z:=zI l;have B:=O q z;exact⟨q.2,rfl,B,rfl,let⟨P,_,_,u,_⟩:=B;⟨P,u⟩,q.1,z⟩
def uV(p:Dr prog w S al h1)(k:∀o,h1.get? S=J o->h2.get? S=J o):Dr prog w S al h2:=by obtain⟨o,f,i,t,a,r⟩:=p;exact⟨o,f,i,t,k o a,r⟩
section
variable{X:Cx}{N W G:Q1}{k:Nat}
def vS(hh:X.calm=I)(hr:Room k X.A):bV X (.type "set") (λxs H Q=>∃l ys j,xs=[.ref l]/\SqL X.K H l ys/\B9 X.K H ys j/\(mm j).length<=66 /\
  ∀S al,H S=Y->(al.map (·.1)).Perm (mm j)->(∀p∈al,SqT X.K H p.2 (p.1.map V.int))->Q (.ref S) (lg H S (.ext (Dr X.prog X.w S al)))):=by
 intro Jr s Z H xs us Q f r ⟨l,ys,j,e,hq,L,M,q⟩;subst e;obtain⟨u,rfl,rx⟩:=d7 r;cases rx;obtain⟨E,C,pl,hz⟩:=f.list hq;have lie:=sj f L C;refine oU (f.ok.hd hh) (by have:=hr.units;lia) pl.isList lie M λh' tk B x aj=>?_;obtain⟨al,U,pm,P⟩:=FR B;have O:=f.hok.fresh (ii s.heap.objs.size);obtain⟨o,es,ep,t,ho,ab⟩:=id U;refine⟨.ref s.heap.objs.size,_,f.laid (o:=.ext (Dr X.prog X.w s.heap.objs.size al)) x (ii _) ⟨U,⟨o,ho⟩,λh1 h2 a b=>uV a b⟩,rfl,q _ al O pm λp hp=>?_⟩;obtain⟨t1,⟨_,hm⟩⟩:=P p hp;obtain⟨i,hi⟩:=yL.mp hm;have z:E[i]?=J (.ref p.2):=by simpa using hi
 have F:=(qp.mp z).1;have y:i<ys.length:=by rw[C.length];exact F
 have R:i<j.length:=by rw[<-L.1];exact y
 obtain⟨a,e,s1⟩:=L.2 i ys[i] j[i] (by simp) (by simp);obtain⟨u,eu,ru⟩:=C.get (show ys[i]?=J ys[i] by simp);rw[z]at eu;cases eu;rw[e]at ru;have ea:p.2=a:=by cases ru;rfl
 have t2:=ji x (fu f s1);rw[<-ea]at t2
 have:=IsTupleKey.inj t1 t2
 rw[this,ea];exact s1
def tQ{Jr:Q8}{s:Shared}{Z:L2.St}{H:Hp}{Q:VK}{R:Value->Prop}{h':Heap}{tk:Nat}{l:Addr}{S E:Q3}{j:Q7}(F:Inv X Jr Z H s)(f:Told X.prog X.w R s.heap s.heap h' l S j E)(hR:∀v,R v->∃(a:Addr)(k:Q2),v=.ref a/\SqT X.K H a (k.map V.int))(hz:S.length<=66)(q:∀l ys,H l=Y->B9 X.K H ys (bE S)->Q (.ref l) (lg H l (.lst ys))):EP X Jr Z Q (.ref l) { s with heap:=h',toks:=tk}:=by
 have O:=f.size;have L:=iU f.ris (eV S) (f.perm.trans (bw S).symm);obtain⟨c,hc⟩:=f.at';have z:j.length=E.length:=by have:=f.lie.1;simpa using this
 have B:∀v∈j,∃a,v=.ref a:=λv hv=>let⟨a,_,e,_⟩:=hR v (f.mem v hv);⟨a,e⟩;obtain⟨ys,U,C⟩:∃ys:List V,au ys j/\∀y∈ys,∃a,y=.ref a/\Value.ref a∈j:=by
  clear z f hR L hc
  induction j with
  |nil=>exact⟨[],.nil,λy C=>by cases C⟩
  |cons v j ih =>
   obtain⟨a,rfl⟩:=B v rl;obtain⟨ys,r,g⟩:=ih (λu hu=>B u (l_ _ hu));refine⟨.ref a::ys,.cons rfl r,λy C=>?_⟩;rcases mu.mp C with rfl|C
   .exact⟨a,rfl,rl⟩
   .obtain⟨b,e,m⟩:=g y C;exact⟨b,e,l_ _ m⟩
 have M:B9 X.K H ys E:=by
  refine⟨by rw[U.length,z],λi y k P hk=>?_⟩;obtain⟨u,eu,ru⟩:=U.get P;obtain⟨a,e,m⟩:=C y (zI P);subst e;cases ru;obtain⟨b,k2,e2,s1⟩:=hR _ (f.mem _ m);cases e2;obtain⟨b2,e3,t⟩:=f.lie.2 i (.ref a) k (by simpa using eu) hk;cases e3
  have:=IsTupleKey.inj t (fu F s1)
  subst this;exact⟨a,rfl,s1⟩
 have ab:=F.hok.fresh O;refine⟨.ref l,_,F.laid (o:=.lst ys) f.ext O (⟨?_,j,c,U,hc⟩),rfl,q l ys ab (by rw[<-L];exact M)⟩;rw[U.length,z,f.perm.length_eq,sizeLine_eq];lia
def qZ(P:X.calm=I):bV X (.builtin "sorted") (λxs H Q=>∃S al,xs=[.ref S]/\H S=J (.ext (Dr X.prog X.w S al))/\(∀p∈al,SqT X.K H p.2 (p.1.map V.int))/\(al.map (·.1)).Nodup/\(∀p∈al,p.1≠[])/\al.length<=66 /\
  ∀l ys,H l=Y->B9 X.K H ys (bE (al.map (·.1)))->Q (.ref l) (lg H l (.lst ys))):=by
 intro Jr s Z H xs us Q f r ⟨S,al,e,M,i,y,z,C,q⟩;subst e;obtain⟨u,rfl,rx⟩:=d7 r;cases rx;obtain⟨F,_,_⟩:=(f.hok S _ M);have j:=B_ F (λp B=>fu f (i p B)) y;refine ve (f.ok.hd P) j (λb o e=>e) (λk U=>?_) (by simpa using C) λh' tk l R L td O=>?_
 .obtain⟨p,B,rfl⟩:=n6.mp U;exact z p B
 .refine tQ f td (λv ⟨a,e,k,E⟩=>⟨a,k,e,i (k,a) E⟩) (by simpa using C) q
def pI:bV X (.builtin "sorted") (λxs H Q=>∃l ys j,xs=[.ref l]/\SqL X.K H l ys/\B9 X.K H ys j/\(∀k∈j,k≠[])/\j.length<=66 /\
  ∀B z,H B=Y->B9 X.K H z (bE j)->Q (.ref B) (lg H B (.lst z))):=by
 intro Jr s Z H xs us Q f r ⟨l,ys,j,e,hq,F,L,P,q⟩;subst e;obtain⟨u,rfl,rx⟩:=d7 r;cases rx;obtain⟨am,C,U,ap⟩:=f.list hq;refine rP U.isList (sj f F C) L P λh' tk B an ab td aj=>?_;refine tQ f td (λv hv=>?_) P q;obtain⟨i,R⟩:=yL.mp hv;have E:=(qp.mp R).1;have y:i<ys.length:=by rw[C.length];exact E
 have M:i<j.length:=by rw[<-F.1];exact y
 obtain⟨a,e,s1⟩:=F.2 i ys[i] j[i] (by simp) (by simp);obtain⟨u,O,S⟩:=C.get (show ys[i]?=J ys[i] by simp);rw[R]at O;cases O;rw[e]at S;exact⟨a,_,S,s1⟩
def cm(h:MH):PV->Option (Q0)
 |.frl xs=>J xs
 |.loc n=>(match h[n]? with
  |some (.lst xs)=>J xs
  |_=>Y)
 |_=>Y
def nz{U:Q6}{H:Hp}{h:MH}{x:PV}{y:V}{xs:Q0}{K:g_}{mg:Aa}(B:RH K mg U H h)(r:RP K U H x y)(e:cm h x=J xs):∃a f,y=.ref a/\SqL K H a f/\RPs K U H xs f:=by
 cases r with
 |frl s r=>cases e;exact⟨_,_,rfl,s.sq,r⟩
 |@loc n a i =>
  obtain⟨o,z,u⟩:=B.obj i;unfold cm at e;dsimp only at e;rw[z]at e
  cases o with
  |lst f =>
   cases e;obtain⟨ys,l,j⟩:=u;exact⟨a,ys,rfl,SqL.of l,j⟩
  |_=>cases e
 |_=>cases e
def QT(m:Mx (Q0)):Mx PV:=λZ h=>(m Z h).bind λi a=>match i with
 |[x]=>(match (cm a x).bind gk with
  |some f=>if(∀k∈f,k≠[])/\(mm f).length<=66 then .ok (.loc a.length) (a++[.lst ((bE (mm f)).map kP)])else .bad
  |none=>.bad)
 |_=>.bad
def fj(l:Q3):(mm l).Nodup:=by
 have key:∀(m:Q3)(a:Q3),a.Nodup->(m.foldl SetT.aZ a).Nodup:=by
  intro m
  induction m with
  |nil=>intro a h;exact h
  |cons k m r =>
   intro a h;refine r _ ?_;unfold SetT.aZ;split
   .exact h
   .rename_i i
    rw[zR];refine⟨h,by simp,λx j y f=>?_⟩
    have:y=k:=by simpa using f
    subst this;rintro rfl;exact i j
 exact key l [] LA
def t9(p:l.Perm m):bE l=bE m:=iU (eV l) (eV m) ((bw l).trans (p.trans (bw m).symm))
def qe(g:Good X N W G k){a:Expr}{m:Mx (Q0)}{i j:Nat}{p p' aj r:Pos}(hi:G[i]?=J "sorted")(hm:X.mg "sorted"=Y)(hj:G[j]?=J "set")(M:X.mg "set"=Y)(ha:MA X [a] m)(hs:starEach [a] X.env=[(T,eval a X.env)]:=by rfl)(he:starEach [.Call (.Name "set" p') [a] [] r] X.env=[(T,eval (.Call (.Name "set" p') [a] [] r) X.env)]:=by rfl):
  ME X (.Call (.Name "sorted" p) [.Call (.Name "set" p') [a] [] r] [] aj) (QT m):=by
 have d:=g.dbg _ (pk _ (aL hi));have d':=g.dbg _ (pk _ (aL hj));refine PE.imp (iL (qZ g.calm) (g.gl _ (aL hi)) hm PyProof.Rows.Boot.«sorted» (gc (hU (vS g.calm g.room) (g.gl _ (aL hj)) M PyProof.Rows.Boot.«set» ha d'.2.2 d'.1 hs rfl) jn he) d.2.2 d.1 he rfl) λZ H Q ⟨U,L,h,rs,rh,q⟩=>?_;refine⟨U,L,h,rs,rh,Ful.bind q λU1 H1 x x' h1 ex l1 u rx f=>?_⟩
 cases rx with
 |nil=>exact f.elim
 |@cons y y' _ _ r1 t1 =>
  cases t1 with
  |cons _ _=>exact f.elim
  |nil =>
   dsimp only at f
   cases F:cm h1 y with
   |none=>rw[F]at f;exact f.elim
   |some xs =>
    rw[F]at f
    cases hk:gk xs with
    |none=>simp only[zS,hk]at f;exact f.elim
    |some B =>
     simp only[zS,hk]at f;by_cases z:(∀k∈B,k≠[])/\(mm B).length<=66
     .rw[b_ z]at f;obtain⟨la,zs,rfl,R,C⟩:=nz u r1 F;rw[m6 hk]at C;refine⟨la,zs,B,rfl,R,nC C,z.2,λS al hS pm O=>?_⟩;obtain⟨ab,l2⟩:=u.loose hS (.ext (Dr X.prog X.w S al));refine⟨S,al,rfl,bI,λp hp=>l2.sqt (O p hp),pm.nodup_iff.mpr (fj B),λp hp=>?_,?_,λl ys P tk=>?_⟩
      .have:p.1∈mm B:=pm.mem_iff.mp (n6.mpr ⟨p,hp,rfl⟩)
       exact z.1 p.1 ((eU _ _).mp this)
      .have:=pm.length_eq
       rw[n_]at this;rw[this];exact z.2
      .rw[t9 pm]at tk;obtain⟨E,l3⟩:=ab.new P (o:=.lst ((bE (mm B)).map kP)) (ho:=.lst ys) ⟨_,rfl,nr tk⟩;exact f _ _ _ (l2.trans l3) E (.loc (by rw[<-u.len];simp))
     .rw[d_ z]at f;exact f.elim
end
end MM
namespace SeqT
abbrev FS(tp:Bool):String:=if tp then "tuple_iterator" else "list_iterator"
abbrev Qb(tp:Bool):String:=if tp then "tuple" else "list"
def SqI(j:Bool)(h:Heap)(f a:Addr)(i:Nat):Prop:=∃o,h.get? f=J o/\o.cls=.type (FS j)/\o.data=.fields #[.ref a,.int i 0]
def SqO(f:Bool)(h:Heap)(a:Addr)(xs:Array Value):Prop:=∃o,h.get? a=J o/\o.cls=.type (Qb f)/\∃n,o.data=.seq xs n
def SqI.at'(x:SqI tp h it a i)(k:∀o,h.get? it=J o->h'.get? it=J o):SqI tp h' it a i:=let⟨o,e,r⟩:=x;⟨o,k o e,r⟩
def SqO.at'(x:SqO tp h a xs)(k:∀o,h.get? a=J o->h'.get? a=J o):SqO tp h' a xs:=let⟨o,e,r⟩:=x;⟨o,k o e,r⟩
def SqI.lt(x:SqI tp h it a i):it<h.objs.size:=let⟨_,e,_⟩:=x;mj e
section
variable{prog:Program}{w:World}{A:Around}{E:RQ}{s:Shared}
def wq(u:SqI tp s.heap it a i)(r:SqO tp s.heap a xs)(C:xs[i]?=J x)(B:∀j,SqI tp j it a (i+1)->Heap.SameBut it s.heap j->Q x { s with heap:=j}):wpAny (model prog w) A (Builtin.SmallTypes.nextOf (.ref it)) Q E s:=by
 cases tp with
 |false=>exact wpAny_nextOf_list_item (u) (r) C B
 |true =>
  obtain⟨o,e,y,hd⟩:=id u;obtain⟨H,l,_,G,f⟩:=r;have z:s.TypeIs (.ref it) "tuple_iterator":=⟨o,e,y⟩;refine c_ (wpAny_callSpecial?_slot z F.slot_tuple_iterator_next (wpAny_call_entry F.slot_tuple_iterator_next z F.entry_tuple_iterator_next ?_ (F.args_tuple_iterator_next_1 _)));show wpAny _ _ (field (.ref it) 0 >>= _) _ _ s;refine c_ (wpAny_field e hd rfl ?_);refine c_ (wpAny_field e hd rfl ?_);refine c_ (wpAny_seqItems l f ?_);simp only[xZ,C];refine c_ (wpAny_setField e hd (by simp) (h_ ⟨x,rfl,h_ (B _ ?_ (Heap.SameBut.update ..))⟩));exact⟨_,Hs _ e (Obj.isFreed_of_fields (Obj.data_mapFields hd _)),(Obj.cls_mapFields ..).trans y,by rw[Obj.data_mapFields hd];simp[rawInt]⟩
def qA(B:A.handled=Y)(u:SqI tp s.heap it a i)(r:SqO tp s.heap a xs)(C:xs[i]?=Y)(z:∀j e,Heap.ExtBut it s.heap j->(∃o,j.get? e=J o/\o.cls=.type "StopIteration")->E (.ref e) { s with heap:=j}):wpAny (model prog w) A (Builtin.SmallTypes.nextOf (.ref it)) Q E s:=by
 cases tp with
 |false=>exact wpAny_nextOf_list_end B (u) (r) C z
 |true =>
  obtain⟨o,e,G,hd⟩:=id u;obtain⟨L,l,_,H,f⟩:=r;have y:s.TypeIs (.ref it) "tuple_iterator":=⟨o,e,G⟩;refine c_ (wpAny_callSpecial?_slot y F.slot_tuple_iterator_next (wpAny_call_entry F.slot_tuple_iterator_next y F.entry_tuple_iterator_next ?_ (F.args_tuple_iterator_next_1 _)));show wpAny _ _ (field (.ref it) 0 >>= _) _ _ s;refine c_ (wpAny_field e hd rfl ?_);refine c_ (wpAny_field e hd rfl ?_);refine c_ (wpAny_seqItems l f ?_);simp only[xZ,C];refine c_ (wpAny_rule (c_ (wpAny_setField e hd (by simp) ?_)));refine c_ ?_;refine c_ (m:=firstArgMember _ _) (wpAny_of_eq (by first | rfl | (simp only)) ?_);refine wpAny_newObj_type ?_ (by size_fits);refine c_ (wpAny_handled ?_);rw[show A.in1.handled=Y from B];refine c_ (h_ (wpAny_throw ?_));exact z _ _ (((Heap.SameBut.update ..).extBut.push _).push _) ⟨_,tr _ rfl,rfl⟩
def mP(i:SqO tp s.heap a xs)(f:Q (.ref s.heap.objs.size) { s with heap:=s.heap.push { cls:=.type (FS tp),data:=.fields #[.ref a,.int 0 0]}}):wpAny (model prog w) A (pyIter (.ref a)) Q E s:=by
 cases tp with
 |false=>exact wpAny_pyIter_list (i) f
 |true=>exact wpAny_pyIter_tuple (i) f
end
def J4(B:A.handled=Y)(y:Bool)(l a:Addr)(r:a≠l)(xs:Array Value):
  Draws prog w A l [l,a] xs.size (λi v=>xs[i]?=J v) (λi h=>SqI y h l a i/\SqO y h a xs) where
 live:=λ_ _ st=>let⟨o,F,_⟩:=st.1;⟨o,F⟩
 frame:=λ_ _ _ st u=>⟨st.1.at' λo e=>u l (by simp) o e,st.2.at' λo e=>u a (by simp) o e⟩
 item:=λi s Q E H st G=>by
  refine wq st.1 st.2 (x:=xs[i]) (by simp) λz f j=>?_;exact G _ z s.toks (by simp) ⟨f,st.2.at' λo e=>(j.2 a r).trans e⟩ j
 done:=λs Q E st C=>qA B st.1 st.2 (by simp) C
def yI(i:Bool)(a:Addr)(xs:Array Value)(n:Nat)(j:Option Addr)(sl:Array (Q9)):
  Meets (Builtin.«enumerate.__new__» ⟨[.type "enumerate",.ref a],[]⟩) (λ_ R s=>s.heap.get? a=J { cls:=.type (Qb i),dict:=j,data:=.seq xs n,slots:=sl} /\
   R (.ok (.ret (.ref (s.heap.push { cls:=.type (FS i),data:=.fields #[.ref a,.int 0 0]}).objs.size)))
    { s with heap:=(s.heap.push { cls:=.type (FS i),data:=.fields #[.ref a,.int 0 0]}).push { cls:=.type "enumerate",data:=.fields #[.none,.bool T,.ref s.heap.objs.size,rawInt 0,.none,.none]}}) :=
 .of_wp λprog w A R s h=>by
  obtain⟨u,g,d,r,os⟩:=s;obtain⟨f,h⟩:=h;have l:=sub_enumerate;have hL:SqO i (Shared.heap ⟨u,g,d,r,os⟩) a xs:=⟨_,f,rfl,n,rfl⟩
  wp_walk using AutoSeq1.wpAny_loadPart' f
  refine wpAny_stack_any λst=>h_ ?_;split
  .rename_i c _ _ _ _ _
   cases(c==Value.type "enumerate")
   .wp_walk using AutoSeq1.wpAny_loadPart' f,mP hL
    exact⟨_,rfl,h⟩
   .wp_walk using AutoSeq1.wpAny_loadPart' f,mP hL
    exact⟨_,rfl,h⟩
  .wp_walk using AutoSeq1.wpAny_loadPart' f,mP hL
   exact⟨_,rfl,h⟩
section
variable{prog:Program}{w:World}{A:Around}{E:RQ}{s:Shared}
def wD(hL:SqO tp s.heap a xs)(h:∀f,IsEnum f (s.heap.objs.size+1) s.heap.objs.size 0 .none->SqI tp f s.heap.objs.size a 0->f.objs.size=s.heap.objs.size+2 ->
   (∀b o,s.heap.get? b=J o->f.get? b=J o)->Q (.ref (s.heap.objs.size+1)) { s with heap:=f}):
  wpAny (model prog w) A (call (.type "enumerate") [.ref a]) Q E s:=by
 obtain⟨⟨c,i,y,sl⟩,r,u,n,hd⟩:=hL;subst u hd;refine callType_new F.called_enumerate (by decide) (F.typeCall_enumerate_1 _) (F.newCall_enumerate_1 _) (λobj=>F.args_object_init_2 obj _) F.entry_enumerate_new (yI tp a xs n i sl) ⟨r,?_⟩;have j:(s.heap.push { cls:=.type (FS tp),data:=.fields #[.ref a,.int 0 0]}).objs.size=s.heap.objs.size+1:=C8 ..;rw[j]
 have l:IsEnum ((s.heap.push { cls:=.type (FS tp),data:=.fields #[.ref a,.int 0 0]}).push
   { cls:=.type "enumerate",data:=.fields #[.none,.bool T,.ref s.heap.objs.size,rawInt 0,.none,.none]}) (s.heap.objs.size+1) s.heap.objs.size 0 .none:=by
  have:=tr (s.heap.push { cls:=.type (FS tp),data:=.fields #[.ref a,.int 0 0]})
   (o:={ cls:=.type "enumerate",data:=.fields #[.none,.bool T,.ref s.heap.objs.size,rawInt 0,.none,.none]}) rfl
  rw[j]at this;exact this
 exact⟨⟨_,l,rfl⟩,h _ l ⟨_,n3 _ (tr _ rfl),rfl,rfl⟩ (by rw[C8,j]) λb o x=>n3 _ (n3 _ x)⟩
end
section
variable{prog:Program}{w:World}{A:Around}{E:RQ}{s:Shared}{z TI TO i1 i2 l1 l2:Addr}{t1 t2:Bool}{k1 k2:Nat}{xs ys:Array Value}
end
section
variable{prog:Program}{w:World}{A:Around}{E:RQ}{s:Shared}
end
end SeqT
namespace MM
open PySem.Spec PyProof.Rows L2 SeqT
def Ds(f:Bool)(K:g_)(H:Hp)(a:Addr)(ys:List V):Prop:=match f with
 |true=>SqT K H a ys
 |false=>SqL K H a ys
section
variable{X:Cx}{Jr:List (Addr × Obj)}{Z:L2.St}{H:Hp}{s:Shared}
def qI(i:Inv X Jr Z H s)(h:Ds tp X.K H a ys):∃f:Q7,au ys f/\SqO tp s.heap a f.toArray/\ys.length<=sizeLine:=by
 cases tp with
 |true =>
  obtain⟨f,j,l,r⟩:=i.tuple h;exact⟨f,j,l,r⟩
 |false =>
  obtain⟨f,j,l,r⟩:=i.list h;exact⟨f,j,l.isList,r⟩
def Ca(f:Inv X Jr Z H s)(h:Ds tp X.K H a xs)(i:Ds tp X.K H a ys):xs=ys:=by
 cases tp with
 |true=>exact f.tuple_inj h i
 |false=>exact f.list_inj h i
def lz(a:Inv X Jr Z H s){l:Heap}{t':Nat}{j:Q6}(hf:∀b∈j,hX X Jr H b)(k:∀b o,b∉j->s.heap.get? b=J o->l.get? b=J o):
  Inv X Jr Z H { s with heap:=l,toks:=t'}:=by
 have i:∀b u,H b=J u->b∉j:=λb u e z=>by rw[(hf b z).1]at e;cases e
 refine a.step (g':=s.gens) (d':=s.drawn) (λb C=>?_) (λb o _ _ f e _=>k b o f e) (λb o _ _ f e _=>⟨o.slots,k b o f e⟩) (λ_ _ _ _ n=>n)
  (λb o f e=>⟨o,k b o f e⟩) (λ_ _ e=>e) (λ_ _ _ e=>e) (λb R e=>⟨#[],by rw[e];simp⟩) (λm y=>?_) (λb u e=>?_) a.bare
 .obtain⟨Q,G,P,E,B,O⟩:=hf b C;exact⟨E,G,B,O⟩
 .obtain⟨o,F,M,L,r⟩:=y;exact⟨o,F,M,k _ o (λz=>(hf _ z).2.1 rfl) L,r⟩
 .refine (a.hok b u e).stay (λc v f q=>k c v ?_ q) (λ_ q=>q) λ_ _ q=>q;rcases f with z|z
  .rw[z];exact i b u e
  .exact i c _ z
def Cb(f:Inv X Jr Z H s){h':Heap}{t':Nat}{ch:Q6}{ys:List V}{its:Q7}(hf:∀b∈ch,hX X Jr H b)(C:au ys its)(B:ys.length<=sizeLine)(r:s.heap.objs.size∉ch)(F:h'.get? s.heap.objs.size=J { cls:=.type "tuple",data:=.seq its.toArray})(k:∀b o,b∉ch->s.heap.get? b=J o->h'.get? b=J o):
  Inv X Jr Z (lg H s.heap.objs.size (.tup ys)) { s with heap:=h',toks:=t'}/\(∀b∈ch,(lg H s.heap.objs.size (.tup ys)) b=Y)/\H s.heap.objs.size=Y:=by
 have y:=f.hok.fresh (ii s.heap.objs.size);have l:∀b∈ch,b≠s.heap.objs.size:=λb a z=>r (by rw[<-z];exact a);have E:Inv X Jr Z (lg H s.heap.objs.size (.tup ys)) { s with heap:=s.heap.push { cls:=.type "tuple",data:=.seq its.toArray},toks:=s.toks} :=
  f.laid (λb u q=>n3 _ q) (ii _) ⟨B,its,C,_,tr _ rfl,rfl,⟨_,rfl⟩,rfl⟩
 have i:∀b∈ch,(lg H s.heap.objs.size (.tup ys)) b=Y:=λb a=>by rw[aT (l b a)];exact(hf b a).1
 refine⟨?_,i,y⟩;refine lz (t':=t') E (λb a=>⟨i b a,(hf b a).2⟩) λb o a e=>?_;by_cases z:b=s.heap.objs.size
 .have j:(s.heap.push { cls:=.type "tuple",data:=.seq its.toArray}).get? s.heap.objs.size=J { cls:=.type "tuple",data:=.seq its.toArray}:=tr _ rfl
  grind
 .have j:=e;rw[Heap.get?_push_ne _ _ _ z]at j;exact k b o a j
end
def QU(K:g_)(f:Bool)(a:Addr):It :=
 ⟨λi H=>∃ys y,Ds f K H a ys/\ys[i]?=J y,λi H x j=>∃p y,H p=Y/\x=.ref p/\j=lg H p (.tup [.int i,y])/\∀ys,Ds f K H a ys->ys[i]?=J y,λi H=>∃ys,Ds f K H a ys/\ys.length<=i⟩
def vt{P:Program}{w:World}{K:g_}{R:RM}{x1:Nat}{a8:Pos}(tp:Bool)(a e j:Addr)(L:e≠j)(a6:a≠e)(ap:a≠j):
  Ah P w K (.Tuple R x1 a8) (QU K tp a) [e,j] e (λi h=>(∃old,IsEnum h e j i old)/\SqI tp h j a i) where
 mem:=by simp
 obj:=λi h st b M=>by
  obtain⟨⟨old,l⟩,C⟩:=st
  have:b=e\/b=j:=by simpa using M
  rcases this with rfl|rfl
  .exact⟨_,l,λv z=>nomatch z⟩
  .obtain⟨o,ho,hc,hd⟩:=C;exact⟨o,ho,λv z=>by rw[hd]at z;cases z⟩
 keep:=λi h h' st k=>let⟨⟨old,l⟩,C⟩:=st;⟨⟨old,k e (by simp) _ l⟩,C.at' λo q=>k j (by simp) o q⟩
 item:=by
  intro X hP hw hK hc i Jr s Z H E f hf st hg;subst hP hw hK;obtain⟨⟨old,l⟩,C⟩:=st;obtain⟨ys,y,U,hy⟩:=hg;obtain⟨r,rv,so,hz⟩:=qI f U;obtain⟨u,hu,ru⟩:=rv.get hy;have ab:i<r.toArray.size:=by
   have:=(qp.mp hu).1
   simpa using this
  have F:(X.A.in1).handled=Y:=by have:=f.ok.hd hc;simpa using this
  refine wpAny_pyNext_enum_itemD (J4 F tp j a ap r.toArray) l ⟨C,so⟩ ab L (by simp[L,Ne.symm a6]) λx h1 W hx a1 a5 aj be am=>⟨_,rfl,?_⟩;have ay:x=u:=by
   have:r.toArray[i]?=J u:=by simpa using hu
   rw[this]at hx;exact(Option.some.inj hx).symm
  subst ay;refine wpAny_letOwnedTupleGo_enum (s:={ s with heap:=h1,toks:=W+1}) a1 λh2 a0 G=>?_;have B:e<s.heap.objs.size:=mj l;have S:j<s.heap.objs.size:=C.lt;obtain⟨I2,a4,a7⟩:=Cb (t':=W+1) (h':=h2) f (ch:=[e,j]) (ys:=[.int i,y]) (its:=[.int i W,x]) hf (.cons ⟨W,rfl⟩ (.cons ru .nil)) (by rw[sizeLine_eq];show 2<=_;decide)
   (by simp only[mu,Hy,or_false,not_or];exact⟨AX B,AX S⟩)
   ((G.2 _ (AX B)).trans aj)
   (λb o M q=>by
    have O:b≠e:=λz=>M (by simp[z]);have a3:b≠j:=λz=>M (by simp[z])
    exact(G.2 b O).trans (am b o O a3 q))
  refine⟨.ref s.heap.objs.size,_,I2,rfl,⟨_,y,a7,rfl,rfl,λzs as=>by rw[Ca f as U];exact hy⟩,⟨⟨x,by simpa using a0⟩,?_⟩,a4⟩;exact a5.1.at' λo q=>(G.2 j (Ne.symm L)).trans q
 done:=by
  intro X hP hw hK hc i Jr s Z H E f hf st hg;subst hP hw hK;obtain⟨⟨old,l⟩,C⟩:=st;obtain⟨ys,U,hy⟩:=hg;obtain⟨r,rv,so,hz⟩:=qI f U;have F:(X.A.in1).handled=Y:=by have:=f.ok.hd hc;simpa using this
  have a9:=rv.length;have hT:s.TypeIs (.ref e) "enumerate":=⟨_,l,rfl⟩;unfold pyNext;refine c_ (wpAny_attempt (wpAny_callSpecial?_slot (name:=Str.ofString "__next__") hT PySem.F.slot_enumerate_next (wpAny_call_entry PySem.F.slot_enumerate_next hT PySem.F.entry_enumerate_next ?_ (PySem.F.args_enumerate_next_1 _))));show wpAny _ _ (field (.ref e) 2 >>= _) _ _ _;refine c_ (wpAny_field l rfl (x:=.ref j) rfl ?_);refine c_ (qA F C so (by simp;ext) λh1 x an ax=>?_);obtain⟨o,ho,a2⟩:=ax;refine c_ (wpAny_isInstance (T:="StopIteration") (b:=I) ⟨o,ho,a2⟩ isSubtype_stop ?_);refine h_ ⟨rfl,lz (t':=s.toks) f hf λb o M q=>an b o (λz=>M (by simp[z])) q⟩
 self:=λA i s Q E st h=>let⟨⟨old,l⟩,_⟩:=st;wpAny_pyIter_enum l h
def fe(v:PV)(h:MH):Option (Bool×Q0×List (Nat×Q0)):=match v with
 |.loc n=>(match h[n]? with
  |some (.lst xs)=>J (T,xs,[(n,xs)])
  |_=>Y)
 |.frl xs=>J (T,xs,[])
 |.tup xs=>J (I,xs,[])
 |_=>Y
def FT{X:Cx}{U:Q6}{H:Hp}{h:MH}{x:PV}{y:V}{E:Bool}{xs:Q0}{gd:List (Nat×Q0)}(O:RH X.K X.mg U H h)(r:RP X.K U H x y)(e:fe x h=J (E,xs,gd)):
  ∃a,y=.ref a/\(∃ys,Ds E X.K H a ys)/\∀i f j,Le U H i f->RH X.K X.mg i f j->(∀p∈gd,j[p.1]?=J (.lst p.2))->∃ys,Ds E X.K f a ys/\RPs X.K i f xs ys:=by
 cases r with
 |frl s r=>cases e;exact⟨_,rfl,⟨_,s.sq⟩,λi f j l _ _=>⟨_,(l.sqf s).sq,r.le l⟩⟩
 |tup s r=>cases e;exact⟨_,rfl,⟨_,s⟩,λi f j l _ _=>⟨_,l.sqt s,r.le l⟩⟩
 |@loc n a F =>
  obtain⟨o,M,L⟩:=O.obj F;unfold fe at e;dsimp only at e;rw[M]at e
  cases o with
  |lst P =>
   cases e;obtain⟨ys,G,Q⟩:=L;refine⟨a,rfl,⟨ys,SqL.of G⟩,λi f j l z ok=>?_⟩;obtain⟨C,u,B⟩:=z.at' n a _ (l.get F) (ok (n,xs) (by simp));exact⟨C,SqL.of u,B⟩
  |_=>cases e
 |_=>cases e
def hJ(xs:Q0):Q0:=xs.zipIdx.map λp=>.tup [.int (p.2:Int),p.1]
def wn{xs:Q0}{i:Nat}{x:PV}(h:xs[i]?=J x):(hJ xs)[i]?=J (.tup [.int (i:Int),x]):=by unfold hJ;rw[s_,List.getElem?_zipIdx,h];simp
def nV(xs:Q0):(hJ xs).length=xs.length:=by simp[hJ]
def N8(m:Mx (Q0)):Mx MIt:=λZ h=>(m Z h).bind λf a=>match f with
 |[x]=>(match fe x a with
  |some (_,xs,gd)=>.ok ⟨hJ xs,gd⟩ a
  |none=>.bad)
 |_=>.bad
section
variable{X:Cx}{N W G:Q1}{k:Nat}
def Cc(g:Good X N W G k){as:RM}{x1:Nat}{tp:Pos}{a:Expr}{m:Mx (Q0)}{p a1:Pos}{j:Nat}(hj:G[j]?=J "enumerate")(hm:X.mg "enumerate"=Y)(ha:MA X [a] m)(hs:starEach [a] X.env=[(T,eval a X.env)]:=by rfl):MI X (.Tuple as x1 tp) (.Call (.Name "enumerate" p) [a] [] a1) (N8 m):=by
 have d:=g.dbg _ (pk _ (aL hj));intro Jr s Z H R a0 ⟨U,ab,h,rs,rh,q⟩;refine wpAny_Call_Name_kw (ip a0 (g.gl _ (aL hj)) hm PyProof.Rows.Boot.«enumerate» ?_ d.2.2 d.1)
 refine PyProof.Rows.callWith_type1 (k_ (ha a1 Jr s Z H (λvs B=>∃M Q xs,Le U H M B/\RH X.K X.mg M B Q/\RPs X.K M B xs vs/\Ful X (rn X) ab M B ((match xs with
   |[x]=>(match fe x Q with|some (_,xs,gd)=>.ok ⟨hJ xs,gd⟩ Q|none=>.bad)
   |_=>.bad:Out MIt)) R) a0 ⟨U,ab,h,rs,rh,Ful.bind q λM B v v' Q _ l1 E rv L=>⟨M,Q,v,l1,E,rv,L⟩⟩) λus C ⟨vs,B,S,r1,M,Q,xs,l1,E,rv,L⟩=>?_) hs rfl
 cases rv with
 |nil=>exact L.elim
 |@cons y y' ys bi ry t1 =>
  cases t1 with
  |cons _ _=>exact L.elim
  |nil =>
   dsimp only at L
   cases P:fe y Q with
   |none=>rw[P]at L;exact L.elim
   |some z =>
    obtain⟨b,zs,gd⟩:=z;rw[P]at L;obtain⟨ad,rfl,⟨ws,a5⟩,a6⟩:=FT E ry P;obtain⟨u,rfl,rx⟩:=d7 r1;cases rx;obtain⟨be,a7,so,hz⟩:=qI S a5;refine wD so λh' he hi a9 hk=>?_;refine wpAny_pyIter_enum he ?_;have I2:Inv X Jr Z B { C with heap:=h',toks:=C.toks}:=S.kept hk;obtain⟨oa,a3,a8,_⟩:=id so;have aj:ad<C.heap.objs.size:=mj a3;have ax:=S.hok.fresh (ii C.heap.objs.size);have ap:=S.hok.fresh (C9 C.heap.objs.size);refine⟨C.heap.objs.size+1,_,_,_,B,rfl,I2,vt b ad _ C.heap.objs.size (AX (Hx _)) (tt (Hv aj)) (tt aj),⟨⟨_,he⟩,hi⟩,λc hc=>?_,?_⟩
    .have:c=C.heap.objs.size+1\/c=C.heap.objs.size:=by simpa using hc
     rcases this with rfl|rfl
     .have F:=Inv.fpOk S (H':=B) (b:=C.heap.objs.size+1) (C9 _) ap;exact F
     .exact Inv.fpOk S (H':=B) (ii _) ax
    .refine L M B _ (Le.refl _ _) E ?_;intro U' H' h2 i l ay ok;obtain⟨O,r,an⟩:=a6 U' H' h2 l ay ok;refine⟨λf=>?_,λf=>⟨O,r,by rw[<-an.length];rw[nV]at f;exact f⟩⟩;rw[nV]at f;have hx:zs[i]?=J (zs[i]'f):=zF f;obtain⟨w',ew,a4⟩:=an.get hx;refine⟨⟨O,w',r,ew⟩,λx' H3 ⟨pp,y2,hp,e1,e2,am⟩=>?_⟩;subst e1;subst e2;have ey:y2=w':=by
      have:=am O r
      rw[ew]at this;exact(Option.some.inj this).symm
     subst ey;obtain⟨a2,l3⟩:=ay.tup hp [.int i,y2];exact⟨U',_,l3,a2,wn hx,.tup (SqT.of bI) (.cons (.int _) (.cons (a4.le l3) .nil))⟩
end
end MM
namespace MM
open PySem.Spec PyProof.Rows L2 SetT SortT
def dO:Q0->Option (Q2)
 |[]=>J []
 |.int i::r=>(dO r).map (i::·)
 |_=>Y
def eO(l:Q2):Q2:=l.mergeSort λa b=>decide (a<=b)
def cT(l:Q2):(eO l).Perm l:=List.mergeSort_perm _ _
def xX(l:Q2):(eO l).Pairwise (·<=·):=by
 have:=Pr (le:=λa b:Int=>decide (a<=b)) (λa b c f i=>by
   simp only[decide_eq_true_eq]at f i ⊢;lia) (λa b=>by
   lia)
 unfold eO
 simp_all
def rM{l m:Q2}(f:l.Pairwise (·<=·))(i:m.Pairwise (·<=·))(p:l.Perm m):l=m :=
 List.Perm.eq_of_pairwise (λa b _ _ x y=>by lia) f i p
def j7:∀{xs:Q0}{k:Q2},dO xs=J k->xs=k.map .int
 |[],k,h=>by cases h;rfl
 |x::r,k,h=>by
  cases x with
  |int i =>
   unfold dO at h
   cases a:dO r with
   |none=>rw[a]at h;cases h
   |some f =>
    rw[a]at h;cases h;rw[j7 a];rfl
  |_=>cases h
def pN:∀(k:Q2),dO (k.map .int)=J k
 |[]=>rfl
 |i::k=>by show(dO (k.map .int)).map (i::·)=_;rw[pN k];rfl
def ml(xs:Q0)(h:MH):RN:=match xs with
 |[x]=>(match cm h x with
  |some ys=>(match dO ys with
   |some ns=>if ns.length<64 then .ok (.loc h.length) (h++[.lst ((eO ns).map .int)])else .bad
   |none=>(match gk ys with
    |some a=>if(∀k∈a,k≠[])/\a.length<=66 then .ok (.loc h.length) (h++[.lst ((bE a).map kP)])else .bad
    |none=>.bad))
  |none=>.bad)
 |_=>.bad
def qG:∀{ns:Q2}{a:Q7},au (ns.map V.int) a->IntsAre a ns
 |[],_,h=>by cases h;exact .nil
 |i::k,_,h=>by
  cases h with
  |cons r t =>
   obtain⟨f,rfl⟩:=r;exact .cons i f (qG t)
def qK:∀{ns:Q2}{a:Q7},IntsAre a ns->au (ns.map V.int) a
 |_,_,.nil=>.nil
 |_,_,.cons n t h=>.cons ⟨t,rfl⟩ (qK h)
section
variable{X:Cx}{N W G:Q1}{k:Nat}
def qO:bV X (.builtin "sorted") (λxs H Q=>∃l ns,xs=[.ref l]/\SqL X.K H l (ns.map V.int)/\ns.length<64/\∀C,H C=Y->Q (.ref C) (lg H C (.lst ((eO ns).map V.int)))):=by
 intro Jr s Z H xs us Q f r ⟨l,ns,e,R,hz,q⟩;subst e;obtain⟨u,rfl,rx⟩:=d7 r;cases rx;obtain⟨a,E,L,U⟩:=f.list R;have i:=E.length;rw[n_]at i;refine sorted_ints L.isList (qG E) ⋯ λy M S h2 O=>?_;have e:=rM O (xX ns) (h2.trans (cT ns).symm);subst e;have z:((s.heap.push (seqObj "list" #[] 0)).update s.heap.objs.size (Obj.mapSeq (·++a.toArray))).objs.size=s.heap.objs.size+1:=by rw[Heap.size_update,size_push']
 have B:(((s.heap.push (seqObj "list" #[] 0)).update s.heap.objs.size (Obj.mapSeq (·++a.toArray))).push (seqObj "list" a.toArray 0)).get? (s.heap.objs.size+1)=J (seqObj "list" a.toArray 0):=by rw[<-z];exact tr _ rfl
 obtain⟨c,P⟩:=gS B y;refine⟨.ref (s.heap.objs.size+1),_,f.laid (o:=.lst ((eO ns).map V.int)) (t':=s.toks) (λb o F=>?_) (C9 _) (⟨?_,y.toList,c,qK S,?_⟩),rfl,q _ (f.hok.fresh (C9 _))⟩
 .have j:=mj F;refine gr (tt (Hv j)) ?_ _;refine n3 _ ?_;rw[Ip _ _ _ _ (tt j)];exact n3 _ F
 .rw[n_,(cT ns).length_eq,sizeLine_eq];lia
 .unfold sortedAll;rw[P]
def vZ:bG X (.builtin "sorted") ml:=by
 intro O s Z H xs R Q u r ⟨U,h,ps,B,rp,q⟩
 cases rp with
 |nil=>exact q.elim
 |@cons x y _ _ S t1 =>
  cases t1 with
  |cons _ _=>exact q.elim
  |nil =>
   unfold ml at q;dsimp only at q
   cases E:cm h x with
   |none=>rw[E]at q;exact q.elim
   |some M =>
    rw[E]at q;dsimp only at q;obtain⟨P,ys,rfl,j,a⟩:=nz B S E
    cases F:dO M with
    |some ns =>
     rw[F]at q;dsimp only at q;by_cases z:ns.length<64
     .rw[b_ z]at q;rw[j7 F]at a;rw[zN a]at j;refine qO O s Z H _ R Q u r ⟨P,ns,rfl,j,z,λl i=>?_⟩;obtain⟨f,l3⟩:=B.new i (o:=.lst ((eO ns).map .int)) ⟨_,rfl,RPs.ints _⟩;exact q _ _ _ l3 f (.loc (by rw[<-B.len];simp))
     .rw[d_ z]at q;exact q.elim
    |none =>
     rw[F]at q
     cases L:gk M with
     |none=>rw[L]at q;exact q.elim
     |some C =>
      rw[L]at q;dsimp only at q;by_cases z:(∀k∈C,k≠[])/\C.length<=66
      .rw[b_ z]at q;rw[m6 L]at a;refine pI O s Z H _ R Q u r ⟨P,ys,C,rfl,j,nC a,z.1,z.2,λl ab i tk=>?_⟩;obtain⟨f,l3⟩:=B.new i (o:=.lst ((bE C).map kP)) ⟨_,rfl,nr tk⟩;exact q _ _ _ l3 f (.loc (by rw[<-B.len];simp))
      .rw[d_ z]at q;exact q.elim
end
end MM
namespace MM
open PySem.Spec PyProof.Rows L2
def sC(a:Nat->ll->MH->Prop):∀(xs:Q0)(j:Nat)(Z:ll)(h:MH),a j Z h->(∀j Z h,a j Z h->it.ok h) ->
  (∀m Z h x,a (j+m) Z h->xs[m]?=J x->∃u B i f,g x Z h=.nx u B/\b u B=.nx i f/\a (j+m+1) i f) ->
  ∃i f,x2 it g b xs Z h=.nx i f/\a (j+xs.length) i f
 |[],j,Z,h,l,hok,_=>⟨Z,h,BC (hok _ _ _ l),l⟩
 |x::r,j,Z,h,l,hok,st=>by
  obtain⟨u,B,L,H,e1,e2,E⟩:=st 0 Z h x l rfl;obtain⟨F,C,e3,G⟩:=sC a r (j+1) L H E hok λm i f y q z=>by
   have:=st (m+1) i f y (by rw[show j+(m+1)=j+1+m by lia];exact q) (by simpa using z)
   rw[show j+(m+1)+1=j+1+m+1 by lia]at this;exact this
  refine⟨F,C,?_,by rw[y_,show j+(r.length+1)=j+1+r.length by lia];exact G⟩;rw[x3 (hok _ _ _ l) e1,e2];exact e3
end MM
namespace MM
open PySem.Spec PyProof.Rows L2 SetT SortT
section
variable{h:MH}{i:Int}{xs:Q0}{n:Nat}
def ud(e:h[n]?=J (.lst xs))(a:xs.length<1000):cv n [v] h=.ok .non (h.set n (.lst (xs++[v]))):=by
 have z:1000<=sizeLine:=by decide
 simp only[cv,e];rw[b_ ⋯]
def Cd(em:m Z h=.ok (.loc n) h1)(e:h1[n]?=J (.lst xs)):zf f m ma Z h=(ma Z h1).bind λa j=>(f n a j).ne:=by simp_all
end
def eN:∀(k:Q2),PyData.canLayAll0 (k.map .int)=I/\PyData.depthAll (k.map .int)<=1
 |[]=>⟨rfl,by simp[PyData.depthAll]⟩
 |i::k=>by
  obtain⟨a,b⟩:=eN k;constructor
  .simp[PyData.canLayAll0,PyData.canLay0,a]
  .simp only[nt,PyData.depthAll,PyData.depth];lia
def qQ:∀(f:Q3),PyData.canLayAll0 (f.map λk=>.tuple (k.map .int))=I/\PyData.depthAll (f.map λk=>.tuple (k.map .int))<=2
 |[]=>⟨rfl,by simp[PyData.depthAll]⟩
 |k::f=>by
  obtain⟨a,b⟩:=qQ f;obtain⟨c,d⟩:=eN k;constructor
  .simp[PyData.canLayAll0,PyData.canLay0,a,c]
  .simp only[nt,PyData.depthAll,PyData.depth];lia
end MM
namespace MM
open PySem.Spec PyProof.Rows L2
def kC(h:MH):PV->Option Bool
 |.non=>J T
 |.bl b=>J b
 |.int i=>J (i != 0)
 |.str _=>Y
 |.tup xs=>J (!xs.isEmpty)
 |.frl xs=>J (!xs.isEmpty)
 |.loc n=>match h[n]? with
  |some (.lst xs)=>J (!xs.isEmpty)
  |_=>Y
def Qc(m:Mx PV):Mx Bool:=λZ h=>(m Z h).bind λv a=>match kC a v with
 |some b=>.ok b a
 |none=>.bad
section
variable{X:Cx}{N W G:Q1}{k:Nat}
def jG{K:g_}{U:Q6}{H:Hp}{xs:Q0}{ys:List V}(r:RPs K U H xs ys):(!xs.isEmpty)=!ys.isEmpty:=by cases r<;>rfl
def FU{e:Expr}{m:Mx PV}(h:ME X e m)(O:∀l,isTrue e X.env l=(do let v <-l;standAt e.pos;holding [v] (truthy v)):=by intro _;rfl):MT X e (Qc m):=by
 refine PT.imp (xo h O) λZ H Q ⟨U,B,h,E,P,q⟩=>⟨U,B,h,E,P,Ful.bind q λy u x S h1 _ l1 f R j=>?_⟩
 cases R with
 |non=>exact⟨T,rfl,j y u _ (Le.refl _ _) f rfl⟩
 |bl b=>exact⟨b,rfl,j y u _ (Le.refl _ _) f rfl⟩
 |int i=>exact⟨_,rfl,j y u _ (Le.refl _ _) f rfl⟩
 |str i=>exact j.elim
 |@tup xs a ys s r=>exact⟨_,.inr (.inl ⟨ys,s,rfl⟩),by rw[<-jG r];exact j y u _ (Le.refl _ _) f rfl⟩
 |@frl xs a ys s r=>exact⟨_,.inl ⟨ys,s.sq,rfl⟩,by rw[<-jG r];exact j y u _ (Le.refl _ _) f rfl⟩
 |@loc n a e =>
  obtain⟨o,C,M⟩:=f.obj e
  cases o with
  |lst xs =>
   obtain⟨ys,L,F⟩:=M;simp only[kC,C]at j;exact⟨_,.inl ⟨ys,.inl (.inl L),rfl⟩,by rw[<-jG F];exact j y u _ (Le.refl _ _) f rfl⟩
  |dic ks xs=>simp only[kC,C]at j;exact j.elim
  |exc z=>simp only[kC,C]at j;exact j.elim
end
end MM
namespace MM
open PySem.Spec PyProof.Rows L2 PySem.W
section
variable{X:Cx}
end
end MM
namespace MM
open PySem.Spec PyProof.Rows L2
section
variable{X:Cx}{o e:Expr}{es:RM}{name:Str}{apos cpos:Pos}{id:String}{f:Str->Q0->MH->RN}{m:Mx PV}{ma:Mx (Q0)}
end
end MM
namespace L2
open PySem.Spec PyProof.Rows
section
variable{X:Cx}{e st:Expr}{te:TE}{hi:Option Expr}{th ts:TO}{pos p2:Pos}
end
end L2
namespace MM
open PySem.Spec PyProof.Rows L2
section
variable{X:Cx}{pos p2:Pos}
end
def Ce(h:MH):PV->Option (Q0)
 |.frl xs=>J xs
 |.loc n=>(match h[n]? with
  |some (.lst xs)=>J xs
  |_=>Y)
 |_=>Y
def qb(x y:PV)(h:MH):RN:=match Ce h x,Ce h y with
 |some xs,J ys=>if xs.length≠ys.length then .ok (.bl T) h else tx x y h
 |_,_=>tx x y h
section
variable{X:Cx}{k:Nat}
def Qd{U:Q6}{H:Hp}{h:MH}{x:PV}{f:V}{xs:Q0}(C:RH X.K X.mg U H h)(z:RP X.K U H x f)(e:Ce h x=J xs):∃a ys,f=.ref a/\SqL X.K H a ys/\RPs X.K U H xs ys:=by
 cases z with
 |frl s r=>cases e;exact⟨_,_,rfl,s.sq,r⟩
 |@loc n a i =>
  obtain⟨o,y,u⟩:=C.obj i;simp only[Ce,y]at e
  cases o with
  |lst ys =>
   cases e;obtain⟨j,l,B⟩:=u;exact⟨a,j,rfl,SqL.of l,B⟩
  |_=>cases e
 |_=>cases e
def FV(r:Room k X.A):u7 X (compareOp .Eq) qb:=by
 intro G s Z H F M u v Q f i j ⟨U,h,x,y,l,E,B,q⟩;unfold qb at q
 split at q
 .rename_i xs ys ex ey
  by_cases z:xs.length≠ys.length
  .rw[b_ z]at q;obtain⟨a,zs,rfl,O,rz⟩:=Qd l E ex;obtain⟨b,ws,rfl,hb,C⟩:=Qd l B ey;cases i;cases j;obtain⟨W,P,p1,_⟩:=f.list O;obtain⟨L,S,R,_⟩:=f.list hb;refine SeqAt.eq_list_lengthsAt p1.isList R.isList ?_ (by have:=r.units;lia) ⟨.bl _,H,f,rfl,q U H _ (Le.refl _ _) l (.bl _)⟩;rw[n9,n9,<-P.length,<-S.length,<-rz.length,<-C.length];simpa using z
  .rw[d_ z]at q;exact o6 r G s Z H F M u v Q f i j ⟨U,h,x,y,l,E,B,q⟩
 .exact o6 r G s Z H F M u v Q f i j ⟨U,h,x,y,l,E,B,q⟩
end
end MM
namespace MM
open PySem.Spec PyProof.Rows L2 SetT SortT
def wx(ns:Q2):Nat:=(firstMet (λi=>ns.getD i 0) ns.length).length
def Cf(ns:Q2):wx ns<=ns.length:=firstMet_length_le _ _
def FW(prog:Program)(w:World)(S:Addr)(n:Nat)(h:Heap):Prop:=∃f,h.SetOf (intKind prog w) S f n
def uk{prog:Program}{w:World}{S:Addr}{n:Nat}{a i:Heap}(p:FW prog w S n a)(k:∀o,a.get? S=J o->i.get? S=J o):FW prog w S n i:=by obtain⟨f,o,l,u,t,j,r⟩:=p;exact⟨f,o,l,u,t,k o j,r⟩
section
variable{X:Cx}{N W G:Q1}{k:Nat}
def vj(R:X.calm=I):bV X (.type "set") (λxs H Q=>∃l ns,xs=[.ref l]/\SqL X.K H l (ns.map V.int)/\ns.length<=1000/\∀S,H S=Y->Q (.ref S) (lg H S (.ext (FW X.prog X.w S (wx ns))))):=by
 intro Jr s Z H xs us Q i r ⟨l,ns,e,U,hl,q⟩;subst e;obtain⟨u,rfl,rx⟩:=d7 r;cases rx;obtain⟨z,F,O,hz⟩:=i.list U;have y:z.length=ns.length:=by have:=F.length;rw[n_]at this;exact this.symm
 have P:=vb F;have C:=i.hok.fresh (ii s.heap.objs.size);refine call_set_list (i.ok.hd R) O.isList P (by rw[n9];unfold scanBound;ext) λM tk j x=>?_;have B:z.toArray.size=ns.length:=by rw[n9,y]
 rw[B]at j;have E:FW X.prog X.w s.heap.objs.size (wx ns) M:=⟨_,j⟩;obtain⟨f,o,es,ep,t,ho,L⟩:=id E;exact⟨.ref s.heap.objs.size,_,i.laid (o:=.ext (FW X.prog X.w s.heap.objs.size (wx ns))) (λb o e=>x b o (mj e) e) (ii _) ⟨E,⟨o,ho⟩,λh1 h2 a b=>uk a b⟩,rfl,q _ C⟩
def wT:bV X (.builtin "len") (λxs H Q=>∃S n,xs=[.ref S]/\H S=J (.ext (FW X.prog X.w S n))/\n<=1000/\Q (.int n) H):=by intro F s Z H xs U Q a r ⟨S,n,e,l,M,q⟩;subst e;obtain⟨u,rfl,C⟩:=d7 r;cases C;obtain⟨i,_,_⟩:=(a.hok S _ l);obtain⟨f,o,O,ep,t,y,j,E,R,p5,L,z,B⟩:=i;refine call_len_set y j E z (by ext) ?_;rw[B];exact⟨.int n,H,a.kept λb P q=>q,⟨_,rfl⟩,q⟩
def QV(m:Mx (Q0)):Mx PV:=λZ h=>(m Z h).bind λxs a=>match xs with
 |[x]=>(match (cm a x).bind dO with
  |some ns=>if ns.length<=1000 then .ok (.int (wx ns)) a else .bad
  |none=>.bad)
 |_=>.bad
def vW(g:Good X N W G k){a:Expr}{m:Mx (Q0)}{p O P l:Pos}(i j:Nat)(hm:X.mg "len"=Y)(F:X.mg "set"=Y)(ha:MA X [a] m)(hi:G[i]?=J "len":=by rfl)(hj:G[j]?=J "set":=by rfl)(hs:starEach [a] X.env=[(T,eval a X.env)]:=by rfl)(he:starEach [.Call (.Name "set" O) [a] [] l] X.env=[(T,eval (.Call (.Name "set" O) [a] [] l) X.env)]:=by rfl):
  ME X (.Call (.Name "len" p) [.Call (.Name "set" O) [a] [] l] [] P) (QV m):=by
 have d:=g.dbg _ (pk _ (aL hi));have R:=g.dbg _ (pk _ (aL hj));refine PE.imp (iL wT (g.gl _ (aL hi)) hm PyProof.Rows.Boot.«len» (gc (hU (vj g.calm) (g.gl _ (aL hj)) F PyProof.Rows.Boot.«set» ha R.2.2 R.1 hs rfl) jn he) d.2.2 d.1 he rfl) λZ H Q ⟨U,E,h,rs,rh,q⟩=>?_;refine⟨U,E,h,rs,rh,Ful.bind q λU1 H1 x x' h1 ex l1 B rx f=>?_⟩
 cases rx with
 |nil=>exact f.elim
 |@cons y y' _ _ r1 t1 =>
  cases t1 with
  |cons _ _=>exact f.elim
  |nil =>
   dsimp only at f
   cases C:cm h1 y with
   |none=>rw[C]at f;exact f.elim
   |some xs =>
    rw[C]at f
    cases L:dO xs with
    |none=>simp only[zS,L]at f;exact f.elim
    |some ns =>
     simp only[zS,L]at f;by_cases z:ns.length<=1000
     .rw[b_ z]at f;obtain⟨la,zs,rfl,u,r⟩:=nz B r1 C;rw[j7 L]at r;rw[zN r]at u;refine⟨la,ns,rfl,u,z,λS hS=>?_⟩;obtain⟨M,l2⟩:=B.loose hS (.ext (FW X.prog X.w S (wx ns)));exact⟨S,wx ns,rfl,bI,l7 (Cf ns) z,f U1 _ _ l2 M (.int _)⟩
     .rw[d_ z]at f;exact f.elim
end
end MM
namespace L2
open PySem.Spec PyProof.Rows
section
variable{X:Cx}{a:Expr}{ta:TE}{pos:Pos}
end
end L2
namespace MM
open PySem.Spec PyProof.Rows L2
section
variable{X:Cx}{pos:Pos}
end
def o8(n:Nat)(a:Q0)(h:MH):RN:=match a,h[n]? with
 |[.int 0],J (.lst (y::r))=>.ok y (h.set n (.lst r))
 |_,_=>.bad
section
variable{X:Cx}
def Cg:AJ X "list.pop" (BK X o8):=by
 intro M s Z H x vs v W Q u rx G ⟨U,h,n,a,ps,e,B,E,rp,q⟩;subst e;obtain⟨o,S,R⟩:=E.obj B;unfold o8 at q;rw[S]at q
 split at q
 .rename_i y r e
  injection e with e
  subst e
  cases rp with
  |cons F P =>
   cases P;cases F;obtain⟨ys,O,L⟩:=R
   cases L with
   |@cons _ z _ f j l =>
    obtain⟨i,C⟩:=E.put B (o:=.lst r) (ho:=.lst f) ⟨_,rfl,l⟩;exact yc M s Z H _ _ v W Q u rx G ⟨a,z::f,0,0,z,rfl,rfl,O,by decide,by decide,by simp[seqIndex?],rfl,q U _ z C i (j.le C)⟩
 .exact q.elim
end
section
variable{X:Cx}{k:Nat}
def kx(xs:Q0)(h:MH):RN:=match xs with
 |[.non]=>.ok (.str "None") h
 |[.bl b]=>.ok (.str (if b then "True" else "False")) h
 |[.int i]=>if i.natAbs.log2<1920 then .ok (.str (toString i)) h else .bad
 |[.str x]=>if(reprText x).length<=sizeLine then .ok (.str (reprText x)) h else .bad
 |[.loc n]=>(match h[n]? with
  |some (.dic [] _)=>.ok (.str "{}") h
  |_=>ze [.loc n] h)
 |xs=>ze xs h
def i9{N W G:Q1}(g:Good X N W G k):bG X (.builtin "repr") kx:=by
 intro B s Z H xs us Q f r ⟨U,h,ps,j,rp,q⟩
 cases rp with
 |nil=>exact q.elim
 |@cons x y _ _ E t1 =>
  cases t1 with
  |cons a b=>exact fU g B s Z H _ us Q f r ⟨U,h,_,j,.cons E (.cons a b),by cases E<;>exact q⟩
  |nil =>
   cases r with
   |cons l tu =>
    cases tu
    cases E with
    |non=>cases l;exact P.repr_of_none ⟨.str "None",H,f.tok _,⟨_,rfl⟩,q U H _ (Le.refl _ _) j (.str _)⟩
    |bl b=>cases l;exact P.repr_of_bool ⟨.str _,H,f.tok _,⟨_,rfl⟩,q U H _ (Le.refl _ _) j (.str _)⟩
    |int i =>
     obtain⟨t,rfl⟩:=l;unfold kx at q;dsimp only at q;by_cases z:i.natAbs.log2<1920
     .rw[b_ z]at q;exact P.repr_of_int z ⟨.str _,H,f.tok _,⟨_,rfl⟩,q U H _ (Le.refl _ _) j (.str _)⟩
     .rw[d_ z]at q;exact q.elim
    |str x =>
     obtain⟨t,rfl⟩:=l;unfold kx at q;dsimp only at q;by_cases z:(reprText x).length<=sizeLine
     .rw[b_ z]at q;exact P.repr_of_str ⟨.str _,H,f.tok _,⟨_,rfl⟩,q U H _ (Le.refl _ _) j (.str _)⟩ z
     .rw[d_ z]at q;exact q.elim
    |tup L M=>exact fU g B s Z H _ _ Q f (.cons l .nil) ⟨U,h,_,j,.cons (.tup L M) .nil,q⟩
    |frl L M=>exact fU g B s Z H _ _ Q f (.cons l .nil) ⟨U,h,_,j,.cons (.frl L M) .nil,q⟩
    |@loc n a C =>
     obtain⟨o,eo,ro⟩:=j.obj C;unfold kx at q;dsimp only at q;rw[eo]at q
     cases o with
     |lst zs=>exact fU g B s Z H _ _ Q f (.cons l .nil) ⟨U,h,_,j,.cons (.loc C) .nil,q⟩
     |exc zs=>exact fU g B s Z H _ _ Q f (.cons l .nil) ⟨U,h,_,j,.cons (.loc C) .nil,q⟩
     |dic ks xs =>
       cases ks with
       |cons k ks=>exact fU g B s Z H _ _ Q f (.cons l .nil) ⟨U,h,_,j,.cons (.loc C) .nil,q⟩
       |nil =>
      obtain⟨bs,_,e1,_,_,_,e2⟩:=ro
      cases bs with
      |cons _ _=>cases e1
      |nil =>
      cases l;obtain⟨⟨ob,es,ep,h1,h2,h3,S,_,R,_⟩,_⟩:=(show ObjOk X.prog X.w H s.heap a (.ext (DT a []))from f.hok a _ e2);have O:es.toList=[]:=by
       cases h5:es.toList with
       |nil=>rfl
       |cons a b=>rw[h5]at S;cases S
      have F:Reads s.heap (.ref a) (.dict []) (a::[]++[]):=.dict h1 h2.1 h3 (by rw[O];exact .nil) (by rw[O];exact .nil);refine repr_of_reads' F rfl (λ_=>by simpa using λz=>by rw[z]at R;simp at R) g.room.gd (by have:=g.room.un;simp[PyData.depth,PyData.depthKv];lia) (λ_ _ e=>e) (λh' u tk hk=>⟨.str "{}",H,f.kept hk,⟨u,rfl⟩,q U H _ (Le.refl _ _) j (.str _)⟩) (by rw[sizeLine_eq];decide)
def uG(x y:PV)(h:MH):RN:=match x,y with
 |.str a,.str b=>.ok (.bl (a.cps.toList != b.cps.toList)) h
 |_,_=>wh x y h
def vY(C:Room k X.A):u7 X (compareOp .NotEq) uG:=by
 intro F s Z H E G u v Q j f i ⟨U,h,x,y,B,r,l,q⟩;by_cases z:∃a b,x=.str a/\y=.str b
 .obtain⟨a,b,rfl,rfl⟩:=z;cases r;cases l;obtain⟨t,rfl⟩:=f;obtain⟨L,rfl⟩:=i;exact P.ne_str ⟨.bl _,H,j,rfl,q U H _ (Le.refl _ _) B (.bl _)⟩
 .refine u6 C F s Z H E G u v Q j f i ⟨U,h,x,y,B,r,l,?_⟩
  have:uG x y h=wh x y h:=by
   unfold uG;split
   .exact absurd ⟨_,_,rfl,rfl⟩ z
   .rfl
  rwa [this]at q
end
end MM
namespace HT
open PyProof.Rows
section
open PySem.SeqAt
open PySem.AutoSeq1 (wpAny_loadPart')
open PySem.MeetsSeq PySem.MeetsSeq2 PySem.MeetsSeq3
end
section
variable{prog:Program}{w:World}{A:Around}{E:RQ}{s:Shared}
end
end HT
namespace L2
open PySem.Spec PyProof.Rows
section
variable{X:Cx}{e st:Expr}{te:TE}{ts:TO}{pos p2:Pos}
end
end L2
namespace MM
open PySem.Spec PyProof.Rows L2
section
variable{X:Cx}{k:Nat}{pos:Pos}
end
end MM
namespace L2
open PySem.Spec PyProof.Rows
section
variable{X:Cx}{a b c d:Expr}{ta tb tc td:TE}{r r' r2:R2}{op op' op2:CmpOp}{pos:Pos}
end
end L2
namespace MM
open PySem.Spec PyProof.Rows L2
section
variable{X:Cx}{a b c d:Expr}{ma mb mc md:Mx PV}{f g' g2:PV->PV->MH->RN}{op op' op2:CmpOp}{pos:Pos}{k:Nat}
def aX:Expr->Bool
 |.Starred _ _=>T
 |_=>I
def aP(h:aX e=I):starEach (e::es) env=(T,eval e env)::starEach es env:=by cases e<;>first | rfl | cases h
def FX(i:ME X e m)(l:MA X es ms)(j:aX e=I:=by rfl):MA X (e::es) (ag m ms):=aH i l (aP j)
structure ky(X:Cx)(e:Expr)(m:Mx PV):Prop where
 h:ME X e m
structure yh(X:Cx)(es:RM)(ms:Mx (Q0)):Prop where
 h:MA X es ms
structure x5(X:Cx)(st:Stmt)(m:nw):Prop where
 h:MS X st m
structure n5(X:Cx)(st:List Stmt)(m:nw):Prop where
 h:zx X st m
section
variable{e:Expr}{es:RM}{m ma mb:Mx PV}{ms:Mx (Q0)}{st:Stmt}{rest:List Stmt}{u v:nw}{f:PV->PV->MH->RN}{N W G:Q1}{x:Str}
def lA:yh X [] ia:=⟨aY⟩
def eA(i:ky X e m)(l:yh X es ms)(j:aX e=I:=by rfl):yh X (e::es) (ag m ms):=⟨FX i.h l.h j⟩
def u_(h:ME X e m):ky X e m:=⟨h⟩
def N9(h:yh X es ms):ky X (.List es pos) (hZ ms):=⟨EV h.h⟩
def Qe(h:yh X es ms):ky X (.Tuple es j pos) (kX ms):=⟨EW h.h⟩
def Ar(h:MS X st u):x5 X st u:=⟨h⟩
def Ab(g:Good X N W G k)(i:Nat){j:Pos}(z:ky X e m)(l:N[i]?=J x:=by rfl)(y:W[i]?=J x:=by rfl)(r:swapsWith e (J (.Name x j)) pos.line X.env=pure T:=by rfl):
  x5 X (.Assign [.Name x j] e pos) (bc i m):=⟨mn g i l y z.h r⟩
def Ch(i:ky X e m):x5 X (.Return (J e) pos) (bT m):=⟨EX i.h⟩
def Ac(h:x5 X st u):n5 X [st] u:=⟨Bp h.h⟩
def yu(i:x5 X st u)(j:n5 X rest v):n5 X (st::rest) (aW u v):=⟨xM i.h j.h⟩
end
end
section
variable{α β:Type}
end
inductive T3(K:g_)(U:Q6)(H:Hp):Q0->List V->Q7->List (PV×V×Value)->Prop
 |nil:T3 K U H [] [] [] []
 |cons{x:PV}{y:V}{u:Value}{xs:Q0}{ys:List V}{us:Q7}{ts:List (PV×V×Value)}(r:RP K U H x y)(v:aR y u)(t:T3 K U H xs ys us ts):T3 K U H (x::xs) (y::ys) (u::us) ((x,y,u)::ts)
section
variable{K:g_}{U:Q6}{H:Hp}
end
section
variable{X:Cx}
end
end MM
namespace SortT
open PySem.SeqAt PySem.MeetsSeq PySem.MeetsSeq2 PySem.MeetsSeq3 PySem.SeqRoads2 PyProof.Rows PySem.W
section
variable{prog:Program}{w:World}{A:Around}{E:RQ}{s:Shared}{rk:Value->Int}{vs:Q7}
end
end SortT
namespace MM
open PySem.Spec PyProof.Rows L2
section
variable{X:Cx}{N W G:Q1}{k:Nat}{a b:Expr}{p p' pos pos':Pos}
def J5(l:TA):TE:=λZ H Q=>l Z H λr f=>∃i j:Int,r=[.int i,.int j]/\∀p,f p=Y->Q (.ref p) (lg f p (.rng i j))
def vO(P:Gl X "range")(E:X.mg "range"=Y)(Q:PA X [a,b] ta)(O:starEach [a,b] X.env=[(T,eval a X.env),(T,eval b X.env)]:=by rfl)(l:starEach [b] X.env=[(T,eval b X.env)]:=by rfl):PE X (.Call (.Name "range" p) [a,b] [] pos) (J5 ta):=by
 intro L s Z H R f h;refine Call_ (ip f P E boot_range (PyProof.Rows.callWith_type1 (k_ (Q pos L s Z H _ f h) λus M ⟨S,U,z,C,B⟩=>?_) (O.trans (by rw[l])) (by rw[l];rfl)));obtain⟨i,j,e,q⟩:=B;subst e
 cases C with
 |cons r y =>
  cases y with
  |cons F y =>
   cases y;obtain⟨t,rfl⟩:=r;obtain⟨u,rfl⟩:=F;refine call_range_2 ⟨.ref M.heap.objs.size,_,z.laid (λb o e=>n3 _ e) (ii _) ?_,rfl,q _ (z.hok.fresh (ii _))⟩;exact⟨_,_,_,tr _ rfl⟩
def oO(O:X.calm=I):bV X (.type "list") (λxs H Q=>∃r i j,xs=[.ref r]/\H r=J (.rng i j) /\ -(2^62)<=i/\i<2^62 /\ -(2^62)<=j/\j<2^62/\(j-i).toNat<=sizeLine/\∀l,H l=Y->Q (.ref l) (lg H l (.lst ((List.range (j-i).toNat).map λn=>V.int (i+(n:Nat)))))):=by
 intro Jr s Z H xs us Q f r ⟨F,i,j,e,L,M,E,U,h2,z,q⟩;subst e
 cases r with
 |cons C R =>
  cases R;cases C;obtain⟨t,u,v,S⟩:=(f.hok F _ L);refine call_list_range (f.ok.hd O) S (small_one M E U h2) (by rw[rangeSize_one];split<;>ext) z λh' tk y P kp e B=>?_;have va:=lZ _ i _ (by exact B.1) λi v hv=>by
   obtain⟨t,e⟩:=B.2 i v (by rw[<-uY];exact hv)
   grind
  refine⟨.ref s.heap.objs.size,_,f.laid (o:=.lst _) kp (ii _) (⟨by simpa using z,y.toList,P,va,by simpa using e⟩),rfl,q _ (f.hok.fresh (ii _))⟩
def N_(m:Mx (Q0)):Mx PV:=λZ h=>(m Z h).bind λl f=>match l with
 |[.int i,.int j]=>if(-(2^62)<=i/\i<2^62) /\ -(2^62)<=j/\j<2^62/\(j-i).toNat<=sizeLine then .ok (.loc f.length) (f++[.lst (bN i (j-i).toNat)])else .bad
 |_=>.bad
def wS(g:Good X N W G k){m:Mx (Q0)}{i j:Nat}(R:G[i]?=J "list")(hm:X.mg "list"=Y)(hj:G[j]?=J "range")(F:X.mg "range"=Y)(ha:MA X [a,b] m)(hs:starEach [a,b] X.env=[(T,eval a X.env),(T,eval b X.env)]:=by rfl)(M:starEach [b] X.env=[(T,eval b X.env)]:=by rfl)(S:starEach [.Call (.Name "range" p') [a,b] [] pos'] X.env=[(T,eval (.Call (.Name "range" p') [a,b] [] pos') X.env)]:=by rfl):ME X (.Call (.Name "list" p) [.Call (.Name "range" p') [a,b] [] pos'] [] pos) (N_ m):=by
 have d:=g.dbg _ (pk _ (aL R));refine PE.imp (hU (oO g.calm) (g.gl _ (aL R)) hm PyProof.Rows.Boot.«list» (gc (vO (g.gl _ (aL hj)) F ha hs M) jn S) d.2.2 d.1 S rfl) λZ H Q ⟨U,L,h,rs,rh,q⟩=>?_;refine⟨U,L,h,rs,rh,Ful.bind q λU1 H1 x x' h1 _ l1 B rx f=>?_⟩;rcases rx with _|⟨E,_|⟨P,_|_⟩⟩
 .exact f.elim
 .cases E<;>exact f.elim
 .cases E with
  |int u =>
   cases P with
   |int y =>
    dsimp only at f;by_cases z:(-(2^62)<=u/\u<2^62) /\ -(2^62)<=y/\y<2^62/\(y-u).toNat<=sizeLine
    .rw[b_ z]at f;refine⟨u,y,rfl,λr hr=>?_⟩;obtain⟨O,l2⟩:=B.loose hr (.rng u y);refine⟨r,u,y,rfl,bI,z.1.1,z.1.2,z.2.1,z.2.2.1,z.2.2.2,λl hl=>?_⟩;obtain⟨C,l3⟩:=O.new hl (o:=.lst (bN u (y-u).toNat)) ⟨_,rfl,oG _⟩;exact f _ _ _ (l2.trans l3) C (.loc (by rw[<-B.len];simp))
    .rw[d_ z]at f;exact f.elim
   |_=>exact f.elim
  |_=>exact f.elim
 .cases E<;>(first | exact f.elim | (cases P<;>exact f.elim))
end
section
variable{X:Cx}
end
end MM
namespace SetT
open PySem.SetTable PyProof.Rows
section
variable{prog:Program}{w:World}{A:Around}{E:RQ}{s:Shared}
end
end SetT
namespace MM
open PySem.Spec PyProof.Rows L2 SetT SortT
section
variable{X:Cx}{N W G:Q1}{k:Nat}
end
end MM
namespace MM
open PySem.Spec PyProof.Rows L2 SetT
def zm{κ α:Type}[DecidableEq κ](a:List κ)(xs:List α)(i:κ):Option α:=match a,xs with
 |k::a,x::xs=>if k=i then J x else zm a xs i
 |_,_=>Y
def iy{κ α:Type}[DecidableEq κ](a:List κ)(xs:List α)(i:κ)(v:α):List κ×List α:=match a,xs with
 |k::a,x::xs=>if k=i then(k::a,v::xs)else(k::(iy a xs i v).1,x::(iy a xs i v).2)
 |_,_=>([i],[v])
abbrev AM:=Q2×Addr×Value
def FY{bs:List AM}{k:Q2}:zm (bs.map (·.1)) (bs.map (·.2.2)) k=(atKey bs k).map (·.2):=by
 induction bs with
 |nil=>rfl
 |cons b bs a =>
  simp only[nt,zm,atKey,List.find?_cons];by_cases e:b.1=k
  .simp[e]
  .simp only[d_ e,e,decide_false];exact a
def vC{ks:Q3}{ys:List V}{f:Q7}{v:V}{u:Value}(i:f.length=ks.length)(r:au ys f)(j:aR v u)(k:Q2):(iy ks ys k v).1=(iy ks f k u).1/\au (iy ks ys k v).2 (iy ks f k u).2:=by
 induction r generalizing ks with
 |nil=>cases ks<;>exact⟨rfl,.cons j .nil⟩
 |cons a t z =>
  cases ks with
  |nil=>cases i
  |cons q ks =>
   unfold iy;by_cases e:q=k
   .simp only[b_ e];exact⟨trivial,.cons j t⟩
   .simp only[d_ e];obtain⟨y,l⟩:=z (by simpa using i);exact⟨by rw[y],.cons a l⟩
section
variable{K:g_}{U:Q6}{H:Hp}
def ym{ks:Q3}(r:RPs K U H xs ys)(q:RP K U H v y)(i:Q2):(iy ks xs i v).1=(iy ks ys i y).1/\RPs K U H (iy ks xs i v).2 (iy ks ys i y).2:=by
 induction ks generalizing xs ys with
 |nil=>cases xs<;>cases ys<;>exact⟨rfl,.cons q .nil⟩
 |cons k ks l =>
  cases r with
  |nil=>exact⟨rfl,.cons q .nil⟩
  |cons a t =>
   unfold iy;by_cases e:k=i
   .simp only[b_ e];exact⟨trivial,.cons q t⟩
   .simp only[d_ e];obtain⟨j,f⟩:=l t;exact⟨by rw[j],.cons a f⟩
end
def pY{x:AM}{bs:List AM}{k:Q2}{b:Addr}{u:Value}(e:¬x.1=k):storedH (x::bs) k b u=x::storedH bs k b u:=by
 unfold storedH;have e1:atKey (x::bs) k=atKey bs k:=by simp[atKey,List.find?_cons,e]
 rw[e1];by_cases h:(atKey bs k).isSome=I
 .rw[b_ h,b_ h,nt,putAt,d_ e]
 .rw[d_ h,d_ h];rfl
def rN{x:AM}{bs:List AM}{b:Addr}{u:Value}(nd:x.1∉bs.map (·.1)):storedH (x::bs) x.1 b u=(x.1,x.2.1,u)::bs:=by unfold storedH;rw[b_ (by simp[atKey]),nt,putAt,b_ rfl,map_putAt_of_not_mem bs _ _ nd]
def jk{bs:List AM}{k:Q2}{b:Addr}{u:Value}(nd:(bs.map (·.1)).Nodup):(storedH bs k b u).map (·.1)=(iy (bs.map (·.1)) (bs.map (·.2.2)) k u).1/\(storedH bs k b u).map (·.2.2)=(iy (bs.map (·.1)) (bs.map (·.2.2)) k u).2/\(storedH bs k b u).length<=bs.length+1 /\
  ∀x∈storedH bs k b u,(∃y∈bs,x.1=y.1/\x.2.1=y.2.1)\/x=(k,b,u):=by
 induction bs with
 |nil=>refine⟨rfl,rfl,ii _,λx l=>.inr ?_⟩;simpa [storedH,atKey]using l
 |cons x bs B =>
  rw[nt,IA]at nd;by_cases e:x.1=k
  .subst e;rw[rN nd.1];refine⟨by simp[iy],by simp[iy],by simp,λy a=>.inl ?_⟩;rcases mu.mp a with z|z
   .subst z;exact⟨x,by simp,rfl,rfl⟩
   .exact⟨y,l_ _ z,rfl,rfl⟩
  .obtain⟨E,C,j,i⟩:=B nd.2;rw[pY e];refine⟨by simp[iy,e,E],by simp[iy,e,C],by simpa using j,λy a=>?_⟩;rcases mu.mp a with z|z
   .subst z;exact .inl ⟨y,by simp,rfl,rfl⟩
   .rcases i y z with⟨w,f,r⟩|r
    .exact .inl ⟨w,l_ _ f,r⟩
    .exact .inr r
def kv{K:g_}{U:Q6}{H:Hp}:∀{k:Q2}{ys:List V},RPs K U H (k.map PV.int) ys->ys=k.map V.int
 |[],_,r=>by cases r;rfl
 |i::k,_,r=>by
  cases r with
  |cons a t=>cases a;rw[kv t];rfl
def fN(h:MH)(y:PV):Option (Q3×Q0):=match y with
 |.loc n=>(match h[n]? with
  |some (.dic a xs)=>J (a,xs)
  |_=>Y)
 |_=>Y
def Ci:PV->Option (Q2)
 |.tup xs=>dO xs
 |_=>Y
section
variable{X:Cx}{Jr:List (Addr × Obj)}{Z:L2.St}{H:Hp}{s:Shared}{U:Q6}{h:MH}
def nG{x:PV}{y:V}{f:Q3}{xs:Q0}(u:RH X.K X.mg U H h)(r:RP X.K U H x y)(e:fN h x=J (f,xs)):
  ∃n a,x=.loc n/\U[n]?=J a/\y=.ref a/\h[n]?=J (.dic f xs)/\DR X.K U H a f xs (H a):=by
 cases r with
 |@loc n a j =>
  obtain⟨o,i,l⟩:=u.obj j;unfold fN at e;dsimp only at e;rw[i]at e
  cases o with
  |dic k z=>cases e;exact⟨n,a,rfl,j,rfl,i,l⟩
  |_=>cases e
 |_=>cases e
def wI{x:PV}{y:V}{k:Q2}(r:RP X.K U H x y)(e:Ci x=J k):∃b,y=.ref b/\SqT X.K H b (k.map V.int):=by
 cases r with
 |@tup xs a ys f i =>
  have e1:=j7 e;subst e1
  have:ys=k.map V.int:=by have z:=RPs.ints (K:=X.K) (U:=U) (H:=H) k;exact kv i
  subst this;exact⟨a,rfl,f⟩
 |_=>cases e
def tL{a:Addr}{bs:List AM}(f:Inv X Jr Z H s)(u:∀x∈bs,SqT X.K H x.2.1 (x.1.map V.int))(C:H a=J (.ext (DT a bs))):
  (a==sysModules)=T/\bs.length<=sizeLine/\(bs.map (·.1)).Nodup/\s.heap.DictOfH (tupleKind (intKind X.prog X.w)) a bs:=by
 obtain⟨⟨o,l,E,j,B,r,G,i,y,z⟩,_⟩:=(show ObjOk X.prog X.w H s.heap a (.ext (DT a bs))from f.hok a _ C);exact⟨y,z,i,o,l,E,j,B,r,G,λx F=>fu f (u x F),i⟩
end
def jf{prog:Program}{w:World}{A:Around}{E:RQ}{s:Shared}{d a:Addr}{k:Q2}{xs:List AM}{Q:Bool->Shared->Prop}(j:A.units+1<cLine)(f:TK prog w s.heap k a)(hd:(d==sysModules)=T)(i:s.heap.DictOfH (tupleKind (intKind prog w)) d xs)(h:Q (atKey xs k).isSome { s with toks:=s.toks+(k.length+1)}):wpAny (model prog w) A (contains (.ref d) (.ref a)) Q E s:=by
 unfold contains;refine wpAny_holding ?_;refine c_ (wpAny_specialOf i.typeIs slot_dict_contains.lookup ?_);show wpAny _ _ (if(J (Value.builtin "dict.__contains__")==J Value.none)=I then _ else _) _ E s;rw[d_ (by rw[beq_builtin_none];exact AQ)];refine c_ (wpAny_callSpecialUnlessNone?_slot (name:=Str.ofString "__contains__") i.typeIs slot_dict_contains (wpAny_call_entry slot_dict_contains i.typeIs entry_dict_contains ?_ (args_dict_contains _ _)));show wpAny _ _ (dictGet d (.ref a) >>= _) _ _ s;refine c_ (wpAny_dictGet_heap (knd:=tupleKind (intKind prog w)) j f i ?_)
 cases hf:atKey xs k with
 |some p =>
  rw[hf]at h;show wpAny _ _ (ret (.bool I)) _ _ _;exact h_ ⟨_,rfl,wpAny_truthy_bool h⟩
 |none =>
  rw[hf]at h;show wpAny _ _ (Builtin.Dict.pendingKey? d (.ref a) >>= _) _ _ _;exact c_ (wpAny_pendingKey_other hd (h_ ⟨_,rfl,wpAny_truthy_bool h⟩))
def lv(a:Bool)(x y:PV)(h:MH):RN:=match Ci x,fN h y with
 |some i,J (f,xs)=>.ok (.bl (if a then !(zm f xs i).isSome else(zm f xs i).isSome)) h
 |_,_=>.bad
def qX{a:List κ}[DecidableEq κ]{xs:List α}{ys:List β}{i:κ}(h:xs.length=ys.length):(zm a xs i).isSome=(zm a ys i).isSome:=by
 induction a generalizing xs ys with
 |nil=>rfl
 |cons k a f =>
  cases xs with
  |nil=>cases ys with
   |nil=>rfl
   |cons _ _=>cases h
  |cons x xs=>cases ys with
   |nil=>cases h
   |cons y ys =>
    unfold zm;by_cases e:k=i
    .simp[e]
    .simp only[d_ e];exact f (by simpa using h)
section
variable{X:Cx}{N W G:Q1}{k:Nat}
def FZ(P:Room k X.A)(j:Bool):u7 X (compareOp (if j then .NotIn else .In)) (lv j):=by
 intro Jr s Z H x' y' u v Q f l z ⟨U,h,x,y,B,rx,R,q⟩;unfold lv at q
 split at q
 .rename_i i ks xs L S
  obtain⟨n,a,rfl,en,rfl,eo,bs,ys,e1,kr,M,r,O⟩:=nG B R S;obtain⟨b,rfl,sq⟩:=wI rx L;cases l;cases z;obtain⟨hd,hz,nd,E⟩:=tL f kr O;have F:xs.length=(bs.map (·.2.2)).length:=by rw[r.length];exact M.length
  have e:(zm ks xs i).isSome=(atKey bs i).isSome:=by rw[qX F,e1,FY,Option.isSome_map]
  rw[e]at q;have C:X.A.units+1<cLine:=by have:=P.un;lia
  cases j with
  |false=>exact c_ (jf C (fu f sq) hd E (h_ ⟨.bl _,H,f.tok _,rfl,q U H _ (Le.refl _ _) B (.bl _)⟩))
  |true=>exact c_ (jf C (fu f sq) hd E (h_ ⟨.bl _,H,f.tok _,rfl,q U H _ (Le.refl _ _) B (.bl _)⟩))
 .exact q.elim
def J6(K:g_):cG:=λo i v H Q=>∃p bs k b,o=.ref p/\i=.ref b/\H p=J (.ext (DT p bs))/\(∀x∈bs,SqT K H x.2.1 (x.1.map V.int))/\SqT K H b (k.map V.int)/\bs.length<sizeLine/\∀u,aR v u->(bs.map (·.1)).Nodup->Q (lg H p (.ext (DT p (storedH bs k b u))))
def xH(O:Room k X.A):Ei X (J6 X.K):=by
 intro P s Z H o i v ov iv u Q a ro ri F h;obtain⟨p,bs,k,b,rfl,rfl,y,kr,sq,C,q⟩:=h;cases ro;cases ri;obtain⟨hd,j,nd,E⟩:=tL a kr y;have hu:X.A.units+1<cLine:=by have:=O.un;lia
 refine wpAny_setItem_heap (knd:=tupleKind (intKind X.prog X.w)) (hsz:=j) hu (fu a sq) E λl f zl=>?_;have r:∃q,l.get? p=J q:=let⟨q,_,_,U,_⟩:=f;⟨q,U⟩;have M:Inv X P Z (lg H p (.ext (DT p (storedH bs k b u)))) { s with heap:=l,toks:=s.toks+(k.length+1)} :=
  a.write (x:=p) (e:=p) (by rw[y];exact True.intro) (.inl rfl) (λc q R z=>(zl.2 c R).trans z) r ⟨by
   obtain⟨o,S,ep,L,a2,a3,a4,_,B⟩:=f
   exact⟨o,S,ep,L,a2,a3,a4,B,hd,l7 (jk (k:=k) (b:=b) (u:=u) nd).2.2.1 C⟩,r,oH⟩
 exact⟨_,M,q u F nd⟩
def Cj(o i v:PV)(h:MH):Option MH:=match o,fN h o,Ci i with
 |.loc n,J (a,xs),J j=>if a.length<100000 then J (h.set n (.dic (iy a xs j v).1 (iy a xs j v).2))else Y
 |_,_,_=>Y
def pX(mo f:Mx PV):Mg:=λv=>xO mo λo=>xO f λi Z h=>match Cj o i v h with
 |some a=>.nx Z a
 |none=>.bad
def Ck(hr:Room k X.A){o i:Expr}{mo mi:Mx PV}{l:Pos}(ho:ME X o mo)(hi:ME X i mi)(ha:∀v,assign (.Subscript o i l) X.env v=(do
   let r <-holding [v] (eval o X.env)
   let L <-holding [v,r] (eval i X.env)
   standAt l
   holding [v,r,L] (setItem r L v)
   release [v,r,L] []):=by intro _;rfl):MG X (.Subscript o i l) (pX mo mi) :=
 PG.imp (vp ho hi (xH hr) ha) λv' Z H Q ⟨U,f,h,v,R,rh,rv,q⟩=>by
  refine⟨U,f,h,R,rh,?_⟩;unfold pX xO at q
  cases e:mo f h with
  |exc x h1=>rw[e]at q;exact q
  |bad=>rw[e]at q;exact q
  |ok r h1 =>
   rw[e]at q;intro U1 H1 o' C O ro;refine⟨U1,f,h1,R.le C,O,?_⟩;dsimp only at q
   cases e2:mi f h1 with
   |exc x h2=>rw[e2]at q;exact XP.le C q
   |bad=>rw[e2]at q;exact q
   |ok L h2 =>
    rw[e2]at q;intro U2 H2 i' M E ri;have P:=ro.le M;have ab:=(rv.le C).le M;dsimp only at q;unfold Cj at q
    split at q
    .rename_i h3 e3
     split at e3
     .rename_i n B xs j ek ed
      obtain⟨_,a,e0,en,rfl,eo,bs,ys,e1,kr,vs,S,eh⟩:=nG E P ed;cases e0;obtain⟨b,rfl,sq⟩:=wI ri ek;by_cases F:B.length<100000
      .rw[b_ F]at e3;cases e3;have am:bs.length<100000:=by rw[e1,n_]at F;exact F
       refine⟨a,bs,j,b,rfl,rfl,eh,kr,sq,by rw[sizeLine_eq];lia,λu ru nd=>?_⟩;have aj:=eh;obtain⟨p1,p2⟩:=ym (ks:=B) S ab j;obtain⟨q1,q2⟩:=vC (ks:=B) (k:=j) (by rw[e1];simp) vs ru;obtain⟨w1,w2,_,w3⟩:=jk (k:=j) (b:=b) (u:=u) nd;rw[<-e1]at w1 w2
       obtain⟨r3,l3⟩:=E.put en (o:=.dic (iy B xs j v).1 (iy B xs j v).2) (ho:=.ext (DT a (storedH bs j b u))) ⟨_,_,p1.trans (q1.trans w1.symm),λx hx=>by
        rcases w3 x hx with⟨y,hy,z1,z2⟩|z
        .rw[z1,z2];exact kr y hy
        .subst z;exact sq,by rw[w2];exact q2,p2,rfl⟩
       exact q U2 _ Z (C.trans (M.trans l3)) r3 (R.le (C.trans (M.trans l3)))
      .rw[d_ F]at e3;cases e3
     .cases e3
    .exact q.elim
end
def fE(d:Addr)(a:Array DictEntry)(f:Nat)(h:Heap):Prop:=∃o,h.get? d=J o/\o.ExactDict/\o.data=.dict a f
section
variable{prog:Program}{w:World}{A:Around}{E:RQ}{s:Shared}{d it:Addr}{es:Array DictEntry}{ep i:Nat}
def fE.ty(x:fE d es ep s.heap):s.TypeIs (.ref d) "dict":=let⟨o,a,f,_⟩:=x;⟨o,a,f.1⟩
def fE.at'{h a:Heap}(x:fE d es ep h)(e:∀o,h.get? d=J o->a.get? d=J o):fE d es ep a:=let⟨o,f,r⟩:=x;⟨o,e o f,r⟩
def fE.lt{h:Heap}(x:fE d es ep h):d<h.objs.size:=let⟨_,a,_⟩:=x;mj a
def xA{Q:RQ}(hd:(d==sysModules)=T)(l:fE d es ep s.heap)(r:Q (.ref s.heap.objs.size) { s with heap:=s.heap.push { cls:=.type "dict_keyiterator",data:=.fields #[.ref d,.int 0 0,.int es.size 0,.int ep 0]}}):wpAny (model prog w) A (pyIter (.ref d)) Q E s:=by
 obtain⟨o,j,u,a⟩:=id l;have f:=l.ty;refine wpAny_pyIter_slot f F.slot_dict_iter (wpAny_call_entry F.slot_dict_iter f F.entry_dict_iter ?_ (F.args_dict_iter_1 _));unfold Builtin.«dict.__iter__»;refine c_ ?_;unfold Builtin.Dict.dictSlotNone;refine c_ (wpAny_notOrdered_dict f ?_);show wpAny _ _ (pure (Value.ref d)) _ _ s;refine h_ ?_;show wpAny _ _ (Builtin.Dict.showsAll d >>= _) _ _ s;unfold Builtin.Dict.showsAll;rw[d_ (by rw[hd];exact AQ)];refine c_ (h_ ?_);refine c_ (wpAny_dictEntries j a ?_);refine c_ (wpAny_dictEpoch j a ?_);refine c_ (wpAny_newObj_type (h_ ⟨_,rfl,"dict_keyiterator",_,⟨_,tr _ rfl,rfl⟩,F.slot_dict_keyiterator_next.lookup,?_⟩));simpa [rawInt]using r
def yT{e:DictEntry}{Q:Q9->Shared->Prop}(a:s.heap.IsKeyIter it d i es.size ep)(z:fE d es ep s.heap)(G:es[i]?=J e)(B:∀u,u.IsKeyIter it d (i+1) es.size ep->Heap.SameBut it s.heap u->Q (J e.key) { s with heap:=u}):wpAny (model prog w) A (pyNext (.ref it)) Q E s:=by
 obtain⟨o,r,y,hd⟩:=id a;obtain⟨H,l,C,j⟩:=id z
 refine c_ (wpAny_attempt (wpAny_callSpecial?_slot (name:=Str.ofString "__next__") a.typeIs F.slot_dict_keyiterator_next
  (wpAny_call_entry F.slot_dict_keyiterator_next a.typeIs F.entry_dict_keyiterator_next ?_ (F.args_dict_keyiterator_next_1 _))))
 refine c_ (h_ ?_);refine c_ ?_;refine c_ ?_
 first | refine c_ (wpAny_typeNameOfWhole_keyiter a.typeIs (h_ ?_)) | refine c_ (wpAny_typeNameOf_keyiter a.typeIs (h_ ?_))
 refine c_ (wpAny_fieldsOf r hd ?_);simp only[show Builtin.Dict_items.ownsTuple "dict_keyiterator"=T from by decide,o0,if_false];show wpAny _ _ (if(Value.ref d==Value.none)=I then _ else _) _ _ s;rw[d_ (show ¬((Value.ref d==Value.none)=I)from AQ)];refine c_ (h_ ?_);refine c_ (wpAny_dictEntries l j ?_);rw[d_ (by simp)];refine c_ (h_ ?_);refine c_ (wpAny_dictEpoch l j ?_);rw[d_ (by simp)];refine h_ ?_;simp only[show ¬((i:Int)<0)from by ext,if_false,xZ,G];refine c_ ?_
 first | refine c_ (wpAny_typeNameOfWhole_keyiter a.typeIs (h_ ?_)) | refine c_ (wpAny_typeNameOf_keyiter a.typeIs (h_ ?_))
 refine c_ (wpAny_isOneOf_keyiter a.typeIs ?_);show wpAny _ _ (setField (.ref it) 1 (rawInt ((i:Int)+1)) >>= _) _ _ s;refine c_ (wpAny_setField r hd (by simp) ?_);have f:(s.heap.update it (Obj.mapFields (·.setIfInBounds 1 (rawInt ((i:Int)+1))))).IsKeyIter it d (i+1) es.size ep :=
  ⟨_,Hs _ r (Obj.isFreed_of_fields (Obj.data_mapFields hd _)),(Obj.cls_mapFields ..).trans y,by rw[Obj.data_mapFields hd];simp[rawInt]⟩
 refine c_ (wpAny_holding ?_);refine c_ (wpAny_isOneOf_keyiter (s:={ s with heap:=s.heap.update it (Obj.mapFields (·.setIfInBounds 1 (rawInt ((i:Int)+1))))}) f.typeIs ?_);show wpAny _ _ (pure e.key) _ _ _;exact h_ (h_ ⟨_,rfl,h_ (B _ f (Heap.SameBut.update ..))⟩)
def Cm{Q:Q9->Shared->Prop}(C:A.handled=Y)(f:s.heap.IsKeyIter it d es.size es.size ep)(y:fE d es ep s.heap)(z:∀u,Heap.ExtBut it s.heap u->Q Y { s with heap:=u}):wpAny (model prog w) A (pyNext (.ref it)) Q E s:=by
 obtain⟨o,r,H,hd⟩:=id f;obtain⟨G,l,B,j⟩:=id y
 refine c_ (wpAny_attempt (wpAny_callSpecial?_slot (name:=Str.ofString "__next__") f.typeIs F.slot_dict_keyiterator_next
  (wpAny_call_entry F.slot_dict_keyiterator_next f.typeIs F.entry_dict_keyiterator_next ?_ (F.args_dict_keyiterator_next_1 _))))
 refine c_ (h_ ?_);refine c_ ?_;refine c_ ?_
 first | refine c_ (wpAny_typeNameOfWhole_keyiter f.typeIs (h_ ?_)) | refine c_ (wpAny_typeNameOf_keyiter f.typeIs (h_ ?_))
 refine c_ (wpAny_fieldsOf r hd ?_);simp only[show Builtin.Dict_items.ownsTuple "dict_keyiterator"=T from by decide,o0,if_false];show wpAny _ _ (if(Value.ref d==Value.none)=I then _ else _) _ _ s;rw[d_ (show ¬((Value.ref d==Value.none)=I)from AQ)];refine c_ (h_ ?_);refine c_ (wpAny_dictEntries l j ?_);rw[d_ (by simp)];refine c_ (h_ ?_);refine c_ (wpAny_dictEpoch l j ?_);rw[d_ (by simp)];refine h_ ?_;simp only[show ¬((es.size:Int)<0)from by ext,if_false,xZ,MP (ii es.size)];refine c_ ?_
 first | refine c_ (wpAny_typeNameOfWhole_keyiter f.typeIs (h_ ?_)) | refine c_ (wpAny_typeNameOf_keyiter f.typeIs (h_ ?_))
 show wpAny _ _ (setField (.ref it) 0 .none >>= _) _ _ s;refine c_ (wpAny_setField r hd (by simp) ?_);show wpAny _ _ (newExc (.type "StopIteration") [] >>= _) _ _ _;refine c_ ?_;simp only[newExc,newTuple];refine c_ (wpAny_newObj_type ?_ (by size_fits));refine c_ (m:=firstArgMember _ _) (wpAny_of_eq (a:=Value.none) (by first | rfl | (simp only[firstArgMember];rfl)) ?_);refine wpAny_newObj_type ?_ (by size_fits);simp only[raiseNew];refine c_ (wpAny_handled ?_);rw[show A.in1.handled=Y from C];refine c_ (h_ (wpAny_throw ?_));refine c_ (wpAny_isInstance (T:="StopIteration") (b:=I) ⟨_,tr _ rfl,rfl⟩ isSubtype_stop ?_);exact h_ (z _ (((Heap.SameBut.update ..).extBut.push _).push _))
def Co(lo:(d==sysModules)=T):PySem.W.KdlSrc prog w "dict" d d es.size (λi v=>∃e,es[i]?=J e/\v=e.key) (fE d es ep) where
 type:=λ_ a=>a.ty
 there:=λ_ a=>⟨a.lt,a.lt⟩
 keep:=λ_ _ a r=>a.at' λo e=>r d (.inl rfl) o e
 notList:=by decide
 notTuple:=by decide
 hint:=λ_ _ _ _ a z=>PySem.W.kdl_hint_dict a.ty z
 iter:=λA s F a=>⟨_,λi h=>h.IsKeyIter s.heap.objs.size d i es.size ep/\fE d es ep h,(λ_ _ z=>xA lo a z),{
  sub:=λb f=>by simp at f;simp[f]
  frame:=λ_ _ _ st r=>⟨st.1.at λo e=>r _ (by simp) o e,st.2.at' λo e=>r d (by simp) o e⟩
  item:=λi y Q E C st hQ=>yT st.1 st.2 (e:=es[i]) (by simp[C]) λu j l =>
   hQ _ u y.toks ⟨_,by simp[C],rfl⟩ ⟨j,st.2.at' λo e=>l.extBut d o (tt a.lt) e⟩ λb o f e=>l.extBut b o (λh=>f (by simp[h])) e
  done:=λy Q E st hQ=>Cm F st.1 st.2 λu B=>hQ u y.toks λb o f e=>B b o (λh=>f (by simp[h])) e
  self:=λ_ _ _ _ st hQ=>wpAny_pyIter_keyiter st.1 hQ},⟨⟨_,tr _ rfl,rfl,rfl⟩,a.at' λ_ e=>n3 _ e⟩⟩
end
def w_(f:Q0)(h:MH):RN:=match f with
 |[x]=>(match fN h x with
  |some (a,_)=>oy (a.map kP) h
  |none=>.bad)
 |_=>.bad
section
variable{X:Cx}{N W G:Q1}{k:Nat}
def oo:∀{bs:List AM}{us:Q7},us.length=bs.length->(∀(i:Nat) v,us[i]?=J v->∃e,(bs.map Jm)[i]?=J e/\v=e.key)->au (bs.map λx=>V.ref x.2.1) us
 |[],us,a,_=>by rw[AD.mp a];exact .nil
 |b::bs,us,a,h=>by
  cases us with
  |nil=>cases a
  |cons u us =>
   obtain⟨e,e1,rfl⟩:=h 0 u rfl;cases e1;exact .cons rfl (oo (by simpa using a) λi v hv=>by simpa using h (i+1) v (by simpa using hv))
def px{K:g_}{U:Q6}{H:Hp}:∀{bs:List AM},(∀x∈bs,SqT K H x.2.1 (x.1.map V.int))->RPs K U H ((bs.map (·.1)).map kP) (bs.map λx=>V.ref x.2.1)
 |[],_=>.nil
 |b::bs,h=>.cons (.tup (h b (by simp)) (RPs.ints b.1)) (px λx a=>h x (l_ _ a))
def y0(g:Good X N W G k):bG X (.type "list") w_:=by
 intro Jr s Z H xs us Q f r ⟨U,h,ps,C,rp,q⟩;unfold w_ at q
 split at q
 .rename_i x
  cases rp with
  |cons L t1 =>
   cases t1
   cases r with
   |cons M w1 =>
    cases w1
    cases z:fN h x with
    |none=>rw[z]at q;exact q.elim
    |some w =>
     obtain⟨B,xs⟩:=w;rw[z]at q;obtain⟨n,a,rfl,en,rfl,eo,bs,ys,e1,kr,vs,P,S⟩:=nG C L z;cases M;obtain⟨⟨o,es,ep,h1,h2,R,E,h5,hd,h7⟩,_⟩:=(show ObjOk X.prog X.w H s.heap a (.ext (DT a bs))from f.hok a _ S);dsimp only at q;unfold oy at q;have l:es.size=bs.length:=by rw[<-yU,E,n_]
     by_cases u:(B.map kP).length<=sizeLine
     .rw[b_ u]at q;refine PySem.W.kdl_call (Co hd) (f.ok.hd g.calm) ⟨o,h1,h2,R⟩ (by rw[l];exact h7) λh' tk j c' kp e F=>?_;have va:=oo (bs:=bs) (us:=j.toList) (by rw[yU,F.1,l]) λi v hv=>by
       obtain⟨e,e2,e3⟩:=F.2 i v (by rw[<-uY];exact hv);exact⟨e,by rw[<-E,uY];exact e2,e3⟩
      have O:RPs X.K U H (B.map kP) (bs.map λx=>V.ref x.2.1):=by rw[e1];exact px kr
      obtain⟨y,l3⟩:=C.new (f.hok.fresh (ii s.heap.objs.size)) (o:=.lst (B.map kP)) ⟨_,rfl,O⟩;refine⟨.ref s.heap.objs.size,_,f.laid (o:=.lst (bs.map λx=>V.ref x.2.1)) kp (ii _) (⟨by rw[e1]at u;simpa using u,j.toList,c',va,by simpa using e⟩),rfl,q _ _ _ l3 y (.loc (by rw[<-C.len];simp))⟩
     .rw[d_ u]at q;exact q.elim
 .exact q.elim
end
end MM
namespace PU
open MM
def ys{α:Type}{a b:α}(h:a=b):a=b:=h
inductive D where
 |non | bl (b:Bool) | int (i:Int) | str (x:Str) | tup (xs:List D) | lst (xs:List D) | dic (ks:Q3) (ds:List D) | exc (c:Str) | pen
abbrev _root_.Q5:=List D
abbrev _root_.RU:=Option D
abbrev e_:=Int×Int×Int
abbrev ao:=List (RU)
def bu(h:MH)(p:Nat)(s:e_):Prop:=h[p]?=J (.lst [.int s.1,.int s.2.1,.int s.2.2])
inductive Oa(P:Q0->Prop)(v:PV):Prop
 |mk(xs:Q0)(e:v=.tup xs)(r:P xs):Oa P v
inductive Qf(h:MH)(O:Q4)(P:Q0->Prop)(v:PV):Prop
 |mk(n:Nat)(xs:Q0)(e:v=.loc n)(no:n∉O)(g:h[n]?=J (.lst xs))(r:P xs):Qf h O P v
inductive Qg(h:MH)(O:Q4)(o:MO)(v:PV):Prop
 |mk(n:Nat)(e:v=.loc n)(no:n∉O)(g:h[n]?=J o):Qg h O o v
inductive Qh(h:MH)(O:Q4)(ks:Q3)(P:Q0->Prop)(v:PV):Prop
 |mk(n:Nat)(xs:Q0)(e:v=.loc n)(no:n∉O)(g:h[n]?=J (.dic ks xs))(r:P xs):Qh h O ks P v
inductive Ob(P:PV->Prop)(Q:Q0->Prop)(vs:Q0):Prop
 |mk(x:PV)(r:Q0)(e:vs=x::r)(a:P x)(b:Q r):Ob P Q vs
mutual
def Rp(p:Nat)(h:MH)(O:Q4):D->PV->Prop
 |.non,v=>v=.non
 |.bl b,v=>v=.bl b
 |.int i,v=>v=.int i
 |.str x,v=>v=.str x
 |.tup a,v=>Oa (Rps p h O a) v
 |.lst a,v=>Qf h O (Rps p h O a) v
 |.dic f a,v=>Qh h O f (Rps p h O a) v
 |.exc c,v=>Qg h O (.exc ⟨c,[]⟩) v
 |.pen,v=>v=.loc p
def Rps(p:Nat)(h:MH)(O:Q4):Q5->Q0->Prop
 |[],a=>a=[]
 |d::f,a=>Ob (Rp p h O d) (Rps p h O f) a
end
def aE{h:MH}{n:Nat}{o:MO}(e:h[n]?=J o):n<h.length:=(qp.mp e).1
structure Mv(O:Q4)(h:MH)(O':Q4)(h':MH):Prop where
 keep:∀n:Nat,n<h.length->n∉O->h'[n]?=h[n]?
 new:∀o∈O',o∈O\/h.length<=o
def Mv.get{O i:Q4}{h a:MH}(s:Mv O h i a){n:Nat}{o:MO}(e:h[n]?=J o)(f:n∉O):n∉i/\a[n]?=J o:=by
 have j:=aE e;refine⟨λz=>?_,(s.keep n j f).trans e⟩;rcases s.new n z with q|q
 .exact f q
 .lia
section
variable{p:Nat}{O O':Q4}{h h':MH}
def Rp.mv(s:Mv O h O' h')(r:Rp p h O d v):Rp p h' O' d v:=by
 refine D.rec (motive_1:=λd=>∀v,Rp p h O d v->Rp p h' O' d v) (motive_2:=λl=>∀u,Rps p h O l u->Rps p h' O' l u)
  (λ_ r=>r) (λ_ _ r=>r) (λ_ _ r=>r) (λ_ _ r=>r) (λl i _ r=>?_) (λl i _ r=>?_) (λ_ l i _ r=>?_) (λ_ _ r=>?_) (λ_ r=>r) (λ_ r=>r) (λ_ _ i j _ r=>?_) d v r
 .obtain⟨xs,e,r⟩:=r;exact⟨xs,e,i _ r⟩
 .obtain⟨n,xs,e,f,g,r⟩:=r;exact⟨n,xs,e,(s.get g f).1,(s.get g f).2,i _ r⟩
 .obtain⟨n,xs,e,f,g,r⟩:=r;exact⟨n,xs,e,(s.get g f).1,(s.get g f).2,i _ r⟩
 .obtain⟨n,e,f,g⟩:=r;exact⟨n,e,(s.get g f).1,(s.get g f).2⟩
 .obtain⟨x,t,e,a,b⟩:=r;exact⟨x,t,e,i _ a,j _ b⟩
def Rps.mv(s:Mv O h O' h')(r:Rps p h O f vs):Rps p h' O' f vs:=by
 induction f generalizing vs with
 |nil=>exact r
 |cons d f i=>obtain⟨x,t,e,a,b⟩:=r;exact⟨x,t,e,a.mv s,i b⟩
def Rps.length(r:Rps p h O f vs):vs.length=f.length:=by
 induction f generalizing vs with
 |nil=>rw[show vs=[]from r];rfl
 |cons d f i=>obtain⟨x,t,e,a,b⟩:=r;rw[e,y_,y_,i b]
def Rps.get{f:Q5}{j:Q0}{i:Nat}{d:D}(r:Rps p h O f j)(g:f[i]?=J d):∃v,j[i]?=J v/\Rp p h O d v:=by
 induction f generalizing j i with
 |nil=>cases g
 |cons d f l =>
  obtain⟨x,t,e,a,b⟩:=r;subst e
  cases i with
  |zero=>cases g;exact⟨x,rfl,a⟩
  |succ i=>have z:=@l t i b g;exact z
def Rps.app(r:Rps p h O f vs)(s:Rps p h O es ws):Rps p h O (f++es) (vs++ws):=by
 induction f generalizing vs with
 |nil=>rw[show vs=[]from r];exact s
 |cons d f i=>obtain⟨x,t,e,a,b⟩:=r;subst e;exact⟨x,t++_,rfl,a,i b⟩
def Rps.take(n:Nat)(r:Rps p h O f vs):Rps p h O (f.take n) (vs.take n):=by
 induction f generalizing vs n with
 |nil=>rw[show vs=[]from r];cases n<;>rfl
 |cons d f i =>
  obtain⟨x,t,e,a,b⟩:=r;subst e
  cases n with
  |zero=>rfl
  |succ n=>exact⟨x,t.take n,rfl,a,i n b⟩
def Rps.drop(n:Nat)(r:Rps p h O f vs):Rps p h O (f.drop n) (vs.drop n):=by
 induction f generalizing vs n with
 |nil=>rw[show vs=[]from r];cases n<;>rfl
 |cons d f i =>
  cases n with
  |zero=>exact r
  |succ n=>obtain⟨x,t,e,a,b⟩:=r;subst e;exact i n b
end
def dl:Option (Q3)->Q5->D
 |none,a=>.lst a
 |some f,a=>.dic f a
def mo:Option (Q3)->Q0->MO
 |none,xs=>.lst xs
 |some a,xs=>.dic a xs
def gE(e:D.lst ds=dl k es):k=Y/\ds=es:=by
 cases k with
 |none=>cases e;exact⟨rfl,rfl⟩
 |some _=>cases e
def qU(e:D.dic ks ds=dl k es):k=J ks/\ds=es:=by
 cases k with
 |none=>cases e
 |some _=>cases e;exact⟨rfl,rfl⟩
inductive Qi(p:Nat)(h:MH)(L:Nat)(O:Q4)(d:D)(v:PV):Prop
 |mk(n:Nat)(k:Option (Q3))(xs:Q0)(ds:Q5)(e:d=dl k ds)(e':v=.loc n)(o:n∈O)(l:L<=n)(g:h[n]?=J (mo k xs))(r:Rps p h O ds xs):Qi p h L O d v
def Vw(p:Nat)(h:MH)(L:Nat)(O:Q4)(d:D)(v:PV):Prop:=Rp p h O d v\/Qi p h L O d v
def Vws(p:Nat)(h:MH)(L:Nat)(O:Q4):Q5->Q0->Prop
 |[],a=>a=[]
 |d::f,a=>Ob (Vw p h L O d) (Vws p h L O f) a
inductive J7(p:Nat)(L:Nat)(O:Q4)(h:MH)(k:Option (Q3))(ds:Q5)(v:PV):Prop
 |mk(n:Nat)(xs:Q0)(e:v=.loc n)(l:L<=n)(g:h[n]?=J (mo k xs))(r:Rps p h (n::O) ds xs):J7 p L O h k ds v
def Frs(p:Nat)(L:Nat)(O:Q4)(h:MH)(d:D)(v:PV):Prop:=∀k a,d=dl k a->J7 p L O h k a v
structure KB(p:Nat)(h h':MH):Prop where
 len:h.length<=h'.length
 keep:∀n:Nat,n<h.length->n≠p->h'[n]?=h[n]?
def KB.refl(p:Nat)(h:MH):KB p h h:=⟨ii _,λ_ _ _=>rfl⟩
def KB.trans(a:KB p h h1)(b:KB p h1 h2):KB p h h2 :=
 ⟨l7 a.len b.len,λn f i=>(b.keep n (q_ f a.len) i).trans (a.keep n f i)⟩
def KB.app(p:Nat)(h g:MH):KB p h (h++g):=⟨by simp,λn a _=>xu a⟩
def KB.mv(k:KB p h h')(i:p∈O):Mv O h O h' :=
 ⟨λn f j=>k.keep n f λz=>j (z▸i),λo a=>.inl a⟩
def bu.app{p:Nat}{h g:MH}{s:e_}(e:bu h p s):bu (h++g) p s:=by unfold bu at *;rw[xu (aE e)];exact e
def Vw.kb{p L:Nat}{h a:MH}{O:Q4}{d:D}{v:PV}(k:KB p h a)(f:p∈O)(hL:p<L)(w:Vw p h L O d v):Vw p a L O d v:=by
 rcases w with r|⟨n,j,xs,i,e1,e2,u,l,g,r⟩
 .exact .inl (r.mv (k.mv f))
 .exact .inr ⟨n,j,xs,i,e1,e2,u,l,(k.keep n (aE g) ⋯).trans g,r.mv (k.mv f)⟩
inductive PR(α:Type) where
 |ok(a:α)(s:e_)
 |exc(c:Str)(s:e_)
 |bad
def PR.bind{α β:Type}(r:PR α)(f:α->e_->PR β):PR β:=match r with
 |.ok a s=>f a s
 |.exc c s=>.exc c s
 |.bad=>.bad
@[simp]theorem Pb(a:α)(s:e_)(f:α->e_->PR β):(PR.ok a s).bind f=f a s:=rfl
@[simp]theorem Pe(c:Str)(s:e_)(f:α->e_->PR β):(PR.exc c s).bind f=.exc c s:=rfl
@[simp]theorem Pd(f:α->e_->PR β):(PR.bad:PR α).bind f=.bad:=rfl
def PR.of{α:Type}(o:Option α)(s:e_):PR α:=match o with
 |some a=>.ok a s
 |none=>.bad
@[simp]theorem Pf(a:α)(s:e_):PR.of (J a) s=.ok a s:=rfl
@[simp]theorem Pn(s:e_):PR.of (Y:Option α) s=.bad:=rfl
inductive Qj{α β:Type}(p:Nat)(h:MH)(o:Out β)(a:α)(s:e_)(R:MH->α->β->Prop):Prop
 |mk(b:β)(h':MH)(e:o=.ok b h')(k:KB p h h')(n:bu h' p s)(r:R h' a b):Qj p h o a s R
inductive Qk{β:Type}(p:Nat)(h:MH)(o:Out β)(c:Str)(s:e_):Prop
 |mk(h':MH)(e:o=.exc ⟨c,[]⟩ h')(k:KB p h h')(n:bu h' p s):Qk p h o c s
def Ok{α β:Type}(p:Nat)(h:MH)(o:Out β)(r:PR α)(R:MH->α->β->Prop):Prop:=match r with
 |.ok a s=>Qj p h o a s R
 |.exc c s=>Qk p h o c s
 |.bad=>True
def Ok.bind{α β γ δ:Type}{p:Nat}{h:MH}{o:Out β}{r:PR α}{R:MH->α->β->Prop}{f:β->MH->Out δ}{g:α->e_->PR γ}{S:MH->γ->δ->Prop}(q:Ok p h o r R)(k:∀a b i s,KB p h i->bu i p s->R i a b->Ok p i (f b i) (g a s) S):Ok p h (o.bind f) (r.bind g) S:=by
 cases r with
 |ok a s =>
  obtain⟨b,i,rfl,kb,pn,B⟩:=q
  have:=k a b i s kb pn B
  rw[Pb]
  cases e:g a s with
  |ok c z =>
   rw[e]at this;obtain⟨d,u,e2,l,j,y⟩:=this;exact⟨d,u,e2,kb.trans l,j,y⟩
  |exc c z =>
   rw[e]at this;obtain⟨u,e2,l,j⟩:=this;exact⟨u,e2,kb.trans l,j⟩
  |bad=>trivial
 |exc c s =>
  obtain⟨i,rfl,kb,pn⟩:=q;exact⟨i,rfl,kb,pn⟩
 |bad=>trivial
def Ok.imp{α β:Type}{p:Nat}{h:MH}{o:Out β}{r:PR α}{R S:MH->α->β->Prop}(q:Ok p h o r R)(k:∀f a b,KB p h f->R f a b->S f a b):Ok p h o r S:=by
 cases r with
 |ok a s=>obtain⟨b,j,e,kb,pn,i⟩:=q;exact⟨b,j,e,kb,pn,k _ _ _ kb i⟩
 |exc c s=>exact q
 |bad=>trivial
structure SR(p:Nat)(h:MH)(L:Nat)(O:Q4)(ws:Q4)(Z:ll)(env:ao):Prop where
 len:Z.length=env.length
 fz:∀i d,env[i]?=J (J d)->i∉ws->∃v,Z[i]?=J (J v)/\Rp p h O d v
 ow:∀i d,env[i]?=J (J d)->i∈ws->∃n k xs ds,d=dl k ds/\Z[i]?=J (J (.loc n))/\n∈O/\L<=n/\h[n]?=J (mo k xs)/\Rps p h O ds xs
structure Cx(p:Nat)(h:MH)(L:Nat)(B O:Q4)(ws:Q4)(Z:ll)(env:ao)(s:e_):Prop where
 bd:∀o∈O,o<h.length
 sub:∀o∈B,o∈O
 bb:∀o∈B,o<L
 pb:p∈B
 hL:L<=h.length
 pen:bu h p s
 sr:SR p h L O ws Z env
section
variable{p L:Nat}{h h':MH}{B O ws:Q4}{Z:ll}{env:ao}{s s':e_}
def Cx.pO(c:Cx p h L B O ws Z env s):p∈O:=c.sub p c.pb
def Cx.pL(c:Cx p h L B O ws Z env s):p<L:=c.bb p c.pb
def SR.mv{j:Q4}(m:Mv O h j h')(u:∀o∈O,o∈j)(y:∀n:Nat,n<h.length->L<=n->n∈O->h'[n]?=h[n]?)(r:SR p h L O ws Z env):SR p h' L j ws Z env :=
 ⟨r.len,λi d e f=>let⟨v,e1,q⟩:=r.fz i d e f;⟨v,e1,q.mv m⟩,λi d e f=>let⟨n,k,xs,l,e1,e2,a,b,g,q⟩:=r.ow i d e f;⟨n,k,xs,l,e1,e2,u n a,b,(y n (aE g) b a).trans g,q.mv m⟩⟩
def Cx.kb(c:Cx p h L B O ws Z env s)(k:KB p h h')(pn:bu h' p s'):Cx p h' L B O ws Z env s' :=
 ⟨λo a=>q_ (c.bd o a) k.len,c.sub,c.bb,c.pb,l7 c.hL k.len,pn,c.sr.mv (k.mv c.pO) (λ_ h=>h) λn f i _=>k.keep n f (by have:=c.pL;lia)⟩
def Vw.base(w:Vw p h L O d v)(sub:∀o∈B,o∈O)(bb:∀o∈B,o<L):Rp p h B d v:=by
 have m:Mv O h B h:=⟨λ_ _ _=>rfl,λo a=>.inl (sub o a)⟩;rcases w with r|⟨n,k,xs,f,rfl,rfl,_,i,g,r⟩
 .exact r.mv m
 .cases k<;>exact⟨n,xs,rfl,λz=>by have:=bb n z;lia,g,r.mv m⟩
def Vws.base(sub:∀o∈B,o∈O)(bb:∀o∈B,o<L):∀{f:Q5}{i:Q0},Vws p h L O f i->Rps p h B f i
 |[],_,r=>r
 |_::_,_,⟨x,t,e,a,b⟩=>⟨x,t,e,a.base sub bb,Vws.base sub bb b⟩
def Frs.rp(f:Frs p L' O h d v)(bd:∀o∈O,o<L')(e:d=dl k ds):Rp p h O d v:=by obtain⟨n,xs,e1,i,g,r⟩:=f k ds e;subst e;cases k<;>exact⟨n,xs,e1,λz=>by have:=bd n z;lia,g,r.mv ⟨λ_ _ _=>rfl,λo a=>.inl (l_ _ a)⟩⟩
def Frs.le(f:Frs p L2 O h d v)(j:L1<=L2):Frs p L1 O h d v:=λk a e =>
 let⟨n,xs,e1,i,g,r⟩:=f k a e;⟨n,xs,e1,l7 j i,g,r⟩
end
abbrev Bd(h:MH)(O:Q4):Prop:=∀o∈O,o<h.length
inductive Gv(p:Nat)(h:MH)(O:Q4)(fr:Bool)(o:RN)(d:D):Prop
 |mk(v:PV)(g:MH)(e:o=.ok v (h++g))(r:Rp p (h++g) O d v)(f:fr=I->Frs p h.length O (h++g) d v):Gv p h O fr o d
structure Mj where
 m:PV->MH->RN
 p:D->RU
 fr:Bool
 ok:∀{q h L O a x d},Bd h O->Vw q h L O a x->p a=J d->Gv q h O fr (m x h) d
structure xQ where
 m:PV->PV->MH->RN
 p:D->D->RU
 fr:Bool
 ok:∀{q h L O a x b y d},Bd h O->Vw q h L O a x->Vw q h L O b y->p a b=J d->Gv q h O fr (m x y h) d
structure yx where
 k:Q0->MH->RN
 p:Q5->RU
 fr:Bool
 ok:∀{q h L O as xs d},Bd h O->Vws q h L O as xs->p as=J d->Gv q h O fr (k xs h) d
structure Fn where
 m:Q0->MH->RN
 p:Q5->e_->PR D
 fr:Bool
 ok:∀{q h O vs ds s},Bd h O->q∈O->bu h q s->Rps q h O ds vs->Ok q h (m vs h) (p ds s) (λh' d v=>Rp q h' O d v/\(fr=I->Frs q h.length O h' d v))
mutual
def flat:D->Bool
 |.lst _ | .dic _ _ | .exc _ | .pen=>T
 |.tup a=>qd a
 |_=>I
def qd:Q5->Bool
 |[]=>I
 |d::a=>flat d&&qd a
end
section
variable{p:Nat}{h h':MH}{O O':Q4}
mutual
def Rp.flat:∀{d:D}{v:PV},PU.flat d=I->Rp p h O d v->Rp p h' O' d v
 |.non,_,_,r=>r
 |.bl _,_,_,r=>r
 |.int _,_,_,r=>r
 |.str _,_,_,r=>r
 |.tup a,_,f,⟨xs,e,r⟩=>⟨xs,e,Rps.flat (by simpa [PU.flat]using f) r⟩
 |.lst a,_,f,_=>by simp[PU.flat]at f
 |.dic _ _,_,f,_=>by simp[PU.flat]at f
 |.exc _,_,f,_=>by simp[PU.flat]at f
 |.pen,_,f,_=>by simp[PU.flat]at f
def Rps.flat:∀{i:Q5}{j:Q0},PU.qd i=I->Rps p h O i j->Rps p h' O' i j
 |[],_,_,r=>r
 |_::_,_,f,⟨x,t,e,a,b⟩=>⟨x,t,e,Rp.flat (by simp[PU.qd]at f;exact f.1) a,Rps.flat (by simp[PU.qd]at f;exact f.2) b⟩
end
end
structure Xe(ws:Q4) where
 m:Mx PV
 p:ao->e_->PR D
 fz:Bool
 fr:Bool
 ok:∀{q h L B O Z env s},Cx q h L B O ws Z env s->Ok q h (m Z h) (p env s) (λh' d v=>Vw q h' L O d v/\(fz=I->Rp q h' O d v)/\(fr=I->Frs q h.length O h' d v))
structure Xs(ws:Q4) where
 m:Mx (Q0)
 p:ao->e_->PR (Q5)
 fz:Bool
 ok:∀{q h L B O Z env s},Cx q h L B O ws Z env s->Ok q h (m Z h) (p env s) (λh' ds vs=>Vws q h' L O ds vs/\(fz=I->Rps q h' O ds vs))
structure Xt(ws:Q4) where
 m:Mx Bool
 p:ao->e_->PR Bool
 ok:∀{q h L B O Z env s},Cx q h L B O ws Z env s->Ok q h (m Z h) (p env s) (λ_ a b=>a=b)
noncomputable section
variable{ws:Q4}
def zV{q L:Nat}{h a:MH}{O:Q4}{o:RN}{d:D}{s:e_}{fr:Bool}(le:h.length<=a.length)(pn:bu a q s)(g:Gv q a O fr o d):
  Ok q a o (.ok d s) (λi d v=>Vw q i L O d v/\(I=I->Rp q i O d v)/\(fr=I->Frs q h.length O i d v)):=by
 obtain⟨v,g,e,r,f⟩:=g;exact⟨v,a++g,e,KB.app _ _ _,pn.app,.inl r,λ_=>r,λz=>(f z).le le⟩
def aa(i:Nat):Xe ws where
 m:=ah i
 p:=λenv s=>match env[i]? with
  |some (J d)=>.ok d s
  |_=>.bad
 fz:=!ws.contains i
 fr:=T
 ok {q h L B O Z env s} c:=by
  show Ok q h _ (match env[i]? with|some (J d)=>PR.ok d s|_=>.bad) _
  cases e:env[i]? with
  |none=>trivial
  |some o =>
   cases o with
   |none=>trivial
   |some d =>
    by_cases z:i∈ws
    .obtain⟨n,k,xs,j,e1,e2,a,b,g,r⟩:=c.sr.ow i d e z;exact⟨.loc n,h,by simp[ah,e2],KB.refl _ _,c.pen,.inr ⟨n,k,xs,j,e1,rfl,a,b,g,r⟩,λf=>by simp[z]at f,λf=>by simp at f⟩
    .obtain⟨v,e1,r⟩:=c.sr.fz i d e z;exact⟨v,h,by simp[ah,e1],KB.refl _ _,c.pen,.inl r,λ_=>r,λf=>by simp at f⟩
inductive Cn where
 |non | bl (b:Bool) | int (i:Int) | str (x:Str)
def Cn.v:Cn->PV
 |.non=>.non
 |.bl b=>.bl b
 |.int i=>.int i
 |.str x=>.str x
def Cn.d:Cn->D
 |.non=>.non
 |.bl b=>.bl b
 |.int i=>.int i
 |.str x=>.str x
def Cn.rp(c:Cn){q:Nat}{h:MH}{O:Q4}:Rp q h O c.d c.v:=by cases c<;>rfl
def xC(k:Cn):Xe ws where
 m:=mC k.v
 p:=λ_ s=>.ok k.d s
 fz:=I
 fr:=I
 ok {q h L B O Z env s} c:=⟨k.v,h,rfl,KB.refl _ _,c.pen,.inl k.rp,λ_=>k.rp,λ_ a f e=>by cases k<;>cases a<;>cases e⟩
def ae(o:xQ)(a b:Xe ws):Xe ws where
 m:=av o.m a.m b.m
 p:=λenv s=>(a.p env s).bind λx C=>(b.p env C).bind λy E=>.of (o.p x y) E
 fz:=I
 fr:=o.fr
 ok {q h L B O Z env s} c:=by
  refine(a.ok c).bind λx v M C i z ⟨F,_,_⟩=>?_;refine(b.ok (c.kb i z)).bind λy w P E j l ⟨H,_,_⟩=>?_
  cases e:o.p x y with
  |none=>trivial
  |some d =>
   have G:=(c.kb i z).kb j l;obtain⟨u,g,e1,r,f⟩:=o.ok G.bd (F.kb j c.pO c.pL) H e;exact zV (l7 i.len j.len) l ⟨u,g,by rw[e1];rfl,r,f⟩
def zO(o:Mj)(a:Xe ws):Xe ws where
 m:=Jo o.m a.m
 p:=λenv s=>(a.p env s).bind λx l=>.of (o.p x) l
 fz:=I
 fr:=o.fr
 ok {q h L B O Z env s} c:=by
  refine(a.ok c).bind λx v z l i j ⟨y,_,_⟩=>?_
  cases e:o.p x with
  |none=>trivial
  |some d =>
   obtain⟨u,g,e1,r,f⟩:=o.ok (c.kb i j).bd y e;exact zV i.len j ⟨u,g,by rw[e1];rfl,r,f⟩
def a_:Xs ws where
 m:=ia
 p:=λ_ s=>.ok [] s
 fz:=I
 ok {q h L B O Z env s} c:=⟨[],h,rfl,KB.refl _ _,c.pen,rfl,λ_=>rfl⟩
def ac(a:Xe ws)(r:Xs ws):Xs ws where
 m:=ag a.m r.m
 p:=λenv s=>(a.p env s).bind λx j=>(r.p env j).bind λy l=>.ok (x::y) l
 fz:=a.fz&&r.fz
 ok {q h L B O Z env s} c:=by refine(a.ok c).bind λx v P j C F ⟨E,G,_⟩=>?_;refine(r.ok (c.kb C F)).bind λy w H l i z ⟨M,u⟩=>?_;refine⟨v::w,H,rfl,KB.refl _ _,z,⟨v,w,rfl,E.kb i c.pO c.pL,M⟩,λf=>?_⟩;rw[Ix]at f;exact⟨v,w,rfl,(G f.1).mv (i.mv c.pO),u f.2⟩
def n7(o:yx)(a:Xs ws):Xe ws where
 m:=λZ h=>(a.m Z h).bind o.k
 p:=λenv s=>(a.p env s).bind λx i=>.of (o.p x) i
 fz:=I
 fr:=o.fr
 ok {q h L B O Z env s} c:=by
  refine(a.ok c).bind λx v r i j f ⟨l,_⟩=>?_
  cases e:o.p x with
  |none=>trivial
  |some d=>exact zV j.len f (o.ok (c.kb j f).bd l e)
def az(f:Fn)(a:Xs ws)(u:a.fz=I:=by exact ys rfl):Xe ws where
 m:=cD f.m a.m
 p:=λenv s=>(a.p env s).bind f.p
 fz:=I
 fr:=f.fr
 ok {q h L B O Z env s} c:=by refine(a.ok c).bind λx v E C j l ⟨_,z⟩=>?_;have i:=c.kb j l;refine(f.ok i.bd i.pO l (z u)).imp λy d v kb ⟨r,fr⟩=>⟨.inl r,λ_=>r,λz=>(fr z).le j.len⟩
def Cp(d:D):Bool:=match d with
 |.lst a=>qd a
 |d=>flat d
def lT(f:Fn)(a:Xs ws)(hf:f.fr=I:=by exact ys rfl):Xe ws where
 m:=cD f.m a.m
 p:=λenv s=>((a.p env s).bind f.p).bind λd s=>if Cp d=I then .ok d s else .bad
 fz:=I
 fr:=I
 ok {q h L B O Z env s} c:=by
  have key:Ok q h ((a.m Z h).bind f.m) ((a.p env s).bind f.p) (λj d v=>Rp q j B d v/\Frs q h.length B j d v):=by refine(a.ok c).bind λx v U H y G ⟨w,_⟩=>?_;have l:=c.kb y G;refine(f.ok (λo Q=>q_ (l.bb o Q) l.hL) l.pb G (w.base l.sub l.bb)).imp λj d v kb ⟨r,fr⟩=>⟨r,(fr hf).le y.len⟩
  show Ok q h ((a.m Z h).bind f.m) _ _
  cases e:(a.p env s).bind f.p with
  |bad=>trivial
  |exc x H=>rw[e]at key;exact key
  |ok d H =>
   rw[e]at key;obtain⟨v,j,e1,kb,pn,r,fr⟩:=key;rw[Pb];by_cases z:Cp d=I
   .rw[b_ z];have u:Frs q h.length O j d v:=λk C F=>by
     obtain⟨n,xs,M,S,P,R⟩:=fr k C F;subst F
     cases k with
     |some _=>cases z
     |none=>exact⟨n,xs,M,S,P,Rps.flat z R⟩
    have E:Rp q j O d v:=by
     cases d with
     |lst C=>exact u.rp (k:=Y) c.bd rfl
     |non=>exact r
     |bl b=>exact r
     |int i=>exact r
     |str i=>exact r
     |tup i=>exact Rp.flat z r
     |dic _ _=>cases z
     |exc _=>cases z
     |pen=>cases z
    exact⟨v,j,e1,kb,pn,.inl E,λ_=>E,λ_=>u⟩
   .rw[d_ z];trivial
def di:100000<=sizeLine:=by decide
def kf(bd:Bd h O)(r:Rps q h O ds xs)(l:ds.length<=100000):Gv q h O I (oy xs h) (.lst ds):=by
 have u:=r.length;have m:Mv O h O (h++[MO.lst xs]):=⟨λn f _=>xu f,λo a=>.inl a⟩
 have j:Mv O h (h.length::O) (h++[MO.lst xs]):=⟨λn f _=>xu f,λo a=>by
  rcases mu.mp a with z|z
  .exact .inr ⋯
  .exact .inl z⟩
 have g:(h++[MO.lst xs])[h.length]?=J (.lst xs):=by simp
 refine⟨.loc h.length,[.lst xs],?_,⟨_,_,rfl,λz=>by have:=bd _ z;lia,g,r.mv m⟩,λ_ k i e=>?_⟩
 .unfold oy;have:=di;lia
 .obtain⟨rfl,rfl⟩:=gE e;exact⟨_,_,rfl,ii _,g,r.mv j⟩
def sN(r:Rps q h O ds xs)(f:ds.length<=100000):Gv q h O I (o_ xs h) (.tup ds):=by
 have i:=r.length;refine⟨.tup xs,[],?_,?_,λ_ k a e=>by cases k<;>cases e⟩
 .unfold o_;rw[b_ (by have:=di;lia)];simp
 .simpa using⟨xs,rfl,r⟩
def cj(a:Xs ws)(r:a.fz=I:=by exact ys rfl):Xe ws where
 m:=hZ a.m
 p:=λenv s=>(a.p env s).bind λx j=>if x.length<=100000 then .ok (.lst x) j else .bad
 fz:=I
 fr:=I
 ok {q h L B O Z env s} c:=by
  refine(a.ok c).bind λx v u j l i ⟨_,z⟩=>?_;by_cases f:x.length<=100000
  .rw[b_ f];exact zV l.len i (kf (c.kb l i).bd (z r) f)
  .rw[d_ f];trivial
def aS(a:Xs ws)(l:a.fz=I:=by exact ys rfl):Xe ws where
 m:=kX a.m
 p:=λenv s=>(a.p env s).bind λx i=>if x.length<=100000 then .ok (.tup x) i else .bad
 fz:=I
 fr:=I
 ok {q h L B O Z env s} c:=by
  refine(a.ok c).bind λx v u i r j ⟨_,z⟩=>?_;by_cases f:x.length<=100000
  .rw[b_ f];exact zV r.len j (sN (z l) f)
  .rw[d_ f];trivial
def As:Xe ws where
 m:=E9
 p:=λ_ s=>.ok (.dic [] []) s
 fz:=I
 fr:=I
 ok {q h L B O Z env s} c:=by
  have g:(h++[MO.dic [] []])[h.length]?=J (.dic [] []):=by simp
  have r:Rp q (h++[MO.dic [] []]) O (.dic [] []) (.loc h.length):=⟨_,[],rfl,λz=>by have:=c.bd _ z;lia,g,rfl⟩
  exact⟨.loc h.length,h++[.dic [] []],rfl,KB.app _ _ _,c.pen.app,.inl r,λ_=>r,λ_ k a e=>by
   cases k with
   |none=>cases e
   |some f=>cases e;exact⟨_,[],rfl,ii _,g,rfl⟩⟩
def Vw.bl(w:Vw q h L O (.bl b) v):v=.bl b:=by
 rcases w with r|⟨n,k,xs,a,e,_⟩
 .exact r
 .cases k<;>cases e
def PR.bl(r:PR D):PR Bool:=r.bind λd s=>match d with
 |.bl b=>.ok b s
 |_=>.bad
@[simp]theorem Pl:(PR.ok (D.bl b) s).bl=.ok b s:=rfl
def xB(a:Xe ws):Xt ws where
 m:=mB a.m
 p:=λenv s=>(a.p env s).bl
 ok {q h L B O Z env s} c:=by
  refine(a.ok c).bind λx v i j l f ⟨w,_,_⟩=>?_
  cases x with
  |bl b=>rw[w.bl];exact⟨b,i,rfl,KB.refl _ _,f,rfl⟩
  |_=>trivial
def nc(a:Xt ws):Xt ws where
 m:=Bn a.m
 p:=λenv s=>(a.p env s).bind λb s=>.ok (!b) s
 ok {q h L B O Z env s} c:=(a.ok c).bind λx v i j l f e=>⟨!v,i,rfl,KB.refl _ _,f,by rw[e]⟩
def dZ(a b:Xt ws):Xt ws where
 m:=EN a.m b.m
 p:=λenv s=>(a.p env s).bind λx s=>if x=I then b.p env s else .ok T s
 ok {q h L B O Z env s} c:=(a.ok c).bind λx v i l j f e=>by
  subst e
  cases x with
  |true=>simpa using b.ok (c.kb j f)
  |false=>exact⟨T,i,rfl,KB.refl _ _,f,rfl⟩
def Dt(a b:Xt ws):Xt ws where
 m:=Js a.m b.m
 p:=λenv s=>(a.p env s).bind λx s=>if x=I then .ok I s else b.p env s
 ok {q h L B O Z env s} c:=(a.ok c).bind λx v i l j f e=>by
  subst e
  cases x with
  |false=>simpa using b.ok (c.kb j f)
  |true=>exact⟨I,i,rfl,KB.refl _ _,f,rfl⟩
def k6:Xt ws where
 m:=Dl
 p:=λ_ s=>.ok I s
 ok {q h L B O Z env s} c:=⟨I,h,rfl,KB.refl _ _,c.pen,rfl⟩
def Ok.after{α β:Type}{p:Nat}{h l:MH}{o:Out β}{r:PR α}{R:MH->α->β->Prop}(k:KB p h l)(q:Ok p l o r R):Ok p h o r R:=by
 cases r with
 |bad=>trivial
 |exc C y=>obtain⟨j,a,i,f⟩:=q;exact⟨j,a,k.trans i,f⟩
 |ok B y=>obtain⟨u,j,a,i,f,z⟩:=q;exact⟨u,j,a,k.trans i,f,z⟩
def Du(pn:bu h q s):Ok q h (.ok (.bl b) h) (.ok (.bl b) s) (λa d v=>Vw q a L O d v/\(I=I->Rp q a O d v)/\(I=I->Frs q l O a d v)) :=
 ⟨.bl b,h,rfl,KB.refl _ _,pn,.inl rfl,λ_=>rfl,λ_ k f e=>by cases k<;>cases e⟩
def F1(k:Ok q h o r (λa d v=>Vw q a L O d v/\(fz=I->Rp q a O d v)/\(fr=I->Frs q l' O a d v))):
  Ok q h o (r.bl.bind λb s=>.ok (.bl b) s) (λa d v=>Vw q a L O d v/\(I=I->Rp q a O d v)/\(I=I->Frs q l O a d v)):=by
 cases r with
 |bad=>trivial
 |exc c s=>exact k
 |ok d s =>
  obtain⟨v,a,e,kb,pn,w,_,_⟩:=k
  cases d with
  |bl b=>exact⟨v,a,e,kb,pn,w,λ_=>by rw[w.bl];rfl,λ_ k f e=>by cases k<;>cases e⟩
  |_=>trivial
def lH(a b:Xe ws):Xe ws where
 m:=ue a.m b.m
 p:=λenv s=>(a.p env s).bl.bind λx s=>if x=I then(b.p env s).bl.bind λy s=>.ok (.bl y) s else .ok (.bl T) s
 fz:=I
 fr:=I
 ok {q h L B O Z env s} c:=by
  have k:=a.ok c;show Ok q h ((a.m Z h).bind _) _ _
  cases e:a.p env s with
  |bad=>trivial
  |exc x z =>
   rw[e]at k;obtain⟨j,e1,f,i⟩:=k;rw[e1];exact⟨j,rfl,f,i⟩
  |ok d z =>
   rw[e]at k;obtain⟨v,j,e1,f,i,w,_,_⟩:=k
   cases d with
   |bl x =>
    rw[w.bl]at e1;rw[e1]
    cases x with
    |true =>
     exact Ok.after f (F1 (l:=h.length) (b.ok (c.kb f i)))
    |false =>
     obtain⟨r,C,u,G,E,F⟩:=Du (L:=L) (l:=h.length) (O:=O) (b:=T) i;exact⟨r,C,u,f.trans G,E,F⟩
   |_=>trivial
def pf(a:Xe ws):Xe ws where
 m:=ur a.m
 p:=λenv s=>(a.p env s).bl.bind λx s=>.ok (.bl (!x)) s
 fz:=I
 fr:=I
 ok {q h L B O Z env s} c:=by
  have k:=a.ok c;show Ok q h ((a.m Z h).bind _) _ _
  cases e:a.p env s with
  |bad=>trivial
  |exc x y =>
   rw[e]at k;obtain⟨j,e1,f,i⟩:=k;rw[e1];exact⟨j,rfl,f,i⟩
  |ok d y =>
   rw[e]at k;obtain⟨v,j,e1,f,i,w,_,_⟩:=k
   cases d with
   |bl x =>
    rw[w.bl]at e1;rw[e1];obtain⟨r,F,u,E,z,C⟩:=Du (L:=L) (l:=h.length) (O:=O) (b:=!x) i;exact⟨r,F,u,f.trans E,z,C⟩
   |_=>trivial
def lp(f g:xQ)(a b e:Xe ws):Xe ws where
 m:=lO f.m g.m a.m b.m e.m
 p:=λenv s=>(a.p env s).bind λx R=>(b.p env R).bind λy E=>match f.p x y with
  |some (.bl t)=>if t=I then(e.p env E).bind λz M=>.of (g.p y z) M else .ok (.bl T) E
  |_=>.bad
 fz:=I
 fr:=T
 ok {q h L B O Z env s} c:=by
  refine(a.ok c).bind λx v h1 R F P ⟨w1,_,_⟩=>?_;refine(b.ok (c.kb F P)).bind λy w j E Q C ⟨X,_,_⟩=>?_;have W:=(c.kb F P).kb Q C
  cases e1:f.p x y with
  |none=>trivial
  |some d =>
   cases d with
   |bl t =>
    obtain⟨u,l,e2,r,_⟩:=f.ok W.bd (w1.kb Q c.pO c.pL) X e1;have hu:u=.bl t:=r;subst hu;rw[e2];have i:=KB.app q j l;have U:=W.kb i C.app
    cases t with
    |true =>
     refine Ok.after i ?_;show Ok q (j++l) ((e.m Z (j++l)).bind _) _ _;refine(e.ok U).bind λz u h3 M H S ⟨w3,_,_⟩=>?_
     cases e4:g.p y z with
     |none=>trivial
     |some d =>
      obtain⟨u2,g2,e5,G,_⟩:=g.ok (U.kb H S).bd ((X.kb i c.pO c.pL).kb H c.pO c.pL) w3 e4;refine⟨u2,h3++g2,by rw[e5];rfl,KB.app _ _ _,S.app,.inl G,λ_=>G,λf=>by simp at f⟩
    |false=>exact⟨.bl T,j++l,rfl,i,C.app,.inl rfl,λ_=>rfl,λf=>by simp at f⟩
   |_=>trivial
end
structure Xi(ws:Q4) where
 m:Mx MIt
 p:ao->e_->PR (Q5)
 fz:Bool
 ok:∀{q h L B O Z env s},Cx q h L B O ws Z env s->Ok q h (m Z h) (p env s) (λh' ds it=>Rps q h' O ds it.xs/\(∀g∈it.gd,h'[g.1]?=J (.lst g.2)/\g.1≠q)/\(fz=I->∀g∈it.gd,g.1∉O))
inductive GI(q:Nat)(h:MH)(O:Q4)(ds as:Q5)(xs:Q0)(o:Out MIt):Prop
 |mk(it:MIt)(e:o=.ok it h)(r:Rps q h O ds it.xs)(g:∀g∈it.gd,h[g.1]?=J (.lst g.2)/\g.1≠q)(z:Rps q h O as xs->∀g∈it.gd,g.1∉O):GI q h O ds as xs o
structure Mk where
 k:Q0->MH->Out MIt
 p:Q5->Option (Q5)
 ok:∀{q h L O as xs ds},q<L->q∈O->Bd h O->Vws q h L O as xs->p as=J ds->GI q h O ds as xs (k xs h)
def D.items:D->Option (Q5)
 |.lst a=>J a
 |.tup a=>J a
 |_=>Y
@[simp]theorem wA:(D.lst ds).items=J ds:=rfl
@[simp]theorem HX:(D.tup ds).items=J ds:=rfl
noncomputable section
variable{ws:Q4}
def bx(o:Mk)(a:Xs ws):Xi ws where
 m:=λZ h=>(a.m Z h).bind o.k
 p:=λenv s=>(a.p env s).bind λx j=>.of (o.p x) j
 fz:=a.fz
 ok {q h L B O Z env s} c:=by
  refine(a.ok c).bind λx v C j u i ⟨w,z⟩=>?_
  cases e:o.p x with
  |none=>trivial
  |some F =>
   obtain⟨E,e1,r,y,l⟩:=o.ok c.pL c.pO (c.kb u i).bd w e;exact⟨E,C,e1,KB.refl _ _,i,r,y,λf=>l (z f)⟩
def Vw.seq(G:q<L)(E:q∈O)(w:Vw q h L O d v)(e:d.items=J ds):∃xs gd,uE v h=.ok ⟨xs,gd⟩ h/\Rps q h O ds xs/\(∀g∈gd,h[g.1]?=J (.lst g.2)/\g.1≠q)/\(Rp q h O d v->∀g∈gd,g.1∉O):=by
 have one:∀n xs,h[n]?=J (MO.lst xs)->n≠q->(∀g∈[(n,xs)],h[g.1]?=J (MO.lst g.2)/\g.1≠q):=λn xs g B y a=>by
  have:y=(n,xs):=by simpa using a
  subst this;exact⟨g,B⟩
 cases d with
 |lst l =>
  have:l=ds:=by simpa using e
  subst this;rcases w with⟨n,xs,e1,j,g,r⟩|⟨n,u,xs,i,f,e1,_,B,g,r⟩
  .subst e1;refine⟨xs,[(n,xs)],by simp only[uE,g],r,one n xs g (λz=>j (z▸E)),λ_ y a=>?_⟩
   have:y=(n,xs):=by simpa using a
   subst this;exact j
  .obtain⟨rfl,rfl⟩:=gE f;subst e1;replace g:h[n]?=J (.lst xs):=g;refine⟨xs,[(n,xs)],by simp only[uE,g],r,one n xs g ⋯,λ⟨F,C,e1,j,_,_⟩ y a=>?_⟩
   grind
 |tup l =>
  have:l=ds:=by simpa using e
  subst this;rcases w with⟨xs,e1,r⟩|⟨n,u,xs,i,f,_⟩
  .subst e1;exact⟨xs,[],rfl,r,(λ_ a=>nomatch a),λ_ _ a=>nomatch a⟩
  .cases u<;>cases f
 |_=>simp[D.items]at e
def aG(a:Xe ws):Xi ws where
 m:=rm a.m
 p:=λenv s=>(a.p env s).bind λx i=>.of x.items i
 fz:=a.fz
 ok {q h L B O Z env s} c:=by
  refine(a.ok c).bind λx v y i C u ⟨w,z,_⟩=>?_
  cases e:x.items with
  |none=>trivial
  |some E =>
   obtain⟨xs,gd,e1,r,l,j⟩:=w.seq c.pL c.pO e;exact⟨⟨xs,gd⟩,y,e1,KB.refl _ _,u,r,l,λf=>j (z f)⟩
structure Xg(ws:Q4) where
 m:Mg
 p:D->ao->Option ao
 ok:∀{q h L O Z env d v env'},SR q h L O ws Z env->Rp q h O d v->p d env=J env'->∃Z',m v Z h=.nx Z' h/\SR q h L O ws Z' env'/\∀i∈ws,Z'[i]?=Z[i]?/\env'[i]?=env[i]?
structure Dv(ws:Q4) where
 m:Bq
 p:Q5->ao->Option ao
 ok:∀{q h L O Z env ds vs env'},SR q h L O ws Z env->Rps q h O ds vs->p ds env=J env'->∃Z',m vs Z h=.nx Z' h/\SR q h L O ws Z' env'/\∀i∈ws,Z'[i]?=Z[i]?/\env'[i]?=env[i]?
def SR.set(r:SR q h L O ws Z env)(C:i∉ws)(w:Rp q h O d v):SR q h L O ws (Z.set i (J v)) (env.set i (J d))/\∀j∈ws,(Z.set i (J v))[j]?=Z[j]?/\(env.set i (J d))[j]?=env[j]?:=by
 have ne:∀j∈ws,i≠j:=λj a z=>C (z▸a);refine⟨⟨by simp[r.len],λj e a f=>?_,λj e a f=>?_⟩,λj a=>⟨rc (ne j a),rc (ne j a)⟩⟩
 .by_cases z:i=j
  .subst z;have y:i<env.length:=by
    have:=(qp.mp a).1;simpa using this
   rw[zp y]at a;cases a;exact⟨v,zp (by rw[r.len];exact y),w⟩
  .rw[rc z]at a;obtain⟨u,e1,F⟩:=r.fz j e a f
   simp_all
 .rw[rc (ne j f)]at a;obtain⟨n,E,xs,B,e1,e2,l⟩:=r.ow j e a f;exact⟨n,E,xs,B,e1,by rw[rc (ne j f)];exact e2,l⟩
def i3(i:Nat)(j:ws.contains i=T:=by exact ys rfl):Xg ws where
 m:=EY i
 p:=λd env=>J (env.set i (J d))
 ok {q h L O Z env d v env'} r w e:=by
  cases e;have f:i∉ws:=λz=>by simp[z]at j
  obtain⟨a,b⟩:=r.set f w;exact⟨_,rfl,a,b⟩
def zi:Dv ws where
 m:=NB
 p:=λa env=>match a with
  |[]=>J env
  |_=>Y
 ok {q h L O Z env a vs env'} r w e:=by
  cases a with
  |nil =>
   cases e
   have:vs=[]:=w
   subst this;exact⟨Z,rfl,r,λ_ _=>⟨rfl,rfl⟩⟩
  |cons _ _=>cases e
def sf(a:Xg ws)(t:Dv ws):Dv ws where
 m:=LP a.m t.m
 p:=λj env=>match j with
  |d::j=>(a.p d env).bind λf=>t.p j f
  |[]=>Y
 ok {q h L O Z env j vs env'} r w e:=by
  cases j with
  |nil=>cases e
  |cons d j =>
   obtain⟨x,y,rfl,B,E⟩:=w;dsimp only at e
   cases e1:a.p d env with
   |none=>rw[e1]at e;cases e
   |some f =>
    rw[e1]at e;obtain⟨P,H,F,u⟩:=a.ok r B e1;obtain⟨M,C,G,z⟩:=t.ok F E e;exact⟨M,by show(a.m x Z h).then (t.m y)=_;rw[H];exact C,G,λi l=>⟨(z i l).1.trans (u i l).1,(z i l).2.trans (u i l).2⟩⟩
def zj(t:Dv ws)(n:Nat):Xg ws where
 m:=LQ t.m n
 p:=λd env=>match d with
  |.tup f=>if f.length=n then t.p f env else Y
  |_=>Y
 ok {q h L O Z env d v env'} r w e:=by
  cases d with
  |tup f =>
   obtain⟨xs,rfl,w⟩:=w;dsimp only at e;by_cases z:f.length=n
   .rw[b_ z]at e;obtain⟨i,a,b⟩:=t.ok r w e;exact⟨i,by show(if xs.length=n then t.m xs Z h else .bad)=_;rw[b_ (by rw[w.length];exact z)];exact a,b⟩
   .rw[d_ z]at e;cases e
  |_=>cases e
def Ad(a:Nat)(fm ws:Q4):Q4:=((List.range fm.length).filter λj=>ws.contains (fm.getD j 0)).map (a+·)
def vd(a:Nat)(fm:Q4)(env:ao):ao:=List.replicate a Y++fm.map λi=>(env[i]?).getD Y
def PR.ne{α:Type}(r:PR α):PR α:=match r with
 |.exc _ _=>.bad
 |r=>r
@[simp]theorem PR.ne_ok(a:α)(s:e_):(PR.ok a s).ne=.ok a s:=rfl
def dG(g:D->ao->Option ao)(t:ao->e_->PR Bool)(e:ao->e_->PR D):Q5->ao->e_->PR (Q5)
 |[],_,s=>.ok [] s
 |d::f,env,s=>match g d env with
  |none=>.bad
  |some a=>(t a s).bind λb i=>if b=I then(e a i).bind λx j=>(dG g t e f a j).bind λr l=>.ok (x::r) l else dG g t e f a i
def J8{a:Nat}{fm:Q4}{α:Type}{env:List (Option α)}{i:Nat}{d:α}(e:(List.replicate a Y++fm.map λi=>(env[i]?).getD Y)[i]?=J (J d)):∃j k,i=a+j/\fm[j]?=J k/\env[k]?=J (J d):=by
 by_cases z:i<a
 .rw[xu (by simpa using z)]at e;simp[z]at e
 .rw[zE (by simp;lia)]at e;simp only[Im,s_]at e
  cases f:fm[i-a]? with
  |none=>rw[f]at e;cases e
  |some k =>
   rw[f]at e;simp only[IB]at e;refine⟨i-a,k,⋯,f,?_⟩
   cases l:env[k]? with
   |none=>rw[l]at e;cases e
   |some o=>rw[l]at e;simp at e;rw[e]
def J9{a:Nat}{fm:Q4}{α:Type}{Z:List (Option α)}{j k:Nat}{v:α}(e1:fm[j]?=J k)(e2:Z[k]?=J (J v)):(List.replicate a Y++fm.map λi=>(Z[i]?).getD Y)[a+j]?=J (J v):=by rw[zE (by simp)];simp[e1,e2]
def ss(e:fm[j]?=J k):nv+j∈Ad nv fm ws↔k∈ws:=by
 have a:=(qp.mp e).1;unfold Ad
 simp_all
def SR.comp{q:Nat}{h:MH}{L:Nat}{O:Q4}{Z:ll}{env:ao}(a:Nat)(fm:Q4)(r:SR q h L O ws Z env):SR q h L O (Ad a fm ws) (Ap a fm Z) (vd a fm env):=by
 refine⟨by simp[Ap,vd],λi d e f=>?_,λi d e f=>?_⟩
 .obtain⟨j,k,rfl,e1,e2⟩:=J8 e;obtain⟨v,e3,w⟩:=r.fz k d e2 λz=>f ((ss e1).mpr z);exact⟨v,J9 e1 e3,w⟩
 .obtain⟨j,k,rfl,e1,e2⟩:=J8 e;obtain⟨n,y,xs,u,l,e3,w⟩:=r.ow k d e2 ((ss e1).mp f);exact⟨n,y,xs,u,l,J9 e1 e3,w⟩
def F2(gt:Xg u)(t:Xt u)(e:Xe u)(hz:e.fz=I)(hq:q<h1.length)(gd:∀g∈it.gd,h1[g.1]?=J (.lst g.2)/\g.1≠q):
  ∀(Q:Q5)(xs:Q0)(env:ao)(Z:ll)(h:MH)(j:Q5)(f:Q0)(s:e_)(r:Q5)(W:e_),(∀i∈u,∀d,env[i]?=J (J d)->∀n,Z[i]?=J (J (.loc n))->n<h1.length)->KB q h1 h->Cx q h L B (h1.length::O) u Z env s->Rps q h (h1.length::O) Q xs->h[h1.length]?=J (.lst f)->Rps q h (h1.length::O) j f->j.length+Q.length<=100000 ->
  dG gt.p t.p e.p Q env s=.ok r W->∃F U,zK it h1.length gt.m t.m e.m xs Z h=.ok () F/\KB q h1 F/\bu F q W/\F[h1.length]?=J (.lst U)/\Rps q F (h1.length::O) (j++r) U:=by
 intro Q
 induction Q with
 |nil =>
  intro xs env Z h j f s r W on kb c rx ga X hl a
  have:xs=[]:=rx
  subst this;cases a;have ok:it.ok h:=λg R=>(kb.keep _ (aE (gd g R).1) (gd g R).2).trans (gd g R).1;exact⟨h,f,by rw[zK,b_ ok],kb,c.pen,ga,by simpa using X⟩
 |cons d Q ih =>
  intro xs env Z h j f s r W on kb c rx ga X hl a;obtain⟨x,xr,rfl,r1,r2⟩:=rx;have ok:it.ok h:=λg R=>(kb.keep _ (aE (gd g R).1) (gd g R).2).trans (gd g R).1;rw[dG]at a
  cases eg:gt.p d env with
  |none=>rw[eg]at a;cases a
  |some l =>
   rw[eg]at a;dsimp only at a;obtain⟨Z1,f1,ap,k1⟩:=gt.ok c.sr r1 eg;have S:∀i∈u,∀d,l[i]?=J (J d)->∀n,Z1[i]?=J (J (.loc n))->n<h1.length:=λi M d e n z=>on i M d ((k1 i M).2▸e) n ((k1 i M).1▸z);have c1:Cx q h L B (h1.length::O) u Z1 l s:=⟨c.bd,c.sub,c.bb,c.pb,c.hL,c.pen,ap⟩;have kt:=t.ok c1
   cases et:t.p l s with
   |bad=>rw[et]at a;cases a
   |exc _ _=>rw[et]at a;cases a
   |ok b s1 =>
    rw[et]at a kt;obtain⟨b',h2,f2,k2,p2,eb⟩:=kt;subst eb;have c2:=c1.kb k2 p2;have E:Mv (h1.length::O) h (h1.length::O) h2:=k2.mv c.pO;have hn:h1.length<h.length:=aE ga;have P:h2[h1.length]?=J (.lst f):=(k2.keep _ hn ⋯).trans ga;rw[Pb]at a
    cases b with
    |false =>
     rw[d_ (by simp)]at a;obtain⟨F,U,a1,a2⟩:=ih xr l Z1 h2 j f s1 r W S (kb.trans k2) c2 (r2.mv E) P (X.mv E) (by simp at hl;lia) a;refine⟨F,U,?_,a2⟩;rw[zK,b_ ok,f1];simp only[f2,Out.ne_ok,Out.bind_ok,o0,if_false];exact a1
    |true =>
     rw[b_ rfl]at a;have ke:=e.ok c2
     cases ee:e.p l s1 with
     |bad=>rw[ee]at a;cases a
     |exc _ _=>rw[ee]at a;cases a
     |ok y s2 =>
      rw[ee]at a ke;obtain⟨v,H,f3,k3,p3,_,rv,_⟩:=ke;have rv:=rv hz;have G:=c2.kb k3 p3;have ab:Mv (h1.length::O) h2 (h1.length::O) H:=k3.mv c.pO;have aj:H[h1.length]?=J (.lst f):=(k3.keep _ (aE P) ⋯).trans P;have C:Mv (h1.length::O) H (h1.length::O) (H.set h1.length (.lst (f++[v]))) :=
       ⟨λn hn no=>rc (λz=>no (by simp[z])),λo ho=>.inl ho⟩
      have an:Rps q H (h1.length::O) (j++[y]) (f++[v]):=((X.mv E).mv ab).app ⟨v,[],rfl,rv,rfl⟩;rw[Pb]at a
      cases er:dG gt.p t.p e.p Q l s2 with
      |bad=>rw[er]at a;cases a
      |exc _ _=>rw[er]at a;cases a
      |ok r' s3 =>
       rw[er]at a;cases a;have am:KB q h1 H:=(kb.trans k2).trans k3;have c4:Cx q (H.set h1.length (.lst (f++[v]))) L B (h1.length::O) u Z1 l s2:=by
        refine⟨λo ho=>by simpa using G.bd o ho,G.sub,G.bb,G.pb,by simpa using G.hL,?_,?_⟩
        .unfold bu;rw[rc ⋯];exact p3
        .refine⟨G.sr.len,λi d e M=>let⟨v,e1,q1⟩:=G.sr.fz i d e M;⟨v,e1,q1.mv C⟩,λi d e M=>?_⟩;obtain⟨n,kd,ys,es,b1,b2,b3,b4,b5,b6⟩:=G.sr.ow i d e M;have z:=S i M d e n b2;exact⟨n,kd,ys,es,b1,b2,b3,b4,by rw[rc ⋯];exact b5,b6.mv C⟩
       obtain⟨F,U,a1,a2,a3,a4,a5⟩:=ih xr l Z1 (H.set h1.length (.lst (f++[v]))) (j++[y]) (f++[v]) s2 r' _ S ⟨by simpa using am.len,λn hn hp=>by rw[rc ⋯];exact am.keep n hn hp⟩ c4 (((r2.mv E).mv ab).mv C) (zp (aE aj)) (an.mv C) (by simp at hl ⊢;lia) er;refine⟨F,U,?_,a2,a3,a4,by simpa using a5⟩;rw[zK,b_ ok,f1];simp only[f2,Out.ne_ok,Out.bind_ok,if_true,f3,aj];rw[b_ (by have:=di;have:=X.length;simp at hl;lia)];exact a1
def aI(a:Nat)(fm:Q4)(i:Xi ws){ws':Q4}(g:Xg ws')(t:Xt ws')(e:Xe ws')(S:Ad a fm ws=ws':=by exact ys rfl)(U:e.fz=I:=by exact ys rfl):Xe ws where
 m:=kn a fm i.m g.m t.m e.m
 p:=λenv s=>(i.p env s).bind λl y=>if l.length<=100000 then (match dG g.p t.p e.p l (vd a fm env) y with
  |.ok r H=>.ok (.lst r) H
  |_=>.bad)else .bad
 fz:=I
 fr:=I
 ok {q h L B O Z env s} c:=by
  subst S;refine(i.ok c).bind λl it j y P F ⟨rx,gd,_⟩=>?_;have C:=c.kb P F;by_cases E:l.length<=100000
  .rw[b_ E]
   cases er:dG g.p t.p e.p l (vd a fm env) y with
   |bad=>trivial
   |exc _ _=>trivial
   |ok r H =>
    have mv:Mv O j (j.length::O) (j++[MO.lst []]):=⟨λn G _=>xu G,λo u=>by
     rcases mu.mp u with z|z
     .exact .inr ⋯
     .exact .inl z⟩
    have sr:=(C.sr.comp a fm).mv mv (λo u=>l_ _ u) λn G _ _=>xu G;have c2:Cx q (j++[MO.lst []]) L B (j.length::O) (Ad a fm ws) (Ap a fm Z) (vd a fm env) y:=by
     refine⟨λo u=>?_,λo u=>l_ _ (c.sub o u),c.bb,c.pb,by have:=C.hL;simp;lia,F.app,sr⟩;rcases mu.mp u with z|z
     .subst z;simp
     .have:=C.bd o z;simp;lia
    have hq:q<j.length:=aE F
    obtain⟨M,zs,a1,a2,a3,a4,X⟩:=F2 g t e U (L:=L) (B:=B) (O:=O) hq gd l it.xs (vd a fm env) (Ap a fm Z) (j++[MO.lst []]) [] [] y r H (λi W d ed n Q=>by
     obtain⟨n',_,_,_,_,b2,_,_,b5,_⟩:=(C.sr.comp a fm).ow i d ed W;rw[b2]at Q;cases Q
     exact aE b5) (KB.app _ _ _) c2 (rx.mv mv) (by simp) rfl (by simpa using E) er
    have f:Frs q h.length O M (.lst r) (.loc j.length):=λk l e=>by
     obtain⟨rfl,rfl⟩:=gE e;exact⟨_,zs,rfl,P.len,a4,by simpa using X⟩
    have R:=f.rp (k:=Y) c.bd rfl;exact⟨.loc j.length,M,by show(zK _ _ _ _ _ _ _ _).bind _=_;rw[a1];rfl,a2,a3,.inl R,λ_=>R,λ_=>f⟩
  .rw[d_ E];trivial
end
inductive PS where
 |nx(e:ao)(s:e_)
 |rt(d:D)(s:e_)
 |bk(e:ao)(s:e_)
 |ct(e:ao)(s:e_)
 |exc(c:Str)(e:ao)(s:e_)
 |rse(c:Str)(e:ao)(s:e_)
 |bad
structure Stp(q L:Nat)(h:MH)(O:Q4)(h':MH)(O':Q4):Prop where
 len:h.length<=h'.length
 mv:Mv O h O' h'
 sub:∀o∈O,o∈O'
 base:∀n:Nat,n<L->n≠q->h'[n]?=h[n]?
def Stp.refl(q L:Nat)(h:MH)(O:Q4):Stp q L h O h O:=⟨ii _,⟨λ_ _ _=>rfl,λ_ h=>.inl h⟩,λ_ h=>h,λ_ _ _=>rfl⟩
def Stp.trans(a:Stp q L h O h1 O1)(b:Stp q L h1 O1 h2 O2):Stp q L h O h2 O2:=by
 refine⟨l7 a.len b.len,⟨λn f l=>?_,λo i=>?_⟩,λo i=>b.sub o (a.sub o i),λn f j=>(b.base n f j).trans (a.base n f j)⟩
 .have r:n∉O1:=λz=>by
   rcases a.mv.new n z with q|q
   .exact l q
   .lia
  exact(b.mv.keep n (q_ f a.len) r).trans (a.mv.keep n f l)
 .rcases b.mv.new o i with z|z
  .exact a.mv.new o z
  .exact .inr (l7 a.len z)
def Dis(a:Q4)(Z:ll)(env:ao):Prop:=∀i j,i∈a->j∈a->i≠j->∀d f n,env[i]?=J (J d)->env[j]?=J (J f)->Z[i]?=J (J (.loc n))->Z[j]?≠J (J (.loc n))
inductive Nxt(q L:Nat)(h:MH)(B O ws:Q4)(Z':ll)(h':MH)(env:ao)(s:e_):Prop
 |mk(O':Q4)(a:Stp q L h O h' O')(c:Cx q h' L B O' ws Z' env s)(d:Dis ws Z' env):Nxt q L h B O ws Z' h' env s
inductive HY(q L:Nat)(h:MH)(B O ws:Q4)(f:ll->MH->SOut)(o:SOut)(env:ao)(s:e_):Prop
 |mk(Z':ll)(h':MH)(e:o=f Z' h')(n:Nxt q L h B O ws Z' h' env s):HY q L h B O ws f o env s
inductive Ql(q L:Nat)(h:MH)(B:Q4)(fr:Bool)(o:SOut)(d:D)(s:e_):Prop
 |mk(v:PV)(h':MH)(e:o=.rt v h')(l:h.length<=h'.length)(b:∀n:Nat,n<L->n≠q->h'[n]?=h[n]?)(p:bu h' q s)(r:Rp q h' B d v)(f:fr=I->Frs q L B h' d v):Ql q L h B fr o d s
def SOk(q L:Nat)(h:MH)(B O a:Q4)(fr:Bool)(o:SOut)(r:PS):Prop:=match r with
 |.nx env s=>HY q L h B O a .nx o env s
 |.bk env s=>HY q L h B O a .bk o env s
 |.ct env s=>HY q L h B O a .ct o env s
 |.exc c env s=>HY q L h B O a (.exc ⟨c,[]⟩) o env s
 |.rse c env s=>HY q L h B O a (.rse ⟨c,[]⟩) o env s
 |.rt d s=>Ql q L h B fr o d s
 |.bad=>True
structure Xd(ws:Q4) where
 m:nw
 p:ao->e_->PS
 fr:Bool
 ok:∀{q h L B O Z env s},Cx q h L B O ws Z env s->Dis ws Z env->SOk q L h B O ws fr (m Z h) (p env s)
def Nxt.after(a:Stp q L h O h1 O1)(n:Nxt q L h1 B O1 ws Z' h' env s):Nxt q L h B O ws Z' h' env s :=
 let⟨f,b,c,d⟩:=n;⟨f,a.trans b,c,d⟩
def SOk.after(a:Stp q L h O h1 O1)(k:SOk q L h1 B O1 ws fr o r):SOk q L h B O ws fr o r:=by
 cases r with
 |nx env s=>obtain⟨i,f,e,n⟩:=k;exact⟨i,f,e,n.after a⟩
 |bk env s=>obtain⟨i,f,e,n⟩:=k;exact⟨i,f,e,n.after a⟩
 |ct env s=>obtain⟨i,f,e,n⟩:=k;exact⟨i,f,e,n.after a⟩
 |exc c env s=>obtain⟨i,f,e,n⟩:=k;exact⟨i,f,e,n.after a⟩
 |rse c env s=>obtain⟨i,f,e,n⟩:=k;exact⟨i,f,e,n.after a⟩
 |rt d s=>obtain⟨v,f,e,l,b,y,z,C⟩:=k;exact⟨v,f,e,l7 a.len l,λn j u=>(b n j u).trans (a.base n j u),y,z,C⟩
 |bad=>trivial
def SOk.fr(hf:f'=I->f=I)(k:SOk q L h B O ws f o r):SOk q L h B O ws f' o r:=by
 cases r with
 |rt d s=>obtain⟨v,a,e,l,b,p,r,z⟩:=k;exact⟨v,a,e,l,b,p,r,λy=>z (hf y)⟩
 |nx env s=>exact k
 |bk env s=>exact k
 |ct env s=>exact k
 |exc c env s=>exact k
 |rse c env s=>exact k
 |bad=>trivial
def KB.stp(c:Cx q h L B O ws Z env s)(k:KB q h h'):Stp q L h O h' O :=
 ⟨k.len,k.mv c.pO,λ_ h=>h,λn a f=>k.keep n (q_ a c.hL) f⟩
def PR.go{α:Type}(r:PR α)(env:ao)(k:α->ao->e_->PS):PS:=match r with
 |.ok a s=>k a env s
 |.exc c s=>.exc c env s
 |.bad=>.bad
@[simp]theorem Pg(a:α)(s:e_)(env:ao)(k:α->ao->e_->PS):(PR.ok a s).go env k=k a env s:=rfl
@[simp]theorem PR.go_exc(c:Str)(s:e_)(env:ao)(k:α->ao->e_->PS):(PR.exc c s:PR α).go env k=.exc c env s:=rfl
@[simp]theorem PR.go_bad(env:ao)(k:α->ao->e_->PS):(PR.bad:PR α).go env k=.bad:=rfl
theorem SOk.ex{α β:Type}{q L:Nat}{h:MH}{B O l:Q4}{fr:Bool}{Z:ll}{env:ao}{s:e_}{o:Out β}{r:PR α}{R:MH->α->β->Prop}{f:β->nw}{g:α->ao->e_->PS}(c:Cx q h L B O l Z env s)(d:Dis l Z env)(k:Ok q h o r R)(n:∀a b i j,KB q h i->Cx q i L B O l Z env j->R i a b->SOk q L i B O l fr (f b Z i) (g a env j)):
  SOk q L h B O l fr (o.go Z f) (r.go env g):=by
 cases r with
 |ok a j =>
  obtain⟨b,i,rfl,kb,pn,u⟩:=k;exact(n a b i j kb (c.kb kb pn) u).after (kb.stp c)
 |exc x j =>
  obtain⟨i,rfl,kb,pn⟩:=k;exact⟨Z,i,rfl,O,kb.stp c,c.kb kb pn,d⟩
 |bad=>trivial
noncomputable section
variable{ws:Q4}
def PS.then(r:PS)(k:ao->e_->PS):PS:=match r with
 |.nx env s=>k env s
 |r=>r
@[simp]theorem ak:(PS.nx env s).then k=k env s:=rfl
@[simp]theorem tX:(PS.rt d s).then k=.rt d s:=rfl
@[simp]theorem then_bk:(PS.bk env s).then k=.bk env s:=rfl
@[simp]theorem then_ct:(PS.ct env s).then k=.ct env s:=rfl
@[simp]theorem yQ:(PS.exc c env s).then k=.exc c env s:=rfl
@[simp]theorem yj:(PS.rse c env s).then k=.rse c env s:=rfl
@[simp]theorem yy:PS.bad.then k=.bad:=rfl
def aD(a b:Xd ws):Xd ws where
 m:=aW a.m b.m
 p:=λenv s=>(a.p env s).then b.p
 fr:=a.fr&&b.fr
 ok {q h L B O Z env s} c d:=by
  have k:=a.ok c d;show SOk q L h B O ws _ ((a.m Z h).then b.m) _
  cases e:a.p env s with
  |nx i u =>
   rw[e]at k;obtain⟨P,Q,e1,M,st,C,z⟩:=k;rw[e1];exact((b.ok C z).fr (by simp)).after st
  |rt x u=>rw[e]at k;obtain⟨v,j,e1,y,E,H,G,F⟩:=k;rw[e1];exact SOk.fr (f:=a.fr) (by simp;exact λh _=>h) (show SOk q L h B O ws a.fr (.rt v j) (.rt x u) from⟨v,j,rfl,y,E,H,G,F⟩)
  |bk i u=>rw[e]at k;obtain⟨l,j,e1,r⟩:=k;rw[e1];exact⟨l,j,rfl,r⟩
  |ct i u=>rw[e]at k;obtain⟨l,j,e1,r⟩:=k;rw[e1];exact⟨l,j,rfl,r⟩
  |exc x i u=>rw[e]at k;obtain⟨l,j,e1,r⟩:=k;rw[e1];exact⟨l,j,rfl,r⟩
  |rse x i u=>rw[e]at k;obtain⟨l,j,e1,r⟩:=k;rw[e1];exact⟨l,j,rfl,r⟩
  |bad=>trivial
def i4:Xd ws where
 m:=ls
 p:=.nx
 fr:=I
 ok {q h L B O Z env s} c d:=⟨Z,h,rfl,O,Stp.refl _ _ _ _,c,d⟩
def F3{m:Mx PV}{Z:ll}{h:MH}:bT m Z h=(m Z h).go Z λv _ a=>.rt v a:=by unfold bT;cases m Z h<;>rfl
def c8(e:Xe ws):Xd ws where
 m:=bT e.m
 p:=λenv s=>(e.p env s).go env λd _ s=>.rt d s
 fr:=e.fr
 ok {q h L B O Z env s} c d:=by
  rw[F3];refine SOk.ex (f:=λv _ i=>.rt v i) (g:=λd _ s=>.rt d s) c d (e.ok c) λx v E G kb a ⟨w,z,f⟩=>?_;refine⟨v,E,rfl,ii _,λ_ _ _=>rfl,a.pen,w.base a.sub a.bb,λy=>?_⟩;intro k j r;obtain⟨n,xs,l,H,u,F⟩:=f y k j r
  have:=c.hL
  exact⟨n,xs,l,⋯,u,F.mv ⟨λ_ _ _=>rfl,λo C=>.inl (by
   rcases mu.mp C with z|z
   .subst z;simp
   .exact l_ _ (c.sub o z))⟩⟩
def iJ(i:Nat)(C:ws.contains i=I:=by exact ys rfl):Xd ws where
 m:=bT (ah i)
 p:=λenv s=>match env[i]? with
  |some (J d)=>.rt d s
  |_=>.bad
 fr:=I
 ok {q h L B O Z env s} c d:=by
  show SOk q L h B O ws _ _ (match env[i]? with|some (J d)=>PS.rt d s|_=>.bad)
  cases e:env[i]? with
  |none=>trivial
  |some o =>
   cases o with
   |none=>trivial
   |some x =>
    obtain⟨n,j,xs,u,e1,e2,a,b,g,r⟩:=c.sr.ow i x e (by simpa using C);subst e1
    have E:Mv O h (n::B) h:=⟨λ_ _ _=>rfl,λo F=>.inl (by
     rcases mu.mp F with z|z
     .subst z;exact a
     .exact c.sub o z)⟩
    have f:Frs q L B h (dl j u) (.loc n):=λy l e=>by
     have:y=j/\l=u:=by cases j<;>cases y<;>cases e<;>exact⟨rfl,rfl⟩
     obtain⟨rfl,rfl⟩:=this;exact⟨n,xs,rfl,b,g,r.mv E⟩
    refine⟨.loc n,h,by simp[bT,ah,e2],ii _,λ_ _ _=>rfl,c.pen,f.rp c.bb rfl,λ_=>f⟩
def fc(e:Xe ws):Xd ws where
 m:=fb e.m
 p:=λenv s=>(e.p env s).go env λ_=>.nx
 fr:=I
 ok {q h L B O Z env s} c d:=SOk.ex (f:=λ_=>ls) (g:=λ_=>.nx) c d (e.ok c) λx v a j kb i _=>⟨Z,a,rfl,O,Stp.refl _ _ _ _,i,d⟩
def t0(t:Xt ws)(a b:Xd ws):Xd ws where
 m:=zy t.m a.m b.m
 p:=λenv s=>(t.p env s).go env λx env s=>if x=I then a.p env s else b.p env s
 fr:=a.fr&&b.fr
 ok {q h L B O Z env s} c d:=SOk.ex (f:=λx=>if x=I then a.m else b.m) (g:=λx env s=>if x=I then a.p env s else b.p env s) c d (t.ok c) λx v j l kb i e=>by
  subst e
  cases x with
  |true=>exact(a.ok i d).fr (by simp;exact λh _=>h)
  |false=>exact(b.ok i d).fr (by simp)
def Dis.keep(d:Dis ws Z env)(k:∀i∈ws,Z'[i]?=Z[i]?/\env'[i]?=env[i]?):Dis ws Z' env':=λi j f l ne x y n a b e=>by
 rw[(k i f).1]at e;rw[(k i f).2]at a;rw[(k j l).2]at b;rw[(k j l).1];exact d i j f l ne x y n a b e
def bJ(i:Nat)(e:Xe ws)(r:ws.contains i=T:=by exact ys rfl)(l:e.fz=I:=by exact ys rfl):Xd ws where
 m:=bc i e.m
 p:=λenv s=>(e.p env s).go env λd env s=>.nx (env.set i (J d)) s
 fr:=I
 ok {q h L B O Z env s} c d:=by refine SOk.ex (f:=λv Z h=>.nx (Z.set i (J v)) h) (g:=λd env s=>.nx (env.set i (J d)) s) c d (e.ok c) λx v u y kb j ⟨_,z,_⟩=>?_;obtain⟨a,b⟩:=j.sr.set (i:=i) (λz=>by simp[z]at r) (z l);exact⟨_,u,rfl,O,Stp.refl _ _ _ _,⟨j.bd,j.sub,j.bb,j.pb,j.hL,j.pen,a⟩,d.keep b⟩
def ck(i:Nat)(e:Xe ws)(hi:ws.contains i=I:=by exact ys rfl)(hz:e.fr=I:=by exact ys rfl):Xd ws where
 m:=bc i e.m
 p:=λenv s=>(e.p env s).go env λd env s=>match d with
  |.lst l=>.nx (env.set i (J (.lst l))) s
  |.dic U l=>.nx (env.set i (J (.dic U l))) s
  |_=>.bad
 fr:=I
 ok {q h L B O Z env s} c d:=by
  show SOk q L h B O ws _ _ _;have k:=e.ok c;show SOk q L h B O ws _ ((e.m Z h).go Z λv Z h=>.nx (Z.set i (J v)) h) _
  cases ee:e.p env s with
  |bad=>trivial
  |exc x s1 =>
   rw[ee]at k;obtain⟨P,e1,kb,pn⟩:=k;rw[e1];exact⟨Z,P,rfl,O,kb.stp c,c.kb kb pn,d⟩
  |ok x s1 =>
   rw[ee]at k;obtain⟨v,P,e1,kb,pn,_,_,f⟩:=k;rw[e1];have own:∀G l,x=dl G l->SOk q L h B O ws I ((Out.ok v P).go Z λv Z h=>.nx (Z.set i (J v)) h) (.nx (env.set i (J (dl G l))) s1):=by
    rintro G l rfl;obtain⟨n,xs,rfl,hn,g,r⟩:=f hz G l rfl;have c1:=c.kb kb pn;have S:i∈ws:=by simpa using hi
    have mv:Mv O h (n::O) P:=⟨λm M no=>kb.keep m M λz=>no (z▸c.pO),λo C=>by
     rcases mu.mp C with z|z
     .exact .inr ⋯
     .exact .inl z⟩
    have R:n∉O:=λz=>by have:=c.bd n z;lia
    refine⟨Z.set i (J (.loc n)),P,rfl,n::O,⟨kb.len,mv,λo C=>l_ _ C,λm M hq=>kb.keep m (q_ M c.hL) hq⟩,⟨λo C=>?_,λo C=>l_ _ (c.sub o C),c.bb,c.pb,c1.hL,pn,?_⟩,?_⟩
    .rcases mu.mp C with z|z
     .subst z;exact aE g
     .exact c1.bd o z
    .have sr:=c.sr.mv mv (λo C=>l_ _ C) λm M E _=>kb.keep m M (by have:=c.pL;lia);refine⟨by simp[sr.len],λj x u F=>?_,λj x u F=>?_⟩
     .have ne:i≠j:=λz=>F (z▸S);rw[rc ne]at u;rw[rc ne];exact sr.fz j x u F
     .by_cases z:i=j
      .subst z;have E:i<env.length:=by have:=(qp.mp u).1;simpa using this
       rw[zp E]at u;cases u;exact⟨n,G,xs,l,rfl,zp (by rw[sr.len];exact E),by simp,by have:=c.hL;lia,g,r⟩
      .rw[rc z]at u;rw[rc z];exact sr.ow j x u F
    .have old:∀j d,j∈ws->i≠j->(env.set i (J (dl G l)))[j]?=J (J d)->(Z.set i (J (.loc n)))[j]?≠J (J (.loc n)):=λj d F ne u z=>by
      rw[rc ne]at u z;obtain⟨n',_,_,_,_,b2,b3,_⟩:=c.sr.ow j d u F;rw[z]at b2;cases b2;exact R b3
     intro a b ha hb ne x y m X Q H;by_cases W:i=a
     .subst W;have E:i<Z.length:=by have:=(qp.mp H).1;simpa using this
      rw[zp E]at H;cases H;exact old b y hb ne Q
     .by_cases z2:i=b
      .subst z2;intro z;have E:i<Z.length:=by have:=(qp.mp z).1;simpa using this
       rw[zp E]at z;cases z;exact old a x ha W X H
      .rw[rc W]at X H;rw[rc z2]at Q ⊢;exact d a b ha hb ne x y m X Q H
   cases x with
   |lst l=>exact own Y l rfl
   |dic U l=>exact own (J U) l rfl
   |_=>trivial
def gq(x:Str)(a:Xs ws):Xd ws where
 m:=mE x a.m
 p:=λenv s=>(a.p env s).go env λi env s=>if i.length<=100000 then .rse x env s else .bad
 fr:=I
 ok {q h L B O Z env s} c d:=by
  refine SOk.ex (f:=λ(j:Q0) Z h=>if j.length<=sizeLine then .rse ⟨x,[]⟩ Z h else .bad) (g:=λ(i:Q5) env s=>if i.length<=100000 then .rse x env s else .bad) c d (a.ok c) λi j l E kb y ⟨w,_⟩=>?_;have u:∀{i:Q5}{j:Q0},Vws q l L O i j->j.length=i.length:=by
   intro i
   induction i with
   |nil=>intro j w;rw[show j=[]from w];rfl
   |cons d i C=>intro j w;obtain⟨x,r,e,_,b⟩:=w;rw[e,y_,y_,C b]
  by_cases z:i.length<=100000
  .rw[b_ z,b_ (by have:=di;rw[u w];lia)];exact⟨Z,l,rfl,O,Stp.refl _ _ _ _,y,d⟩
  .rw[d_ z];trivial
end
end PU
namespace PU
open MM
open L2 (vv)
noncomputable section
variable{ws:Q4}
def PS.turn(r:PS)(k:ao->e_->PS):PS:=match r with
 |.nx e s=>k e s
 |.ct e s=>k e s
 |.bk e s=>.nx e s
 |r=>r
@[simp]theorem turn_nx:(PS.nx e s).turn k=k e s:=rfl
@[simp]theorem turn_ct:(PS.ct e s).turn k=k e s:=rfl
@[simp]theorem turn_bk:(PS.bk e s).turn k=.nx e s:=rfl
@[simp]theorem turn_rt:(PS.rt d s).turn k=.rt d s:=rfl
@[simp]theorem yg:(PS.exc c e s).turn k=.exc c e s:=rfl
@[simp]theorem yJ:(PS.rse c e s).turn k=.rse c e s:=rfl
@[simp]theorem J_:PS.bad.turn k=.bad:=rfl
def Ae(g:D->ao->Option ao)(b:ao->e_->PS):Q5->ao->e_->PS
 |[],env,s=>.nx env s
 |d::f,env,s=>match g d env with
  |none=>.bad
  |some a=>(b a s).turn (Ae g b f)
def F4(g:Xg ws)(b:Xd ws):∀(E:Q5)(xs:Q0)(env:ao)(Z:ll)(h:MH)(O:Q4)(s:e_),Cx q h L B O ws Z env s->Dis ws Z env->Rps q h O E xs->(∀y∈it.gd,h[y.1]?=J (.lst y.2)/\y.1∉O) ->
  SOk q L h B O ws b.fr (x2 it g.m b.m xs Z h) (Ae g.p b.p E env s):=by
 intro E
 induction E with
 |nil =>
  intro xs env Z h O s c d r gd
  have:=r
  subst this;have ok:it.ok h:=λy z=>(gd y z).1;refine⟨Z,h,by rw[x2];dsimp only;rw[b_ ok],O,Stp.refl _ _ _ _,c,d⟩
 |cons x E S =>
  intro xs env Z h O s c d r gd;obtain⟨v,F,rfl,M,H⟩:=r;have ok:it.ok h:=λy z=>(gd y z).1;rw[Ae]
  cases W:g.p x env with
  |none=>trivial
  |some j =>
   obtain⟨R,X,sr,k⟩:=g.ok c.sr M W;have U:Cx q h L B O ws R j s:=⟨c.bd,c.sub,c.bb,c.pb,c.hL,c.pen,sr⟩;have kb:=b.ok U (d.keep k)
   have em:x2 it g.m b.m (v::F) Z h=(match b.m R h with
    |.nx i f=>x2 it g.m b.m F i f
    |.ct i f=>x2 it g.m b.m F i f
    |.bk i f=>.nx i f
    |.rt v f=>.rt v f
    |.exc e i f=>.exc e i f
    |.rse e i f=>.rse e i f
    |.bad=>.bad):=by rw[x2];dsimp only;(rw[b_ ok,X])<;>rfl
   rw[em];have G:∀{f:MH}{C:Q4},Stp q L h O f C->∀y∈it.gd,f[y.1]?=J (.lst y.2)/\y.1∉C:=λst y z=>by
    obtain⟨a,b⟩:=st.mv.get (gd y z).1 (gd y z).2;exact⟨b,a⟩
   dsimp only
   cases u:b.p j s with
   |bad=>trivial
   |nx e2 l =>
    rw[u]at kb;obtain⟨i,f,e1,C,st,Q,P⟩:=kb;rw[e1];exact(S F e2 i f C l Q P (H.mv st.mv) (G st)).after st
   |ct e2 l =>
    rw[u]at kb;obtain⟨i,f,e1,C,st,Q,P⟩:=kb;rw[e1];exact(S F e2 i f C l Q P (H.mv st.mv) (G st)).after st
   |bk e2 l=>rw[u]at kb;obtain⟨i,f,e1,r⟩:=kb;rw[e1];exact⟨i,f,rfl,r⟩
   |exc x e2 l=>rw[u]at kb;obtain⟨i,f,e1,r⟩:=kb;rw[e1];exact⟨i,f,rfl,r⟩
   |rse x e2 l=>rw[u]at kb;obtain⟨i,f,e1,r⟩:=kb;rw[e1];exact⟨i,f,rfl,r⟩
   |rt x l=>rw[u]at kb;obtain⟨v,f,e1,M,H,r3,r4,r5⟩:=kb;rw[e1];exact⟨v,f,rfl,M,H,r3,r4,r5⟩
def bY(i:Xi ws)(g:Xg ws)(b:Xd ws)(C:i.fz=I:=by exact ys rfl):Xd ws where
 m:=qE i.m g.m b.m
 p:=λenv s=>(i.p env s).go env λa env s=>Ae g.p b.p a env s
 fr:=b.fr
 ok {q h L B O Z env s} c d:=SOk.ex (f:=λj=>x2 j g.m b.m j.xs) (g:=λa env s=>Ae g.p b.p a env s) c d (i.ok c) λa j u z kb E r =>
  F4 g b a j.xs env Z u O z E d r.1 λy l=>⟨(r.2.1 y l).1,r.2.2 C y l⟩
def cA(t:ao->e_->PR Bool)(b:ao->e_->PS):Nat->ao->e_->PS
 |0,_,_=>.bad
 |n+1,env,s=>(t env s).go env λx env s=>if x=I then(b env s).turn (cA t b n)else .nx env s
def mM(t:Xt ws)(b:Xd ws):∀(n:Nat)(env:ao)(Z:ll)(h:MH)(O:Q4)(s:e_),Cx q h L B O ws Z env s->Dis ws Z env->SOk q L h B O ws b.fr (bP t.m b.m n Z h) (cA t.p b.p n env s)
 |0,env,Z,h,O,s,c,d=>trivial
 |n+1,env,Z,h,O,s,c,d=>by
  refine SOk.ex c d (t.ok c) λx v M F kb z e=>?_;subst e
  cases x with
  |false=>exact⟨Z,M,rfl,O,Stp.refl _ _ _ _,z,d⟩
  |true =>
   have k:=b.ok z d;rw[b_ rfl]
   cases j:b.p env F with
   |bad=>trivial
   |nx e2 i =>
    rw[j]at k;obtain⟨f,a,e1,u,st,y,l⟩:=k;rw[e1];exact(mM t b n e2 f a u i y l).after st
   |ct e2 i =>
    rw[j]at k;obtain⟨f,a,e1,u,st,y,l⟩:=k;rw[e1];exact(mM t b n e2 f a u i y l).after st
   |bk e2 i=>rw[j]at k;obtain⟨f,a,e1,r⟩:=k;rw[e1];exact⟨f,a,rfl,r⟩
   |exc x e2 i=>rw[j]at k;obtain⟨f,a,e1,r⟩:=k;rw[e1];exact⟨f,a,rfl,r⟩
   |rse x e2 i=>rw[j]at k;obtain⟨f,a,e1,r⟩:=k;rw[e1];exact⟨f,a,rfl,r⟩
   |rt x i=>rw[j]at k;obtain⟨v,a,e1,C,E,P,H,G⟩:=k;rw[e1];exact⟨v,a,rfl,C,E,P,H,G⟩
def F5(N:Nat)(t:Xt ws)(b:Xd ws)(f:∀{Z h n},bP t.m b.m n Z h≠.bad->E1 t.m b.m Z h=bP t.m b.m n Z h):Xd ws where
 m:=E1 t.m b.m
 p:=cA t.p b.p N
 fr:=b.fr
 ok {q h L B O Z env s} c d:=by
  have k:=mM t b N env Z h O s c d;by_cases z:bP t.m b.m N Z h=.bad
  .rw[z]at k
   cases e:cA t.p b.p N env s with
   |bad=>trivial
   |nx e2 a=>rw[e]at k;obtain⟨_,_,e1,_⟩:=k;cases e1
   |ct e2 a=>rw[e]at k;obtain⟨_,_,e1,_⟩:=k;cases e1
   |bk e2 a=>rw[e]at k;obtain⟨_,_,e1,_⟩:=k;cases e1
   |exc x e2 a=>rw[e]at k;obtain⟨_,_,e1,_⟩:=k;cases e1
   |rse x e2 a=>rw[e]at k;obtain⟨_,_,e1,_⟩:=k;cases e1
   |rt x a=>rw[e]at k;obtain⟨_,_,e1,_⟩:=k;cases e1
  .rw[f z];exact k
structure Af where
 m:Nat->Q0->MH->RN
 p:Q5->Q5->Option (D×Q5)
 ok:∀{q:Nat}{h:MH}{O:Q4}{n:Nat}{xs:Q0}{ds as:Q5}{vs:Q0}{d:D}{ds':Q5},h[n]?=J (.lst xs)->Rps q h O ds xs->Rps q h O as vs->p ds as=J (d,ds')->∃v xs',m n vs h=.ok v (h.set n (.lst xs'))/\Rps q h O ds' xs'/\Rp q h O d v
def pB{q h L B O Z env s n xs' ds' i d0 kd}(c:Cx q h L B O ws Z env s)(d:Dis ws Z env)(C:i∈ws)(e:env[i]?=J (J d0))(G:Z[i]?=J (J (.loc n)))(r:Rps q h O ds' xs'):
  Nxt q L h B O ws Z (h.set n (mo kd xs')) (env.set i (J (dl kd ds'))) s:=by
 obtain⟨n',k0,xs,R,e0,e2,a,b,g,r0⟩:=c.sr.ow i _ e C;rw[G]at e2;cases e2;have mv:Mv O h O (h.set n (mo kd xs')):=⟨λm S X=>rc (λ(z:n=m)=>X (z▸a)),λo H=>.inl H⟩;have hp:=c.pL;have il:i<env.length:=(qp.mp e).1;refine⟨O,⟨by simp,mv,λ_ h=>h,λm S _=>rc ⋯⟩,⟨λo H=>by simpa using c.bd o H,c.sub,c.bb,c.pb,by simpa using c.hL,?_,⟨by simp[c.sr.len],λj x f l=>?_,λj x f l=>?_⟩⟩,?_⟩
 .unfold bu;rw[rc ⋯];exact c.pen
 .have ne:i≠j:=λz=>l (z▸C);rw[rc ne]at f;obtain⟨v,e1,w⟩:=c.sr.fz j x f l;exact⟨v,e1,w.mv mv⟩
 .by_cases z:i=j
  .subst z;rw[zp il]at f;cases f;exact⟨n,kd,xs',ds',rfl,G,a,b,zp (aE g),r.mv mv⟩
  .rw[rc z]at f;obtain⟨m,U,ys,u,e1,e3,Q,b4,b5,b6⟩:=c.sr.ow j x f l
   have:n≠m:=λy=>d i j C l z _ _ n e f G (y▸e3)
   exact⟨m,U,ys,u,e1,e3,Q,b4,by rw[rc this];exact b5,b6.mv mv⟩
 .intro j k l hk ne x y m f W e1;have P:∀j x,(env.set i (J (dl kd ds')))[j]?=J (J x)->∃F,env[j]?=J (J F):=λj x f=>by
   by_cases z:i=j
   .subst z;exact⟨_,e⟩
   .rw[rc z]at f;exact⟨x,f⟩
  obtain⟨F,M⟩:=P j x f;obtain⟨y',E⟩:=P k y W;exact d j k l hk ne F y' m M E e1
def mR{q h L B O Z env s n xs' ds' i ds}(c:Cx q h L B O ws Z env s)(d:Dis ws Z env)(a:i∈ws)(e:env[i]?=J (J (D.lst ds)))(f:Z[i]?=J (J (.loc n)))(r:Rps q h O ds' xs'):
  Nxt q L h B O ws Z (h.set n (.lst xs')) (env.set i (J (.lst ds'))) s:=pB (kd:=Y) c d a e f r
def Dw(o:Af)(i:Nat)(a:Xs ws)(M:i∈ws)(E:a.fz=I){q h L B O Z env s}(c:Cx q h L B O ws Z env s)(d:Dis ws Z env)(S:a.p env s=.ok as s1)(C:env[i]?=J (J (.lst ds)))(R:o.p ds as=J (r,ds')):∃v j n f,KB q h j/\Cx q j L B O ws Z env s1/\Z[i]?=J (J (.loc n))/\zf o.m (ah i) a.m Z h=.ok v (j.set n (.lst f))/\Rps q j O ds' f/\Rp q j O r v:=by
 obtain⟨n,kd,xs,y,z,e2,W,X,g,Q⟩:=c.sr.ow i _ C M;obtain⟨rfl,rfl⟩:=gE z;replace g:h[n]?=J (.lst xs):=g;have l:=a.ok c;rw[S]at l;obtain⟨U,j,e3,kb,pn,_,H⟩:=l;have F:=c.kb kb pn;have P:j[n]?=J (.lst xs):=(kb.keep n (aE g) (by have:=c.pL;lia)).trans g;obtain⟨v,f,e4,u,G⟩:=o.ok P (Q.mv (kb.mv c.pO)) (H E) R;refine⟨v,j,n,f,kb,F,e2,?_,u,G⟩;have em:ah i Z h=.ok (.loc n) h:=by simp[ah,e2]
 simp_all
def zC(o:Af)(i:Nat)(a:ao->e_->PR (Q5))(env:ao)(s:e_)(k:D->ao->e_->PS):PS:=match a env s with
 |.ok u l=>(match env[i]? with
  |some (J (.lst j))=>(match o.p j u with
   |some (r,f)=>k r (env.set i (J (.lst f))) l
   |none=>.bad)
  |_=>.bad)
 |_=>.bad
def mz(e1:a env s=.ok as s1)(e2:env[i]?=J (J (.lst ds)))(e3:o.p ds as=J (r,ds')):zC o i a env s k=k r (env.set i (J (.lst ds'))) s1:=by simp only[zC,e1,e2,e3]
def tI:zC o i a env s k=.bad\/∃l u f r j,a env s=.ok l u/\env[i]?=J (J (.lst f))/\o.p f l=J (r,j)/\zC o i a env s k=k r (env.set i (J (.lst j))) u:=by
 cases e1:a env s with
 |bad=>left;simp only[zC,e1]
 |exc _ _=>left;simp only[zC,e1]
 |ok l u =>
  cases e2:env[i]? with
  |none=>left;simp only[zC,e1,e2]
  |some x =>
   cases x with
   |none=>left;simp only[zC,e1,e2]
   |some d =>
    cases d with
    |lst f =>
     cases e3:o.p f l with
     |none=>left;simp only[zC,e1,e2,e3]
     |some y=>exact .inr ⟨l,u,f,y.1,y.2,rfl,rfl,e3,mz e1 e2 e3⟩
    |_=>left;simp only[zC,e1,e2]
def q7(o:Af)(i:Nat)(a:Xs ws)(C:ws.contains i=I:=by exact ys rfl)(u:a.fz=I:=by exact ys rfl):Xd ws where
 m:=fb (zf o.m (ah i) a.m)
 p:=λenv s=>zC o i a.p env s λ_=>.nx
 fr:=I
 ok {q h L B O Z env s} c d:=by
  rcases tI (o:=o) (i:=i) (a:=a.p) (env:=env) (s:=s) (k:=λ_=>.nx)with z|⟨Q,P,M,r,F,e1,e2,e3,z⟩
  .rw[z];trivial
  .rw[z];have f:i∈ws:=by simpa using C
   obtain⟨v,G,n,j,kb,y,E,em,l,H⟩:=Dw o i a f u c d e1 e2 e3;refine⟨Z,G.set n (.lst j),?_,(mR y d f e2 E l).after (kb.stp c)⟩;unfold fb xO;rw[em];rfl
def jl(j:Nat)(o:Af)(i:Nat)(a:Xs ws)(Q:ws.contains i=I:=by exact ys rfl)(R:ws.contains j=T:=by exact ys rfl)(M:a.fz=I:=by exact ys rfl):Xd ws where
 m:=bc j (zf o.m (ah i) a.m)
 p:=λenv s=>zC o i a.p env s λr env s=>.nx (env.set j (J r)) s
 fr:=I
 ok {q h L B O Z env s} c d:=by
  rcases tI (o:=o) (i:=i) (a:=a.p) (env:=env) (s:=s) (k:=λr env s=>.nx (env.set j (J r)) s)with z|⟨as,X,W,r,S,e1,e2,e3,z⟩
  .rw[z];trivial
  .rw[z];have l:i∈ws:=by simpa using Q
   obtain⟨v,U,n,y,kb,G,H,em,F,P⟩:=Dw o i a l M c d e1 e2 e3;obtain⟨O',st,c2,d2⟩:=(mR G d l e2 H F).after (kb.stp c);obtain⟨E,u,f,C⟩:=mR G d l e2 H F;obtain⟨A,b⟩:=f.sr.set (i:=j) (λz=>by simp[z]at R) (P.mv u.mv);refine⟨Z.set j (J v),U.set n (.lst y),?_,E,(kb.stp c).trans u,⟨f.bd,f.sub,f.bb,f.pb,f.hL,f.pen,A⟩,C.keep b⟩;unfold bc xO;rw[em]
def Vw.int(w:Vw q h L O (.int b) v):v=.int b:=by
 rcases w with r|⟨n,a,xs,f,e,_⟩
 .exact r
 .cases a<;>cases e
def PS.fin(r:PS):PR D:=match r with
 |.nx _ s=>.ok .non s
 |.rt d s=>.ok d s
 |.exc c _ s=>.exc c s
 |.rse c _ s=>.exc c s
 |_=>.bad
@[simp]theorem fin_nx:(PS.nx e s).fin=.ok .non s:=rfl
@[simp]theorem ec:(PS.rt d s).fin=.ok d s:=rfl
@[simp]theorem fin_exc:(PS.exc c e s).fin=.exc c s:=rfl
@[simp]theorem fin_rse:(PS.rse c e s).fin=.exc c s:=rfl
@[simp]theorem Ml:PS.bad.fin=.bad:=rfl
def m_(n:Nat)(a:Q5):ao:=a.map J++List.replicate (n-a.length) Y
def cg(n B:Nat)(b:Xd ws)(M:ws.all (λi=>decide (B<=i))=I:=by exact ys rfl):Fn where
 m:=dR n B b.m
 p:=λu s=>if u.length=B then(b.p (m_ n u) s).fin else .bad
 fr:=b.fr
 ok {q h O vs u s} bd L pn r:=by
  by_cases H:u.length=B
  .rw[b_ H];have hv:vs.length=B:=by rw[r.length];exact H
   have low:∀i d,(m_ n u)[i]?=J (J d)->i<B/\u[i]?=J d:=λi d e=>by
    by_cases z:i<u.length
    .refine⟨⋯,?_⟩;unfold m_ at e;rw[xu (by simpa using z)]at e;simp at e;simpa using e
    .unfold m_ at e;rw[zE (by simpa using z)]at e;by_cases y:i-(u.map J).length<n-u.length
     .simp[Ag,y]at e
     .simp at y e;exact absurd e (by simp[Ag])
   have Q:∀i d,(m_ n u)[i]?=J (J d)->i∉ws:=λi d e C=>by
    have:=(low i d e).1
    rw[Lw]at M
    have:=M i C
    simp at this;lia
   have c:Cx q h h.length O O ws (bM n vs) (m_ n u) s:=by refine⟨bd,λ_ h=>h,bd,L,ii _,pn,⟨by simp[bM,m_,r.length],λi d e _=>?_,λi d e C=>absurd C (Q i d e)⟩⟩;obtain⟨v,R,W⟩:=r.get (low i d e).2;refine⟨v,?_,W⟩;unfold bM;rw[xu (by simpa using(qp.mp R).1)];simp[R]
   have k:=b.ok c λi j C _ _ d _ _ e=>absurd C (Q i d e)
   have em:dR n B b.m vs h=(match b.m (bM n vs) h with
    |.nx _ a=>.ok .non a
    |.rt v a=>.ok v a
    |.exc x _ a=>.exc x a
    |.rse x _ a=>.exc x a
    |_=>.bad):=by unfold dR;(rw[b_ hv])<;>(cases b.m (bM n vs) h<;>rfl)
   rw[em];have kb:∀{a G},Stp q h.length h O a G->KB q h a:=λst=>⟨st.len,λm S L=>st.base m S L⟩
   cases e:b.p (m_ n u) s with
   |nx e1 E=>rw[e]at k;obtain⟨P,a,f,G,st,F,_⟩:=k;rw[f];exact⟨.non,a,rfl,kb st,F.pen,rfl,λ_ k u e=>by cases k<;>cases e⟩
   |exc x e1 E=>rw[e]at k;obtain⟨P,a,f,G,st,F,_⟩:=k;rw[f];exact⟨a,rfl,kb st,F.pen⟩
   |rse x e1 E=>rw[e]at k;obtain⟨P,a,f,G,st,F,_⟩:=k;rw[f];exact⟨a,rfl,kb st,F.pen⟩
   |rt x E=>rw[e]at k;obtain⟨v,a,f,l,b,p,X,U⟩:=k;rw[f];exact⟨v,a,rfl,⟨l,b⟩,p,X,U⟩
   |bk e1 E=>trivial
   |ct e1 E=>trivial
   |bad=>trivial
  .rw[d_ H];trivial
end
end PU
namespace PU
open MM SetT SortT
open L2 (vv mw gG)
noncomputable section
section
variable{q:Nat}{h:MH}{L:Nat}{O:Q4}{v:PV}
def Vw.non(w:Vw q h L O .non v):v=.non:=by
 rcases w with r|⟨n,k,xs,a,e,_⟩
 .exact r
 .cases k<;>cases e
def Vw.str(w:Vw q h L O (.str x) v):v=.str x:=by
 rcases w with r|⟨n,k,xs,a,e,_⟩
 .exact r
 .cases k<;>cases e
inductive Qm(h:MH)(P:Q0->Prop)(v:PV):Prop
 |mk(n:Nat)(xs:Q0)(e:v=.loc n)(g:h[n]?=J (.lst xs))(r:P xs):Qm h P v
def Vw.lst(w:Vw q h L O (.lst ds) v):Qm h (Rps q h O ds) v:=by
 rcases w with⟨n,xs,e,_,g,r⟩|⟨n,k,xs,a,e,e1,_,_,g,r⟩
 .exact⟨n,xs,e,g,r⟩
 .obtain⟨rfl,rfl⟩:=gE e;exact⟨n,xs,e1,g,r⟩
def Vw.tup(w:Vw q h L O (.tup ds) v):Oa (Rps q h O ds) v:=by
 rcases w with r|⟨n,k,xs,a,e,_⟩
 .exact r
 .cases k<;>cases e
def F6(r:Rp q h O d v)(hf:fr=I->∀k a,d≠dl k a):Gv q h O fr (.ok v h) d :=
 ⟨v,[],by simp,by simpa using r,λz k a e=>absurd e (hf z k a)⟩
def AN:Gv q h O fr (.ok (.int i) h) (.int i):=F6 rfl λ_ k _ e=>by cases k<;>cases e
def vl:Gv q h O fr (.ok (.bl i) h) (.bl i):=F6 rfl λ_ k _ e=>by cases k<;>cases e
def dS(w:Vws q h L O [d] vs):∃x,vs=[x]/\Vw q h L O d x:=by
 obtain⟨x,r,e,a,b⟩:=w
 have:r=[]:=b
 subst this;exact⟨x,e,a⟩
def F7(w:Vws q h L O [d,d'] vs):∃x y,vs=[x,y]/\Vw q h L O d x/\Vw q h L O d' y:=by obtain⟨x,r,e,a,b⟩:=w;obtain⟨y,rfl,c⟩:=dS b;exact⟨x,y,e,a,c⟩
end
def Cq(m:PV->PV->MH->RN)(f:Int->Int->D)(g:Int->Int->PV)(l:∀i j h,m (.int i) (.int j) h=.ok (g i j) h)(r:∀i j q h O fr,Gv q h O fr (.ok (g i j) h) (f i j)):xQ where
 m:=m
 p:=λa b=>match a,b with
  |.int i,.int j=>J (f i j)
  |_,_=>Y
 fr:=I
 ok {q h L O a x b y d} bd wa wb e:=by
  cases a with
  |int i =>
   cases b with
   |int j=>cases e;rw[wa.int,wb.int,l];exact r i j q h O I
   |_=>cases e
  |_=>cases e
def cC:xQ:=Cq Am (λi j=>.int (i-j)) (λi j=>.int (i-j)) (λ_ _ _=>rfl) λ_ _ _ _ _ _=>AN
def zD:xQ:=Cq Aj (λi j=>.bl (decide (i<j))) (λi j=>.bl (decide (i<j))) (λ_ _ _=>rfl) λ_ _ _ _ _ _=>vl
def Oc:xQ:=Cq E2 (λi j=>.bl (decide (i<=j))) (λi j=>.bl (decide (i<=j))) (λ_ _ _=>rfl) λ_ _ _ _ _ _=>vl
def F8:xQ:=Cq Ak (λi j=>.bl (decide (j<i))) (λi j=>.bl (decide (j<i))) (λ_ _ _=>rfl) λ_ _ _ _ _ _=>vl
def bq:xQ where
 m:=lb
 p:=λa b=>match a,b with
  |.int i,.int j=>J (.int (i+j))
  |.lst x,.lst y=>if x.length+y.length<=100000 then J (.lst (x++y))else Y
  |.tup (a::x),.tup y=>if x.length+1+y.length<=100000 then J (.tup (a::x++y))else Y
  |_,_=>Y
 fr:=I
 ok {q h L O a x b y d} bd wa wb e:=by
  cases a with
  |int i =>
   cases b with
   |int j=>cases e;rw[wa.int,wb.int];exact AN
   |_=>cases e
  |lst x =>
   cases b with
   |lst y =>
    dsimp only at e;by_cases z:x.length+y.length<=100000
    .rw[b_ z]at e;cases e;obtain⟨n,xs,rfl,g,r⟩:=wa.lst;obtain⟨l,ys,rfl,u,f⟩:=wb.lst;show Gv q h O I (match h[n]?,h[l]? with|some (.lst xs),J (.lst ys)=>oy (xs++ys) h|_,_=>.bad) _;rw[g,u];exact kf bd (r.app f) (by simpa using z)
    .rw[d_ z]at e;cases e
   |_=>cases e
  |tup x =>
   cases x with
   |nil=>cases b<;>cases e
   |cons a x =>
    cases b with
    |tup y =>
     dsimp only at e;by_cases z:x.length+1+y.length<=100000
     .rw[b_ z]at e;cases e;obtain⟨xs,rfl,r⟩:=wa.tup;obtain⟨ys,rfl,f⟩:=wb.tup;have ne:xs≠[]:=λz=>by have:=r.length;simp[z]at this
      show Gv q h O I (if xs≠[]then o_ (xs++ys) h else .bad) _;rw[b_ ne];exact sN (r.app f) (by simp;lia)
     .rw[d_ z]at e;cases e
    |_=>cases e
  |_=>cases e
def n4:xQ where
 m:=bO
 p:=λa b=>match a,b with
  |.lst x,.int j=>mw x j
  |.tup x,.int j=>mw x j
  |_,_=>Y
 fr:=T
 ok {q h L O a x b y d} bd wa wb e:=by
  have at':∀{f:Q5}{xs:Q0}{j:Int},Rps q h O f xs->mw f j=J d->∃v,mw xs j=J v/\Rp q h O d v:=λ{f xs j} r e=>by
   unfold mw at e ⊢;rw[r.length]
   cases e1:vv f.length j with
   |none=>rw[e1]at e;cases e
   |some k=>rw[e1]at e;exact r.get e
  cases b with
  |int j =>
   rw[wb.int]
   cases a with
   |lst f =>
    obtain⟨n,xs,rfl,g,r⟩:=wa.lst;obtain⟨v,e1,i⟩:=at' r e;show Gv q h O T (match h[n]? with|some (.lst xs)=>(match mw xs j with|some v=>.ok v h|none=>.bad)|_=>.bad) _;rw[g];dsimp only;rw[e1];exact F6 i λz=>by cases z
   |tup f =>
    obtain⟨xs,rfl,r⟩:=wa.tup;obtain⟨v,e1,i⟩:=at' r e;show Gv q h O T (match mw xs j with|some v=>.ok v h|none=>.bad) _;rw[e1];exact F6 i λz=>by cases z
   |_=>cases e
  |_=>cases a<;>cases e
def HZ(f:Bool):xQ where
 m:=Jz f
 p:=λa b=>match b with
  |.non=>(match a with
   |.non=>J (.bl (!f))
   |_=>J (.bl f))
  |.bl b=>(match a with
   |.bl c=>J (.bl (if f then !(c==b)else c==b))
   |.non=>J (.bl f)
   |.int _=>J (.bl f)
   |.str _=>J (.bl f)
   |.tup _=>J (.bl f)
   |_=>Y)
  |_=>Y
 fr:=I
 ok {q h L O a x b y d} bd wa wb e:=by
  have loc:∀{a:D}{x:PV},Vw q h L O a x->(∃i,a=.lst i)\/(∃j i,a=.dic j i)\/(∃c,a=.exc c)\/a=.pen->∃n,x=.loc n:=λ{a x} w z=>by
   rcases w with r|⟨n,k,xs,i,e,e1,_⟩
   .rcases z with⟨i,rfl⟩|⟨j,i,rfl⟩|⟨c,rfl⟩|rfl
    .obtain⟨n,_,e,_⟩:=r;exact⟨n,e⟩
    .obtain⟨n,_,e,_⟩:=r;exact⟨n,e⟩
    .obtain⟨n,e,_⟩:=r;exact⟨n,e⟩
    .exact⟨q,r⟩
   .exact⟨n,e1⟩
  cases b with
  |non =>
   rw[wb.non]
   cases a with
   |non=>cases e;rw[wa.non];exact vl
   |bl c=>cases e;rw[wa.bl];exact vl
   |int c=>cases e;rw[wa.int];exact vl
   |str c=>cases e;rw[wa.str];exact vl
   |tup c=>cases e;obtain⟨xs,rfl,_⟩:=wa.tup;exact vl
   |lst c=>cases e;obtain⟨n,rfl⟩:=loc wa (.inl ⟨_,rfl⟩);exact vl
   |dic j i=>cases e;obtain⟨n,rfl⟩:=loc wa (.inr (.inl ⟨_,_,rfl⟩));exact vl
   |exc c=>cases e;obtain⟨n,rfl⟩:=loc wa (.inr (.inr (.inl ⟨_,rfl⟩)));exact vl
   |pen=>cases e;obtain⟨n,rfl⟩:=loc wa (.inr (.inr (.inr rfl)));exact vl
  |bl b =>
   rw[wb.bl]
   cases a with
   |non=>cases e;rw[wa.non];exact vl
   |bl c=>cases e;rw[wa.bl];exact vl
   |int c=>cases e;rw[wa.int];exact vl
   |str c=>cases e;rw[wa.str];exact vl
   |tup c=>cases e;obtain⟨xs,rfl,_⟩:=wa.tup;exact vl
   |_=>cases e
  |_=>cases e
mutual
def py:D->Option PyData
 |.non=>J .none
 |.bl b=>J (.bool b)
 |.int i=>J (.int i)
 |.str x=>J (.str x)
 |.tup a=>(zP a).map .tuple
 |.lst a=>(zP a).map .list
 |_=>Y
def zP:Q5->Option (List PyData)
 |[]=>J []
 |d::a=>match py d,zP a with
  |some x,J xs=>J (x::xs)
  |_,_=>Y
end
mutual
def up:D->Nat
 |.tup a=>1+t3 a
 |.lst a=>1+t3 a
 |_=>0
def t3:Q5->Nat
 |[]=>0
 |d::a=>max (up d) (t3 a)
end
def sB(d:D):(∀(v:PV)(e:PyData)(n:Nat),Rp q h O d v->py d=J e->up d<=n->rd n h v=J e):=by
 refine D.rec (motive_1:=λd=>∀(v:PV)(e:PyData)(n:Nat),Rp q h O d v->py d=J e->up d<=n->rd n h v=J e)
  (motive_2:=λf=>∀(j:Q0)(i:List PyData)(n:Nat),Rps q h O f j->zP f=J i->t3 f<=n->bW (rd n h) j=J i)
  (λv _ n r e _=>?_) (λb v _ n r e _=>?_) (λb v _ n r e _=>?_) (λb v _ n r e _=>?_) (λf u v e n r l hd=>?_) (λf u v e n r l hd=>?_) (λ_ _ _ _ _ _ _ e _=>?_) (λ_ _ _ _ _ e _=>?_) (λ_ _ _ _ e _=>?_)
  (λj i n r e _=>?_) (λd f E C j i n r e hd=>?_) d
 .rw[show v=PV.non from r];cases e;cases n<;>rfl
 .rw[show v=PV.bl b from r];cases e;cases n<;>rfl
 .rw[show v=PV.int b from r];cases e;cases n<;>rfl
 .rw[show v=PV.str b from r];cases e;cases n<;>rfl
 .obtain⟨xs,ex,r⟩:=r;subst ex;rw[py,ub]at l;obtain⟨i,e1,rfl⟩:=l;rw[up]at hd
  cases n with
  |zero=>lia
  |succ n=>simp only[rd];rw[u _ _ n r e1 ⋯];rfl
 .obtain⟨m,xs,ex,_,g,r⟩:=r;subst ex;rw[py,ub]at l;obtain⟨i,e1,rfl⟩:=l;rw[up]at hd
  cases n with
  |zero=>lia
  |succ n=>simp only[rd,g];rw[u _ _ n r e1 ⋯];rfl
 .simp[py]at e
 .simp[py]at e
 .simp[py]at e
 .rw[show j=[]from r];rw[zP]at e;cases e;rfl
 .obtain⟨x,t,ex,a,b⟩:=r;subst ex;rw[t3]at hd;rw[zP]at e
  cases e1:py d with
  |none=>rw[e1]at e;cases e
  |some y =>
   cases e2:zP f with
   |none=>rw[e1,e2]at e;cases e
   |some ys =>
    rw[e1,e2]at e;cases e;have B:=E _ _ n a e1 ⋯;have z:=C _ _ n b e2 ⋯;simp only[bW,B,z]
def Ka(r:Rp q h O d v)(a:py d=J e)(hd:up d<=n):rd n h v=J e:=sB d v e n r a hd
def vE(r:Rps q h O ds vs)(a:zP ds=J es)(hd:t3 ds<=n):bW (rd n h) vs=J es:=by
 have:=sB (.tup ds) (.tup vs) (.tuple es) (n+1) (⟨vs,rfl,r⟩) (by rw[py,a];rfl) (by rw[up];lia)
 simp only[rd]at this
 simp_all
def i8(w:Vw q h L O d v)(a:py d=J e)(hd:up d<=60):rd 60 h v=J e:=by
 rcases w with r|⟨n,j,xs,f,rfl,rfl,_,_,g,r⟩
 .exact Ka r a hd
 cases j with
 |some _=>cases a
 |none =>
 replace a:py (.lst f)=J e:=a;replace hd:up (.lst f)<=60:=hd;replace g:h[n]?=J (.lst xs):=g
 .rw[py,ub]at a;obtain⟨l,e1,rfl⟩:=a;rw[up]at hd;have i:=vE (n:=59) r e1 ⋯;show(match h[n]? with|some (.lst xs)=>(bW (rd 59 h) xs).map PyData.list|_=>Y)=_;rw[g];dsimp only;rw[i];rfl
def yA(f:Bool)(a b:D):RU:=match py a,py b with
 |some x,J y=>if(up a<=60/\up b<=60)/\SeqAt.shaped x=I/\SeqAt.shaped y=I then J (.bl (if f then !PyData.eqv x y else PyData.eqv x y))else Y
 |_,_=>Y
def iw(e:yA neg a b=J d):∃x y,py a=J x/\py b=J y/\(up a<=60/\up b<=60)/\(SeqAt.shaped x=I/\SeqAt.shaped y=I)/\d=.bl (if neg then !PyData.eqv x y else PyData.eqv x y):=by
 unfold yA at e
 cases e1:py a with
 |none=>rw[e1]at e;cases e
 |some x =>
  cases e2:py b with
  |none=>rw[e1,e2]at e;cases e
  |some y =>
   simp_all
def xg:xQ where
 m:=tx
 p:=yA T
 fr:=I
 ok {q h L O a x b y d} bd wa wb e:=by obtain⟨u,w,e1,e2,hd,f,rfl⟩:=iw e;unfold tx;rw[i8 wa e1 hd.1,i8 wb e2 hd.2];dsimp only;rw[b_ f];exact vl
def zW:xQ where
 m:=wh
 p:=yA I
 fr:=I
 ok {q h L O a x b y d} bd wa wb e:=by obtain⟨u,w,e1,e2,hd,f,rfl⟩:=iw e;unfold wh;rw[i8 wa e1 hd.1,i8 wb e2 hd.2];dsimp only;rw[b_ f];exact vl
def Vw.seqOf(w:Vw q h L O d v)(e:d.items=J ds):∃xs,MM.bt h v=J xs/\Rps q h O ds xs:=by
 cases d with
 |lst a=>cases e;obtain⟨n,xs,rfl,g,r⟩:=w.lst;exact⟨xs,by simp[MM.bt,g],r⟩
 |tup a=>cases e;obtain⟨xs,rfl,r⟩:=w.tup;exact⟨xs,rfl,r⟩
 |_=>cases e
def F9(f:Bool)(a b:D):RU:=match b.items with
 |some i=>(match py a,zP i with
  |some x,J ys=>if(up a<=60/\t3 i<=60)/\x.canLay0=I/\PyData.canLayAll0 ys=I then J (.bl (if f then !ys.any (λe=>PyData.eqv e x)else ys.any (λe=>PyData.eqv e x)))else Y
  |_,_=>Y)
 |none=>Y
def oF(f:Bool):xQ where
 m:=BM f
 p:=F9 f
 fr:=I
 ok {q h L O a x b y d} bd wa wb e:=by
  unfold F9 at e
  cases i:b.items with
  |none=>rw[i]at e;cases e
  |some j =>
   rw[i]at e;dsimp only at e
   cases e1:py a with
   |none=>rw[e1]at e;cases e
   |some u =>
    cases e2:zP j with
    |none=>rw[e1,e2]at e;cases e
    |some l =>
     rw[e1,e2]at e;dsimp only at e;by_cases z:(up a<=60/\t3 j<=60)/\u.canLay0=I/\PyData.canLayAll0 l=I
     .rw[b_ z]at e;cases e;obtain⟨xs,B,r⟩:=wb.seqOf i;unfold BM;rw[B,i8 wa e1 z.1.1];dsimp only;rw[vE r e2 z.1.2];dsimp only;rw[b_ z.2];exact vl
     .rw[d_ z]at e;cases e
end
noncomputable section
def mS:Mj where
 m:=An
 p:=λa=>match a with
  |.int i=>J (.int (-i))
  |_=>Y
 fr:=I
 ok {q h L O a x d} bd w e:=by
  cases a with
  |int i=>cases e;rw[w.int];exact AN
  |_=>cases e
def AO:D->Option String
 |.non=>J "NoneType"
 |.bl _=>J "bool"
 |.int _=>J "int"
 |.str _=>J "str"
 |.tup _=>J "tuple"
 |.lst _=>J "list"
 |.dic _ _=>J "dict"
 |_=>Y
def Kb(w:Vw q h L O d v)(e:AO d=J t):Dk h v=J t:=by
 cases d with
 |non=>cases e;rw[w.non];rfl
 |bl b=>cases e;rw[w.bl];rfl
 |int b=>cases e;rw[w.int];rfl
 |str b=>cases e;rw[w.str];rfl
 |tup b=>cases e;obtain⟨xs,rfl,_⟩:=w.tup;rfl
 |lst b=>cases e;obtain⟨n,xs,rfl,g,_⟩:=w.lst;simp[Dk,g]
 |dic f a =>
  cases e;rcases w with⟨n,xs,rfl,_,g,_⟩|⟨n,k,xs,a,e,rfl,_,_,g,_⟩
  .simp[Dk,g]
  .obtain⟨rfl,rfl⟩:=qU e;replace g:h[n]?=J (.dic f xs):=g;simp[Dk,g]
 |_=>cases e
def mY(f:List String):Mj where
 m:=nk f
 p:=λa=>(AO a).map λt=>.bl (f.any (dN t))
 fr:=I
 ok {q h L O a x d} bd w e:=by rw[ub]at e;obtain⟨t,e1,rfl⟩:=e;unfold nk;rw[Kb w e1];exact vl
def Qn(f:Q0->MH->RN)(g:Int->Int->Int)(hf:∀i j h,f [.int i,.int j] h=.ok (.int (g i j)) h):yx where
 k:=λxs h=>(f xs h).ne
 p:=λl=>match l with
  |[.int i,.int j]=>J (.int (g i j))
  |_=>Y
 fr:=I
 ok {q h L O l xs d} bd w e:=by
  match l,e with
  |[.int i,.int j],e =>
   cases e;obtain⟨x,y,rfl,a,b⟩:=F7 w;rw[a.int,b.int,hf];exact AN
def qi:yx:=Qn zd (λi j=>if j<i then j else i) λ_ _ _=>rfl
def qm:yx:=Qn Bu (λi j=>if j>i then j else i) λ_ _ _=>rfl
def mU:yx where
 k:=λxs h=>(r_ xs h).ne
 p:=λi=>match i with
  |[.lst f]=>J (.int f.length)
  |[.tup f]=>J (.int f.length)
  |[.str x]=>if x.length<=sizeLine then J (.int x.length)else Y
  |_=>Y
 fr:=I
 ok {q h L O i xs d} bd w e:=by
  match i,e with
  |[.lst f],e =>
   cases e;obtain⟨x,rfl,a⟩:=dS w;obtain⟨n,ys,rfl,g,r⟩:=a.lst;simp only[r_,g];rw[r.length];exact AN
  |[.tup f],e =>
   cases e;obtain⟨x,rfl,a⟩:=dS w;obtain⟨ys,rfl,r⟩:=a.tup;simp only[r_];rw[r.length];exact AN
  |[.str x],e =>
   dsimp only at e;by_cases z:x.length<=sizeLine
   .rw[b_ z]at e;cases e;obtain⟨x,rfl,a⟩:=dS w;rw[a.str];simp only[r_];rw[b_ z];exact AN
   .rw[d_ z]at e;cases e
def lP:yx where
 k:=λxs h=>(x_ xs h).ne
 p:=λi=>match i with
  |[d]=>d.items.bind λf=>if f.length<=100000 then J (.lst f)else Y
  |_=>Y
 fr:=I
 ok {q h L O i xs d} bd w e:=by
  match i,e with
  |[a],e =>
   obtain⟨x,rfl,j⟩:=dS w;rw[AC]at e;obtain⟨f,e1,e2⟩:=e;obtain⟨xs,e3,r⟩:=j.seqOf e1;by_cases z:f.length<=100000
   .rw[b_ z]at e2;cases e2;obtain⟨v,g,e4,u,l⟩:=kf bd r z;exact⟨v,g,by simp only[x_,e3];rw[e4];rfl,u,l⟩
   .rw[d_ z]at e2;cases e2
def jz:yx where
 k:=λxs h=>(yW xs h).ne
 p:=λf=>match f with
  |[d]=>d.items.map .tup
  |_=>Y
 fr:=I
 ok {q h L O f xs d} bd w e:=by
  match f,e with
  |[a],e =>
   obtain⟨x,rfl,i⟩:=dS w;rw[ub]at e;obtain⟨j,e1,rfl⟩:=e;obtain⟨xs,e3,r⟩:=i.seqOf e1;simp only[yW,e3];exact F6 ⟨xs,rfl,r⟩ λ_ k _ e=>by cases k<;>cases e
def kA:Q5->Option (List Bool)
 |[]=>J []
 |.bl b::r=>(kA r).map (b::·)
 |_=>Y
def wX:∀{f:Q5}{xs:Q0}{bs:List Bool},Rps q h O f xs->kA f=J bs->kK xs=J bs
 |[],_,_,r,e=>by rw[show _=[]from r];cases e;rfl
 |d::f,_,bs,⟨x,t,ex,a,b⟩,e=>by
  subst ex
  cases d with
  |bl c =>
   rw[show x=PV.bl c from a];rw[kA,ub]at e;obtain⟨i,e1,rfl⟩:=e;rw[kK,wX b e1];rfl
  |_=>cases e
def Cr:yx where
 k:=λxs h=>(BO xs h).ne
 p:=λf=>match f with
  |[d]=>(d.items.bind kA).map λbs=>.bl (bs.any id)
  |_=>Y
 fr:=I
 ok {q h L O f xs d} bd w e:=by
  match f,e with
  |[a],e =>
   obtain⟨x,rfl,i⟩:=dS w;rw[ub]at e;obtain⟨bs,e1,rfl⟩:=e;rw[AC]at e1;obtain⟨j,e1,e2⟩:=e1;obtain⟨xs,e3,r⟩:=i.seqOf e1;simp only[BO,e3,zS,wX r e2];exact vl
def bo:Q5->Option (Q2)
 |[]=>J []
 |.int b::r=>(bo r).map (b::·)
 |_=>Y
def dr:∀{f:Q5}{xs:Q0}{bs:Q2},Rps q h O f xs->bo f=J bs->xs=bs.map .int
 |[],_,_,r,e=>by rw[show _=[]from r];cases e;rfl
 |d::f,_,bs,⟨x,t,ex,a,b⟩,e=>by
  subst ex
  cases d with
  |int c =>
   rw[show x=PV.int c from a];rw[bo,ub]at e;obtain⟨i,e1,rfl⟩:=e;rw[dr b e1];rfl
  |_=>cases e
def nO:∀(bs:Q2),eY (bs.map .int)=J bs
 |[]=>rfl
 |b::bs=>by rw[nt,eY,nO bs];rfl
def nU:∀(bs:Q2),gU (bs.map .int)=J bs
 |[]=>rfl
 |b::bs=>by rw[nt,gU,nU bs];rfl
def jD:∀(bs:Q2),dO (bs.map .int)=J bs
 |[]=>rfl
 |b::bs=>by rw[nt,dO,jD bs];rfl
def o9(f:Q0->MH->RN)(c:Q2->Nat->Nat->Bool)(g:Int->Int->Int)(hf:∀l x h,(bt h x).bind eY=J l->0<l.length->f [x] h=.ok (.int (kj (c l) l)) h)(C:∀i j h,f [.int i,.int j] h=.ok (.int (g i j)) h):yx where
 k:=λxs h=>(f xs h).ne
 p:=λu=>match u with
  |[d]=>(d.items.bind bo).bind λl=>if 0<l.length then J (.int (kj (c l) l))else Y
  |[.int i,.int j]=>J (.int (g i j))
  |_=>Y
 fr:=I
 ok {q h L O u xs d} bd w e:=by
  match u,e with
  |[a],e =>
   obtain⟨x,rfl,B⟩:=dS w;rw[AC]at e;obtain⟨l,e1,e2⟩:=e;rw[AC]at e1;obtain⟨E,e1,e3⟩:=e1;obtain⟨xs,e4,r⟩:=B.seqOf e1;by_cases z:0<l.length
   .rw[b_ z]at e2;cases e2;show Gv q h O I (f [x] h).ne _;rw[hf l x h (by rw[e4,zS,dr r e3];exact nO l) z];exact AN
   .rw[d_ z]at e2;cases e2
  |[.int i,.int j],e =>
   cases e;obtain⟨x,y,rfl,a,b⟩:=F7 w;rw[a.int,b.int,C];exact AN
def lC:yx:=o9 zL (λa i j=>decide (a.getD i 0>a.getD j 0)) (λi j=>if j>i then j else i) (λa x h e z=>by simp only[zL,e];rw[b_ z]) λi j h=>rfl
def lx:yx:=o9 zM (λa i j=>decide (a.getD i 0<a.getD j 0)) (λi j=>if j<i then j else i) (λa x h e z=>by simp only[zM,e];rw[b_ z]) λi j h=>rfl
def kD(k:Q2):D:=.tup (k.map .int)
def cE:D->Option (Q2)
 |.tup a=>bo a
 |_=>Y
def d3:Q5->Option (Q3)
 |[]=>J []
 |d::a=>match cE d,d3 a with
  |some k,J f=>J (k::f)
  |_,_=>Y
def F_(r:Rp q h O d v)(e:cE d=J k):v=kP k:=by
 cases d with
 |tup a=>obtain⟨xs,rfl,r⟩:=r;rw[dr r e];rfl
 |_=>cases e
def i7:∀{f:Q5}{xs:Q0}{i:Q3},Rps q h O f xs->d3 f=J i->xs=i.map kP
 |[],_,_,r,e=>by rw[show _=[]from r];cases e;rfl
 |d::f,_,i,⟨x,t,ex,a,b⟩,e=>by
  subst ex;rw[d3]at e
  cases e1:cE d with
  |none=>rw[e1]at e;cases e
  |some k =>
   cases e2:d3 f with
   |none=>rw[e1,e2]at e;cases e
   |some j =>
    rw[e1,e2]at e;cases e;rw[F_ a e1,i7 b e2];rfl
def Ga(k:Q2):Mi (kP k)=J k:=nU k
def jK:∀(a:Q3),gk (a.map kP)=J a
 |[]=>rfl
 |k::a=>by rw[nt,gk,Ga,jK a]
def gJ:∀(bs:Q2),Rps q h O (bs.map .int) (bs.map .int)
 |[]=>rfl
 |b::bs=>⟨_,_,rfl,rfl,gJ bs⟩
def gv:∀(a:Q3),Rps q h O (a.map kD) (a.map kP)
 |[]=>rfl
 |b::bs=>⟨_,_,rfl,⟨_,rfl,gJ b⟩,gv bs⟩
def Vw.lstOf(w:Vw q h L O (.lst ds) v):∃xs,MM.cm h v=J xs/\Rps q h O ds xs:=by obtain⟨n,xs,rfl,g,r⟩:=w.lst;exact⟨xs,by simp[MM.cm,g],r⟩
def Mm(bd:Bd h O)(r:∀h O,Rps q h O ds xs):Gv q h O I (.ok (.loc h.length) (h++[.lst xs])) (.lst ds):=by
 have g:(h++[MO.lst xs])[h.length]?=J (.lst xs):=by simp
 exact⟨_,_,rfl,⟨_,_,rfl,λz=>by have:=bd _ z;ext,g,r _ _⟩,λ_ k a e=>by obtain⟨rfl,rfl⟩:=gE e;exact⟨_,_,rfl,ii _,g,r _ _⟩⟩
def j0(f:Q5):Option (Q5):=match bo f with
 |some ns=>if ns.length<64 then J ((eO ns).map .int)else Y
 |none=>(match d3 f with
  |some a=>if(∀k∈a,k≠[])/\a.length<=66 then J ((bE a).map kD)else Y
  |none=>Y)
def fW:yx where
 k:=λxs h=>(ml xs h).ne
 p:=λi=>match i with
  |[.lst f]=>(j0 f).map .lst
  |_=>Y
 fr:=I
 ok {q h L O i xs d} bd w e:=by
  match i,e with
  |[.lst f],e =>
   obtain⟨x,rfl,u⟩:=dS w;obtain⟨ys,j,r⟩:=u.lstOf;rw[ub]at e;obtain⟨B,e1,rfl⟩:=e;unfold j0 at e1
   cases e2:bo f with
   |some ns =>
    rw[e2]at e1;dsimp only at e1;by_cases z:ns.length<64
    .rw[b_ z]at e1;cases e1
     have:ml [x] h=.ok (.loc h.length) (h++[.lst ((eO ns).map .int)]):=by simp only[ml,j,dr r e2,jD];rw[b_ z]
     show Gv q h O I (ml [x] h).ne _;rw[this];exact Mm bd λ_ _=>gJ _
    .rw[d_ z]at e1;cases e1
   |none =>
    rw[e2]at e1;dsimp only at e1
    cases e3:d3 f with
    |none=>rw[e3]at e1;cases e1
    |some a =>
     rw[e3]at e1;dsimp only at e1;by_cases z:(∀k∈a,k≠[])/\a.length<=66
     .rw[b_ z]at e1;cases e1;have l:=i7 r e3
      cases a with
      |nil =>
       have:f=[]:=by have:=r.length;rw[l]at this;simpa using this.symm
       subst this;cases e2
      |cons k a =>
       have:ml [x] h=.ok (.loc h.length) (h++[.lst ((bE (k::a)).map kP)]):=by have y:dO ((k::a).map kP)=Y:=rfl;simp only[ml,j,l,y,jK];rw[b_ z]
       show Gv q h O I (ml [x] h).ne _;rw[this];exact Mm bd λ_ _=>gv _
     .rw[d_ z]at e1;cases e1
def Mn:yx where
 k:=λu i=>match u with
  |[x]=>(match (cm i x).bind gk with
   |some a=>if(∀k∈a,k≠[])/\(mm a).length<=66 then .ok (.loc i.length) (i++[.lst ((bE (mm a)).map kP)])else .bad
   |none=>.bad)
  |_=>.bad
 p:=λf=>match f with
  |[.lst j]=>(d3 j).bind λa=>if(∀k∈a,k≠[])/\(mm a).length<=66 then J (.lst ((bE (mm a)).map kD))else Y
  |_=>Y
 fr:=I
 ok {q h L O f xs d} bd w e:=by
  match f,e with
  |[.lst j],e =>
   obtain⟨x,rfl,y⟩:=dS w;obtain⟨ys,l,r⟩:=y.lstOf;rw[AC]at e;obtain⟨a,e1,e2⟩:=e;by_cases z:(∀k∈a,k≠[])/\(mm a).length<=66
   .rw[b_ z]at e2;cases e2;simp only[l,zS,i7 r e1,jK];rw[b_ z];exact Mm bd λ_ _=>gv _
   .rw[d_ z]at e2;cases e2
def cQ(lo:Int)(n:Nat):Q5:=(List.range n).map λ(i:Nat)=>D.int (lo+(i:Int))
def se:Rps q h O (cQ lo n) (bN lo n):=by
 have:=gJ (q:=q) (h:=h) (O:=O) ((List.range n).map λ(i:Nat)=>lo+(i:Int))
 rw[zu,zu]at this;exact this
def vu:Mk where
 k:=λl i=>match l with
  |[.int j]=>if -(2^62)<=j/\j<2^62 then .ok ⟨bN 0 j.toNat,[]⟩ i else .bad
  |_=>.bad
 p:=λa=>match a with
  |[.int j]=>if -100000<=j/\j<=100000 then J (cQ 0 j.toNat)else Y
  |_=>Y
 ok {q h L O a xs d} hq hO bd w e:=by
  match a,e with
  |[.int j],e =>
   obtain⟨x,rfl,r⟩:=dS w;rw[r.int];dsimp only at e;by_cases z:-100000<=j/\j<=100000
   .rw[b_ z]at e;cases e;dsimp only;rw[b_ ⟨by ext,by ext⟩];exact⟨_,rfl,se,(λ_ f=>nomatch f),λ_ _ f=>nomatch f⟩
   .rw[d_ z]at e;cases e
def Vw.sqAny(u:q<L)(j:q∈O)(w:Vw q h L O d v)(e:d.items=J ds):∃t xs gd,MM.fe v h=J (t,xs,gd)/\Rps q h O ds xs/\(∀g∈gd,h[g.1]?=J (.lst g.2)/\g.1≠q)/\(Rp q h O d v->∀g∈gd,g.1∉O):=by
 obtain⟨xs,gd,e1,r,i,f⟩:=w.seq u j e
 cases d with
 |lst l =>
  cases e;obtain⟨n,ys,rfl,g,a⟩:=w.lst;simp only[uE,g]at e1;cases e1;exact⟨T,xs,[(n,xs)],by simp[MM.fe,g],a,i,f⟩
 |tup l =>
  cases e;obtain⟨ys,rfl,a⟩:=w.tup;cases e1;exact⟨I,_,[],rfl,a,i,f⟩
 |_=>cases e
def iS(a:Q5):Q5:=a.zipIdx.map λp=>.tup [.int (p.2:Int),p.1]
def pT:∀{f:Q5}{xs:Q0}(n:Nat),Rps q h O f xs->Rps q h O ((f.zipIdx n).map λp=>.tup [.int (p.2:Int),p.1]) ((xs.zipIdx n).map λp=>.tup [.int (p.2:Int),p.1])
 |[],_,_,r=>by rw[show _=[]from r];rfl
 |d::f,_,n,⟨x,t,e,a,b⟩=>by
  subst e;exact⟨_,_,rfl,⟨_,rfl,⟨_,_,rfl,rfl,⟨_,_,rfl,a,rfl⟩⟩⟩,pT (n+1) b⟩
def iE:Mk where
 k:=λl i=>match l with
  |[x]=>(match fe x i with
   |some (_,xs,gd)=>.ok ⟨hJ xs,gd⟩ i
   |none=>.bad)
  |_=>.bad
 p:=λf=>match f with
  |[d]=>d.items.map iS
  |_=>Y
 ok {q h L O f xs d} hq hO bd w e:=by
  match f,e with
  |[a],e =>
   obtain⟨x,rfl,u⟩:=dS w;rw[ub]at e;obtain⟨C,e1,rfl⟩:=e;obtain⟨t,ys,gd,e2,r,y,j⟩:=u.sqAny hq hO e1;refine⟨⟨hJ ys,gd⟩,by simp only[e2],pT 0 r,y,λz=>j ?_⟩;obtain⟨E,B,e3,a,_⟩:=z;cases e3;exact a
def gA(xs:Q5)(lo a:RL):Q5:=(xs.drop (HT.li xs.length 0 lo)).take (HT.li xs.length xs.length a-HT.li xs.length 0 lo)
def sW(lo a:RL)(r:Rps q h O ds xs):Rps q h O (gA ds lo a) (eS xs lo a):=by unfold gA eS;rw[r.length];exact(r.drop _).take _
structure Xo(ws:Q4) where
 m:Mx (RL)
 p:ao->e_->PR (RL)
 ok:∀{q h L B O Z env s},Cx q h L B O ws Z env s->Ok q h (m Z h) (p env s) (λ_ a b=>a=b)
section
variable{ws:Q4}
def At:Xo ws where
 m:=NW
 p:=λ_ s=>.ok Y s
 ok {q h L B O Z env s} c:=⟨Y,h,rfl,KB.refl _ _,c.pen,rfl⟩
def Au(e:Xe ws):Xo ws where
 m:=NX e.m
 p:=λenv s=>(e.p env s).bind λd s=>match d with
  |.int i=>.ok (J i) s
  |_=>.bad
 ok {q h L B O Z env s} c:=by
  refine(e.ok c).bind λx v f j l a ⟨w,_,_⟩=>?_
  cases x with
  |int i=>rw[w.int];exact⟨J i,f,rfl,KB.refl _ _,a,rfl⟩
  |_=>trivial
def H_(d:D)(lo f:RL):RU:=match d with
 |.lst a=>J (.lst (gA a lo f))
 |.tup a=>if HT.li a.length 0 lo=0/\HT.li a.length a.length f=a.length then Y else J (.tup (gA a lo f))
 |_=>Y
def Kc(bd:Bd h O)(w:Vw q h L O a x)(e:H_ a lo hi=J d):Gv q h O I (Fg x lo hi h) d:=by
 cases a with
 |lst f =>
  cases e;obtain⟨n,xs,rfl,g,r⟩:=w.lst;simp only[Fg,g];have r:=sW lo hi r;have m:Mv O h O (h++[MO.lst (eS xs lo hi)]):=⟨λn i _=>xu i,λo j=>.inl j⟩
  have u:Mv O h (h.length::O) (h++[MO.lst (eS xs lo hi)]):=⟨λn i _=>xu i,λo j=>by
   rcases mu.mp j with z|z
   .exact .inr (by ext)
   .exact .inl z⟩
  have g:(h++[MO.lst (eS xs lo hi)])[h.length]?=J (.lst (eS xs lo hi)):=by simp
  exact⟨_,_,rfl,⟨_,_,rfl,λz=>by have:=bd _ z;ext,g,r.mv m⟩,λ_ k l e=>by obtain⟨rfl,rfl⟩:=gE e;exact⟨_,_,rfl,ii _,g,r.mv u⟩⟩
 |tup f =>
  unfold H_ at e;dsimp only at e;by_cases z:HT.li f.length 0 lo=0/\HT.li f.length f.length hi=f.length
  .rw[b_ z]at e;cases e
  .rw[d_ z]at e;cases e;obtain⟨xs,rfl,r⟩:=w.tup;simp only[Fg];rw[r.length,d_ z];exact F6 ⟨_,rfl,sW lo hi r⟩ λ_ k _ e=>by cases k<;>cases e
 |_=>cases e
def Av(a:Xe ws)(lo i:Xo ws):Xe ws where
 m:=NY a.m lo.m i.m
 p:=λenv s=>(a.p env s).bind λx s=>(lo.p env s).bind λl s=>(i.p env s).bind λu s=>.of (H_ x l u) s
 fz:=I
 fr:=I
 ok {q h L B O Z env s} c:=by
  refine(a.ok c).bind λx v h1 U C M ⟨w,_,_⟩=>?_;have z:=c.kb C M;refine(lo.ok z).bind λl X h2 W j H e=>?_;subst e;have F:=z.kb j H;refine(i.ok F).bind λu Q R S f E e=>?_;subst e;have P:=F.kb f E
  cases e:H_ x l u with
  |none=>trivial
  |some d =>
   obtain⟨y,g,e1,r,G⟩:=Kc P.bd ((w.kb j c.pO c.pL).kb f c.pO c.pL) e;exact zV (l7 (l7 C.len j.len) f.len) E ⟨y,g,by rw[e1];rfl,r,G⟩
end
def kl:Af where
 m:=cv
 p:=λf i=>match i with
  |[a]=>if f.length<100000 then J (.non,f++[a])else Y
  |_=>Y
 ok {q h O n xs f i vs d ds'} g r ra e:=by
  match i,e with
  |[a],e =>
   obtain⟨x,t,rfl,a,b⟩:=ra
   have:t=[]:=b
   subst this;dsimp only at e;by_cases z:f.length<100000
   .rw[b_ z]at e;cases e;refine⟨.non,xs++[x],?_,r.app ⟨x,[],rfl,a,rfl⟩,rfl⟩;simp only[cv,g];rw[b_ (by have:=di;rw[r.length];ext)]
   .rw[d_ z]at e;cases e
def i_:Af where
 m:=im
 p:=λi u=>match u with
  |[a]=>a.items.bind λj=>if i.length+j.length<=100000 then J (.non,i++j)else Y
  |_=>Y
 ok {q h O n xs i u vs d ds'} g r ra e:=by
  match u,e with
  |[a],e =>
   obtain⟨x,t,rfl,w,b⟩:=ra
   have:t=[]:=b
   subst this;rw[AC]at e;obtain⟨j,e1,e2⟩:=e;by_cases z:i.length+j.length<=100000
   .rw[b_ z]at e2;cases e2;have B:=di
    cases a with
    |lst l =>
     cases e1;obtain⟨m,ys,rfl,_,y,f⟩:=w;refine⟨.non,xs++ys,?_,r.app f,rfl⟩;simp only[im,g,y];rw[b_ (by rw[r.length,f.length];ext)]
    |tup l =>
     cases e1;obtain⟨ys,rfl,f⟩:=w;refine⟨.non,xs++ys,?_,r.app f,rfl⟩;simp only[im,g];rw[b_ (by rw[r.length,f.length];ext)]
    |_=>cases e1
   .rw[d_ z]at e2;cases e2
def v1:Af where
 m:=jU
 p:=λf j=>match j with
  |[.int i,a]=>if(0<=i/\i<=100000)/\f.length<100000 then J (.non,f.take (min i.toNat f.length)++a::f.drop (min i.toNat f.length))else Y
  |_=>Y
 ok {q h O n xs f j vs d ds'} g r ra e:=by
  match j,e with
  |[.int i,a],e =>
   obtain⟨x,t,rfl,u,y,l,rfl,w,b⟩:=ra
   have:l=[]:=b
   subst this;rw[show x=PV.int i from u];dsimp only at e;by_cases z:(0<=i/\i<=100000)/\f.length<100000
   .rw[b_ z]at e;cases e;refine⟨.non,jC xs i y,?_,?_,rfl⟩
    .simp only[jU,g];rw[b_ ⟨by ext,by have:=di;rw[r.length];ext⟩]
    .unfold jC;rw[d_ (by ext),r.length];exact(r.take _).app ⟨y,_,rfl,w,r.drop _⟩
   .rw[d_ z]at e;cases e
end
section
variable{ws:Q4}{env:ao}{s:e_}
@[simp]theorem aq{d:D}{r:ao}:(aa 0:Xe ws).p (J d::r) s=.ok d s:=rfl
@[simp]theorem ar{i:Nat}{o:RU}{r:ao}:(aa (i+1):Xe ws).p (o::r) s=(aa i:Xe ws).p r s:=by simp[aa]
theorem Cs(e:env[i]?=J (J d)):(aa i:Xe ws).p env s=.ok d s:=by show(match env[i]? with|some (J d)=>PR.ok d s|_=>.bad)=_;rw[e]
@[simp]theorem de:(xC k:Xe ws).p env s=.ok k.d s:=rfl
@[simp]theorem Gb:Cn.non.d=.non:=rfl
@[simp]theorem Qo:(Cn.bl b).d=.bl b:=rfl
@[simp]theorem bF:(Cn.int b).d=.int b:=rfl
@[simp]theorem Od:(Cn.str b).d=.str b:=rfl
@[simp]theorem aK:(ae o a b).p env s=(a.p env s).bind λx s1=>(b.p env s1).bind λy s2=>.of (o.p x y) s2:=rfl
@[simp]theorem pe:(zO o a).p env s=(a.p env s).bind λx s1=>.of (o.p x) s1:=rfl
@[simp]theorem aw:(a_:Xs ws).p env s=.ok [] s:=rfl
@[simp]theorem ai:(ac a r).p env s=(a.p env s).bind λx s1=>(r.p env s1).bind λy s2=>.ok (x::y) s2:=rfl
@[simp]theorem dL:(n7 o a).p env s=(a.p env s).bind λx s1=>.of (o.p x) s1:=rfl
@[simp]theorem aV:(az f a h).p env s=(a.p env s).bind f.p:=rfl
@[simp]theorem Ct:(lT f a h).p env s=((a.p env s).bind f.p).bind λd s=>if Cp d=I then .ok d s else .bad:=rfl
@[simp]theorem cV:(cj a h).p env s=(a.p env s).bind λx s1=>if x.length<=100000 then .ok (.lst x) s1 else .bad:=rfl
@[simp]theorem eI:(aS a h).p env s=(a.p env s).bind λx s1=>if x.length<=100000 then .ok (.tup x) s1 else .bad:=rfl
@[simp]theorem vx:(As:Xe ws).p env s=.ok (.dic [] []) s:=rfl
@[simp]theorem bX:(xB a).p env s=(a.p env s).bl:=rfl
@[simp]theorem Gc:(nc a).p env s=(a.p env s).bind λb s=>.ok (!b) s:=rfl
@[simp]theorem pF:(dZ a b).p env s=(a.p env s).bind λx s=>if x=I then b.p env s else .ok T s:=rfl
@[simp]theorem Dx:(Dt a b).p env s=(a.p env s).bind λx s=>if x=I then .ok I s else b.p env s:=rfl
@[simp]theorem Mo:(k6:Xt ws).p env s=.ok I s:=rfl
@[simp]theorem Mp:(lH a b).p env s=(a.p env s).bl.bind λx s=>if x=I then(b.p env s).bl.bind λy s=>.ok (.bl y) s else .ok (.bl T) s:=rfl
@[simp]theorem Mq:(pf a).p env s=(a.p env s).bl.bind λx s=>.ok (.bl (!x)) s:=rfl
@[simp]theorem Kd:(lp f g a b e).p env s=(a.p env s).bind λx s1=>(b.p env s1).bind λy s2=>match f.p x y with
  |some (.bl t)=>if t=I then(e.p env s2).bind λz s3=>.of (g.p y z) s3 else .ok (.bl T) s2
  |_=>.bad:=rfl
@[simp]theorem fx:(bx o a).p env s=(a.p env s).bind λx s1=>.of (o.p x) s1:=rfl
@[simp]theorem gK:(aG a).p env s=(a.p env s).bind λx s1=>.of x.items s1:=rfl
@[simp]theorem Qp{i:Nat}{h:ws.contains i=T}{d:D}:(i3 i h).p d env=J (env.set i (J d)):=rfl
@[simp]theorem Qq:(zi:Dv ws).p [] env=J env:=rfl
@[simp]theorem Qr:(sf a t).p (d::ds) env=(a.p d env).bind λenv1=>t.p ds env1:=rfl
@[simp]theorem Qs:(zj t n).p (.tup ds) env=if ds.length=n then t.p ds env else Y:=rfl
@[simp]theorem sw{nv:Nat}{fm:Q4}{i:Xi ws}{ws':Q4}{g:Xg ws'}{t:Xt ws'}{e:Xe ws'}{hw:Ad nv fm ws=ws'}{hz:e.fz=I}:(aI nv fm i g t e hw hz).p env s=(i.p env s).bind λds s1=>if ds.length<=100000 then (match dG g.p t.p e.p ds (vd nv fm env) s1 with
  |.ok r s2=>.ok (.lst r) s2
  |_=>.bad)else .bad:=rfl
@[simp]theorem Ke:(At:Xo ws).p env s=.ok Y s:=rfl
@[simp]theorem Kf:(Au e).p env s=(e.p env s).bind λd s=>match d with
  |.int i=>.ok (J i) s
  |_=>.bad:=rfl
@[simp]theorem Kg:(Av a lo hi).p env s=(a.p env s).bind λx s=>(lo.p env s).bind λl s=>(hi.p env s).bind λu s=>.of (H_ x l u) s:=rfl
@[simp]theorem aB:(aD a b).p env s=(a.p env s).then b.p:=rfl
@[simp]theorem Cu:(i4:Xd ws).p env s=.nx env s:=rfl
@[simp]theorem fk:(c8 e).p env s=(e.p env s).go env λd _ s=>.rt d s:=rfl
theorem jW{i:Nat}{h:ws.contains i=I}{d:D}(e:env[i]?=J (J d)):(iJ i h).p env s=.rt d s:=by show(match env[i]? with|some (J d)=>PS.rt d s|_=>.bad)=_;rw[e]
@[simp]theorem tE:(fc e).p env s=(e.p env s).go env λ_=>.nx:=rfl
@[simp]theorem fg:(t0 t a b).p env s=(t.p env s).go env λx env s=>if x=I then a.p env s else b.p env s:=rfl
@[simp]theorem cL:(bJ i e hi hz).p env s=(e.p env s).go env λd env s=>.nx (env.set i (J d)) s:=rfl
@[simp]theorem cr:(ck i e hi hz).p env s=(e.p env s).go env λd env s=>match d with
  |.lst ds=>.nx (env.set i (J (.lst ds))) s | .dic ks ds=>.nx (env.set i (J (.dic ks ds))) s
  |_=>.bad:=rfl
@[simp]theorem Kh:(gq x a).p env s=(a.p env s).go env λds env s=>if ds.length<=100000 then .rse x env s else .bad:=rfl
@[simp]theorem cH:(bY i g b hz).p env s=(i.p env s).go env λds env s=>Ae g.p b.p ds env s:=rfl
@[simp]theorem Ki:(q7 o i a hi hz).p env s=zC o i a.p env s λ_=>.nx:=rfl
theorem bA{hw}(a:ds.length=np):(cg n np b hw).p ds s=(b.p (m_ n ds) s).fin:=by show(if ds.length=np then _ else _)=_;rw[b_ a]
variable{i j:Int}{b:Bool}{x y:Q5}
@[simp]theorem fX:bq.p (.int i) (.int j)=J (.int (i+j)):=rfl
theorem ni(h:x.length+y.length<=100000):bq.p (.lst x) (.lst y)=J (.lst (x++y)):=by show(if x.length+y.length<=100000 then _ else _)=_;rw[b_ h]
@[simp]theorem mZ:cC.p (.int i) (.int j)=J (.int (i-j)):=rfl
@[simp]theorem vV:zD.p (.int i) (.int j)=J (.bl (decide (i<j))):=rfl
@[simp]theorem Oe:Oc.p (.int i) (.int j)=J (.bl (decide (i<=j))):=rfl
@[simp]theorem Of:F8.p (.int i) (.int j)=J (.bl (decide (j<i))):=rfl
@[simp]theorem kh:n4.p (.lst x) (.int j)=mw x j:=rfl
@[simp]theorem uW:n4.p (.tup x) (.int j)=mw x j:=rfl
@[simp]theorem Ge:(mY Ts).p d=(AO d).map λt=>.bl (Ts.any (dN t)):=rfl
@[simp]theorem Og:AO .non=J "NoneType":=rfl
@[simp]theorem Qt:AO (.bl b)=J "bool":=rfl
@[simp]theorem Oh:AO (.int i)=J "int":=rfl
@[simp]theorem Oi:AO (.str z)=J "str":=rfl
@[simp]theorem Oj:AO (.tup x)=J "tuple":=rfl
@[simp]theorem Gf:AO (.lst x)=J "list":=rfl
@[simp]theorem Ol:AO (.dic ks ds)=J "dict":=rfl
@[simp]theorem Mr:qi.p [.int i,.int j]=J (.int (if j<i then j else i)):=rfl
@[simp]theorem Ms:qm.p [.int i,.int j]=J (.int (if j>i then j else i)):=rfl
@[simp]theorem Gg:mU.p [.lst x]=J (.int x.length):=rfl
@[simp]theorem Om:mU.p [.tup x]=J (.int x.length):=rfl
theorem tw(h:x.length<=100000):lP.p [.lst x]=J (.lst x):=by show(if x.length<=100000 then _ else _)=_;rw[b_ h]
@[simp]theorem qj:jz.p [.lst x]=J (.tup x):=rfl
@[simp]theorem Kj:jz.p [.tup x]=J (.tup x):=rfl
theorem i5(h:-100000<=i/\i<=100000):vu.p [.int i]=J (cQ 0 i.toNat):=by show(if _ then _ else _)=_;rw[b_ h]
@[simp]theorem Oo:iE.p [.lst x]=J (iS x):=rfl
@[simp]theorem Kk:H_ (.lst x) lo hi=J (.lst (gA x lo hi)):=rfl
theorem dY(h:x.length<100000):kl.p x [a]=J (.non,x++[a]):=by show(if _ then _ else _)=_;rw[b_ h]
def fw(h:x.length+y.length<=100000):i_.p x [.lst y]=J (.non,x++y):=by show(if _ then _ else _)=_;rw[b_ h]
def vm{a:D}{i:Nat}(h:i<=x.length)(f:x.length<100000):v1.p x [.int i,a]=J (.non,x.take i++a::x.drop i):=by show(if _ then _ else _)=_;rw[b_ ⟨by ext,f⟩,xZ,C7 h]
end
section
variable{i j:Int}{b c:Bool}
def oK(a:x.canLay0=I)(f:x.depth<=64):SeqAt.shaped x=I:=by simp[SeqAt.shaped,a,f]
@[simp]theorem lm:yA neg (.int i) (.int j)=J (.bl (if neg then !decide (i=j)else decide (i=j))):=rfl
@[simp]theorem Gh:yA neg (.bl b) (.bl c)=J (.bl (if neg then !(b==c)else b==c)):=rfl
@[simp]theorem pj:xg.p a d=yA T a d:=rfl
@[simp]theorem pq:zW.p a d=yA I a d:=rfl
@[simp]theorem eE:(oF neg).p a d=F9 neg a d:=rfl
theorem eQ:∀(k:Q2),zP (k.map .int)=J (k.map .int)/\t3 (k.map .int)=0
 |[]=>⟨rfl,rfl⟩
 |i::k=>by
  obtain⟨a,b⟩:=eQ k;simp[zP,py,a,t3,up,b]
def kF:∀(f:Q3),zP (f.map kD)=J (f.map λk=>.tuple (k.map .int))/\t3 (f.map kD)<=1
 |[]=>⟨rfl,by simp[t3]⟩
 |k::f=>by
  obtain⟨a,b⟩:=kF f;obtain⟨c,d⟩:=eQ k;constructor
  .simp[zP,kD,py,a,c]
  .simp only[nt,t3,kD,up,d];lia
def oN:∀(xs:Q2),(xs.map PyData.int).any (λe=>PyData.eqv e (.int x))=decide (x∈xs)
 |[]=>by simp
 |y::ys=>by
  rw[nt,HF,oN ys]
  have:PyData.eqv (.int y) (.int x)=decide (x=y):=by simp[PyData.eqv,Bool.beq_eq_decide_eq,eq_comm]
  grind
def ib:∀(k f:Q2),PyData.eqvAll (k.map .int) (f.map .int)=decide (k=f)
 |[],[]=>by simp[PyData.eqvAll]
 |[],_::_=>by simp[PyData.eqvAll]
 |_::_,[]=>by simp[PyData.eqvAll]
 |a::k,b::f=>by
  simp only[nt,PyData.eqvAll,PyData.eqv,ib k f];by_cases z:a=b<;>simp[z]
def og:∀(a:Q3),(a.map λk=>PyData.tuple (k.map .int)).any (λe=>PyData.eqv e (.tuple (k.map .int)))=decide (k∈a)
 |[]=>by simp
 |y::ys=>by
  rw[nt,HF,og ys]
  have:PyData.eqv (.tuple (y.map .int)) (.tuple (k.map .int))=decide (y=k):=by simp only[PyData.eqv,ib]
  grind
def dn{neg:Bool}{x:Int}{d:D}{xs:Q2}(e:d.items=J (xs.map .int)):F9 neg (.int x) d=J (.bl (if neg then !decide (x∈xs)else decide (x∈xs))):=by obtain⟨a,b⟩:=eQ xs;simp only[F9,e,py,a];rw[b_ ⟨⟨by simp[up],⋯⟩,rfl,(eN xs).1⟩,oN]
def Cv{neg:Bool}{k:Q2}{d:D}{ks:Q3}(e:d.items=J (ks.map kD)):F9 neg (kD k) d=J (.bl (if neg then !decide (k∈ks)else decide (k∈ks))):=by
 obtain⟨a,b⟩:=kF ks;obtain⟨c,f⟩:=eQ k;have r:py (kD k)=J (.tuple (k.map .int)):=by simp[kD,py,c]
 have l:(up (kD k)<=60/\t3 (ks.map kD)<=60)/\(PyData.tuple (k.map .int)).canLay0=I/\PyData.canLayAll0 (ks.map λk=>.tuple (k.map .int))=I:=⟨⟨by simp[kD,up,f],⋯⟩,by simpa [PyData.canLay0]using(eN k).1,(qQ ks).1⟩;unfold F9;rw[e];dsimp only;rw[r,a];dsimp only;rw[b_ l,og]
def jb{neg:Bool}{xs ys:Q2}:yA neg (.lst (xs.map .int)) (.lst (ys.map .int))=J (.bl (if neg then !decide (xs=ys)else decide (xs=ys))):=by obtain⟨a,b⟩:=eQ xs;obtain⟨c,d⟩:=eQ ys;obtain⟨f,r⟩:=eN xs;obtain⟨l3,l⟩:=eN ys;simp only[yA,py,a,c,IB];rw[b_ ⟨⟨by simp[up,b],by simp[up,d]⟩,oK (by simpa [PyData.canLay0]using f) (by simp only[PyData.depth];lia),oK (by simpa [PyData.canLay0]using l3) (by simp only[PyData.depth];lia)⟩];simp only[PyData.eqv,ib]
end
@[simp]theorem Mt:Ae g b [] env s=.nx env s:=rfl
theorem yv(e:g d env=J env1):Ae g b (d::ds) env s=(b env1 s).turn (Ae g b ds):=by rw[Ae,e]
def bR(f:Nat->ao->e_->Prop):∀(r:Q5)(j:Nat)(env:ao)(s:e_),f j env s ->
  (∀m env s d,f (j+m) env s->r[m]?=J d->∃i a l,g d env=J i/\b i s=.nx a l/\f (j+m+1) a l)->∃a l,Ae g b r env s=.nx a l/\f (j+r.length) a l
 |[],j,env,s,B,_=>⟨env,s,rfl,B⟩
 |d::r,j,env,s,B,st=>by
  obtain⟨i,y,F,e1,e2,C⟩:=st 0 env s d B rfl;obtain⟨u,E,e3,G⟩:=bR f r (j+1) y F C λm a l x q z=>by
   have:=st (m+1) a l x (by rw[show j+(m+1)=j+1+m by lia];exact q) (by simpa using z)
   rw[show j+(m+1)+1=j+1+m+1 by lia]at this;exact this
  refine⟨u,E,?_,by rw[y_,show j+(r.length+1)=j+1+r.length by lia];exact G⟩;rw[yv e1,e2];exact e3
def ln(p:D->Bool)(f:D->D):∀(l:Q5)(j:ao),j.length=nv ->
  (∀x∈l,∀j:ao,j.length=nv->∃a:ao,a.length=nv/\g x (j++fr)=J (a++fr)/\t (a++fr) s=.ok (p x) s/\(p x=I->e (a++fr) s=.ok (f x) s))->dG g t e l (j++fr) s=.ok ((l.filter p).map f) s
 |[],j,hv,i=>rfl
 |x::l,j,hv,i=>by
  obtain⟨a,r,e1,e2,e3⟩:=i x (by simp) j hv;have z:=ln p f l a r λy B=>i y (l_ _ B);rw[dG,e1];dsimp only;rw[e2]
  cases u:p x with
  |true=>simp only[Pb,if_true,e3 u,z,Ps u,nt]
  |false=>simp only[Pb,o0,if_false,z,Pt (show ¬p x=I by simp[u])]
def l0{z a:Q4}{env:ao}{s:e_}{u:Nat}{fm:Q4}{i:Xi z}{g:Xg a}{t:Xt a}{e:Xe a}{C:Ad u fm z=a}{F:e.fz=I}{l:Q5}(p:D->Bool)(f:D->D)(E:i.p env s=.ok l s)(B:l.length<=100000)(r:∀x∈l,∀y:ao,y.length=u->∃j:ao,j.length=u/\g.p x (y++fm.map λi=>(env[i]?).getD Y)=J (j++fm.map λi=>(env[i]?).getD Y)/\t.p (j++fm.map λi=>(env[i]?).getD Y) s=.ok (p x) s/\(p x=I->e.p (j++fm.map λi=>(env[i]?).getD Y) s=.ok (f x) s)):
  (aI u fm i g t e C F).p env s=.ok (.lst ((l.filter p).map f)) s:=by
 rw[sw,E,Pb,b_ B];unfold vd;rw[ln p f l _ (by simp) r]
def fO{ws ws':Q4}{env:ao}{s:e_}{fm:Q4}{i:Xi ws}{t:Xt ws'}{e:Xe ws'}{ds:Q5}(p:D->Bool)(f:D->D)(r:i.p env s=.ok ds s)(j:ds.length<=100000)(a:∀x∈ds,t.p (J x::fm.map λi=>(env[i]?).getD Y) s=.ok (p x) s/\(p x=I->e.p (J x::fm.map λi=>(env[i]?).getD Y) s=.ok (f x) s))(B:ws'.contains 0=T:=by exact ys rfl)(l:Ad 1 fm ws=ws':=by exact ys rfl)(u:e.fz=I:=by exact ys rfl):
  (aI 1 fm i (i3 0 B) t e l u).p env s=.ok (.lst ((ds.filter p).map f)) s :=
 l0 p f r j λx z y hv=>match y,hv with
  |[_],_=>⟨[J x],rfl,rfl,a x z⟩
def mq{ws ws':Q4}{env:ao}{s:e_}{fm:Q4}{i:Xi ws}{t:Xt ws'}{e:Xe ws'}{ds:Q5}(p:D->Bool)(f:D->D)(r:i.p env s=.ok ds s)(l:ds.length<=100000)(j:∀x∈ds,∃a b,x=.tup [a,b]/\t.p (J a::J b::fm.map λi=>(env[i]?).getD Y) s=.ok (p x) s/\(p x=I->e.p (J a::J b::fm.map λi=>(env[i]?).getD Y) s=.ok (f x) s))(B:ws'.contains 0=T:=by exact ys rfl)(z:ws'.contains 1=T:=by exact ys rfl)(hw:Ad 2 fm ws=ws':=by exact ys rfl)(hz:e.fz=I:=by exact ys rfl):
  (aI 2 fm i (zj (sf (i3 0 B) (sf (i3 1 z) zi)) 2) t e hw hz).p env s=.ok (.lst ((ds.filter p).map f)) s :=
 l0 p f r l λx y u hv=>match u,hv with
  |[_,_],_=>let⟨a,b,e,q⟩:=j x y;⟨[J a,J b],rfl,by subst e;rfl,q⟩
def fi{α:Type}(l:List α):(l.filter λ_=>I)=l:=List.filter_eq_self.mpr (by simp)
def IsT(n:Int)(k:Q2):Prop:=∃a b:Int,k=[a,b]/\0<=a/\a<n/\0<=b/\b<n/\a≠b
def uI:Q2->Q2
 |[a,b]=>[if b<a then b else a,if b>a then b else a]
 |k=>k
structure lG(n:Int)(ks:Q3):Prop where
 n0:0<=n
 n12:n<=12
 tie:∀k∈ks,∃a b:Int,k=[a,b]/\0<=a/\a<b/\b<n
 ris:SortT.B8 ks
 nd:ks.Nodup
def Gi:Q3:=(List.range 12).flatMap λb=>(List.range b).map λ(a:Nat)=>[(a:Int),(b:Int)]
def xn:Gi.length=66:=by decide
def xS(j:n<=12)(f:0<=a)(i:a<b)(l:b<n):[a,b]∈Gi:=by
 unfold Gi;rw[DO];refine⟨b.toNat,by simp;lia,?_⟩;rw[n6];refine⟨a.toNat,by simp;lia,?_⟩;congr 1
 .lia
 .lia
def uf{n:Int}{f:Q3}(l:n<=12)(y:∀k∈f,∃a b:Int,k=[a,b]/\0<=a/\a<b/\b<n)(nd:f.Nodup):f.length<=66:=by rw[<-xn];refine List.Nodup.length_le_of_subset nd λk i=>?_;obtain⟨a,b,rfl,j,u,r⟩:=y k i;exact xS l j u r
def Gj(h:a<b):uI [a,b]=[a,b]:=by simp[uI,show ¬b<a by lia,show b>a from h]
def Gk(h:b<a):uI [a,b]=[b,a]:=by simp[uI,h,show ¬b>a by lia]
def below(v:Int)(f:Q3):Q2:=f.filterMap λk=>match k with|[a,b]=>if b=v then J a else Y|_=>Y
def above(v:Int)(f:Q3):Q2:=f.filterMap λk=>match k with|[a,b]=>if a=v then J b else Y|_=>Y
def j_(n:Nat):Q2:=(List.range n).map λ(i:Nat)=>(i:Int)
def cS:i∈j_ n↔0<=i/\i<n:=by
 unfold j_;rw[n6];constructor
 .rintro⟨k,f,rfl⟩;rw[IC]at f;lia
 .intro ⟨a,b⟩;exact⟨i.toNat,by rw[IC];lia,⋯⟩
def sG(n:Nat):(j_ n).Nodup:=by exact List.Pairwise.map _ (λa b h=>by lia) Lx
def df(h:0<=i):∃n:Nat,i=(n:Int):=⟨i.toNat,⋯⟩
def lK(w:lG n C):(below v C++above v C).Nodup/\∀x∈below v C++above v C,0<=x/\x<n:=by
 have G:∀x,x∈below v C->0<=x/\x<v/\x<n:=λx f=>by
  obtain⟨k,l,e⟩:=C5.mp f;obtain⟨a,b,rfl,_,lt,_⟩:=w.tie k l;by_cases z:b=v
  .simp[z]at e;subst e;lia
  .simp[z]at e
 have F:∀x,x∈above v C->0<=x/\v<x/\x<n:=λx f=>by
  obtain⟨k,l,e⟩:=C5.mp f;obtain⟨a,b,rfl,_,lt,_⟩:=w.tie k l;by_cases z:a=v
  .simp[z]at e;subst e;lia
  .simp[z]at e
 refine⟨?_,λx f=>?_⟩
 .rw[zR];refine⟨?_,?_,λx f y i=>?_⟩
  .unfold below List.Nodup;rw[MN];refine List.Pairwise.imp_of_mem (λ{k E} l B r x f y i=>?_) w.nd;obtain⟨a,b,rfl,_⟩:=w.tie k l;obtain⟨c,d,rfl,_⟩:=w.tie E B;by_cases u:b=v
   .by_cases j:d=v
    .simp[u]at f;simp[j]at i;subst f i;rintro rfl;exact r (by rw[u,j])
    .simp[j]at i
   .simp[u]at f
  .unfold above List.Nodup;rw[MN];refine List.Pairwise.imp_of_mem (λ{k E} l B r x f y i=>?_) w.nd;obtain⟨a,b,rfl,_⟩:=w.tie k l;obtain⟨c,d,rfl,_⟩:=w.tie E B;by_cases u:a=v
   .by_cases j:c=v
    .simp[u]at f;simp[j]at i;subst f i;rintro rfl;exact r (by rw[u,j])
    .simp[j]at i
   .simp[u]at f
  .have:=G x f
   have:=F y i
   lia
 .rcases mh.mp f with q|q
  .have:=G x q;lia
  .have:=F x q;lia
def bz(ns:Q2)(j:Nat):Q3:=(List.range j).flatMap λi=>(ns.drop (i+1)).map λb=>[ns.getD i 0,b]
def pJ:bz ns (j+1)=bz ns j++(ns.drop (j+1)).map λb=>[ns.getD j 0,b]:=by simp[bz,List.range_succ]
def i6(a:ns.length<=12):∀(j:Nat),(bz ns j).length<=12*j
 |0=>by simp[bz]
 |j+1=>by
  have:=i6 a j
  rw[pJ,v3,n_,DM];lia
noncomputable section
def iF:D->Option Bool
 |.non=>J T
 |.bl b=>J b
 |.int i=>J (i != 0)
 |.tup xs=>J (!xs.isEmpty)
 |.lst xs=>J (!xs.isEmpty)
 |_=>Y
def Rps.empty(r:Rps p h O a vs):vs.isEmpty=a.isEmpty:=by
 cases a with
 |nil=>rw[show vs=[]from r];rfl
 |cons d a=>obtain⟨x,t,e,_⟩:=r;rw[e];rfl
def qH(w:Vw q h L O d v)(e:iF d=J b):kC h v=J b:=by
 cases d with
 |non=>cases e;rw[w.non];rfl
 |bl c=>cases e;rw[w.bl];rfl
 |int c=>cases e;rw[w.int];rfl
 |tup c=>cases e;obtain⟨xs,rfl,r⟩:=w.tup;rw[kC,r.empty]
 |lst c=>cases e;obtain⟨n,xs,rfl,g,r⟩:=w.lst;simp only[kC,g];rw[r.empty]
 |_=>cases e
section
variable{ws:Q4}
def Gm(a:Xe ws):Xt ws where
 m:=Qc a.m
 p:=λenv s=>(a.p env s).bind λd s=>.of (iF d) s
 ok {q h L B O Z env s} c:=by
  refine(a.ok c).bind λx v i j l f ⟨w,_,_⟩=>?_
  cases e:iF x with
  |none=>trivial
  |some b=>rw[qH w e];exact⟨b,i,rfl,KB.refl _ _,f,rfl⟩
structure OpR where
 m:Nat->Q0->MH->RN
 p:Q5->Q5->RU
 ok:∀{q:Nat}{h:MH}{L:Nat}{O:Q4}{n:Nat}{xs:Q0}{ds as:Q5}{vs:Q0}{d:D},h[n]?=J (.lst xs)->Rps q h O ds xs->Vws q h L O as vs->p ds as=J d->∃v,m n vs h=.ok v h/\Rp q h O d v/\∀k es,d≠dl k es
end
section
variable{ws:Q4}{env:ao}{s:e_}
@[simp]theorem Qu:(Gm a).p env s=(a.p env s).bind λd s=>.of (iF d) s:=rfl
end
end
noncomputable section
section
variable{ws:Q4}{env:ao}{s:e_}
end
end
noncomputable section
section
variable{ws:Q4}
end
end
noncomputable section
variable{ws:Q4}
end
end PU
namespace MM
open PySem.Spec PyProof.Rows L2
end MM
namespace PU
open MM
end PU
namespace MM
open PySem.Spec PyProof.Rows L2
abbrev Qw(scope sc:Scope)(vars frees:Q1):Prop:=(∀y∈scope.names,y.2=.cell->scope.names.lookup y.1=J .cell)/\(∀y∈scope.names,y.2=.local->scope.names.lookup y.1=J .local)/\(∀x∈vars,scope.names.lookup x=J .local\/scope.names.lookup x=J .cell)/\(∀x∈frees,scope.names.lookup x=J .free)/\(∀y∈scope.names,y.2=.free->y.1∈frees)/\(∀x∈frees,sc.names.lookup x=J .cell)
def Kl(a f:Scope):Scope:={ a with names:=a.names.map λ(n,k)=>if(k == .free&&f.kind == .function&&f.names.lookup n==J .cell)then(n,.cell)else(n,k)}
def wW{a f:Scope}{env:Env}(h:env.scope=f):relabel a env=Kl a f:=by subst h;rfl
def sP{X:Cx}{N:Q1}{a j:Scope}{f frees:Q1}{fm:Q4}(AL:X.env.scope=j)(l:a.kind=.function)(r:fm.map (λi=>N[i]?)=frees.map J)(h:Qw a j f frees):wr X N a f frees fm :=
 Fc AL l h.1 h.2.1 h.2.2.1 h.2.2.2.1 h.2.2.2.2.1 r h.2.2.2.2.2
def Op{Q:Q7->Prop}(h:∀f,Q [f]):∀a,a.length=1->Q a
 |[_],_=>h _
def Qx{Q:Q7->Prop}(h:∀f i,Q [f,i]):∀a,a.length=2->Q a
 |[_,_],_=>h _ _
def Qy{Q:Q7->Prop}(h:∀f i j,Q [f,i,j]):∀a,a.length=3->Q a
 |[_,_,_],_=>h _ _ _
def Qz{Q:Q7->Prop}(h:∀f i j l,Q [f,i,j,l]):∀a,a.length=4->Q a
 |[_,_,_,_],_=>h _ _ _ _
abbrev Zn(K:g_)(x:Str):Prop:=PySem.W.nsIn K mainGlobals x=J Y
abbrev Nn(X:Cx)(x:Str):Prop:=X.mg x=Y
abbrev Sc(X:Cx)(s:Stmt):Prop:=X.env.scope=af s
abbrev Gd(X:Cx)(N G:Q1)(k:Nat):Prop:=Good X N N G k
structure Ba(P:Program)(w:World)(K:g_)(mg:RT)(base:Heap):Prop where
 kin:K.In base
 ns:base.Ns mainGlobals mg
structure EE(X:Cx)(P:Program)(w:World)(K:g_)(mg:RT)(base:Heap):Prop where
 e1:X.prog=P
 e2:X.w=w
 e3:X.K=K
 e4:X.mg=mg
 e5:X.base=base
 b:Ba P w K mg base
section
variable{P:Program}{w:World}{K:g_}{mg:RT}{base:Heap}{X:Cx}
def EE.n(e:EE X P w K mg base){x:Str}(z:Zn K x):Nn X x:=by show X.mg x=Y;rw[e.e4];exact PySem.W.mg_none_of e.b.kin e.b.ns z
def FnAt.c{x:Str}{f:Q1}{F:Q0->MH->RN}{i j:Nat}(a:FnAt P w K mg base x f F i)(e:EE X P w K mg base)(h:i<=j:=by decide):AK X x f F j :=
 (a.mono h).cal e.e1 e.e2 e.e3 e.e4 e.e5
def Oq{x:Str}{st:Stmt}{N G ps:Q1}{m:nw}{k:Nat}(b:Ba P w K mg base)(D:f_ K x st)(i:∀X:Cx,EE X P w K mg base->Sc X st->Gd X N G k->j3 X->zx X (aJ st) m)(B:ic x st ps:=by first | exact λ_ _ _ _ _ _=>Op λ_=>rfl | exact λ_ _ _ _ _ _=>Qx λ_ _=>rfl | exact λ_ _ _ _ _ _=>Qy λ_ _ _=>rfl | exact λ_ _ _ _ _ _=>Qz λ_ _ _ _=>rfl | exact λ_ _ _ _ _ _=>ar5 λ_ _ _ _ _=>rfl)(S:qw N ps (af st):=by exact⟨rfl,rfl,rfl,by decide +kernel,rfl,by decide +kernel,by decide +kernel⟩)(f:∀y∈N,(af st).names.lookup y=J .local\/(af st).names.lookup y=J .cell:=by decide +kernel)(a:∀y∈G,(af st).names.lookup y=J .globalImplicit:=by decide +kernel)(dbg:∀x∈N++G,(x==("__debug__":Str))=T/\(x==("__classdict__":Str))=T/\x≠"__name__":=by decide +kernel):
  FnAt P w K mg base x ps (dR N.length ps.length m) (k+1) :=
 v5 b.kin b.ns D S B f a dbg λX e1 e2 e3 e4 e5 l g j=>i X ⟨e1,e2,e3,e4,e5,b⟩ l g j
end
structure YE(Y X:Cx):Prop where
 e1:Y.prog=X.prog
 e2:Y.w=X.w
 e3:Y.K=X.K
 e4:Y.mg=X.mg
 e5:Y.base=X.base
section
variable{X Y:Cx}{N W G:Q1}{k:Nat}{x:Str}{p pos:Pos}{e:Expr}{es:RM}{m:Mx (Q0)}{f:Q0->MH->RN}
def kV(g:Good X N W G k)(i:Nat)(a:N[i]?=J x:=by rfl):ME X (.Name x pos) (ah i):=vI g i a
def QW(g:Good X N W G k)(i:Nat)(a:N[i]?=J x:=by rfl)(j:W[i]?=J x:=by rfl):MG X (.Name x pos) (EY i):=tK g i a j
def Aw{a b:Expr}{i j:Mx PV}(l:ME X a i)(u:ME X b j)(r:kc b:=by exact λ_ _=>rfl):ME X (.Subscript a b pos) (av bO i j):=Di l u r
def Gn{i:CmpOp}{f:PV->PV->MH->RN}{a b:Expr}{j l:Mx PV}(r:u7 X (compareOp i) f)(y:ME X a j)(z:ME X b l)(u:behindInMarks i b=T:=by first | exact Ai _ | rfl):MT X (.Compare a [i] [b] pos) (mB (av f j l)):=wV r y z u
def Go(g:Good X N W G k)(j:Nat){i:Q1}{F:Q0->MH->RN}(C:AK X x i F k)(r:MA X (e::es) m)(l:G[j]?=J x:=by rfl)(u:starEach (e::es) X.env=(T,eval e X.env)::starEach es X.env:=by rfl)(a:(backTo pos (starEach es X.env)).any (·.1)=T:=by rfl):ME X (.Call (.Name x p) (e::es) [] pos) (cD F m):=ng g l C r u a
def Ax{id:String}(g:Good X N W G k)(j:Nat)(i:bG X (.builtin id) f)(l:X.mg x=none)(hv:bootBuiltins x=J (.builtin id))(r:MA X (e::es) m)(u:G[j]?=J x:=by rfl)(y:starEach (e::es) X.env=(T,eval e X.env)::starEach es X.env:=by rfl)(a:(backTo pos (starEach es X.env)).any (·.1)=T:=by rfl):ME X (.Call (.Name x p) (e::es) [] pos) (uj f m):=rf g j u i l hv r y a
def QA{a:String}(g:Good X N W G k)(j:Nat)(l:bG X (.type a) f)(r:X.mg x=none)(hv:bootBuiltins x=J (.type a))(u:MA X (e::es) m)(y:G[j]?=J x:=by rfl)(z:starEach (e::es) X.env=(T,eval e X.env)::starEach es X.env:=by rfl)(i:(backTo pos (starEach es X.env)).any (·.1)=T:=by rfl):ME X (.Call (.Name x p) (e::es) [] pos) (uj f m):=nX g j y l r hv u z i
def QX{r a:Expr}(g:Good X N W G k)(j:Nat)(l:X.mg "range"=none)(y:MA X [a] m)(u:G[j]?=J "range":=by rfl)(i:starEach [a] X.env=[(T,eval a X.env)]:=by rfl):MI X r (.Call (.Name "range" p) [a] [] pos) (jS m):=nQ (g.gl _ (aL u)) l y i
section
variable{tg iter elt:Expr}{ifs:RM}{scope sc:Scope}{mi:Mx MIt}{gt:Mg}{mt:Mx Bool}{me:Mx PV}
end
end
abbrev wQ:=@PyProof.Rows.Boot.«abs»
abbrev lY:=@PyProof.Rows.Boot.«min»
abbrev wt:=@PyProof.Rows.Boot.«max»
abbrev Gq:=@PyProof.Rows.Boot.«int»
abbrev mf:=@PyProof.Rows.Boot.«len»
abbrev io:=@PyProof.Rows.Boot.«list»
abbrev xE:=@PyProof.Rows.Boot.«tuple»
abbrev jV:=@PyProof.Rows.Boot.«repr»
abbrev Gr:=@PyProof.Rows.Boot.«any»
abbrev we:=@PyProof.Rows.Boot.«sorted»
abbrev Cw:=@PyProof.Rows.Boot.«bool»
abbrev jv:=@PySem.F.slot_list_append
abbrev js:=@PySem.F.type_list_append
abbrev wu:=@PySem.F.slot_list_extend
abbrev vg:=@PySem.F.type_list_extend
abbrev vw:=@PySem.F.slot_list_pop
abbrev wN:=@PySem.F.type_list_pop
abbrev vN:=@PySem.F.slot_list_insert
abbrev wz:=@PySem.F.type_list_insert
end MM
namespace PU
open MM
open L2 (vv mw gG)
noncomputable section
section
variable{ws:Q4}
end
end
noncomputable section
def Ia(a b:D):RU:=match a,b with
 |.lst xs,.lst ys=>if xs.length≠ys.length then J (.bl T)else yA T a b
 |_,_=>yA T a b
def Cy{x y:PV}{h:MH}(e:Ce h x=Y):qb x y h=tx x y h:=by simp only[qb,e]
def Cz{x y:PV}{h:MH}(e:Ce h y=Y):qb x y h=tx x y h:=by simp only[qb,e];cases Ce h x<;>rfl
def wK{q:Nat}{h:MH}{L:Nat}{O:Q4}{d:D}{v:PV}{u:PyData}(w:Vw q h L O d v)(e:py d=J u)(f:∀a,d≠.lst a):Ce h v=Y:=by
 cases d with
 |non=>rw[w.non];rfl
 |bl b=>rw[w.bl];rfl
 |int b=>rw[w.int];rfl
 |str b=>rw[w.str];rfl
 |tup b=>obtain⟨xs,rfl,_⟩:=w.tup;rfl
 |lst a=>exact absurd rfl (f a)
 |_=>cases e
def lh:xQ where
 m:=qb
 p:=Ia
 fr:=I
 ok {q h L O a x b y d} bd wa wb e:=by
  have f:yA T a b=J d->qb x y h=tx x y h->Gv q h O I (qb x y h) d:=λe1 e2=>by
   rw[e2];exact xg.ok bd wa wb e1
  by_cases j:∃xs,a=.lst xs
  .obtain⟨xs,rfl⟩:=j;by_cases l:∃i,b=.lst i
   .obtain⟨i,rfl⟩:=l;obtain⟨n,E,rfl,g,r⟩:=wa.lst;obtain⟨m,C,rfl,F,B⟩:=wb.lst;have G:=r.length;have H:=B.length;have u:qb (.loc n) (.loc m) h=if E.length≠C.length then .ok (.bl T) h else tx (.loc n) (.loc m) h:=by simp only[qb,Ce,g,F]
    unfold Ia at e;dsimp only at e;by_cases z:xs.length≠i.length
    .rw[b_ z]at e;cases e;rw[u,b_ ⋯];exact vl
    .rw[d_ z]at e;exact f e (by rw[u,d_ ⋯])
   .have e1:yA T (.lst xs) b=J d:=by
     cases b with
     |lst i=>exact absurd ⟨i,rfl⟩ l
     |_=>exact e
    obtain⟨_,_,_,e3,_⟩:=iw e1;exact f e1 (Cz (wK wb e3 λi z=>l ⟨i,z⟩))
  .have e1:yA T a b=J d:=by
    cases a with
    |lst xs=>exact absurd ⟨xs,rfl⟩ j
    |_=>exact e
   obtain⟨_,_,e3,_⟩:=iw e1;exact f e1 (Cy (wK wa e3 λi z=>j ⟨i,z⟩))
def Gu{xs a:Q5}(h:xs.length≠a.length):lh.p (.lst xs) (.lst a)=J (.bl T):=by show Ia (.lst xs) (.lst a)=_;unfold Ia;dsimp only;rw[b_ h]
def Gw{xs a:Q5}(h:xs.length=a.length):lh.p (.lst xs) (.lst a)=yA T (.lst xs) (.lst a):=by show Ia (.lst xs) (.lst a)=_;unfold Ia;dsimp only;rw[d_ (by simpa using h)]
end
noncomputable section
def Ot:yx where
 k:=λl i=>match l with
  |[x]=>(match (cm i x).bind dO with
   |some ns=>if ns.length<=1000 then .ok (.int (wx ns)) i else .bad
   |none=>.bad)
  |_=>.bad
 p:=λa=>match a with
  |[.lst f]=>(bo f).bind λns=>if ns.length<=1000 then J (.int (wx ns))else Y
  |_=>Y
 fr:=I
 ok {q h L O a xs d} bd w e:=by
  match a,e with
  |[.lst f],e =>
   obtain⟨x,rfl,u⟩:=dS w;obtain⟨y,j,r⟩:=u.lstOf;rw[AC]at e;obtain⟨ns,e1,e2⟩:=e;by_cases z:ns.length<=1000
   .rw[b_ z]at e2;cases e2;simp only[j,zS,dr r e1,jD];rw[b_ z];exact AN
   .rw[d_ z]at e2;cases e2
def Km{ns:Q2}(h:ns.length<=1000):Ot.p [.lst (ns.map .int)]=J (.int (wx ns)):=by
 have e:∀ns:Q2,bo (ns.map .int)=J ns:=λns=>by
  induction ns with
  |nil=>rfl
  |cons i k a=>rw[nt,bo,a];rfl
 show(bo (ns.map .int)).bind _=_;rw[e,zS,b_ h]
end
def CA{ns:Q2}:wx ns=ns.length↔ns.Nodup:=by
 have key:∀j,j<=ns.length->(∀k,k∈PyProof.Rows.firstMet (λi=>ns.getD i 0) j↔k∈ns.take j)/\((PyProof.Rows.firstMet (λi=>ns.getD i 0) j).length=j↔(ns.take j).Nodup):=by
  intro j
  induction j with
  |zero=>simp[PyProof.Rows.firstMet_zero]
  |succ j E =>
   intro G;obtain⟨a,b⟩:=E ⋯;have r:j<ns.length:=by lia
   have B:ns.take (j+1)=ns.take j++[ns[j]]:=by simp
   have l:ns.getD j 0=ns[j]:=by simp[r]
   have F:(PyProof.Rows.firstMet (λi=>ns.getD i 0) j).any (· == ns.getD j 0)=decide (ns[j]∈ns.take j):=by rw[Bool.eq_iff_iff,Lz,decide_eq_true_iff,<-a,l];exact⟨λ⟨x,f,e⟩=>by rw[<-eq_of_beq e];exact f,λh=>⟨_,h,by simp⟩⟩
   have C:=PyProof.Rows.firstMet_length_le (λi=>ns.getD i 0) j;rw[PyProof.Rows.firstMet_succ,B];constructor
   .intro k
    have:=PyProof.Rows.step_any (PyProof.Rows.firstMet (λi=>ns.getD i 0) j) (ns.getD j 0) k
    rw[Bool.eq_iff_iff,Lz,Bool.or_eq_true,Lz,decide_eq_true_iff,l]at this;rw[mh,AF,<-a];constructor
    .intro h;rw[l]at h;rcases this.mp ⟨k,h,by simp⟩with⟨x,f,e⟩|e
     .rw[<-eq_of_beq e];exact .inl f
     .exact .inr e
    .intro h;obtain⟨x,f,e⟩:=this.mpr (h.imp (λh=>⟨k,h,by simp⟩) id);rw[l,<-eq_of_beq e];exact f
   .rw[PyProof.Rows.step_length,F,zR];by_cases z:ns[j]∈ns.take j
    .exact⟨λh=>by lia,λh=>absurd rfl (h.2.2 _ z _ (by simp))⟩
    .simp only[z,decide_false,o0];constructor
     .intro h
      exact⟨b.mp ⋯,by simp,λx f y u e=>z (by
       have:y=ns[j]:=by simpa using u
       rw[<-this,<-e];exact f)⟩
     .intro h;lia
 have:=(key ns.length (ii _)).2
 rw[AU]at this;exact this
section
variable{ws:Q4}
end
end PU
namespace PU
open MM L2
def Mu{ws ws':Q4}(i:Nat)(b:Xd ws')(U:ws.contains i=I:=by exact ys rfl)(S:ws.filter (· != i)=ws':=by exact ys rfl):Xd ws where
 m:=b.m
 p:=λenv s=>match env[i]? with
  |some (J _)=>(match b.p env s with|.rt d s=>.rt d s|_=>.bad)
  |_=>.bad
 fr:=b.fr
 ok {q h L B O Z env s} c d:=by
  show SOk q L h B O ws b.fr (b.m Z h) (match env[i]? with|some (J _)=>(match b.p env s with|.rt d s=>PS.rt d s|_=>.bad)|_=>.bad)
  cases e:env[i]? with
  |none=>trivial
  |some o =>
   cases o with
   |none=>trivial
   |some x =>
    have E:i∈ws:=by simpa using U
    obtain⟨n,W,xs,ds,e1,e2,a,bb,g,r⟩:=c.sr.ow i x e E;have F:∀j,j∈ws'↔j∈ws/\j≠i:=λj=>by rw[<-S];simp
    have mo:∀o,o∈O.filter (· != n)↔o∈O/\o≠n:=λo=>by simp
    have mv:Mv O h (O.filter (· != n)) h:=⟨λ_ _ _=>rfl,λo l=>.inl ((mo o).mp l).1⟩;have X:Cx q h L B (O.filter (· != n)) ws' Z env s:=by
     refine⟨λo l=>c.bd o ((mo o).mp l).1,λo l=>(mo o).mpr ⟨c.sub o l,λz=>by have:=c.bb o l;lia⟩,c.bb,c.pb,c.hL,c.pen,c.sr.len,λj y f u=>?_,λj y f u=>?_⟩
     .by_cases z:j=i
      .subst z;rw[e]at f;cases f;subst e1;refine⟨_,e2,?_⟩;cases W<;>exact⟨n,xs,rfl,λz=>((mo n).mp z).2 rfl,g,r.mv mv⟩
      .obtain⟨v,e3,q⟩:=c.sr.fz j y f λz'=>u ((F j).mpr ⟨z',z⟩);exact⟨v,e3,q.mv mv⟩
     .obtain⟨C,M⟩:=(F j).mp u;obtain⟨P,k',G,H,e3,e4,a',b',g',R⟩:=c.sr.ow j y f C;refine⟨P,k',G,H,e3,e4,(mo P).mpr ⟨a',λz=>?_⟩,b',g',R.mv mv⟩;subst z;exact d i j E C (Ne.symm M) x y _ e f e2 e4
    have Q:Dis ws' Z env:=λj k u hk=>d j k ((F j).mp u).1 ((F k).mp hk).1;have k:=b.ok X Q
    cases ep:b.p env s with
    |rt d s=>rw[ep]at k;exact k
    |_=>trivial
def Kn{f a:Q4}{i:Nat}{b:Xd a}{j:f.contains i=I}{l:f.filter (· != i)=a}{env:ao}{s s':e_}{x d:D}(e:env[i]?=J (J x))(h:b.p env s=.rt d s'):(Mu i b j l).p env s=.rt d s':=by show(match env[i]? with|some (J _)=>(match b.p env s with|.rt d s=>PS.rt d s|_=>.bad)|_=>.bad)=_;rw[e,h]
def zk:Af where
 m:=o8
 p:=λa i=>match i,a with
  |[.int 0],d::r=>J (d,r)
  |_,_=>Y
 ok {q h O n xs a i vs d ds'} g r f e:=by
  match i,a,r,f,e with
  |[.int 0],d::l,r,f,e =>
   cases e;obtain⟨x,t,rfl,B,b⟩:=f
   have:t=[]:=b
   subst this;rw[show x=PV.int 0 from B];obtain⟨y,u,rfl,z,j⟩:=r;exact⟨y,u,by simp only[o8,g],j,z⟩
noncomputable section
def Ib{q:Nat}{h:MH}{O:Q4}{fr:Bool}{x:Str}:Gv q h O fr (.ok (.str x) h) (.str x):=F6 rfl λ_ k _ e=>by cases k<;>cases e
def lc(d:D):Option Str:=match d with
 |.non=>J "None"
 |.bl b=>J (if b then "True" else "False")
 |.int i=>if i.natAbs.log2<1920 then J (toString i)else Y
 |.str x=>if(reprText x).length<=sizeLine then J (reprText x)else Y
 |.tup a=>(match py (.tup a) with
  |some e=>if up (.tup a)<=60/\e.showable=I/\e.shown.length<=sizeLine then J e.shown else Y
  |none=>Y)
 |.lst a=>(match py (.lst a) with
  |some e=>if up (.lst a)<=60/\e.showable=I/\e.shown.length<=sizeLine then J e.shown else Y
  |none=>Y)
 |_=>Y
def jT:yx where
 k:=λxs h=>(kx xs h).ne
 p:=λB=>match B with
  |[d]=>(lc d).map .str
  |_=>Y
 fr:=I
 ok {q h L O B xs d} bd w e:=by
  match B,e with
  |[a],e =>
   obtain⟨x,rfl,f⟩:=dS w;rw[ub]at e;obtain⟨u,e1,rfl⟩:=e
   cases a with
   |non=>cases e1;rw[f.non];exact Ib
   |bl b=>cases e1;rw[f.bl];exact Ib
   |int i =>
    rw[f.int];unfold lc at e1;by_cases z:i.natAbs.log2<1920
    .dsimp only at e1;rw[b_ z]at e1;cases e1;show Gv q h O I (kx [.int i] h).ne _;simp only[kx];rw[b_ z];exact Ib
    .dsimp only at e1;rw[d_ z]at e1;cases e1
   |str y =>
    rw[f.str];unfold lc at e1;by_cases z:(reprText y).length<=sizeLine
    .dsimp only at e1;rw[b_ z]at e1;cases e1;show Gv q h O I (kx [.str y] h).ne _;simp only[kx];rw[b_ z];exact Ib
    .dsimp only at e1;rw[d_ z]at e1;cases e1
   |dic E r=>cases e1
   |tup r =>
    unfold lc at e1;dsimp only at e1
    cases l:py (.tup r) with
    |none=>rw[l]at e1;cases e1
    |some t =>
     rw[l]at e1;dsimp only at e1;by_cases z:up (.tup r)<=60/\t.showable=I/\t.shown.length<=sizeLine
     .rw[b_ z]at e1;cases e1;have j:=i8 f l z.1;obtain⟨C,rfl,_⟩:=f.tup;show Gv q h O I (kx [.tup C] h).ne _;simp only[kx,ze,j];rw[b_ z.2];exact Ib
     .rw[d_ z]at e1;cases e1
   |lst r =>
    unfold lc at e1;dsimp only at e1
    cases l:py (.lst r) with
    |none=>rw[l]at e1;cases e1
    |some t =>
     rw[l]at e1;dsimp only at e1;by_cases z:up (.lst r)<=60/\t.showable=I/\t.shown.length<=sizeLine
     .rw[b_ z]at e1;cases e1;have j:=i8 f l z.1;obtain⟨n,C,rfl,g,_⟩:=f.lst;show Gv q h O I (kx [.loc n] h).ne _;simp only[kx,g,ze,j];rw[b_ z.2];exact Ib
     .rw[d_ z]at e1;cases e1
   |_=>cases e1
def Gx:xQ where
 m:=uG
 p:=λa b=>match a,b with
  |.str x,.str y=>J (.bl (x.cps.toList != y.cps.toList))
  |a,b=>yA I a b
 fr:=I
 ok {q h L O a x b y d} bd wa wb e:=by
  by_cases z:∃u v,a=.str u/\b=.str v
  .obtain⟨u,v,rfl,rfl⟩:=z;cases e;rw[wa.str,wb.str];exact vl
  .have e1:yA I a b=J d:=by
    revert e;split
    .exact absurd ⟨_,_,rfl,rfl⟩ z
    .exact id
   have k:=zW.ok bd wa wb e1
   have:uG x y h=wh x y h:=by
    unfold uG;split
    .exfalso;obtain⟨C,B,i,j,_⟩:=iw e1;have f:∀{a:D}{s:Str}{p:PyData},Vw q h L O a (.str s)->py a=J p->∃u,a=.str u:=λ{a s p} w r=>by
      cases a with
      |str u=>exact⟨u,rfl⟩
      |non=>cases w.non
      |bl b=>cases w.bl
      |int b=>cases w.int
      |tup b=>obtain⟨xs,e,_⟩:=w.tup;cases e
      |lst b=>obtain⟨n,xs,e,_⟩:=w.lst;cases e
      |_=>cases r
     obtain⟨u,l⟩:=f wa i;obtain⟨v,hv⟩:=f wb j;exact z ⟨u,v,l,hv⟩
    .rfl
   rw[this];exact k
def n8{x:Str}:Gx.p (.str x) (.str x)=J (.bl T):=by show J (D.bl (x.cps.toList != x.cps.toList))=_;simp
end
end PU
namespace MM
open PySem.Spec PyProof.Rows L2
open PU (Xe Xs Xt Xi Xg Dv Xo Xd Mj xQ yx Mk Af OpR Fn aa xC ae zO a_ ac n7 az lT cj aS As xB nc dZ Dt k6 lH pf lp aI bx aG i3 zi sf zj aD i4 c8 iJ fc t0 bJ ck gq bY F5 q7 jl cg At Au Av Gm Mu)
structure zX(X:Cx)(e:Expr)(m:Mx Bool):Prop where
 h:MT X e m
structure Gy(X:Cx)(e:Expr)(m:Mx Bool):Prop where
 h:MW X e m
structure Ic(X:Cx)(tg e:Expr)(m:Mx MIt):Prop where
 h:MI X tg e m
structure Ko(X:Cx)(e:Expr)(m:Mg):Prop where
 h:MG X e m
structure Mw(X:Cx)(e:RM)(m:Bq):Prop where
 h:Jt X e m
structure Ou(X:Cx)(e:RM)(m:Mx Bool):Prop where
 h:HN X e m
structure My(X:Cx)(e:Option Expr)(m:Mx (RL)):Prop where
 h:MO' X e m
structure OJ(X:Cx)(r:Value->Value->Sem Value)(o:xQ):Prop where
 h:u7 X r o.m
def Gz(a:Scope):Q1:=(a.names.filter λy=>match y.2 with|.globalImplicit=>I|_=>T).map (·.1)
abbrev gm(sc:Scope)(x:Str):Prop:=x∈Gz sc
def Dy:Expr->Q1
 |.Name x _=>[x]
 |.Tuple a _ _=>a.flatMap λe=>match e with
  |.Name x _=>[x]
  |.Tuple a _ _=>a.flatMap λe=>match e with
   |.Name x _=>[x]
   |_=>[]
  |_=>[]
 |_=>[]
def Ie(N:Q1)(fm:Q4):Q1:=fm.filterMap (N[·]?)
structure Wc(X:Cx)(P:Program)(w:World)(K:g_)(mg:RT)(base:Heap)(N W:Q1)(k:Nat)(sc:Scope):Prop where
 g:Good X N W (Gz sc) k
 e:EE X P w K mg base
 s:X.env.scope=sc
section
variable{X Y:Cx}{P:Program}{w:World}{K:g_}{mg:RT}{base:Heap}{N W:Q1}{k:Nat}{sc:Scope}{ws:Q4}{x y:Str}{p p' pos spos:Pos}{e a b d tg:Expr}{es:RM}{i j:Nat}{st:Stmt}{rest body:List Stmt}{xa xb xd:Xe ws}{ta tb:Xt ws}{sa:Xs ws}{da db:Xd ws}
def Wc.gj(c:Wc X P w K mg base N W k sc)(h:gm sc x):∃j:Nat,(Gz sc)[j]?=J x:=List.getElem?_of_mem h
def Wc.n(c:Wc X P w K mg base N W k sc)(z:Zn K x):X.mg x=none:=c.e.n z
def Kp{i:Int}:ky X (.Constant (.int i) j pos) (xC (ws:=ws) (.int i)).m:=⟨aC⟩
def Kq{i:Str}:ky X (.Constant (.str i) j pos) (xC (ws:=ws) (.str i)).m:=⟨EK⟩
def Ov{i:Bool}:ky X (.Constant (.bool i) j pos) (xC (ws:=ws) (.bl i)).m:=⟨o4⟩
def Kr:ky X (.Constant .none j pos) (xC (ws:=ws) .non).m:=⟨EL⟩
def Ks{f:Operator}{o:xQ}(l:OJ X (binaryOp f) o)(r:ky X a xa.m)(u:ky X b xb.m):ky X (.BinOp a f b pos) (ae o xa xb).m:=⟨aN l.h r.h u.h⟩
def Kt{f:CmpOp}{o:xQ}(l:OJ X (compareOp f) o)(u:ky X a xa.m)(z:ky X b xb.m)(r:behindInMarks f b=T):ky X (.Compare a [f] [b] pos) (ae o xa xb).m:=⟨EM l.h u.h z.h r⟩
def Ow(l:ky X a xa.m)(r:ky X b xb.m)(f:kc b):ky X (.Subscript a b pos) (ae PU.n4 xa xb).m:=⟨Di l.h r.h f⟩
def Ku(f:ky X a xa.m):ky X (.UnaryOp .USub a pos) (zO PU.mS xa).m:=⟨Jp E4 f.h⟩
def GA(f:ky X a xa.m):ky X (.UnaryOp .Not a pos) (pf xa).m:=⟨ES f.h⟩
def CC{r f:CmpOp}{o u:xQ}(z:OJ X (compareOp r) o)(l:OJ X (compareOp f) u)(C:ky X a xa.m)(E:ky X b xb.m)(hd:ky X d xd.m)(B:lastMarks [r,f] [b,d]=T):ky X (.Compare a [r,f] [b,d] pos) (lp o u xa xb xd).m:=⟨zb z.h l.h C.h E.h hd.h B⟩
def Kv{l:BoolOp}(f:ky X a xa.m):ky X (.BoolOp l [a] pos) xa.m:=⟨EQ f.h⟩
def GB(f:ky X a xa.m)(l:ky X (.BoolOp .And (b::es) pos) xb.m):ky X (.BoolOp .And (a::b::es) pos) (lH xa xb).m:=⟨ER f.h l.h⟩
def Kw{hz}(h:yh X es sa.m):ky X (.Tuple es j pos) (aS sa hz).m:=Qe h
def Kx{hz}(h:yh X es sa.m):ky X (.List es pos) (cj sa hz).m:=N9 h
def Ky:ky X (.Dict [] [] pos) (As (ws:=ws)).m:=⟨Bw⟩
def Ox{lo f:Option Expr}{l r:Xo ws}(z:ky X a xa.m)(u:My X lo l.m)(B:My X f r.m):ky X (.Subscript a (.Slice lo f none p) pos) (Av xa l r).m:=⟨Dp z.h u.h B.h⟩
def Oy:My X none (At (ws:=ws)).m:=⟨tf⟩
def Oz(f:ky X a xa.m):My X (J a) (Au xa).m:=⟨tR f.h⟩
def Kz:yh X [] (a_ (ws:=ws)).m:=lA
def GC(l:ky X e xa.m)(f:yh X es sa.m)(r:aX e=I):yh X (e::es) (ac xa sa).m:=eA l f r
def KA:OJ X (binaryOp .Add) PU.bq:=⟨cZ⟩
def KC:OJ X (binaryOp .Sub) PU.cC:=⟨E3⟩
def OA:OJ X (compareOp .Lt) PU.zD:=⟨Df⟩
def OB:OJ X (compareOp .LtE) PU.Oc:=⟨Jx⟩
def OC:OJ X (compareOp .Gt) PU.F8:=⟨Dg⟩
def KD:OJ X (compareOp .IsNot) (PU.HZ I):=⟨E5⟩
section
variable(c:Wc X P w K mg base N W k sc)
include c
def w_var(f:N[i]?=J x):ky X (.Name x pos) (aa (ws:=ws) i).m:=⟨vI c.g i f⟩
def OD:OJ X (compareOp .Eq) PU.xg:=⟨o6 c.g.room⟩
def OE:OJ X (compareOp .NotEq) PU.zW:=⟨u6 c.g.room⟩
def KG:OJ X (compareOp .Eq) PU.lh:=⟨FV c.g.room⟩
def OF:OJ X (compareOp .In) (PU.oF T):=⟨Do c.g.room T⟩
def KH:OJ X (compareOp .NotIn) (PU.oF I):=⟨Do c.g.room I⟩
end
def d9{env:Env}:∀{es:RM},es.all aX=I->(backTo pos (starEach es env)).any (·.1)=T
 |[],_=>rfl
 |e::es,h=>by
  have f:aX e=I/\es.all aX=I:=by simpa using h
  have:=d9 (env:=env) f.2
  rw[aP f.1];simpa [backTo]using this
section
variable(c:Wc X P w K mg base N W k sc)
include c
def GD{F:Fn}{u:Q1}{hz}(r:yh X (e::es) sa.m)(f:FnAt P w K mg base x u F.m i)(h:i<=k)(C:gm sc x)(z:(e::es).all aX=I):ky X (.Call (.Name x p) (e::es) [] pos) (az F sa hz).m :=
 let⟨_,B⟩:=c.gj C
 have l:aX e=I/\es.all aX=I:=by simpa using z
 ⟨ng c.g B (f.c c.e h) r.h (aP l.1) (d9 l.2)⟩
def GF{F:Fn}{u:Q1}{hz}(r:yh X (e::es) sa.m)(f:FnAt P w K mg base x u F.m i)(h:i<=k)(C:gm sc x)(z:(e::es).all aX=I):ky X (.Call (.Name x p) (e::es) [] pos) (lT F sa hz).m :=
 let⟨_,B⟩:=c.gj C
 have l:aX e=I/\es.all aX=I:=by simpa using z
 ⟨ng c.g B (f.c c.e h) r.h (aP l.1) (d9 l.2)⟩
end
inductive BB(X:Cx)(x:Str)(o:yx):Prop
 |fn(id:String)(f:Q0->MH->RN)(h:bootBuiltins x=J (.builtin id))(c:bG X (.builtin id) f)(e:o.k=λxs h=>(f xs h).ne:=by rfl):BB X x o
 |ty(T:String)(f:Q0->MH->RN)(h:bootBuiltins x=J (.type T))(c:bG X (.type T) f)(e:o.k=λxs h=>(f xs h).ne:=by rfl):BB X x o
def KI:BB X "len" PU.mU:=.fn _ _ mf lq
def CD:BB X "tuple" PU.jz:=.ty _ _ xE ye
def xP:BB X "sorted" PU.fW:=.fn _ _ we vZ
section
variable(c:Wc X P w K mg base N W k sc)
include c
def KJ{o:yx}(B:BB X x o)(u:yh X (e::es) sa.m)(z:Zn K x)(F:gm sc x)(C:(e::es).all aX=I):ky X (.Call (.Name x p) (e::es) [] pos) (n7 o sa).m:=by
 obtain⟨j,r⟩:=c.gj F;have l:aX e=I/\es.all aX=I:=by simpa using C
 refine⟨?_⟩;show ME X _ (λZ h=>(sa.m Z h).bind o.k)
 cases B with
 |fn id f h d q=>rw[q];exact rf c.g j r d (c.n z) h u.h (aP l.1) (d9 l.2)
 |ty E f h d q=>rw[q];exact nX c.g j r d (c.n z) h u.h (aP l.1) (d9 l.2)
def KL:BB X "min" PU.qi:=.fn _ _ lY (pZ c.g)
def KN:BB X "max" PU.qm:=.fn _ _ wt (E6 c.g)
def GG:BB X "min" PU.lx:=.fn _ _ lY (BQ c.g)
def GH:BB X "max" PU.lC:=.fn _ _ wt (BP c.g)
def KO:BB X "any" PU.Cr:=.fn _ _ Gr (Fh c.g)
def OG(r:yh X [a] sa.m)(B:Zn K "sorted")(f:Zn K "set")(l:gm sc "sorted")(u:gm sc "set")(z:aX a=I):ky X (.Call (.Name "sorted" p) [.Call (.Name "set" p') [a] [] spos] [] pos) (n7 PU.Mn sa).m :=
 let⟨_,i⟩:=c.gj l;let⟨_,j⟩:=c.gj u
 ⟨qe c.g i (c.n B) j (c.n f) r.h (aP z)⟩
def OH(r:yh X [a] sa.m)(B:Zn K "len")(f:Zn K "set")(l:gm sc "len")(u:gm sc "set")(z:aX a=I):ky X (.Call (.Name "len" p) [.Call (.Name "set" p') [a] [] spos] [] pos) (n7 PU.Ot sa).m :=
 let⟨_,i⟩:=c.gj l;let⟨_,j⟩:=c.gj u
 ⟨vW c.g _ _ (c.n B) (c.n f) r.h i j (aP z)⟩
end
structure BT(x:Str)(T:String):Prop where
 h:bootBuiltins x=J (.type T)
 o:HJ T
def KP:BT "int" "int":=⟨Gq,Bv⟩
def GJ:BT "bool" "bool":=⟨Cw,yC⟩
def GK:BT "list" "list":=⟨io,pR⟩
section
variable(c:Wc X P w K mg base N W k sc)
include c
def KQ{f:String}(B:BT x f)(u:ky X a xa.m)(E:Zn K "isinstance")(l:Zn K x)(r:gm sc "isinstance")(z:gm sc x)(C:aX a=I):ky X (.Call (.Name "isinstance" p) [a,.Name x p'] [] pos) (zO (PU.mY [f]) xa).m :=
 let⟨_,i⟩:=c.gj r;let⟨_,j⟩:=c.gj z
 ⟨vD c.g i (c.n E) j (c.n l) B.h B.o u.h (aP C)⟩
end
abbrev MJ(X:Cx)(name:Str)(f:Nat->Q0->MH->RN):Prop:=∃id,Slot "list" name id/\typeOf (.builtin id)=pure (.type "method_descriptor")/\AJ X id (BK X f)
section
variable{name:Str}{f:Nat->Q0->MH->RN}{o:Af}{m:Mx PV}
def OI{l:Mx (Q0)}(M:MJ X name f)(r:ky X a m)(u:yh X (e::es) l)(h:(((backTo pos (starEach (e::es) X.env)).all (λx=>!x.1)&&(backToKw pos (keywordEach [] X.env)).all (λx=>x.1.isSome)&&decide ((e::es).length+([]:List Keyword).length+(if([]:List Keyword).isEmpty then 0 else 1)<30))=I/\(p.endLine==pos.line)=I)/\attributeBase a name X.env (eval a X.env)=eval a X.env/\starEach (e::es) X.env=(T,eval e X.env)::starEach es X.env/\(backTo pos (starEach es X.env)).any (·.1)=T):ky X (.Call (.Attribute a name p) (e::es) [] pos) (zf f m l) :=
 let⟨_,x,y,z⟩:=M
 ⟨u5 x y z r.h u.h h.2.1 h.1.1 h.1.2 h.2.2.1 h.2.2.2⟩
def KR(M:MJ X name f)(l:ky X a m)(u:attributeBase a name X.env (eval a X.env)=eval a X.env)(r:(p.endLine==pos.line)=I):ky X (.Call (.Attribute a name p) [] [] pos) (zf f m (a_ (ws:=ws)).m) :=
 let⟨_,x,y,z⟩:=M
 ⟨Fe x y z l.h u r⟩
def OK{hi hz}(h:ky X e (zf o.m (aa (ws:=ws) i).m sa.m))(l:swapsWith e none pos.line X.env=pure T):x5 X (.Expr e pos) (q7 o i sa hi hz).m:=⟨j5 h.h l⟩
def KS{hi hj hz}(c:Wc X P w K mg base N W k sc)(h:ky X e (zf o.m (aa (ws:=ws) i).m sa.m))(u:swapsWith e (J (.Name y p)) pos.line X.env=pure T)(r:N[j]?=J y)(l:W[j]?=J y):x5 X (.Assign [.Name y p] e pos) (jl j o i sa hi hj hz).m:=⟨mn c.g j r l h.h u⟩
end
def yq:MJ X "append" PU.kl.m:=⟨_,jv,js,jE⟩
def x9:MJ X "extend" PU.i_.m:=⟨_,wu,vg,wo⟩
def xl:MJ X "insert" PU.v1.m:=⟨_,vN,wz,vA⟩
def GL:MJ X "pop" PU.zk.m:=⟨_,vw,wN,Cg⟩
def GN{f:CmpOp}{o:xQ}(l:OJ X (compareOp f) o)(u:ky X a xa.m)(z:ky X b xb.m)(r:behindInMarks f b=T):zX X (.Compare a [f] [b] pos) (xB (ae o xa xb)).m:=⟨wV l.h u.h z.h r⟩
def GO(h:zX X a ta.m):zX X (.UnaryOp .Not a pos) (nc ta).m:=⟨w6 h.h⟩
def OL{f:BoolOp}(h:Gy X (.BoolOp f es pos) ta.m):zX X (.BoolOp f es pos) ta.m:=⟨MW.mt h.h⟩
def GP(h:zX X a ta.m):Gy X (.BoolOp .And [a] pos) ta.m:=⟨Bo h.h⟩
def KU(h:zX X a ta.m):Gy X (.BoolOp .Or [a] pos) ta.m:=⟨vF h.h⟩
def w_and(h:zX X a ta.m)(f:Gy X (.BoolOp .And (b::es) pos) tb.m):Gy X (.BoolOp .And (a::b::es) pos) (dZ ta tb).m:=⟨EO h.h f.h⟩
def w_or(h:zX X a ta.m)(f:Gy X (.BoolOp .Or (b::es) pos) tb.m):Gy X (.BoolOp .Or (a::b::es) pos) (Dt ta tb).m:=⟨uu h.h f.h⟩
def KW(h:ky X e xa.m)(l:∀f,isTrue e X.env f=(do let v <-f;standAt e.pos;holding [v] (truthy v))):zX X e (Gm xa).m:=⟨FU h.h l⟩
def KY(h:ky X e xa.m)(l:∀f,isTrue e X.env f=(do let v <-f;standAt e.pos;holding [v] (truthy v))):zX X e (xB xa).m:=⟨vM h.h l⟩
def KZ:Ou X [] (k6 (ws:=ws)).m:=⟨BD⟩
def K0(h:zX X a ta.m):Ou X [a] ta.m:=⟨BE h.h⟩
def OM:Mw X [] (zi (ws:=ws)).m:=⟨Br⟩
def ON{ga:Xg ws}{f:Dv ws}(l:Ko X e ga.m)(u:Mw X es f.m)(r:(assignEach (e::es) X.env).map (·.2)=assign e X.env::(assignEach es X.env).map (·.2)):Mw X (e::es) (sf ga f).m:=⟨yr l.h u.h r⟩
def K1(h:ky X a xa.m):Ic X tg a (aG xa).m:=⟨E8 h.h⟩
section
variable(c:Wc X P w K mg base N W k sc)
include c
def OO{hi}(h:N[i]?=J x)(f:W[i]?=J x):Ko X (.Name x pos) (i3 (ws:=ws) i hi).m:=⟨tK c.g i h f⟩
def OP{l:Dv ws}{n:Nat}(h:Mw X es l.m)(r:(assignEach es X.env).length=n)(f:(assignEach es X.env).findIdx? (·.1)=none):Ko X (.Tuple es j pos) (zj l n).m:=⟨EZ c.g h.h r f⟩
def OQ{n:Nat}(h:yh X [a] sa.m)(z:Zn K "enumerate")(r:gm sc "enumerate")(f:aX a=I):Ic X (.Tuple es n p) (.Call (.Name "enumerate" p') [a] [] pos) (bx PU.iE sa).m:=let⟨_,l⟩:=c.gj r;⟨Cc c.g l (c.n z) h.h (aP f)⟩
def K2(h:yh X [a] sa.m)(z:Zn K "range")(f:gm sc "range")(l:aX a=I):Ic X tg (.Call (.Name "range" p) [a] [] pos) (bx PU.vu sa).m:=⟨nQ (c.g.gl _ f) (c.n z) h.h (aP l)⟩
end
structure CB(Y:Cx)(tg elt:Expr)(ifs:RM)(gt:Mg)(mt:Mx Bool)(me:Mx PV):Prop where
 g:Ko Y tg gt
 t:Ou Y ifs mt
 e:ky Y elt me
section
variable{iter elt:Expr}{ifs:RM}{scope:Scope}{nv:Nat}{fm ws':Q4}{xi:Xi ws}{gt:Xg ws'}{xt:Xt ws'}{xe:Xe ws'}{hw:PU.Ad nv fm ws=ws'}{hz:xe.fz=true}
abbrev QB(N:Q1)(tg:Expr)(nv:Nat)(fm:Q4)(scope sc:Scope):Prop:=Qw scope sc (Dy tg) (Ie N fm)/\(Dy tg++Ie N fm).Nodup/\(∀x∈Gz (Kl scope sc),scope.names.lookup x=J .globalImplicit)/\(∀x∈(Dy tg++Ie N fm)++Gz (Kl scope sc),(x==("__debug__":Str))=T/\(x==("__classdict__":Str))=T/\x≠"__name__")/\fm.map (λi=>N[i]?)=(Ie N fm).map J/\(Dy tg).length=nv
section
variable(c:Wc X P w K mg base N W k sc)
include c
def GQ(u:Ic X tg iter xi.m)(B:∀Y:Cx,Wc Y P w K mg base (Dy tg++Ie N fm) (Dy tg) k (Kl scope sc)->CB Y tg elt ifs gt.m xt.m xe.m)(H:scope.kind=.function)(h:QB N tg nv fm scope sc)(C:∀x,foldedSetIterable iter X.env x=pure x):ky X (.ListComp elt [⟨tg,iter,ifs,0⟩] scope pos) (aI nv fm xi gt xt xe hw hz).m:=by
 obtain⟨M,nd,L,dbg,E,rfl⟩:=h;exact⟨BF c.g (sP c.s H E M) nd L dbg u.h (λY F G f r z l g=>let q:=B Y ⟨g,⟨F.trans c.e.e1,G.trans c.e.e2,f.trans c.e.e3,r.trans c.e.e4,z.trans c.e.e5,c.e.b⟩,l.trans (wW c.s)⟩;⟨q.g.h,q.t.h,q.e.h⟩) C⟩
end
section
variable(c:Wc X P w K mg base N W k sc)(hsw:∀env:Env,env.scope=sc->swapsWith (.ListComp elt [⟨tg,iter,ifs,0⟩] scope pos) (some (.Name y p)) spos.line env=pure true)(hi:Ic X tg iter xi.m)(hY:∀Y:Cx,Wc Y P w K mg base (Dy tg++Ie N fm) (Dy tg) k (Kl scope sc)->CB Y tg elt ifs gt.m xt.m xe.m)(hyi:N[i]?=some y)(hyw:W[i]?=some y)(h1:scope.kind=.function)(h:QB N tg nv fm scope sc)(hs:∀x,foldedSetIterable iter X.env x=pure x)
include hsw hi hY c hyi hyw h1 h hs
def CF:x5 X (.Assign [.Name y p] (.ListComp elt [⟨tg,iter,ifs,0⟩] scope pos) spos) (bc i (kn nv fm xi.m gt.m xt.m xe.m)):=by
 try clear hw
 obtain⟨C,nd,u,dbg,z,rfl⟩:=h;exact⟨BG c.g i hyi hyw (hsw X.env c.s) (sP c.s h1 z C) nd u dbg hi.h (λY B f l E r F g=>let q:=hY Y ⟨g,⟨B.trans c.e.e1,f.trans c.e.e2,l.trans c.e.e3,E.trans c.e.e4,r.trans c.e.e5,c.e.b⟩,F.trans (wW c.s)⟩;⟨q.g.h,q.t.h,q.e.h⟩) hs⟩
def GR{hi' hz'}:x5 X (.Assign [.Name y p] (.ListComp elt [⟨tg,iter,ifs,0⟩] scope pos) spos) (bJ i (aI nv fm xi gt xt xe hw hz) hi' hz').m:=CF c hsw hi hY hyi hyw h1 h hs
end
end
def OR:n5 X [] (i4 (ws:=ws)).m:=⟨fZ⟩
def iD(h:x5 X st da.m):n5 X [st] da.m:=Ac h
def gL(f:x5 X st da.m)(l:n5 X rest db.m):n5 X (st::rest) (aD da db).m:=yu f l
def OS{f:Q4}{hi hw}{db:Xd f}(h:n5 X rest db.m):n5 X rest (Mu (ws:=ws) i db hi hw).m:=h
def K3(h:ky X e xa.m):x5 X (.Return (J e) pos) (c8 xa).m:=Ch h
def GU{hi}(h:ky X e (aa (ws:=ws) i).m):x5 X (.Return (J e) pos) (iJ (ws:=ws) i hi).m:=Ch h
def GV(h:ky X e xa.m)(f:swapsWith e none pos.line X.env=pure T):x5 X (.Expr e pos) (fc xa).m:=⟨j5 h.h f⟩
def OT(r:zX X e ta.m)(f:n5 X body da.m)(l:n5 X rest db.m):x5 X (.If e body rest pos) (t0 ta da db).m:=⟨i0 r.h f.h l.h⟩
section
variable(c:Wc X P w K mg base N W k sc)
include c
def K4{f:Xi ws}{l:Xg ws}{hz}(r:Ic X tg e f.m)(z:Ko X tg l.m)(B:n5 X body da.m)(u:∀x,foldedSetIterable e X.env x=pure x):x5 X (.For tg e body [] pos) (bY f l da hz).m:=⟨wc c.g r.h z.h B.h u⟩
def OU{n hm}(l:zX X e ta.m)(f:n5 X body da.m):x5 X (.While e body [] pos) (F5 n ta da hm).m:=⟨yE c.g l.h f.h⟩
def GW{hi' hz}(l:ky X e xa.m)(f:swapsWith e (J (.Name x p)) pos.line X.env=pure T)(r:N[i]?=J x)(u:W[i]?=J x):x5 X (.Assign [.Name x p] e pos) (ck i xa hi' hz).m:=⟨mn c.g i r u l.h f⟩
def GX{hi' hz}(l:∀env:Env,env.scope=sc->swapsWith e (J (.Name x p)) pos.line env=pure T)(u:ky X e xa.m)(f:N[i]?=J x)(r:W[i]?=J x):x5 X (.Assign [.Name x p] e pos) (bJ i xa hi' hz).m:=⟨mn c.g i f r u.h (l _ c.s)⟩
end
def y4{F:Fn}{f:Nat}{ws:Q4}{B:Xd ws}{hw}(N:Q1)(b:Ba P w K mg base)(D:f_ K x st)(z:∀X:Cx,Wc X P w K mg base N N k (af st)->j3 X->n5 X (aJ st) B.m)(u:F=cg N.length f B hw:=by rfl)(G:ic x st (N.take f):=by first | exact λ_ _ _ _ _ _=>Op λ_=>rfl | exact λ_ _ _ _ _ _=>Qx λ_ _=>rfl | exact λ_ _ _ _ _ _=>Qy λ_ _ _=>rfl | exact λ_ _ _ _ _ _=>Qz λ_ _ _ _=>rfl | exact λ_ _ _ _ _ _=>ar5 λ_ _ _ _ _=>rfl)(S:qw N (N.take f) (af st):=by exact⟨rfl,rfl,rfl,by decide +kernel,rfl,by decide +kernel,by decide +kernel⟩)(r:∀y∈N,(af st).names.lookup y=J .local\/(af st).names.lookup y=J .cell:=by decide +kernel)(l:∀y∈Gz (af st),(af st).names.lookup y=J .globalImplicit:=by decide +kernel)(dbg:∀x∈N++Gz (af st),(x==("__debug__":Str))=T/\(x==("__classdict__":Str))=T/\x≠"__name__":=by decide +kernel)(E:(N.take f).length=f:=by rfl):
  FnAt P w K mg base x (N.take f) F.m (k+1):=by
 have q:=v5 b.kin b.ns D S G r l dbg λX e1 e2 e3 e4 e5 H g C=>(z X ⟨g,⟨e1,e2,e3,e4,e5,b⟩,H⟩ C).h;rw[E]at q;subst u;exact q
end
end MM
namespace PU
open MM SetT
noncomputable section
def gW(ns:Q2):bo (ns.map .int)=J ns:=by
 induction ns with
 |nil=>rfl
 |cons i k a=>rw[nt,bo,a];rfl
end
end PU
namespace PU
open MM
open L2 (vv mw gG)
noncomputable section
def qJ:yx where
 k:=λr f=>match r with
  |[.int i,.int j]=>if(-(2^62)<=i/\i<2^62) /\ -(2^62)<=j/\j<2^62/\(j-i).toNat<=sizeLine then .ok (.loc f.length) (f++[.lst (bN i (j-i).toNat)])else .bad
  |_=>.bad
 p:=λa=>match a with
  |[.int i,.int j]=>if(-10000<=i/\i<=10000) /\ -10000<=j/\j<=10000 then J (.lst (cQ i (j-i).toNat))else Y
  |_=>Y
 fr:=I
 ok {q h L O a xs d} bd w e:=by
  match a,e with
  |[.int i,.int j],e =>
   obtain⟨x,y,rfl,u,l⟩:=F7 w;rw[u.int,l.int];dsimp only at e;by_cases z:(-10000<=i/\i<=10000) /\ -10000<=j/\j<=10000
   .rw[b_ z]at e;cases e;dsimp only
    have:=di
    rw[b_ ⟨⟨by ext,by ext⟩,by ext,by ext,by ext⟩];exact Mm bd λ_ _=>se
   .rw[d_ z]at e;cases e
end
end PU
namespace PU
open MM
section
variable{q:Nat}{h:MH}{O:Q4}
end
end PU
namespace MM
open PySem.Spec PyProof.Rows L2
open PU (Xe Xs Xt Xi Xg Xd Fn zO ae aa xC ac a_ n7 gq)
structure OV(K:g_)(mg:RT)(x:Str):Prop where
 h:∃C,BH K mg x C
section
variable{X:Cx}{P:Program}{w:World}{K:g_}{mg:RT}{base:Heap}{N W:Q1}{k:Nat}{sc:Scope}{ws:Q4}{x y z n:Str}{p p' q cp yp np sp hp pos cpos pt spos:Pos}{e a b:Expr}{es:RM}{sa:Xs ws}{xa:Xe ws}{i j l kt:Nat}{body:List Stmt}{da:Xd ws}{cs sup sups:Q1}
def CG(c:Wc X P w K mg base N W k sc)(R:OV K mg x)(r:yh X [e] sa.m)(u:gm sc x)(hp:aX e=I):x5 X (.Raise (J (.Call (.Name x p) [e] [] cpos)) Y pos) (gq x sa).m:=by obtain⟨j,f⟩:=c.gj u;have R:=R.h;rw[<-c.e.e3,<-c.e.e4]at R;exact⟨wU c.g f R r.h (aP hp) rfl⟩
def K5(c:Wc X P w K mg base N W k sc)(C:yh X [a,b] sa.m)(F:Zn K "list")(u:Zn K "range")(B:gm sc "list")(E:gm sc "range")(hp:aX a=I)(f:aX b=I):ky X (.Call (.Name "list" p) [.Call (.Name "range" p') [a,b] [] spos] [] pos) (n7 PU.qJ sa).m :=
 let⟨_,i⟩:=c.gj B;let⟨_,j⟩:=c.gj E
 have r:starEach [b] X.env=[(T,eval b X.env)]:=aP f
 ⟨wS c.g i (c.n F) j (c.n u) C.h ((aP hp).trans (by rw[r])) r⟩
end
end MM
namespace PU
open MM L2
noncomputable section
inductive VwD(h:MH)(ks:Q3)(P:Q0->Prop)(v:PV):Prop
 |mk(n:Nat)(xs:Q0)(e:v=.loc n)(g:h[n]?=J (.dic ks xs))(r:P xs):VwD h ks P v
def Vw.dic(w:Vw q h L O (.dic ks ds) v):VwD h ks (Rps q h O ds) v:=by
 rcases w with⟨n,xs,e,_,g,r⟩|⟨n,f,xs,a,e,e1,_,_,g,r⟩
 .exact⟨n,xs,e,g,r⟩
 .obtain⟨rfl,rfl⟩:=qU e;exact⟨n,xs,e1,g,r⟩
def VwD.of(w:VwD h ks P v):∃xs,fN h v=J (ks,xs)/\P xs:=by obtain⟨n,xs,rfl,g,r⟩:=w;exact⟨xs,by simp only[fN,g],r⟩
def wF(w:Vw q h L O d v)(e:cE d=J k):Ci v=J k:=by
 cases d with
 |tup a=>obtain⟨xs,rfl,r⟩:=w.tup;rw[dr r e];exact pN k
 |_=>cases e
def CH{ks:Q3}(r:Rps q h O f xs)(w:Rp q h O d v)(i:Q2):(iy ks f i d).1=(iy ks xs i v).1/\Rps q h O (iy ks f i d).2 (iy ks xs i v).2:=by
 induction ks generalizing f xs with
 |nil=>exact⟨by simp[iy],by simpa [iy]using⟨v,[],rfl,w,rfl⟩⟩
 |cons k ks u =>
  cases f with
  |nil=>rw[show xs=[]from r];exact⟨rfl,v,[],rfl,w,rfl⟩
  |cons y f =>
   obtain⟨x,t,rfl,a,b⟩:=r;unfold iy;by_cases e:k=i
   .simp only[b_ e];exact⟨trivial,v,t,rfl,w,b⟩
   .simp only[d_ e];obtain⟨l,j⟩:=u b;exact⟨by rw[l],x,_,rfl,a,j⟩
def rF(f:Bool):xQ where
 m:=lv f
 p:=λa b=>match b with
  |.dic l j=>(cE a).map λi=>.bl (if f then !(zm l j i).isSome else(zm l j i).isSome)
  |_=>Y
 fr:=I
 ok {q h L O a x b y d} bd wa wb e:=by
  cases b with
  |dic l j =>
   obtain⟨i,e1,rfl⟩:=ub.mp e;obtain⟨xs,e2,r⟩:=wb.dic.of;have e3:=wF wa e1;show Gv q h O I (lv f x y h) _;rw[qX (show j.length=xs.length from r.length.symm)];simp only[lv,e2,e3];exact vl
  |_=>cases e
def qW:yx where
 k:=λxs h=>(w_ xs h).ne
 p:=λi=>match i with
  |[.dic a l]=>if a.length<=100000 then J (.lst (a.map kD))else Y
  |_=>Y
 fr:=I
 ok {q h L O i xs d} bd w e:=by
  match i,e with
  |[.dic a l],e =>
   dsimp only at e;obtain⟨x,rfl,j⟩:=dS w;obtain⟨xs,e1,r⟩:=j.dic.of;by_cases f:a.length<=100000
   .rw[b_ f]at e;cases e;have e2:w_ [x] h=oy (a.map kP) h:=by simp only[w_,e1]
    rw[e2];obtain⟨v,g,e3,y,u⟩:=kf (q:=q) bd (gv (q:=q) (h:=h) (O:=O) a) (by simpa using f);exact⟨v,g,by rw[e3];rfl,y,u⟩
   .rw[d_ f]at e;cases e
def zY:Af where
 m:=BJ
 p:=λa f=>match f,a[a.length-1]? with
  |[],J d=>J (d,a.dropLast)
  |_,_=>Y
 ok {q h O n xs a f vs d ds'} g r ra e:=by
  cases f with
  |cons _ _=>cases e
  |nil =>
   rw[show vs=[]from ra]
   cases e1:a[a.length-1]? with
   |none=>rw[e1]at e;cases e
   |some y =>
    rw[e1]at e;cases e;obtain⟨v,e2,i⟩:=r.get e1;refine⟨v,xs.dropLast,by simp only[BJ,g,r.length,e2],?_,i⟩;rw[Lm,Lm,r.length];exact r.take _
variable{ws:Q4}
def iN(i:Nat)(e u:ao->e_->PR D)(env:ao)(s:e_):PS:=match e env s with
 |.ok v l=>(match u env l with
  |.ok k r=>(match cE k,env[i]? with
   |some j,J (J (.dic a f))=>if a.length<100000 then .nx (env.set i (J (.dic (iy a f j v).1 (iy a f j v).2))) r else .bad
   |_,_=>.bad)
  |_=>.bad)
 |_=>.bad
def qh(e1:e env s=.ok v s1)(e2:ix env s1=.ok k s2)(a:cE k=J j)(e3:env[i]?=J (J (.dic ks ds)))(e4:ks.length<100000):
  iN i e ix env s=.nx (env.set i (J (.dic (iy ks ds j v).1 (iy ks ds j v).2))) s2:=by
 simp only[iN,e1,e2,e3,a];rw[b_ e4]
def wY:iN i e ix env s=.bad\/∃v l k j r a f,e env s=.ok v l/\ix env l=.ok k r/\cE k=J j/\env[i]?=J (J (.dic a f))/\a.length<100000/\iN i e ix env s=.nx (env.set i (J (.dic (iy a f j v).1 (iy a f j v).2))) r:=by
 unfold iN;split
 .rename_i v l e1
  split
  .rename_i k r e2
   split
   .rename_i j a f e3 e4
    by_cases h:a.length<100000
    .rw[b_ h];exact .inr ⟨v,l,k,j,r,a,f,e1,e2,e3,e4,h,rfl⟩
    .rw[d_ h];exact .inl rfl
   .exact .inl rfl
  .exact .inl rfl
 .exact .inl rfl
def kg(i:Nat)(e r:Xe ws)(hi:ws.contains i=I:=by exact ys rfl)(hz:e.fz=I:=by exact ys rfl):Xd ws where
 m:=nI e.m (pX (ah i) r.m)
 p:=iN i e.p r.p
 fr:=I
 ok {q h L B O Z env s} c d:=by
  rcases wY (i:=i) (e:=e.p) (ix:=r.p) (env:=env) (s:=s)with z|⟨v,s1,k,j,s2,a,F,e1,e2,ek,e3,e4,z⟩
  .rw[z];trivial
  .rw[z];have u:i∈ws:=by simpa using hi
   have S:=e.ok c;rw[e1]at S;obtain⟨x,M,f1,C,H,_,rx,_⟩:=S;have P:=c.kb C H;have Q:=r.ok P;rw[e2]at Q;obtain⟨y,E,f2,f,G,w,_,_⟩:=Q;have U:=P.kb f G;obtain⟨l,kd,xs,W,X,R,b1,b2,g,r0⟩:=U.sr.ow i _ e3 u;obtain⟨rfl,rfl⟩:=qU X;replace g:E[l]?=J (.dic a xs):=g;have em:ah i Z M=.ok (.loc l) M:=by simp[ah,R]
   obtain⟨p1,p2⟩:=CH (ks:=a) r0 ((rx hz).mv (f.mv c.pO)) j;have nx:=pB (kd:=J (iy a F j v).1) U d u e3 R p2;refine⟨Z,E.set l (.dic (iy a F j v).1 (iy a xs j x).2),?_,nx.after ((C.trans f).stp c)⟩;have e5:Cj (.loc l) y x E=J (E.set l (.dic (iy a F j v).1 (iy a xs j x).2)):=by simp only[Cj,fN,g,wF w ek];rw[b_ e4,p1]
   have e6:pX (ah i) r.m x Z M=.nx Z (E.set l (.dic (iy a F j v).1 (iy a xs j x).2)):=by simp only[pX,xO,em,f2,e5]
   unfold nI xO;rw[f1];dsimp only;rw[e6]
def tj{hi hz}:(kg i e ix hi hz).p env s=iN i e.p ix.p env s:=rfl
end
end PU
namespace MM
open PySem.Spec PyProof.Rows L2
open PU (Xe Xs Xt Xi Xg Xd Fn zO ae aa xC ac a_ n7)
section
variable{X:Cx}{P:Program}{w:World}{K:g_}{mg:RT}{base:Heap}{N W:Q1}{k:Nat}{sc:Scope}{ws:Q4}{p pos:Pos}{e a b:Expr}{xa xb:Xe ws}{i:Nat}
def GY{hi hz}(c:Wc X P w K mg base N W k sc)(B:ky X e xa.m)(l:ky X a (aa (ws:=ws) i).m)(C:ky X b xb.m)(u:∀v,assign (.Subscript a b p) X.env v=(do
   let f <-holding [v] (eval a X.env)
   let j <-holding [v,f] (eval b X.env)
   standAt p
   holding [v,f,j] (setItem f j v)
   release [v,f,j] []))(y:swapsWithSole [.Subscript a b p] e pos.line X.env=pure T)(z:swappedStores [.Subscript a b p] e X.env=pure Y)(r:(assignEach [.Subscript a b p] X.env).map (·.2)=[assign (.Subscript a b p) X.env]):x5 X (.Assign [.Subscript a b p] e pos) (PU.kg i xa xb hi hz).m:=⟨pS B.h (Ck c.g.room l.h C.h u) y z r⟩
def GZ(c:Wc X P w K mg base N W k sc):OJ X (compareOp .NotIn) (PU.rF I):=⟨FZ c.g.room I⟩
def K6:MJ X "pop" PU.zY.m:=⟨_,vw,wN,Fd⟩
def CJ(c:Wc X P w K mg base N W k sc):BB X "list" PU.qW:=.ty _ _ io (y0 c.g)
end
end MM
namespace Law
open PySem.Spec PyProof.Rows L2 MM
set_option maxHeartbeats 4000000
noncomputable section
def v2:nw:=(aW (bc 2 (av lb (av ki (mC (.int 7919)) (ah 1)) (mC (.int 11))))
 (aW (zy (mB (av Aj (ah 1) (uj zd (ag (uj r_ (ag (ah 0) ia)) (ag (mC (.int 63)) ia))))) (bc 2 (av bO (ah 0) (ah 1))) (zy (mB (av Ak (uj r_ (ag (ah 0) ia)) (mC (.int 0)))) (bc 2 (av lb (av lB (av bO (ah 0) (av lB (ah 1) (uj zd (ag (uj r_ (ag (ah 0) ia)) (ag (mC (.int 63)) ia))))) (av p_ (mC (.int 10)) (mC (.int 15)))) (av ki (mC (.int 48271)) (ah 1)))) ls))
 (aW (zy (mB (av Al (uj zc (ag (ah 2) ia)) (av p_ (mC (.int 10)) (mC (.int 18))))) (bT (hZ (ag (mC (.int 1)) (ag (uj zc (ag (ah 2) ia)) (ag (mC (.int 0)) ia))))) ls)
 (bT (hZ (ag (mC (.int 0)) (ag (av lb (av lB (ah 2) (mC (.int 2147483587))) (av ki (mC (.int 40009)) (ah 1))) (ag (mC (.int 0)) ia))))))))
def dW:Q0->MH->RN:=dR 3 2 v2
def t_:nw:=(aW (nI (av lb (av bO (ah 0) (mC (.int 2))) (mC (.int 1))) (Ju (ah 0) (mC (.int 2))))
 (aW (zy (mB (av tx (av bO (ah 0) (mC (.int 0))) (mC (.int 1)))) (aW (bc 3 (av lB (av bO (ah 0) (mC (.int 1))) (ah 1)))
 (aW (nI (av zU (av bO (ah 0) (mC (.int 1))) (ah 1)) (Ju (ah 0) (mC (.int 1))))
 (bT (ah 3)))) ls)
 (aW (bc 2 (av lB (av ki (av lb (av lb (av bO (ah 0) (mC (.int 1))) (av ki (mC (.int 40503)) (av bO (ah 0) (mC (.int 2))))) (mC (.int 1))) (mC (.int 48271))) (mC (.int 2147483647))))
 (aW (bc 2 (av lB (av ki (ah 2) (av lb (av lb (av lB (ah 2) (mC (.int 65521))) (av bO (ah 0) (mC (.int 2)))) (mC (.int 3)))) (mC (.int 2147483629))))
 (bT (av lB (av zU (av lB (av ki (ah 2) (av lb (av lB (ah 2) (mC (.int 8191))) (mC (.int 7)))) (mC (.int 2147483563))) (mC (.int 64))) (ah 1)))))))
def dk:Q0->MH->RN:=dR 4 2 t_
end
end Law
namespace Law
open MM PU
open SetT SortT
open L2 (vv mw gG)
set_option maxHeartbeats 4000000
noncomputable section
def d5:Xd []:=(c8 (lH (zO (mY ["int"]) (aa 0)) (pf (zO (mY ["bool"]) (aa 0)))))
def eB:Fn:=cg 1 1 d5
def r6{a:Q5}{s:e_}(h:a.length=1):eB.p a s=(d5.p (m_ 1 a) s).fin:=bA h
def d6:Xd []:=(c8 (lH (az eB (ac (aa 1) a_)) (lp Oc zD (xC (.int 0)) (aa 1) (aa 0))))
def d4:Fn:=cg 2 2 d6
def rS{a:Q5}{s:e_}(h:a.length=2):d4.p a s=(d6.p (m_ 2 a) s).fin:=bA h
def cN:Xd []:=(t0 (nc (xB (az d4 (ac (aa 0) (ac (aa 1) a_))))) (gq "NoPlace" (ac (xC (.str "this is no place")) a_)) i4)
def bh:Fn:=cg 2 2 cN
def mQ{a:Q5}{s:e_}(h:a.length=2):bh.p a s=(cN.p (m_ 2 a) s).fin:=bA h
def cy:Xd []:=(bY (aG (aa 1)) (i3 2) (fc (az bh (ac (aa 0) (ac (aa 2) a_)))))
def cw:Fn:=cg 3 2 cy
def mI{a:Q5}{s:e_}(h:a.length=2):cw.p a s=(cy.p (m_ 3 a) s).fin:=bA h
def cI:Xd []:=(c8 (n7 jz (ac (n7 Mn (ac (aI 1 [] (aG (aa 0)) (ws':=[]) (i3 0) k6 (aS (ac (n7 lx (ac (aa 0) a_)) (ac (n7 lC (ac (aa 0) a_)) a_)))) a_)) a_)))
def b8:Fn:=cg 1 1 cI
def m5{a:Q5}{s:e_}(h:a.length=1):b8.p a s=(cI.p (m_ 1 a) s).fin:=bA h
def cY:Xd []:=(aD (fc (az bh (ac (ae n4 (aa 0) (xC (.int 0))) (ac (aa 1) a_))))
 (aD (bJ 2 (aI 2 [1] (aG (ae n4 (aa 0) (xC (.int 1)))) (ws':=[]) (zj (sf (i3 0) (sf (i3 1) zi)) 2) (xB (ae xg (aa 1) (aa 2))) (aa 0)))
 (aD (bJ 3 (aI 2 [1] (aG (ae n4 (aa 0) (xC (.int 1)))) (ws':=[]) (zj (sf (i3 0) (sf (i3 1) zi)) 2) (xB (ae xg (aa 0) (aa 2))) (aa 1)))
 (c8 (ae bq (aa 2) (aa 3))))))
def bg:Fn:=cg 4 2 cY
def oZ{a:Q5}{s:e_}(h:a.length=2):bg.p a s=(cY.p (m_ 4 a) s).fin:=bA h
def cM:Xd [1]:=(aD (ck 1 (cj a_))
 (aD (bY (bx iE (ac (aa 0) a_)) (zj (sf (i3 2) (sf (i3 3) zi)) 2) (q7 i_ 1 (ac (aI 1 [3] (aG (Av (aa 0) (Au (ae bq (aa 2) (xC (.int 1)))) At)) (ws':=[]) (i3 0) k6 (aS (ac (aa 1) (ac (aa 0) a_)))) a_)))
 (iJ 1)))
def bK:Fn:=cg 4 1 cM
def mW{a:Q5}{s:e_}(h:a.length=1):bK.p a s=(cM.p (m_ 4 a) s).fin:=bA h
def cx:Xd [4,5]:=(aD (ck 4 (cj (ac (cj (ac (aa 2) a_)) a_)))
 (aD (ck 5 (cj (ac (aa 2) a_)))
 (aD (F5 400 (Gm (aa 4)) (aD (jl 6 zk 4 (ac (xC (.int 0)) a_))
 (aD (t0 (xB (ae xg (ae n4 (aa 6) (zO mS (xC (.int 1)))) (aa 3))) (c8 (aa 6)) i4)
 (bY (aG (az bg (ac (aa 0) (ac (ae n4 (aa 6) (zO mS (xC (.int 1)))) a_)))) (i3 7) (t0 (dZ (xB (ae (oF T) (aa 7) (aa 1))) (xB (ae (oF I) (aa 7) (aa 5)))) (aD (q7 kl 5 (ac (aa 7) a_))
 (q7 kl 4 (ac (ae bq (aa 6) (cj (ac (aa 7) a_))) a_))) i4)))) fy)
 (c8 (xC .non)))))
def aU:Fn:=cg 8 4 cx
def lI{a:Q5}{s:e_}(h:a.length=4):aU.p a s=(cx.p (m_ 8 a) s).fin:=bA h
def cc:Xd []:=(aD (t0 (nc (xB (zO (mY ["list"]) (aa 1)))) (gq "NoParting" (ac (xC (.str "a parting is a list of places")) a_)) i4)
 (aD (fc (az cw (ac (ae n4 (aa 0) (xC (.int 0))) (ac (aa 1) a_))))
 (t0 (xB (ae zW (n7 Ot (ac (aa 1) a_)) (n7 mU (ac (aa 1) a_)))) (gq "NoParting" (ac (xC (.str "a parting has each of its places once")) a_)) i4)))
def br:Fn:=cg 2 2 cc
def kR{a:Q5}{s:e_}(h:a.length=2):br.p a s=(cc.p (m_ 2 a) s).fin:=bA h
def gI:Xd [2]:=(aD (fc (az br (ac (aa 0) (ac (aa 1) a_))))
 (aD (ck 2 (cj a_))
 (aD (bJ 3 (aI 1 [1] (bx vu (ac (ae n4 (aa 0) (xC (.int 0))) a_)) (ws':=[]) (i3 0) (xB (ae (oF I) (aa 0) (aa 1))) (aa 0)))
 (aD (F5 400 (Gm (aa 3)) (aD (bJ 4 (aI 1 [0,3] (aG (aa 3)) (ws':=[]) (i3 0) (xB (ae (HZ I) (az aU (ac (aa 1) (ac (aa 2) (ac (ae n4 (aa 2) (xC (.int 0))) (ac (aa 0) a_))))) (xC .non))) (aa 0)))
 (aD (q7 kl 2 (ac (aa 4) a_))
 (bJ 3 (aI 1 [4] (aG (aa 3)) (ws':=[]) (i3 0) (xB (ae (oF I) (aa 0) (aa 1))) (aa 0))))) fy)
 (iJ 2)))))
def eT:Fn:=cg 5 2 gI
def vG{a:Q5}{s:e_}(h:a.length=2):eT.p a s=(gI.p (m_ 5 a) s).fin:=bA h
def eK:Xd []:=(c8 (aI 1 [2,0] (aG (n7 fW (ac (aa 1) a_))) (ws':=[]) (i3 0) (xB (n7 Cr (ac (aI 1 [1] (aG (az bg (ac (aa 2) (ac (aa 0) a_)))) (ws':=[]) (i3 0) k6 (ae (oF T) (aa 0) (aa 1))) a_))) (aa 0)))
def dw:Fn:=cg 3 3 eK
def rZ{a:Q5}{s:e_}(h:a.length=3):dw.p a s=(eK.p (m_ 3 a) s).fin:=bA h
def eJ:Xd [2]:=(aD (fc (az br (ac (aa 0) (ac (aa 1) a_))))
 (aD (ck 2 (az bK (ac (aa 1) a_)))
 (aD (bY (aG (az eT (ac (aa 0) (ac (aa 1) a_)))) (i3 3) (q7 i_ 2 (ac (az bK (ac (ae bq (aa 3) (az dw (ac (aa 0) (ac (aa 1) (ac (aa 3) a_))))) a_)) a_)))
 (c8 (aI 1 [0] (aG (lT b8 (ac (aa 2) a_))) (ws':=[]) (i3 0) (xB (ae (oF I) (aa 0) (ae n4 (aa 1) (xC (.int 1))))) (aa 0))))))
def cf:Fn:=cg 4 2 eJ
def rY{a:Q5}{s:e_}(h:a.length=2):cf.p a s=(eJ.p (m_ 4 a) s).fin:=bA h
def nu{h:MH}{p:Nat}{o:MO}(a:p<h.length):(h.set p o)[p]?=J o:=zp a
def QC:vv 3 2=J 2:=sO (n:=3) (m:=2) (by decide)
def QY:vv 3 1=J 1:=sO (n:=3) (m:=1) (by decide)
def ig(s:e_)(size:Int)(H:0<size)(y:size.natAbs.log2<9000):∃x:Int×Int,(0<=x.1/\x.1<size)/\∀(h:MH)(p:Nat),bu h p s->dk [.loc p,.int size] h=.ok (.int x.1) (h.set p (.lst [.int s.1,.int x.2,.int (s.2.2+1)])):=by
 obtain⟨m,c,t⟩:=s;have a:size≠0:=by ext
 have st:∀n:Int,0<=n.fmod size/\n.fmod size<size:=λn=>by
  rw[MF n (by ext)];exact⟨Int.emod_nonneg n a,Int.emod_lt_of_pos n H⟩
 by_cases r:m=1
 .subst r;refine⟨(c.fmod size,c.fdiv size),st c,λh p e=>?_⟩;have e:h[p]?=J (.lst [.int 1,.int c,.int t]):=e;have j:p<h.length:=(qp.mp e).1;have e2:(h.set p (.lst [.int 1,.int c,.int (t+1)]))[p]?=J (.lst [.int 1,.int c,.int (t+1)]):=nu j;unfold dk;refine(jM (by rfl)).trans ?_;unfold t_;simp[bM,List.replicate,iO e,kE e,QC,iO e2,eR a,tV a y,kE e2,QY]
 .have f:∀n k:Int,0<k->0<=n.fmod k/\n.fmod k<k:=λn k L=>by
   rw[MF n (by ext)];exact⟨Int.emod_nonneg n (by ext),Int.emod_lt_of_pos n L⟩
  generalize u:((c+40503*(t+1)+1)*48271).fmod 2147483647=A;have E:=f ((c+40503*(t+1)+1)*48271) 2147483647 (by decide);rw[u]at E;generalize l:(A*(A.fmod 65521+(t+1)+3)).fmod 2147483629=C;have F:=f (A*(A.fmod 65521+(t+1)+3)) 2147483629 (by decide);rw[l]at F;refine⟨((((C*(C.fmod 8191+7)).fmod 2147483563).fdiv 64).fmod size,c),st _,λh p e=>?_⟩;have e:h[p]?=J (.lst [.int m,.int c,.int t]):=e;have j:p<h.length:=(qp.mp e).1;have e2:(h.set p (.lst [.int m,.int c,.int (t+1)]))[p]?=J (.lst [.int m,.int c,.int (t+1)]):=nu j;have z:-(2^64)<A/\A<2^64:=by ext
  have M:-(2^64)<C/\C<2^64:=by ext
  have B:∀{i:Int}{h:MH},ki (.int 40503) (.int i) h=.ok (.int (40503*i)) h:=fV (by decide);have G:∀{i:Int}{h:MH},ki (.int i) (.int 48271) h=.ok (.int (i*48271)) h:=Bz (by decide);unfold dk;refine(jM (by rfl)).trans ?_;unfold t_;simp[bM,List.replicate,iO e,kE e,QC,iO e2,r,B,G,eR,u,fV z,l,fV M,tV (show(64:Int)≠0 by decide) (show(64:Int).natAbs.log2<9000 by decide +kernel),eR a]
open Classical in
def jZ(s:e_)(size:Int):Int×Int:=if z:0<size/\size.natAbs.log2<9000 then(ig s size z.1 z.2).choose else(0,0)
def lj(a:Q5):RL:=match a with
 |[.pen,.int i]=>J i
 |_=>Y
def uA{a:Q5}{i:Int}(e:lj a=J i):a=[.pen,.int i]:=by
 unfold lj at e
 split at e
 .cases e;rfl
 .cases e
open Classical in
def aM:Fn where
 m:=dk
 p:=λa s=>match lj a with
  |some size=>if 0<size/\size.natAbs.log2<9000 then .ok (.int (jZ s size).1) (s.1,(jZ s size).2,s.2.2+1)else .bad
  |none=>.bad
 fr:=I
 ok {q h O vs a s} bd hq pn r:=by
  cases e:lj a with
  |none=>trivial
  |some size =>
   have:=uA e
   subst this;dsimp only;by_cases z:0<size/\size.natAbs.log2<9000
   .rw[b_ z];obtain⟨x,t,rfl,l,y,B,rfl,f,i⟩:=r;rw[show x=PV.loc q from l,show y=PV.int size from f,show B=[]from i];have k:=(ig s size z.1 z.2).choose_spec.2 h q pn;have j:jZ s size=(ig s size z.1 z.2).choose:=by unfold jZ;rw[dif_pos z]
    rw[<-j]at k;refine⟨_,_,k,⟨by simp,λn C u=>rc (Ne.symm u)⟩,nu (aE pn),rfl,λ_ k a e=>by cases k<;>cases e⟩
   .rw[d_ z];trivial
open Classical in
theorem cW{s:e_}{size:Int}(i:0<size)(r:size<=2000000000):∃d f,0<=d/\d<size/\aM.p [.pen,.int size] s=.ok (.int d) f:=by
 have a:size.natAbs.log2<9000:=by
  have l:size.natAbs<=2000000000:=by ext
  have u:size.natAbs.log2<31:=(Nat.log2_lt (by ext)).mpr (by ext);ext
 have z:0<size/\size.natAbs.log2<9000:=⟨i,a⟩;have j:jZ s size=(ig s size z.1 z.2).choose:=by unfold jZ;rw[dif_pos z]
 have k:=(ig s size z.1 z.2).choose_spec.1;rw[<-j]at k;exact⟨_,_,k.1,k.2,by show(if 0<size/\size.natAbs.log2<9000 then _ else _)=_;rw[b_ z]⟩
def fh:Xd [2]:=(aD (ck 2 (cj a_))
 (aD (bY (bx vu (ac (aa 1) a_)) (i3 3) (q7 v1 2 (ac (az aM (ac (aa 0) (ac (ae bq (aa 3) (xC (.int 1))) a_))) (ac (aa 3) a_))))
 (iJ 2)))
def cB:Fn:=cg 4 2 fh
def uF{a:Q5}{s:e_}(h:a.length=2):cB.p a s=(fh.p (m_ 4 a) s).fin:=bA h
def gH:Xd []:=(c8 (aS (ac (aa 0) (ac (n7 jz (ac (n7 Mn (ac (aI 2 [] (aG (aa 1)) (ws':=[]) (zj (sf (i3 0) (sf (i3 1) zi)) 2) k6 (aS (ac (n7 qi (ac (aa 0) (ac (aa 1) a_))) (ac (n7 qm (ac (aa 0) (ac (aa 1) a_))) a_)))) a_)) a_)) a_))))
def gO:Fn:=cg 2 2 gH
def wH{a:Q5}{s:e_}(h:a.length=2):gO.p a s=(gH.p (m_ 2 a) s).fin:=bA h
def fA:Xd []:=(c8 (aI 1 [0] (bx vu (ac (n7 mU (ac (aa 0) a_)) a_)) (ws':=[]) (i3 0) k6 (aS (ac (ae n4 (aa 1) (ae cC (aa 0) (xC (.int 1)))) (ac (ae n4 (aa 1) (aa 0)) a_)))))
def dX:Fn:=cg 1 1 fA
def vc{a:Q5}{s:e_}(h:a.length=1):dX.p a s=(fA.p (m_ 1 a) s).fin:=bA h
def ik:Xd [6]:=(aD (bJ 2 (az aM (ac (aa 0) (ac (ae bq (aa 1) (xC (.int 1))) a_))))
 (aD (bJ 3 (az cB (ac (aa 0) (ac (aa 2) a_))))
 (aD (bJ 4 (az aM (ac (aa 0) (ac (xC (.int 5)) a_))))
 (aD (bJ 5 (az aM (ac (aa 0) (ac (ae bq (aa 2) (xC (.int 1))) a_))))
 (aD (ck 6 (cj a_))
 (aD (bY (bx vu (ac (aa 2) a_)) (i3 7) (aD (t0 (xB (ae zD (aa 4) (xC (.int 2)))) (q7 i_ 6 (ac (aI 1 [7,0,4] (bx vu (ac (aa 7) a_)) (ws':=[]) (i3 0) (xB (ae xg (az aM (ac (aa 2) (ac (ae bq (xC (.int 2)) (aa 3)) a_))) (xC (.int 0)))) (aS (ac (aa 1) (ac (aa 0) a_)))) a_)) i4)
 (aD (t0 (xB (ae xg (aa 4) (xC (.int 2)))) (q7 i_ 6 (ac (aI 1 [7,5] (bx vu (ac (aa 7) a_)) (ws':=[]) (i3 0) (xB (ae zW (ae zD (aa 1) (aa 2)) (ae zD (aa 0) (aa 2)))) (aS (ac (aa 1) (ac (aa 0) a_)))) a_)) i4)
 (t0 (xB (ae xg (aa 4) (xC (.int 4)))) (q7 i_ 6 (ac (aI 1 [7,0,2] (bx vu (ac (aa 7) a_)) (ws':=[]) (i3 0) (Dt (xB (ae (oF T) (ae cC (aa 1) (aa 0)) (aS (ac (xC (.int 1)) (ac (ae cC (aa 3) (xC (.int 1))) a_))))) (xB (ae xg (az aM (ac (aa 2) (ac (xC (.int 6)) a_))) (xC (.int 0))))) (aS (ac (aa 1) (ac (aa 0) a_)))) a_)) i4))))
 (aD (bJ 8 (xC (.int 0)))
 (aD (F5 400 (dZ (xB (ae xg (aa 4) (xC (.int 3)))) (xB (ae F8 (ae cC (aa 2) (aa 8)) (xC (.int 2))))) (aD (bJ 9 (ae bq (xC (.int 3)) (az aM (ac (aa 0) (ac (ae cC (ae cC (aa 2) (aa 8)) (xC (.int 2))) a_)))))
 (aD (q7 i_ 6 (ac (az dX (ac (n7 qJ (ac (aa 8) (ac (ae bq (aa 8) (aa 9)) a_))) a_)) a_))
 (bJ 8 (ae bq (aa 8) (aa 9))))) fy)
 (aD (t0 (xB (ae F8 (aa 2) (xC (.int 1)))) (aD (bJ 10 (aI 1 [0,2] (bx vu (ac (az aM (ac (aa 0) (ac (xC (.int 3)) a_))) a_)) (ws':=[]) (i3 0) k6 (aS (ac (az aM (ac (aa 1) (ac (aa 2) a_))) (ac (az aM (ac (aa 1) (ac (aa 2) a_))) a_)))))
 (q7 i_ 6 (ac (aI 2 [] (aG (aa 10)) (ws':=[]) (zj (sf (i3 0) (sf (i3 1) zi)) 2) (xB (ae zW (aa 0) (aa 1))) (aS (ac (aa 0) (ac (aa 1) a_)))) a_))) i4)
 (c8 (az gO (ac (aa 2) (ac (aI 2 [3] (aG (aa 6)) (ws':=[]) (zj (sf (i3 0) (sf (i3 1) zi)) 2) k6 (aS (ac (ae n4 (aa 2) (aa 0)) (ac (ae n4 (aa 2) (aa 1)) a_)))) a_)))))))))))))
def gh:Fn:=cg 11 2 ik
def xG{a:Q5}{s:e_}(h:a.length=2):gh.p a s=(ik.p (m_ 11 a) s).fin:=bA h
def dD:Xd [3,4]:=(aD (ck 3 (cj (ac (aa 2) a_)))
 (aD (ck 4 (cj (ac (aa 2) a_)))
 (aD (F5 400 (xB (ae zW (aa 4) (cj a_))) (aD (jl 5 zY 4 a_)
 (bY (aG (ae n4 (aa 0) (xC (.int 1)))) (zj (sf (i3 6) (sf (i3 7) zi)) 2) (t0 (xB (ae (oF T) (aa 5) (aS (ac (aa 6) (ac (aa 7) a_))))) (aD (bJ 8 (ae cC (ae bq (aa 6) (aa 7)) (aa 5)))
 (t0 (xB (ae (oF I) (aa 8) (aa 3))) (aD (q7 kl 3 (ac (aa 8) a_))
 (t0 (xB (ae (oF I) (aa 8) (aa 1))) (q7 kl 4 (ac (aa 8) a_)) i4)) i4)) i4))) fy)
 (iJ 3))))
def cP:Fn:=cg 9 3 dD
def qM{a:Q5}{s:e_}(h:a.length=3):cP.p a s=(dD.p (m_ 9 a) s).fin:=bA h
def ir:Xd [2,4,6]:=(aD (ck 2 As)
 (aD (bY (aG (ae n4 (aa 0) (xC (.int 1)))) (i3 3) (kg 2 (xC (.bl I)) (aa 3)))
 (aD (ck 4 (cj (ac (aa 1) a_)))
 (aD (bY (bx vu (ac (ae n4 (aa 0) (xC (.int 0))) a_)) (i3 5) (t0 (dZ (xB (ae (oF I) (aa 5) (aa 1))) (xB (ae lh (aI 1 [5] (aG (Av (aa 4) (Au (xC (.int 1))) At)) (ws':=[]) (i3 0) (xB (ae (oF T) (aa 1) (aa 0))) (aa 0)) (cj a_)))) (q7 kl 4 (ac (az cP (ac (aa 0) (ac (aa 1) (ac (aa 5) a_)))) a_)) i4))
 (aD (ck 6 As)
 (Mu (ws':=[2,6]) 4 (aD (bY (aG (aa 4)) (i3 7) (bY (aG (aa 7)) (i3 8) (bY (aG (aa 7)) (i3 9) (t0 (dZ (xB (ae zD (aa 8) (aa 9))) (xB (ae (rF I) (aS (ac (aa 8) (ac (aa 9) a_))) (aa 2)))) (kg 6 (xC (.bl I)) (aS (ac (aa 8) (ac (aa 9) a_)))) i4))))
 (c8 (n7 fW (ac (n7 qW (ac (aa 6) a_)) a_))))))))))
def gf:Fn:=cg 10 2 ir
def yn{a:Q5}{s:e_}(h:a.length=2):gf.p a s=(ir.p (m_ 10 a) s).fin:=bA h
def Ay:nw:=(aW (qE (jS (ag (mC (.int 3)) ia)) (EY 1) (aW (bc 2 (cD dW (ag (ah 0) (ag (ah 1) ia))))
 (aW (bc 3 (cD gh.m (ag (ah 2) (ag (mC (.int 12)) ia))))
 (aW (bc 4 (NY (cD cB.m (ag (ah 2) (ag (av bO (ah 3) (mC (.int 0))) ia))) NW (NX (cD dk (ag (ah 2) (ag (av lb (av bO (ah 3) (mC (.int 0))) (mC (.int 1))) ia))))))
 (aW (bc 5 (uj x_ (ag (ah 4) ia)))
 (aW (bc 6 (cD gf.m (ag (ah 3) (ag (ah 4) ia))))
 (aW (bc 7 (cD cf.m (ag (ah 3) (ag (ah 5) ia))))
 (aW (zy (Js (Bn (mB (Jo (nk ["list"]) (ah 7)))) (Js (mB (av uG (uj kx (ag (ah 7) ia)) (uj kx (ag (ah 6) ia)))) (mB (av wh (ah 5) (ah 4))))) (bT (mC (.bl T))) ls)
 (aW (fb (zf cv (ah 7) (ag (kX (ag (mC (.int 0)) (ag (mC (.int 1)) ia))) ia)))
 (aW (fb (zf cv (ah 5) (ag (mC (.int 0)) ia)))
 (zy (mB (av uG (uj kx (ag (cD cf.m (ag (ah 3) (ag (uj x_ (ag (ah 4) ia)) ia))) ia)) (uj kx (ag (ah 6) ia)))) (bT (mC (.bl T))) ls)))))))))))
 (bT (mC (.bl I))))
def zQ:Q0->MH->RN:=dR 8 1 Ay
end
end Law
namespace Law
open MM PU SetT SortT
open L2 (vv mw gG)
set_option maxHeartbeats 1000000
def CK{i:Int}{s:e_}:eB.p [.int i] s=.ok (.bl I) s:=by rw[r6 (by rfl)];unfold d5;simp[m_,dN]
def CM{n i:Int}{s:e_}:d4.p [.int n,.int i] s=.ok (.bl (decide (0<=i)&&decide (i<n))) s:=by rw[rS (by rfl)];unfold d6;by_cases z:0<=i<;>simp[m_,CK,z]
def sh{n i:Int}{s:e_}(f:0<=i)(a:i<n):bh.p [.int n,.int i] s=.ok .non s:=by rw[mQ (by rfl)];unfold cN;simp[m_,CM,f,a]
abbrev OW(d:D)(ks:Q3):Prop:=d.items=J (ks.map kD)
def ft:∀(a:Q3),d3 (a.map kD)=J a
 |[]=>rfl
 |k::a=>by
  have:cE (kD k)=J k:=by
   show bo (k.map .int)=J k
   induction k with
   |nil=>rfl
   |cons i k f=>rw[nt,bo,f];rfl
  rw[nt,d3,this,ft a]
open Classical in
theorem Dz{ks:Q3}(h:(∀k∈ks,k≠[])/\(SetT.mm ks).length<=66):Mn.p [.lst (ks.map kD)]=J (.lst ((bE (SetT.mm ks)).map kD)):=by show(d3 (ks.map kD)).bind _=_;rw[ft,zS,b_ h]
def G0{a b:Int}:lx.p [.tup [.int a,.int b]]=J (.int (if b<a then b else a)):=by
 simp[lx,o9,D.items,bo,kj,argBest]
 split<;>simp
def G1{a b:Int}:lC.p [.tup [.int a,.int b]]=J (.int (if b>a then b else a)):=by
 simp[lC,o9,D.items,bo,kj,argBest]
 split<;>simp
def aF(n:Int)(a:Q3):D:=.tup [.int n,.tup (a.map kD)]
def ui{n v:Int}:∀(f:Q3),(∀k∈f,∃a b:Int,k=[a,b]/\0<=a/\a<b/\b<n)->(((f.map kD).filter λx=>match x with|.tup [.int a,.int b]=>decide (b=v)|_=>T).map λx=>match x with|.tup [.int a,.int b]=>.int a|_=>.non)=(below v f).map D.int:=by
 intro f
 induction f with
 |nil=>intro _;rfl
 |cons k f l =>
  intro j;obtain⟨a,b,rfl,_⟩:=j k (by simp)
  have:=l λk i=>j k (l_ _ i)
  by_cases z:b=v<;>simp[below,kD,z]at this ⊢<;>exact this
def t8{n v:Int}:∀(f:Q3),(∀k∈f,∃a b:Int,k=[a,b]/\0<=a/\a<b/\b<n)->(((f.map kD).filter λx=>match x with|.tup [.int a,.int b]=>decide (a=v)|_=>T).map λx=>match x with|.tup [.int a,.int b]=>.int b|_=>.non)=(above v f).map D.int:=by
 intro f
 induction f with
 |nil=>intro _;rfl
 |cons k f l =>
  intro j;obtain⟨a,b,rfl,_⟩:=j k (by simp)
  have:=l λk i=>j k (l_ _ i)
  by_cases z:a=v<;>simp[above,kD,z]at this ⊢<;>exact this
def yD(v:Int)(a:Q3):Q2:=below v a++above v a
def DA{n v:Int}{f:Q3}{s:e_}(w:lG n f)(C:0<=v)(hv:v<n):bg.p [aF n f,.int v] s=.ok (.lst ((yD v f).map .int)) s:=by
 have r:f.length<=66:=uf w.n12 w.tie w.nd;rw[oZ (by rfl)];unfold cY
 have u:=mq (ws:=[]) (ws':=[]) (env:=[J (aF n f),J (.int v),Y,Y]) (s:=s) (fm:=[1]) (i:=aG (ae n4 (aa 0) (xC (.int 1)))) (t:=xB (ae xg (aa 1) (aa 2))) (e:=aa 0) (ds:=f.map kD) (λx=>match x with|.tup [.int a,.int b]=>decide (b=v)|_=>T) (λx=>match x with|.tup [.int a,.int b]=>.int a|_=>.non) (by simp[aF]) (by simp;ext) (λx l=>by
   obtain⟨k,j,rfl⟩:=n6.mp l;obtain⟨a,b,rfl,_⟩:=w.tie k j
   exact⟨.int a,.int b,rfl,by simp[kD],λ_=>by simp[kD]⟩)
 have z:=mq (ws:=[]) (ws':=[]) (env:=[J (aF n f),J (.int v),J (.lst ((below v f).map .int)),Y]) (s:=s) (fm:=[1]) (i:=aG (ae n4 (aa 0) (xC (.int 1)))) (t:=xB (ae xg (aa 0) (aa 2))) (e:=aa 1) (ds:=f.map kD) (λx=>match x with|.tup [.int a,.int b]=>decide (a=v)|_=>T) (λx=>match x with|.tup [.int a,.int b]=>.int b|_=>.non) (by simp[aF]) (by simp;ext) (λx l=>by
   obtain⟨k,j,rfl⟩:=n6.mp l;obtain⟨a,b,rfl,_⟩:=w.tie k j
   exact⟨.int a,.int b,rfl,by simp[kD],λ_=>by simp[kD]⟩)
 rw[ui f w.tie]at u;rw[t8 f w.tie]at z;have bl:(below v f).length<=66:=l7 (Pp _ _) r;have al:(above v f).length<=66:=l7 (Pp _ _) r;have B:(fc (az bh (ac (ae n4 (aa 0) (xC (.int 0))) (ac (aa 1) a_))):Xd []).p (m_ 4 [aF n f,.int v]) s=.nx [J (aF n f),J (.int v),Y,Y] s:=by simp[m_,aF,sh C hv]
 rw[aB,B,PU.ak,aB,cL,u,Pg,PU.ak,aB,cL];show(((aI 2 [1] _ _ _ _ _ _).p [J (aF n f),J (.int v),J (.lst ((below v f).map .int)),Y] s).go _ _ |>.then _).fin=_;rw[z];simp[ni (x:=(below v f).map .int) (y:=(above v f).map .int) (by simp;ext),yD]
def nM(n:Nat):cQ 0 n=(j_ n).map .int:=by simp[cQ,j_]
def nR{ns:Q2}(a:ns.length<64):fW.p [.lst (ns.map .int)]=J (.lst ((eO ns).map .int)):=by
 have e:∀ns:Q2,bo (ns.map .int)=J ns:=λns=>by
  induction ns with
  |nil=>rfl
  |cons i k f=>rw[nt,bo,f];rfl
 show(j0 (ns.map .int)).map _=_;simp only[j0,e];rw[b_ a];rfl
def xV{ns:Q2}{j:Nat}(a:j<=ns.length):gA (ns.map D.int) (J (j:Int)) Y=(ns.drop j).map .int:=by unfold gA;rw[HT.kH,n_,HT.m4,C7 a,List.map_drop];exact C2 (by simp)
def bZ{f:Q4}{env:ao}{s s1:e_}{o:Af}{i:Nat}{a:Xs f}{j:f.contains i=I}{l:a.fz=I}{as ds ds':Q5}{r:D}(e1:a.p env s=.ok as s1)(e2:env[i]?=J (J (.lst ds)))(e3:o.p ds as=J (r,ds')):(q7 o i a j l).p env s=.nx (env.set i (J (.lst ds'))) s1:=by rw[Ki,mz e1 e2 e3]
def rB{ns:Q2}{j:Nat}{x:D}(e:(ns.map D.int)[j]?=J x):x=.int (ns.getD j 0)/\j<ns.length:=by rw[s_,ub]at e;obtain⟨i,e1,rfl⟩:=e;obtain⟨a,f⟩:=qp.mp e1;exact⟨by simp[List.getD,e1],a⟩
local macro_rules | `(tactic| simp! [$a,*]) => `(tactic| simp only [$a,*, Pb, aq, ar])
def xI{n:Int}{left:Q2}{s:e_}(h:∀x∈left,0<=x/\x<n):cw.p [.int n,.lst (left.map .int)] s=.ok .non s:=by
 rw[mI (by rfl)];unfold cy;obtain⟨l,a,e,z,rfl,y⟩:=bR (g:=(i3 2:Xg []).p) (b:=(fc (az bh (ac (aa 0) (ac (aa 2) a_))):Xd []).p)
  (λj env a=>∃z,env=[J (.int n),J (.lst (left.map .int)),z]/\a=s) (left.map .int) 0 [J (.int n),J (.lst (left.map .int)),Y] s ⟨Y,rfl,rfl⟩ (λj env a d ⟨z,u,r⟩ hd=>by
   subst u r;obtain⟨i,f,rfl⟩:=n6.mp (zI hd)
   exact⟨[J (.int n),J (.lst (left.map .int)),J (.int i)],[J (.int n),J (.lst (left.map .int)),J (.int i)],a,rfl,by simp[sh (h i f).1 (h i f).2],_,rfl,rfl⟩)
 rw[y]at e;rw[show m_ 3 [D.int n,.lst (left.map .int)]=[J (.int n),J (.lst (left.map .int)),Y]from rfl,cH,gK];simp![show(D.lst (left.map D.int)).items=J (left.map D.int)from rfl,Pf,Pg];rw[e];rfl
def CN{n:Int}{f:Q3}(j:0<=n)(i:n<=12)(l:∀k∈f,∃a b:Int,k=[a,b]/\0<=a/\a<b/\b<n):lG n (bE (SetT.mm f)) :=
 ⟨j,i,λk r=>l k ((SetT.eU k f).mp ((bw _).mem_iff.mp r)),eV _,(bw _).symm.nodup (fj f)⟩
def jH{n:Int}{f:Q3}(i:n<=12)(j:∀k∈f,∃a b:Int,k=[a,b]/\0<=a/\a<b/\b<n):(SetT.mm f).length<=66 :=
 uf i (λk l=>j k ((SetT.eU k f).mp l)) (fj f)
structure Ord(n:Nat)(qs:Q2):Prop where
 n12:n<=12
 pm:qs.Perm (j_ n)
def Ord.len{n:Nat}{a:Q2}(o:Ord n a):a.length=n:=by have:=o.pm.length_eq;simpa [j_]using this
def Ord.bd{n:Nat}{a:Q2}(o:Ord n a):∀q∈a,0<=q/\q<(n:Int):=λq f=>cS.mp (o.pm.mem_iff.mp f)
def Ord.at{n:Nat}{a:Q2}(o:Ord n a){j:Nat}(f:j<a.length):0<=a.getD j 0/\a.getD j 0<(n:Int):=o.bd _ (by
 have:a.getD j 0=a[j]:=by simp[List.getD,f]
 rw[this];exact List.getElem_mem f)
def jc{g:D->ao->Option ao}{t:ao->e_->PR Bool}{e:ao->e_->PR D}(S:ao->Prop)(P:D->Prop):∀(j:Q5)(env:ao)(s:e_),S env ->
  (∀x∈j,∀env s,S env->∃a,g x env=J a/\S a/\∃b u,t a s=.ok b u/\(b=I->∃y F,e a u=.ok y F/\P y))->∃r M,dG g t e j env s=.ok r M/\r.length<=j.length/\∀y∈r,P y
 |[],env,s,G,f=>⟨[],s,rfl,by simp,by simp⟩
 |x::j,env,s,G,f=>by
  obtain⟨a,e1,l,b,u,e2,e3⟩:=f x (by simp) env s G;have i:=λy L=>f y (l_ x L);rw[dG,e1];dsimp only;rw[e2,Pb]
  cases b with
  |true =>
   obtain⟨y,F,e4,py⟩:=e3 rfl;obtain⟨r,E,e5,H,C⟩:=jc S P j a F l i;refine⟨y::r,E,by simp only[if_true,e4,Pb,e5],by simp;ext,λz B=>?_⟩;rcases mu.mp B with rfl|B
   .exact py
   .exact C z B
  |false =>
   obtain⟨r,E,e5,H,C⟩:=jc S P j a u l i;exact⟨r,E,by simp only[o0,if_false,e5],by simp;ext,C⟩
def iC{ws ws':Q4}{env:ao}{s s0:e_}{fm:Q4}{i:Xi ws}{t:Xt ws'}{e:Xe ws'}{ds:Q5}(P:D->Prop)(C:i.p env s=.ok ds s0)(B:ds.length<=100000)(a:∀x∈ds,∀s,∃b f,t.p (J x::fm.map λi=>(env[i]?).getD Y) s=.ok b f/\(b=I->∃y E,e.p (J x::fm.map λi=>(env[i]?).getD Y) f=.ok y E/\P y))(u:ws'.contains 0=T:=by exact ys rfl)(hw:Ad 1 fm ws=ws':=by exact ys rfl)(hz:e.fz=I:=by exact ys rfl):
  ∃r j,(aI 1 fm i (i3 0 u) t e hw hz).p env s=.ok (.lst r) j/\r.length<=ds.length/\∀y∈r,P y:=by
 obtain⟨r,j,e1,G,H⟩:=jc (g:=(i3 0 u:Xg ws').p) (t:=t.p) (e:=e.p) (λv=>∃z,v=z::fm.map λi=>(env[i]?).getD Y) P ds (vd 1 fm env) s0 ⟨Y,rfl⟩ λx F l s ⟨z,hz⟩=>by
  subst hz;obtain⟨b,f,e2,e3⟩:=a x F s;exact⟨_,rfl,⟨J x,rfl⟩,b,f,e2,e3⟩
 refine⟨r,j,?_,G,H⟩;rw[sw,C,Pb,b_ B,e1]
def cX{lo:Int}{c:Nat}:(cQ lo c).length=c:=by simp[cQ]
def qD{lo:Int}{c:Nat}{x:D}(h:x∈cQ lo c):∃i:Int,x=.int i/\lo<=i/\i<lo+c:=by unfold cQ at h;obtain⟨k,a,rfl⟩:=n6.mp h;rw[IC]at a;exact⟨_,rfl,by ext,by ext⟩
def qC{c i:Nat}{x:D}(h:(cQ 0 c)[i]?=J x):x=.int (i:Int)/\i<c:=by unfold cQ at h;rw[s_,ub]at h;obtain⟨k,f,rfl⟩:=h;obtain⟨a,b⟩:=qp.mp f;simp at a b;subst b;exact⟨by simp,a⟩
def tY{n:Nat}{s:e_}(C:n<=12):∃f i,cB.p [.pen,.int n] s=.ok (.lst (f.map .int)) i/\Ord n f:=by
 rw[uF (by rfl)];unfold fh;have y:m_ 4 [D.pen,.int n]=[J .pen,J (.int n),Y,Y]:=rfl;obtain⟨u,i,e,z,f,rfl,pm⟩:=bR (g:=(i3 3:Xg [2]).p) (b:=(q7 v1 2 (ac (az aM (ac (aa 0) (ac (ae bq (aa 3) (xC (.int 1))) a_))) (ac (aa 3) a_)):Xd [2]).p)
  (λj env i=>∃z f,env=[J .pen,J (.int n),J (.lst ((f:Q2).map .int)),z]/\f.Perm (j_ j)) (cQ 0 n) 0 [J .pen,J (.int n),J (.lst []),Y] s ⟨Y,[],rfl,by simp[j_]⟩ (λj env i d ⟨z,f,B,pm⟩ hd=>by
   rw[qr]at pm ⊢;subst B;obtain⟨rfl,L⟩:=qC hd;have E:f.length=j:=by have:=pm.length_eq;simpa [j_]using this
   obtain⟨d,l,F,H,G⟩:=cW (s:=i) (size:=(j:Int)+1) (by ext) (by ext);obtain⟨k,rfl⟩:=df F;refine⟨[J .pen,J (.int n),J (.lst (f.map .int)),J (.int (j:Int))],[J .pen,J (.int n),J (.lst ((f.take k++(j:Int)::f.drop k).map .int)),J (.int (j:Int))],l,rfl,?_,_,f.take k++(j:Int)::f.drop k,rfl,?_⟩
   .rw[bZ (s1:=l) (as:=[.int (k:Int),.int (j:Int)]) (ds:=f.map .int) (ds':=(f.take k++(j:Int)::f.drop k).map .int) (r:=.non) (by simp[G]) rfl (by
     rw[vm (by simp;ext) (by simp;ext)];simp)]
    rfl
   .have:(f.take k++((j:Int))::f.drop k).Perm (((j:Int))::f):=by
     have:=Iy (a:=(j:Int)) (l₁:=f.take k) (l₂:=f.drop k)
     rwa [C3]at this
    refine this.trans ((pm.cons _).trans ?_);have e1:j_ (j+1)=j_ j++[(j:Int)]:=by simp[j_,List.range_succ]
    rw[e1]
    exact(Pm _ _).symm)
 rw[cX,qr]at pm;refine⟨f,i,?_,C,pm⟩;rw[y,aB,cr];simp![cV,aw,AW,ux,if_true,Pg,uy,uD,PU.ak,aB,cH,fx,ai];rw[i5 (by ext),xZ,Pf,Pg,e,PU.ak,jW (d:=.lst (f.map .int)) rfl,PU.ec]
def jp{n:Int}{i:Q3}(h:∀k∈i,IsT n k):∀k∈i.map uI,∃a b:Int,k=[a,b]/\0<=a/\a<b/\b<n:=λk y=>by
 obtain⟨l,f,rfl⟩:=n6.mp y;obtain⟨a,b,rfl,j,u,r,B,ne⟩:=h l f;rcases Int.lt_or_gt_of_ne ne with z|z
 .rw[Gj z];exact⟨a,b,rfl,j,z,B⟩
 .rw[Gk z];exact⟨b,a,rfl,r,z,u⟩
def zn(n:Nat)(y:D):Prop:=∃k,y=kD k/\IsT n k
def wv{n:Nat}:∀{ys:Q5},(∀y∈ys,zn n y)->∃a:Q3,ys=a.map kD/\∀k∈a,IsT n k
 |[],_=>⟨[],rfl,(λ_ h=>nomatch h)⟩
 |y::ys,h=>by
  obtain⟨a,e,i⟩:=wv (ys:=ys) λy j=>h y (l_ _ j);obtain⟨k,rfl,f⟩:=h y (by simp);exact⟨k::a,by rw[e];rfl,λx l=>(mu.mp l).elim (λq=>q▸f) (i x)⟩
def CO{ws:Q4}{env:ao}{i:Nat}{ks:Q3}{n:Int}{s:e_}(e:env[i]?=J (J (.lst (ks.map kD))))(l:∀k∈ks,IsT n k)(r:ks.length<=100000)(j:Ad 2 [] ws=[]){hz}:
  (aI 2 [] (aG (aa i)) (ws':=[]) (zj (sf (i3 0) (sf (i3 1) zi)) 2) k6 (aS (ac (n7 qi (ac (aa 0) (ac (aa 1) a_))) (ac (n7 qm (ac (aa 0) (ac (aa 1) a_))) a_))) j hz:Xe ws).p env s=.ok (.lst ((ks.map uI).map kD)) s:=by
 have q:=mq (ws:=ws) (ws':=[]) (env:=env) (s:=s) (fm:=[]) (i:=aG (aa i)) (t:=k6) (e:=(aS (ac (n7 qi (ac (aa 0) (ac (aa 1) a_))) (ac (n7 qm (ac (aa 0) (ac (aa 1) a_))) a_)))) (ds:=ks.map kD) (λ_=>I) (λx=>match cE x with|some k=>kD (uI k)|none=>.non) (by
  rw[gK,Cs e];rfl) (by simpa using r) (λx u=>by
   obtain⟨k,f,rfl⟩:=n6.mp u;obtain⟨a,b,rfl,_⟩:=l k f;refine⟨.int a,.int b,rfl,rfl,λ_=>?_⟩
   simp[kD,cE,bo,uI]) (hw:=j) (hz:=hz)
 rw[fi,zu]at q;rw[q,zu];congr 2;refine MQ λk f=>?_;obtain⟨a,b,rfl,_⟩:=l k f;rfl
def G2{n:Nat}{f:Q3}{s:e_}(B:n<=12)(j:∀k∈f,IsT n k)(l:f.length<=100000):gO.p [.int (n:Int),.lst (f.map kD)] s=.ok (aF n (bE (SetT.mm (f.map uI)))) s:=by have mt:=jp j;have z:=Dz (ks:=f.map uI) ⟨λk u=>by obtain⟨a,b,rfl,_⟩:=mt k u;simp,jH (by ext) mt⟩;have r:∀{x y:D}{s:e_},(if [x,y].length<=100000 then PR.ok (D.tup [x,y]) s else .bad)=.ok (.tup [x,y]) s:=λ{x y s}=>b_ (by simp);rw[wH (by rfl)];unfold gH;rw[show m_ 2 [.int (n:Int),D.lst (f.map kD)]=[J (.int (n:Int)),J (.lst (f.map kD))]from rfl];rw[fk,eI,ai,aq,Pb,ai,dL,ai,dL,ai,CO (ws:=[]) (i:=1) (ks:=f) rfl j l rfl];simp only[aq,Pb,aw,z,Pf,qj,r,Pg,PU.ec,aF]
def G3{ns:Q2}{k:Int}(a:0<=k):gA (ns.map D.int) Y (J k)=(ns.take k.toNat).map .int:=by
 obtain⟨j,rfl⟩:=df a;unfold gA;rw[HT.kH,n_,HT.m4,xZ,List.drop_zero,Nat.sub_zero,List.map_take];by_cases z:j<=ns.length
 .rw[C7 z]
 .rw[Ly (by ext),C2 (by simp),C2 (by simp;ext)]
structure Rg(n:Nat)(rs:Q2):Prop where
 nd:rs.Nodup
 bd:∀x∈rs,0<=x/\x<(n:Int)
 n12:n<=12
 l3:3<=rs.length
def Rg.len{n:Nat}{a:Q2}(g:Rg n a):a.length<=12:=by
 have:=List.Nodup.length_le_of_subset (l₂:=j_ 12) g.nd λx f=>by
  rw[cS];have:=g.bd x f;have:=g.n12;ext
 simpa [j_]using this
def pg{a:Q2}(nd:a.Nodup){i j:Nat}(f:i<a.length)(l:j<a.length)(e:a.getD i 0=a.getD j 0):i=j :=
 (List.getElem?_inj (i:=i) (j:=j) f nd).mp (by simp only[List.getD]at e;simp[f,l]at e ⊢;exact e)
def G4{n:Nat}{a:Q2}(g:Rg n a){i j:Nat}(l:i<a.length)(r:j<a.length)(ne:i≠j):IsT n [a.getD i 0,a.getD j 0]:=by have u:=g.bd (a.getD i 0) (by simp[List.getD,l]);have f:=g.bd (a.getD j 0) (by simp[List.getD,r]);exact⟨_,_,rfl,u.1,u.2,f.1,f.2,λe=>ne (pg g.nd l r e)⟩
def mJ{a:Q2}{i:Nat}(f:i<a.length):mw (a.map D.int) (i:Int)=J (.int (a.getD i 0)):=L2.f8 (by simp[List.getD,f])
def CP{a:Q2}{k:Nat}(f:k<a.length):mw (a.map D.int) ((k:Int)-1)=J (.int (a.getD (if k=0 then a.length-1 else k-1) 0)):=by
 by_cases z:k=0
 .subst z;rw[b_ rfl];unfold mw vv;rw[d_ (by ext),b_ (by simp;ext),zS]
  have:(((0:Nat):Int)-1+((a.map D.int).length:Int)).toNat=a.length-1:=by simp;ext
  rw[this];simp[List.getD,show a.length-1<a.length by ext]
 .rw[d_ z,show(k:Int)-1=((k-1:Nat):Int) by ext];exact mJ (by ext)
def CQ{n:Nat}{a:Q2}{s:e_}(g:Rg n a):∃l f,dX.p [.lst (a.map .int)] s=.ok (.lst l) f/\l.length<=12/\∀y∈l,zn n y:=by
 have z:=g.len;have l3:=g.l3;have C:∀{x y:D}{s:e_},(if [x,y].length<=100000 then PR.ok (D.tup [x,y]) s else .bad)=.ok (.tup [x,y]) s:=λ{x y s}=>b_ (by simp)
 obtain⟨r,f,q,u,B⟩:=iC (ws:=[]) (ws':=[]) (env:=[J (.lst (a.map .int))]) (s:=s) (s0:=s) (fm:=[0]) (i:=bx vu (ac (n7 mU (ac (aa 0) a_)) a_)) (t:=k6) (e:=aS (ac (ae n4 (aa 1) (ae cC (aa 0) (xC (.int 1)))) (ac (ae n4 (aa 1) (aa 0)) a_))) (ds:=cQ 0 a.length) (zn n) (by
  simp only[fx,ai,dL,aq,Pb,aw,Gg,n_,Pf]
  rw[i5 (by ext),xZ];rfl) (by rw[cX];ext) (λx E s=>by
   obtain⟨i,rfl,F,G⟩:=qD E;obtain⟨k,rfl⟩:=df F;refine⟨I,s,rfl,λ_=>⟨_,s,?_,_,rfl,G4 g (i:=if k=0 then a.length-1 else k-1) (j:=k) (by split<;>ext) (by ext) (by split<;>ext)⟩⟩;simp![eI,ai,aK,nt,zt,zH,zq,de,bF,mZ,Pf,kh,CP (show k<a.length by ext),mJ (show k<a.length by ext),aw,C]
   rfl)
 refine⟨r,f,?_,by rw[cX]at u;ext,B⟩;rw[vc (by rfl)];unfold fA;rw[show m_ 1 [D.lst (a.map .int)]=[J (.lst (a.map .int))]from rfl,fk,q];rfl
def o7{x y:D}{s:e_}:(if [x,y].length<=100000 then PR.ok (D.tup [x,y]) s else .bad)=.ok (.tup [x,y]) s:=b_ (by simp)
abbrev wE(n:Nat)(qs:Q2)(way cut:Int)(ps:Q5)(z7 z8 z9 z10:RU):ao:=[J .pen,J (.int 12),J (.int n),J (.lst (qs.map .int)),J (.int way),J (.int cut),J (.lst ps),z7,z8,z9,z10]
def u8{n:Nat}{qs:Q2}{way cut:Int}{ps:Q5}{z7 z8 z9 z10:RU}{t:Xt [6]}{c:Xe [6]}{b:Bool}{s:e_}{hi hz}(l:t.p (wE n qs way cut ps z7 z8 z9 z10) s=.ok b s)(u:b=I->∃r f,c.p (wE n qs way cut ps z7 z8 z9 z10) s=.ok (.lst r) f/\r.length<=12/\∀y∈r,zn n y)(B:ps.length<=1000)(pt:∀y∈ps,zn n y):
  ∃a f,(t0 t (q7 i_ 6 (ac c a_) hi hz) i4:Xd [6]).p (wE n qs way cut ps z7 z8 z9 z10) s=.nx (wE n qs way cut a z7 z8 z9 z10) f/\a.length<=ps.length+12/\∀y∈a,zn n y:=by
 rw[fg,l,Pg]
 cases b with
 |false=>exact⟨ps,s,rfl,by ext,pt⟩
 |true =>
  obtain⟨r,f,e,z,j⟩:=u rfl;exact⟨ps++r,f,bZ (s1:=f) (as:=[.lst r]) (ds:=ps) (ds':=ps++r) (r:=.non) (by rw[ai,e];rfl) rfl (fw (by ext)),by rw[v3];ext,λy i=>(mh.mp i).elim (pt y) (j y)⟩
def K7{n j k:Nat}(a:j<n)(f:k<j):zn n (.tup [.int (j:Int),.int (k:Int)]):=⟨[(j:Int),(k:Int)],rfl,_,_,rfl,by ext,by ext,by ext,by ext,by ext⟩
def qt{n j:Nat}{C:Q2}{f a:Int}{E:Q5}{B z l:RU}{fm:Q4}{t:Xt []}{hw hz}{s:e_}(H:j<n)(n12:n<=12)(M:∀k:Nat,k<j->∀s,∃b u,t.p (J (.int (k:Int))::J (.int (j:Int))::fm.map λi=>((wE n C f a E (J (.int (j:Int))) B z l)[i]?).getD Y) s=.ok b u):
  ∃r G,(aI 1 (7::fm) (bx vu (ac (aa 7) a_)) (ws':=[]) (i3 0) t (aS (ac (aa 1) (ac (aa 0) a_))) hw hz:Xe [6]).p (wE n C f a E (J (.int (j:Int))) B z l) s=.ok (.lst r) G/\r.length<=12/\∀y∈r,zn n y:=by
 obtain⟨r,u,q,F,L⟩:=iC (ws:=[6]) (ws':=[]) (env:=wE n C f a E (J (.int (j:Int))) B z l) (s:=s) (s0:=s) (fm:=7::fm) (i:=bx vu (ac (aa 7) a_)) (t:=t) (e:=aS (ac (aa 1) (ac (aa 0) a_))) (ds:=cQ 0 j) (zn n) (by
  simp![fx,ai,aw]
  rw[i5 (by ext),xZ];rfl) (by rw[cX];ext) (λx O s=>by
   obtain⟨i,rfl,P,Q⟩:=qD O;obtain⟨k,rfl⟩:=df P;obtain⟨b,u,e⟩:=M k (by ext) s;refine⟨b,u,e,λ_=>⟨_,u,?_,K7 H (k:=k) (by ext)⟩⟩
   simp![eI,ai,nt,zG,zH,zq,aw,o7]) (hw:=hw) (hz:=hz)
 rw[cX]at F;exact⟨r,u,q,by ext,L⟩
abbrev QD:Xd [6]:=(aD (t0 (xB (ae zD (aa 4) (xC (.int 2)))) (q7 i_ 6 (ac (aI 1 [7,0,4] (bx vu (ac (aa 7) a_)) (ws':=[]) (i3 0) (xB (ae xg (az aM (ac (aa 2) (ac (ae bq (xC (.int 2)) (aa 3)) a_))) (xC (.int 0)))) (aS (ac (aa 1) (ac (aa 0) a_)))) a_)) i4)
 (aD (t0 (xB (ae xg (aa 4) (xC (.int 2)))) (q7 i_ 6 (ac (aI 1 [7,5] (bx vu (ac (aa 7) a_)) (ws':=[]) (i3 0) (xB (ae zW (ae zD (aa 1) (aa 2)) (ae zD (aa 0) (aa 2)))) (aS (ac (aa 1) (ac (aa 0) a_)))) a_)) i4)
 (t0 (xB (ae xg (aa 4) (xC (.int 4)))) (q7 i_ 6 (ac (aI 1 [7,0,2] (bx vu (ac (aa 7) a_)) (ws':=[]) (i3 0) (Dt (xB (ae (oF T) (ae cC (aa 1) (aa 0)) (aS (ac (xC (.int 1)) (ac (ae cC (aa 3) (xC (.int 1))) a_))))) (xB (ae xg (az aM (ac (aa 2) (ac (xC (.int 6)) a_))) (xC (.int 0))))) (aS (ac (aa 1) (ac (aa 0) a_)))) a_)) i4)))
def OX{n j:Nat}{qs:Q2}{a cut:Int}{l:Q5}{z8 z9 z10:RU}{s:e_}(r:j<n)(n12:n<=12)(w0:0<=a)(Z:l.length<=900)(pt:∀y∈l,zn n y):
  ∃f F,QD.p (wE n qs a cut l (J (.int (j:Int))) z8 z9 z10) s=.nx (wE n qs a cut f (J (.int (j:Int))) z8 z9 z10) F/\f.length<=l.length+36/\∀y∈f,zn n y:=by
 obtain⟨M,i,C,l1,P⟩:=u8 (n:=n) (qs:=qs) (way:=a) (cut:=cut) (ps:=l) (z7:=J (.int (j:Int))) (z8:=z8) (z9:=z9) (z10:=z10) (s:=s) (t:=xB (ae zD (aa 4) (xC (.int 2)))) (c:=aI 1 [7,0,4] (bx vu (ac (aa 7) a_)) (ws':=[]) (i3 0) (xB (ae xg (az aM (ac (aa 2) (ac (ae bq (xC (.int 2)) (aa 3)) a_))) (xC (.int 0)))) (aS (ac (aa 1) (ac (aa 0) a_)))) (b:=decide (a<2)) (hi:=rfl) (hz:=rfl) (by simp) (λu=>qt r n12 λk B s=>by
   have:a<2:=of_decide_eq_true u
   obtain⟨d,i,S,G,z⟩:=cW (s:=s) (size:=2+a) (by ext) (by ext)
   exact⟨_,i,by simp![bX,aK,aV,ai,nt,zt,zG,zH,zq,de,bF,aw,fX,Pf,z,pj,lm,Pl];rfl⟩) (by ext) pt
 obtain⟨E,Q,W,l2,U⟩:=u8 (n:=n) (qs:=qs) (way:=a) (cut:=cut) (ps:=M) (z7:=J (.int (j:Int))) (z8:=z8) (z9:=z9) (z10:=z10) (s:=i) (t:=xB (ae xg (aa 4) (xC (.int 2)))) (c:=aI 1 [7,5] (bx vu (ac (aa 7) a_)) (ws':=[]) (i3 0) (xB (ae zW (ae zD (aa 1) (aa 2)) (ae zD (aa 0) (aa 2)))) (aS (ac (aa 1) (ac (aa 0) a_)))) (b:=decide (a=2)) (hi:=rfl) (hz:=rfl) (by simp) (λu=>qt r n12 λk B s=>by
   exact⟨_,s,by simp![bX,aK,nt,zt,zG,zH,zq,vV,Pf,pq,Gh,Pl];rfl⟩) (by ext) P
 obtain⟨X,L,O,l3,H⟩:=u8 (n:=n) (qs:=qs) (way:=a) (cut:=cut) (ps:=E) (z7:=J (.int (j:Int))) (z8:=z8) (z9:=z9) (z10:=z10) (s:=Q) (t:=xB (ae xg (aa 4) (xC (.int 4)))) (c:=aI 1 [7,0,2] (bx vu (ac (aa 7) a_)) (ws':=[]) (i3 0) (Dt (xB (ae (oF T) (ae cC (aa 1) (aa 0)) (aS (ac (xC (.int 1)) (ac (ae cC (aa 3) (xC (.int 1))) a_))))) (xB (ae xg (az aM (ac (aa 2) (ac (xC (.int 6)) a_))) (xC (.int 0))))) (aS (ac (aa 1) (ac (aa 0) a_)))) (b:=decide (a=4)) (hi:=rfl) (hz:=rfl) (by simp) (λu=>qt r n12 λk B s=>by
   have R:=dn (neg:=T) (x:=(j:Int)-(k:Int)) (d:=.tup [.int 1,.int ((n:Int)-1)]) (xs:=[1,(n:Int)-1]) rfl;obtain⟨d,i,S,G,z⟩:=cW (s:=s) (size:=6) (by decide) (by decide);have e:∀b:Bool,((if b=I then PR.ok I s else PR.ok (decide (d=0)) i):PR Bool)=.ok (if b=I then I else decide (d=0)) (if b=I then s else i):=λb=>by cases b<;>rfl
   refine⟨_,_,Eq.trans ?_ (e (decide ((j:Int)-(k:Int)∈[1,(n:Int)-1])))⟩
   simp![Dx,bX,aK,aV,ai,nt,zt,zG,zH,zq,mZ,Pf,eI,de,bF,aw,o7,eE,R,Pl,z,pj,lm,o0,if_false]) (by ext) U
 refine⟨X,L,?_,by ext,H⟩;rw[aB,C,PU.ak,aB,W,PU.ak,O]
def mO(k:Q2):cE (kD k)=J k:=by
 have:=ft [k]
 simp only[nt,zt,d3]at this;revert this
 cases cE (kD k) with
 |none=>intro h;cases h
 |some y=>intro h;simp at h;rw[h]
def ph{a:Q4}{N:Nat}{t:Xt a}{b:Xd a}(f:∀{Z h n},bP t.m b.m n Z h≠.bad->E1 t.m b.m Z h=bP t.m b.m n Z h){env:ao}{s:e_}:(F5 N t b f).p env s=cA t.p b.p N env s:=rfl
def sJ{n v:Int}{a:Q3}(w:lG n a):(below v a++above v a).length<=12:=by
 have:=List.Nodup.length_le_of_subset (l₂:=j_ 12) (lK (v:=v) w).1 λx f=>by
  rw[cS]
  have:=(lK (v:=v) w).2 x f
  have:=w.n12
  ext
 simpa [j_]using this
abbrev QE:Xt [6]:=(dZ (xB (ae xg (aa 4) (xC (.int 3)))) (xB (ae F8 (ae cC (aa 2) (aa 8)) (xC (.int 2)))))
abbrev QF:Xd [6]:=(aD (bJ 9 (ae bq (xC (.int 3)) (az aM (ac (aa 0) (ac (ae cC (ae cC (aa 2) (aa 8)) (xC (.int 2))) a_)))))
 (aD (q7 i_ 6 (ac (az dX (ac (n7 qJ (ac (aa 8) (ac (ae bq (aa 8) (aa 9)) a_))) a_)) a_))
 (bJ 8 (ae bq (aa 8) (aa 9)))))
def G5{i j:Int}(h:(-10000<=i/\i<=10000) /\ -10000<=j/\j<=10000):qJ.p [.int i,.int j]=J (.lst (cQ i (j-i).toNat)):=b_ h
def G6{n lo m:Nat}(n12:n<=12)(j:3<=m)(r:lo+m<=n):Rg n ((List.range m).map λi:Nat=>(lo:Int)+(i:Int)):=by
 refine⟨List.Pairwise.map (R:=λa b:Nat=>a≠b) _ (λa b h z=>h (by ext)) Lx,λx l=>?_,n12,by simpa using j⟩;obtain⟨i,f,rfl⟩:=n6.mp l
 have:=IC.mp f
 ext
def G7{n:Nat}{qs:Q2}{way cut:Int}{z7 z10:RU}(n12:n<=12):∀(N lo:Nat)(f:Q5)(l:RU)(s:e_),n-lo+1<=N->lo<=n->f.length+12*(n-lo)<=900->(∀y∈f,zn n y) ->
  ∃a B j u,cA QE.p QF.p N (wE n qs way cut f z7 (J (.int (lo:Int))) l z10) s=.nx (wE n qs way cut a z7 B j z10) u/\a.length<=900/\∀y∈a,zn n y:=by
 intro N
 induction N with
 |zero=>intro _ _ _ _ h;ext
 |succ N P =>
  intro lo f l s hN G U pt;have M:QE.p (wE n qs way cut f z7 (J (.int (lo:Int))) l z10) s=.ok (decide (way=3)&&decide (2<(n:Int)-(lo:Int))) s:=by by_cases z:way=3<;>simp[z]
  rw[cA,M,Pg];by_cases z:way=3/\2<(n:Int)-(lo:Int)
  .rw[b_ (by simp[z.1,z.2])];obtain⟨d,O,X,W,R⟩:=cW (s:=s) (size:=(n:Int)-(lo:Int)-2) (by ext) (by ext);obtain⟨m,E⟩:=df (i:=3+d) (by ext);obtain⟨r,C,L,Z,rt⟩:=CQ (s:=O) (G6 (lo:=lo) (m:=m) n12 (by ext) (by ext));have H:qJ.p [.int (lo:Int),.int ((lo:Int)+(m:Int))]=J (.lst (((List.range m).map λi:Nat=>(lo:Int)+(i:Int)).map .int)):=by
    rw[G5 ⟨⟨by ext,by ext⟩,by ext,by ext⟩,show((lo:Int)+(m:Int)-(lo:Int)).toNat=m by ext,zu];rfl
   obtain⟨a,B,j,u,e,Q,S⟩:=P (lo+m) (f++r) (J (.int (m:Int))) C (by ext) (by ext) (by
    rw[v3];ext) λy F=>(mh.mp F).elim (pt y) (rt y)
   refine⟨a,B,j,u,?_,Q,S⟩;rw[<-e];have st:QF.p (wE n qs way cut f z7 (J (.int (lo:Int))) l z10) s=.nx (wE n qs way cut (f++r) z7 (J (.int ((lo+m:Nat):Int))) (J (.int (m:Int))) z10) C:=by
    rw[aB,cL];simp![aK,de,bF,aV,ai,mZ,Pf,aw,R,fX,E,Pg,uy,uD,PU.ak]
    rw[aB,bZ (s1:=C) (as:=[.lst r]) (ds:=f) (ds':=f++r) (r:=.non) (by
     simp![ai,aV,dL,aK,fX,Pf,aw,H,L]) rfl (fw (by ext)),PU.ak]
    simp
   rw[st];rfl
  .refine⟨f,J (.int (lo:Int)),l,s,?_,by ext,pt⟩;rw[d_ (by simpa using z)]
abbrev QZ:Xd [6]:=(t0 (xB (ae F8 (aa 2) (xC (.int 1)))) (aD (bJ 10 (aI 1 [0,2] (bx vu (ac (az aM (ac (aa 0) (ac (xC (.int 3)) a_))) a_)) (ws':=[]) (i3 0) k6 (aS (ac (az aM (ac (aa 1) (ac (aa 2) a_))) (ac (az aM (ac (aa 1) (ac (aa 2) a_))) a_)))))
 (q7 i_ 6 (ac (aI 2 [] (aG (aa 10)) (ws':=[]) (zj (sf (i3 0) (sf (i3 1) zi)) 2) (xB (ae zW (aa 0) (aa 1))) (aS (ac (aa 0) (ac (aa 1) a_)))) a_))) i4)
def OY{n:Nat}{qs:Q2}{way cut:Int}{f:Q5}{z7 z8 z9 z10:RU}{s:e_}(n12:n<=12)(pl:f.length<=900)(pt:∀y∈f,zn n y):
  ∃j l P,QZ.p (wE n qs way cut f z7 z8 z9 z10) s=.nx (wE n qs way cut j z7 z8 z9 l) P/\j.length<=902/\∀y∈j,zn n y:=by
 have Q:(xB (ae F8 (aa 2) (xC (.int 1))):Xt [6]).p (wE n qs way cut f z7 z8 z9 z10) s=.ok (decide ((1:Int)<(n:Int))) s:=by simp
 rw[fg,Q,Pg];by_cases z:(1:Int)<(n:Int)
 .rw[b_ (by simpa using z)];obtain⟨d,S,W,d1,Z⟩:=cW (s:=s) (size:=3) (by decide) (by decide);obtain⟨m,rfl⟩:=df W
  obtain⟨r,F,q,O,H⟩:=iC (ws:=[6]) (ws':=[]) (env:=wE n qs way cut f z7 z8 z9 z10) (s:=s) (s0:=S) (fm:=[0,2]) (i:=bx vu (ac (az aM (ac (aa 0) (ac (xC (.int 3)) a_))) a_)) (t:=k6) (e:=aS (ac (az aM (ac (aa 1) (ac (aa 2) a_))) (ac (az aM (ac (aa 1) (ac (aa 2) a_))) a_))) (ds:=cQ 0 m) (λy=>∃a b:Int,y=.tup [.int a,.int b]/\0<=a/\a<n/\0<=b/\b<n) (by
   simp![fx,aV,ai,de,bF,aw,Z]
   rw[i5 (by ext),xZ];rfl) (by rw[cX];ext) (λx L s=>by
    obtain⟨a,R,C,E,qa⟩:=cW (s:=s) (size:=(n:Int)) (by ext) (by ext);obtain⟨b,s4,G,B,U⟩:=cW (s:=R) (size:=(n:Int)) (by ext) (by ext);refine⟨I,s,rfl,λ_=>⟨_,s4,?_,a,b,rfl,C,E,G,B⟩⟩
    simp![eI,ai,aV,nt,zt,zG,zH,zq,aw,qa,U,o7])
  rw[cX]at O
  have M:=mq (ws:=[6]) (ws':=[]) (env:=wE n qs way cut f z7 z8 z9 (J (.lst r))) (s:=F) (fm:=[]) (i:=aG (aa 10)) (t:=xB (ae zW (aa 0) (aa 1))) (e:=aS (ac (aa 0) (ac (aa 1) a_))) (ds:=r) (λx=>match x with|.tup [.int a,.int b]=>!decide (a=b)|_=>T) (λx=>x) (by simp) (by ext) (λx L=>by
   obtain⟨a,b,rfl,_⟩:=H x L
   exact⟨.int a,.int b,rfl,by simp,λ_=>by simp⟩)
  rw[List.map_id']at M;have fl:=AE (λx:D=>match x with|.tup [.int a,.int b]=>!decide (a=b)|_=>T) r;refine⟨f++r.filter λx=>match x with|.tup [.int a,.int b]=>!decide (a=b)|_=>T,J (.lst r),F,?_,by rw[v3];ext,λy u=>(mh.mp u).elim (pt y) λu=>?_⟩
  .rw[aB,cL,q,Pg];simp only[uy,uD,PU.ak];exact bZ (s1:=F) (as:=[.lst _]) (ds:=f) (ds':=f++_) (r:=.non) (by rw[ai,M];rfl) rfl (fw (by ext))
  .obtain⟨X,h2⟩:=zT.mp u;obtain⟨a,b,rfl,C,E,G,B⟩:=H y X;exact⟨[a,b],rfl,a,b,rfl,C,E,G,B,by simpa using h2⟩
 .rw[d_ (by simpa using z)];exact⟨f,z10,s,rfl,by ext,pt⟩
def K8{n:Nat}{f:Q2}{way cut:Int}{l:Q3}{z7 z8 z9 z10:RU}{s:e_}(o:Ord n f)(z:∀k∈l,IsT n k)(H:l.length<=902):
  ∃y:Q3,(aI 2 [3] (aG (aa 6)) (ws':=[]) (zj (sf (i3 0) (sf (i3 1) zi)) 2) k6 (aS (ac (ae n4 (aa 2) (aa 0)) (ac (ae n4 (aa 2) (aa 1)) a_))):Xe [6]).p (wE n f way cut (l.map kD) z7 z8 z9 z10) s=.ok (.lst (y.map kD)) s/\(∀k∈y,IsT n k)/\y.length<=902:=by
 have Q:=o.len;have nd:f.Nodup:=o.pm.symm.nodup (sG n);refine⟨l.map λk=>match k with|[a,b]=>[f.getD a.toNat 0,f.getD b.toNat 0]|_=>[],?_,λk r=>?_,by simpa using H⟩
 .have G:=mq (ws:=[6]) (ws':=[]) (env:=wE n f way cut (l.map kD) z7 z8 z9 z10) (s:=s) (fm:=[3]) (i:=aG (aa 6)) (t:=k6) (e:=aS (ac (ae n4 (aa 2) (aa 0)) (ac (ae n4 (aa 2) (aa 1)) a_))) (ds:=l.map kD) (λ_=>I) (λx=>match cE x with|some [a,b]=>kD [f.getD a.toNat 0,f.getD b.toNat 0]|_=>kD []) (by simp) (by simp;ext) (λx P=>by
   obtain⟨k,r,rfl⟩:=n6.mp P;obtain⟨a,b,rfl,u,M,B,L,_⟩:=z k r;obtain⟨a,rfl⟩:=df u;obtain⟨b,rfl⟩:=df B;refine⟨.int (a:Int),.int (b:Int),rfl,rfl,λ_=>?_⟩;rw[mO];simp![eI,ai,aK,nt,zt,zG,zH,zq,kh,mJ (show a<f.length by ext),mJ (show b<f.length by ext),Pf,aw,o7,xZ]
   rfl)
  rw[fi,zu]at G;rw[G,zu];congr 2;refine MQ λk r=>?_;obtain⟨a,b,rfl,_⟩:=z k r;simp[mO]
 .obtain⟨O,C,rfl⟩:=n6.mp r;obtain⟨a,b,rfl,u,M,B,L,ne⟩:=z O C;obtain⟨a,rfl⟩:=df u;obtain⟨b,rfl⟩:=df B;have E:=o.at (j:=a) (by ext);have F:=o.at (j:=b) (by ext);simp only[xZ];refine⟨_,_,rfl,E.1,E.2,F.1,F.2,λe=>ne ?_⟩;rw[pg nd (i:=a) (j:=b) (by ext) (by ext) e]
def K9{s:e_}:∃(n:Nat)(G:Q3)(u:e_),gh.p [.pen,.int 12] s=.ok (aF n G) u/\n<=12/\lG n G:=by
 obtain⟨a,s1,W,a9,qa⟩:=cW (s:=s) (size:=13) (by decide) (by decide);obtain⟨n,rfl⟩:=df W;obtain⟨B,s2,q2,o⟩:=tY (n:=n) (s:=s1) (by ext);obtain⟨i,s3,w0,w9,Z⟩:=cW (s:=s2) (size:=5) (by decide) (by decide);obtain⟨f,s4,c0,c9,qc⟩:=cW (s:=s3) (size:=(n:Int)+1) (by ext) (by ext);obtain⟨S,s5,e5,r,l,rfl,C,pt⟩:=bR (g:=(i3 7:Xg [6]).p) (b:=QD.p)
  (λj env u=>∃r l,env=wE n B i f l r Y Y Y/\l.length<=36*j/\∀y∈l,zn n y) (cQ 0 n) 0 _ s4 ⟨Y,[],rfl,by simp,by simp⟩ (λj env u d ⟨z,l,hE,C,pt⟩ hd=>by
   rw[qr]at C ⊢;subst hE;obtain⟨rfl,X⟩:=qC hd;obtain⟨F,L,q,ab,M⟩:=OX (cut:=f) (z8:=Y) (z9:=Y) (z10:=Y) (s:=u) (qs:=B) X (by ext) w0 (by ext) pt
   exact⟨_,_,L,rfl,q,_,F,rfl,by ext,M⟩)
 rw[cX,qr]at C;obtain⟨p6,P,O,s6,e6,U,t6⟩:=G7 (n:=n) (qs:=B) (way:=i) (cut:=f) (z7:=r) (z10:=Y) (by ext) 400 0 l Y s5 (by ext) (by ext) (by ext) pt;obtain⟨p7,E,H,e7,R,t7⟩:=OY (n:=n) (qs:=B) (way:=i) (cut:=f) (z7:=r) (z8:=P) (z9:=O) (z10:=Y) (s:=s6) (by ext) U t6;obtain⟨G,rfl,kt⟩:=wv t7;rw[n_]at R;obtain⟨hs,e8,Q,hl⟩:=K8 (way:=i) (cut:=f) (z7:=r) (z8:=P) (z9:=O) (z10:=E) (s:=H) o kt R;have mk:=G2 (s:=H) (n:=n) (by ext) Q (by ext);refine⟨n,bE (SetT.mm (hs.map uI)),H,?_,by ext,CN (by ext) (by ext) (jp Q)⟩;rw[xG (by rfl)];unfold ik;rw[show m_ 11 [D.pen,.int 12]=[J .pen,J (.int 12),Y,Y,Y,Y,Y,Y,Y,Y,Y]from rfl];rw[aB,cL];simp![aK,de,bF,aV,ai,aw,fX,Pf,show(12:Int)+1=13 from rfl,qa,Pg,uy,uD,PU.ak];rw[aB,cL];simp![aV,ai,aw,q2,Pg,uy,uD,PU.ak];rw[aB,cL];simp![aV,ai,de,bF,aw,Z,Pg,uy,uD,PU.ak];rw[aB,cL];simp![aK,de,bF,aV,ai,aw,fX,Pf,qc,Pg,uy,uD,PU.ak];rw[aB,cr];simp only[cV,aw,Pb,AW,ux,if_true,Pg,uy,uD,PU.ak];rw[aB,cH,fx,ai];simp![aw];rw[i5 (by ext),xZ,Pf,Pg];refine(congrArg (λz:PS=>(z.then _).fin) e5).trans ?_;rw[PU.ak,aB,cL];simp only[de,bF,Pg,uy,uD,PU.ak];rw[aB,ph fy];refine(congrArg (λz:PS=>(z.then _).fin) e6).trans ?_;rw[PU.ak,aB];refine(congrArg (λz:PS=>(z.then _).fin) e7).trans ?_;rw[PU.ak,fk,aV,ai];simp![Pb];rw[ai,e8];simp only[Pb,aw,mk,Pg,PU.ec]
def Td(f:Q3)(a b:Int):Prop:=[a,b]∈f\/[b,a]∈f
def Td.symm{f:Q3}{a b:Int}(h:Td f a b):Td f b a:=h.elim .inr .inl
def ly{n:Int}{f:Q3}(w:lG n f){a b:Int}(h:Td f a b):a≠b/\(0<=a/\a<n)/\0<=b/\b<n:=by rcases h with h|h<;>obtain⟨x,y,e,i,l,j⟩:=w.tie _ h<;>injection e with e1 e<;>injection e with e2 _<;>subst e1 e2<;>ext
def iz{n v x:Int}{i:Q3}(w:lG n i):x∈yD v i↔Td i v x:=by
 unfold yD Td below above;rw[mh,C5,C5];constructor
 .rintro (⟨k,f,e⟩|⟨k,f,e⟩)<;>obtain⟨a,b,rfl,_⟩:=w.tie k f
  .by_cases z:b=v
   .simp[z]at e;subst e z;exact .inr f
   .simp[z]at e
  .by_cases z:a=v
   .simp[z]at e;subst e z;exact .inl f
   .simp[z]at e
 .rintro (h|h)
  .exact .inr ⟨_,h,by simp⟩
  .exact .inl ⟨_,h,by simp⟩
inductive Iw(ks:Q3)(ps:Q2)(a:Int):Q2->Int->Prop where
 |one:Iw ks ps a [a] a
 |more{wy:Q2}{e p:Int}:Iw ks ps a wy e->Td ks e p->p∈ps->p∉wy->(∀x∈wy,x≠e->¬Td ks x p)->Iw ks ps a (wy++[p]) p
inductive Rc(ks:Q3)(ps:Q2)(a:Int):Int->Prop where
 |base:Rc ks ps a a
 |step{x y:Int}:Rc ks ps a x->Td ks x y->y∈ps->Rc ks ps a y
def Iw.last{l:Q3}{j:Q2}{a e:Int}{f:Q2}(h:Iw l j a f e):∃i,f=i++[e]:=by
 cases h with
 |one=>exact⟨[],rfl⟩
 |@more w e p=>exact⟨w,rfl⟩
def Iw.nd{r:Q3}{i:Q2}{a e:Int}{f:Q2}(h:Iw r i a f e):f.Nodup:=by
 induction h with
 |one=>simp
 |@more f e p _ _ _ l _ B =>
  rw[zR];refine⟨B,by simp,λx u y j z=>l ?_⟩
  have:y=p:=by simpa using j
  rw[<-this,<-z];exact u
def xv{a:Q5}{d:D}:mw (a++[d]) (-1)=J d:=by
 unfold mw vv;rw[d_ (by decide),b_ (by simp;ext),zS]
 have:((-1:Int)+((a++[d]).length:Int)).toNat=a.length:=by simp;ext
 rw[this];simp
structure Bf(n:Nat)(ks:Q3)(ps:Q2)(a b:Int)(pd:Q2)(qu:List (Q2×Int))(sn:Q2):Prop where
 eq:sn=pd++qu.map (·.2)
 nd:sn.Nodup
 bd:∀x∈sn,0<=x/\x<(n:Int)
 st:a∈sn
 gw:∀q∈qu,Iw ks ps a q.1 q.2/\∀x∈q.1,x≠q.2->x∈pd
 cl:∀x∈pd,∀y,Td ks x y->y∈ps->y∈sn
 nb:b∉pd
def bp(a f ns:Q2):Q2:=ns.filter λp=>decide (p∈a) && !decide (p∈f)
def gn{a f ns:Q2}{p:Int}:p∈bp a f ns↔p∈ns/\p∈a/\p∉f:=by simp[bp]
def Bf.len{n:Nat}{r:Q3}{j:Q2}{a b:Int}{i:Q2}{f:List (Q2×Int)}{l:Q2}(h:Bf n r j a b i f l):i.length+f.length<=n:=by
 have:=List.Nodup.length_le_of_subset (l₂:=j_ n) h.nd λx u=>cS.mpr (h.bd x u)
 rw[h.eq]at this;simpa [j_]using this
def Bf.step{n:Nat}{l:Q3}{r:Q2}{a b e:Int}{E C:Q2}{H:List (Q2×Int)}{j:Q2}(w:lG n l)(h:Bf n l r a b E ((C,e)::H) j)(ne:e≠b):Bf n l r a b (E++[e]) (H++(bp r j (yD e l)).map λp=>(C++[p],p)) (j++bp r j (yD e l)):=by
 obtain⟨U,gp⟩:Iw l r a C e/\∀x∈C,x≠e->x∈E:=h.gw (C,e) rl;have Q:e∈j:=by rw[h.eq];simp
 have G:∀x∈E,x∈j:=λx f=>by rw[h.eq];exact sv _ f
 refine⟨?_,?_,λx f=>?_,sv _ h.st,λq B=>?_,λx f y t py=>?_,λu=>?_⟩
 .have e1:=h.eq;generalize bp r j (yD e l)=W;rw[e1];simp[Function.comp_def]
 .rw[zR];refine⟨h.nd,((lK (v:=e) w).1).filter _,λx f y O z=>?_⟩;subst z;exact(gn.mp O).2.2 f
 .rcases mh.mp f with f|f
  .exact h.bd x f
  .exact (ly w ((iz w).mp (gn.mp f).1)).2.2
 .rcases mh.mp B with B|B
  .obtain⟨P,M⟩:=h.gw q (l_ _ B);exact⟨P,λx f i=>sv _ (M x f i)⟩
  .obtain⟨p,S,rfl⟩:=n6.mp B;obtain⟨R,L,F⟩:=gn.mp S;refine⟨.more U ((iz w).mp R) L (λz=>?_) λx f i t=>F (h.cl x (gp x f i) p t L),λx f i=>?_⟩
   .by_cases y:p=e
    .exact F (y▸Q)
    .exact F (G p (gp p z y))
   .rcases mh.mp f with f|f
    .by_cases y:x=e
     .subst y;simp
     .exact sv _ (gp x f y)
    .exact absurd (by simpa using f) i
 .rcases mh.mp f with f|f
  .exact sv _ (h.cl x f y t py)
  .have:x=e:=by simpa using f
   subst this;by_cases z:y∈j
   .exact sv _ z
   .exact pk _ (gn.mpr ⟨(iz w).mpr t,py,z⟩)
 .rcases mh.mp u with u|u
  .exact h.nb u
  .have:b=e:=by simpa using u
   exact ne this.symm
def Bf.stop{n:Nat}{j:Q3}{f:Q2}{a b:Int}{l i:Q2}(h:Bf n j f a b l [] i):¬Rc j f a b:=λr=>by
 have e:i=l:=by rw[h.eq];simp
 have:∀y,Rc j f a y->y∈i:=λy r=>by
  induction r with
  |base=>exact h.st
  |step _ t py u=>exact h.cl _ (e▸u) _ t py
 exact h.nb (e▸this b r)
def DB(q:Q2×Int):D:=.lst (q.1.map .int)
abbrev y6(n:Nat)(ks:Q3)(ps:Q2)(a b:Int)(qu:List (Q2×Int))(sn:Q2)(z6 z7:RU):ao:=[J (aF n ks),J (.lst (ps.map .int)),J (.int a),J (.int b),J (.lst (qu.map DB)),J (.lst (sn.map .int)),z6,z7]
abbrev OZ:Xd [4,5]:=(t0 (dZ (xB (ae (oF T) (aa 7) (aa 1))) (xB (ae (oF I) (aa 7) (aa 5)))) (aD (q7 kl 5 (ac (aa 7) a_))
 (q7 kl 4 (ac (ae bq (aa 6) (cj (ac (aa 7) a_))) a_))) i4)
abbrev Mz:Xd [4,5]:=(aD (jl 6 zk 4 (ac (xC (.int 0)) a_))
 (aD (t0 (xB (ae xg (ae n4 (aa 6) (zO mS (xC (.int 1)))) (aa 3))) (c8 (aa 6)) i4)
 (bY (aG (az bg (ac (aa 0) (ac (ae n4 (aa 6) (zO mS (xC (.int 1)))) a_)))) (i3 7) OZ)))
abbrev K_:Xt [4,5]:=Gm (aa 4)
def G8{n:Nat}{ks:Q3}{ps:Q2}{a b:Int}{qu:List (Q2×Int)}{sn wy ns:Q2}{z7:RU}{s:e_}(nd:ns.Nodup)(W:ns.length<=12)(X:qu.length<=100)(l3:sn.length<=100)(U:wy.length<=100):
  ∃i,Ae (i3 7:Xg [4,5]).p OZ.p (ns.map .int) (y6 n ks ps a b qu sn (J (.lst (wy.map .int))) z7) s=.nx (y6 n ks ps a b (qu++(bp ps sn ns).map λp=>(wy++[p],p)) (sn++bp ps sn ns) (J (.lst (wy.map .int))) i) s:=by
 obtain⟨E,f,e,i,rfl,rfl⟩:=bR (g:=(i3 7:Xg [4,5]).p) (b:=OZ.p)
  (λj env f=>∃i,env=y6 n ks ps a b (qu++(bp ps sn (ns.take j)).map λp=>(wy++[p],p)) (sn++bp ps sn (ns.take j)) (J (.lst (wy.map .int))) i/\f=s) (ns.map .int) 0 (y6 n ks ps a b qu sn (J (.lst (wy.map .int))) z7) s ⟨z7,by simp[bp],rfl⟩ (λj env f d ⟨i,C,G⟩ hd=>by
   rw[qr]at C ⊢;subst C G;obtain⟨rfl,B⟩:=rB hd;have S:ns.getD j 0=ns[j]:=by simp[List.getD,B]
   rw[S];have O:ns.take (j+1)=ns.take j++[ns[j]]:=by rw[AH];simp[B]
   have M:ns[j]∉ns.take j:=λz=>by
    have:=nd
    rw[<-C3 j ns,zR]at this;exact this.2.2 _ z _ (by rw[MK B];exact rl) rfl
   have al:(bp ps sn (ns.take j)).length<=12:=by
    have:=AE (λp=>decide (p∈ps) && !decide (p∈sn)) (ns.take j)
    have l:=List.length_take_le j ns;unfold bp;rw[AG]at this;ext
   have F:=dn (neg:=T) (x:=ns[j]) (d:=.lst (ps.map .int)) (xs:=ps) rfl;have H:=dn (neg:=I) (x:=ns[j]) (d:=.lst ((sn++bp ps sn (ns.take j)).map .int)) (xs:=sn++bp ps sn (ns.take j)) rfl;refine⟨y6 n ks ps a b (qu++(bp ps sn (ns.take j)).map λp=>(wy++[p],p)) (sn++bp ps sn (ns.take j)) (J (.lst (wy.map .int))) (J (.int ns[j])),y6 n ks ps a b (qu++(bp ps sn (ns.take (j+1))).map λp=>(wy++[p],p)) (sn++bp ps sn (ns.take (j+1))) (J (.lst (wy.map .int))) (J (.int ns[j])),f,rfl,?_,_,rfl,rfl⟩;have Q:bp ps sn (ns.take (j+1))=bp ps sn (ns.take j)++(if ns[j]∈ps/\ns[j]∉sn then [ns[j]]else []):=by unfold bp;rw[O,List.filter_append];congr 1;by_cases u:ns[j]∈ps<;>by_cases y:ns[j]∈sn<;>simp[u,y]
   have R:ns[j]∈sn++bp ps sn (ns.take j)↔ns[j]∈sn:=by rw[mh];exact⟨λh=>h.elim id λh=>absurd (gn.mp h).1 M,.inl⟩
   have L:(dZ (xB (ae (oF T) (aa 7) (aa 1))) (xB (ae (oF I) (aa 7) (aa 5))):Xt [4,5]).p (y6 n ks ps a b (qu++(bp ps sn (ns.take j)).map λp=>(wy++[p],p)) (sn++bp ps sn (ns.take j)) (J (.lst (wy.map .int))) (J (.int ns[j]))) f=.ok (decide (ns[j]∈ps/\ns[j]∉sn)) f:=by
    simp![pF,bX,aK,eE,F,H,Pf,Pl,o0,if_false,if_true];by_cases u:ns[j]∈ps
    .simp only[u,decide_true,if_true,true_and,decide_not];by_cases y:ns[j]∈sn<;>simp[R,y]
    .simp[u]
   rw[fg,L,Pg,Q];by_cases z:ns[j]∈ps/\ns[j]∉sn
   .rw[b_ (by simpa using z),b_ z,aB];rw[bZ (s1:=f) (as:=[.int ns[j]]) (ds:=(sn++bp ps sn (ns.take j)).map .int) (ds':=(sn++(bp ps sn (ns.take j)++[ns[j]])).map .int) (r:=.non) (by simp) rfl (by rw[dY (by simp;ext)];simp),PU.ak];have P:bq.p (.lst (wy.map .int)) (.lst [.int ns[j]])=J (.lst ((wy++[ns[j]]).map .int)):=by
     rw[ni (by simp;ext)];simp
    rw[bZ (s1:=f) (as:=[.lst ((wy++[ns[j]]).map .int)]) (ds:=(qu++(bp ps sn (ns.take j)).map λp=>(wy++[p],p)).map DB) (ds':=(qu++(bp ps sn (ns.take j)++[ns[j]]).map λp=>(wy++[p],p)).map DB) (r:=.non) (by
     simp![uy,uD,ai,aK,cV,aw,y_,AW,show(0+1:Nat)<=100000 by decide,if_true,P,Pf]) rfl (by rw[dY (by simp;ext)];simp[DB])]
    rfl
   .rw[d_ (by simpa using z),d_ z,HD]
    rfl)
 rw[n_,qr,AU]at e;exact⟨i,e⟩
def G9{n:Nat}{f:Q3}{u:Q2}{a b:Int}{s:e_}(w:lG n f):∀(N:Nat)(F:Q2)(B:List (Q2×Int))(j:Q2)(E C:RU),n-F.length+1<=N->Bf n f u a b F B j ->
  (∃i,cA K_.p Mz.p N (y6 n f u a b B j E C) s=.rt (.lst (i.map .int)) s/\Iw f u a i b)\/(∃G,cA K_.p Mz.p N (y6 n f u a b B j E C) s=.nx G s/\¬Rc f u a b):=by
 intro N
 induction N with
 |zero=>intro _ _ _ _ _ h;ext
 |succ N Z =>
  intro F B j E C hd h;have H:=h.len;have n12:=w.n12
  cases B with
  |nil=>exact .inr ⟨y6 n f u a b [] j E C,by rw[cA,show K_.p (y6 n f u a b [] j E C) s=.ok T s by simp[iF]];rfl,h.stop⟩
  |cons q B =>
   obtain⟨i,e⟩:=q;obtain⟨Q,gp⟩:Iw f u a i e/\∀x∈i,x≠e->x∈F:=h.gw (i,e) rl;have W:e∈j:=by rw[h.eq];simp
   have L:=h.bd e W;have U:K_.p (y6 n f u a b ((i,e)::B) j E C) s=.ok I s:=by simp[iF]
   rw[cA,U,Pg,b_ rfl];obtain⟨w0,O⟩:=Q.last;have M:mS.p (.int 1)=J (.int (-1)):=rfl;have P:mw (i.map D.int) (-1)=J (.int e):=by rw[O,HE];exact xv
   have R:(jl 6 zk 4 (ac (xC (.int 0)) a_):Xd [4,5]).p (y6 n f u a b ((i,e)::B) j E C) s=.nx (y6 n f u a b B j (J (.lst (i.map .int))) C) s:=by refine Eq.trans (show _=zC zk 4 (ac (xC (.int 0)) a_:Xs [4,5]).p (y6 n f u a b ((i,e)::B) j E C) s (λr env s=>.nx (env.set 6 (J r)) s)from rfl) ?_;rw[mz (as:=[.int 0]) (s1:=s) (ds:=DB (i,e)::B.map DB) (r:=DB (i,e)) (ds':=B.map DB) (by simp) rfl rfl];rfl
   by_cases z:e=b
   .subst z;refine .inl ⟨i,?_,Q⟩;rw[aB,R,PU.ak,aB,fg];simp![bX,aK,pe,de,bF,M,Pf,kh,P,pj,lm,decide_true,Pl,Pg,if_true,fk,PU.tX,o0,if_false];rfl
   .have wl:i.length<=100:=by
     have l:=List.Nodup.length_le_of_subset (l₂:=j_ n) Q.nd λx X=>cS.mpr (by
      by_cases y:x=e
      .subst y;exact L
      .exact h.bd x (by rw[h.eq];exact sv _ (gp x X y)))
     simp[j_]at l;ext
    have sl:j.length<=100:=by
     have:=congrArg List.length h.eq
     simp at this H;ext
    have nl:(yD e f).length<=12:=sJ (v:=e) w;obtain⟨y7,S⟩:=G8 (n:=n) (ks:=f) (ps:=u) (a:=a) (b:=b) (qu:=B) (sn:=j) (wy:=i) (z7:=C) (s:=s) (lK (v:=e) w).1 nl (by simp at H;ext) sl wl;have st:Mz.p (y6 n f u a b ((i,e)::B) j E C) s=.nx (y6 n f u a b (B++(bp u j (yD e f)).map λp=>(i++[p],p)) (j++bp u j (yD e f)) (J (.lst (i.map .int))) y7) s:=by rw[aB,R,PU.ak,aB,fg];simp![bX,aK,pe,de,bF,M,Pf,kh,P,pj,lm,z,decide_false,Pl,Pg,o0,if_false,Cu,PU.ak];rw[cH];simp![gK,aV,ai,aK,pe,de,bF,M,Pf,kh,P,aw,DA w L.1 L.2,wA,Pg];exact S
    rw[st];exact Z (F++[e]) _ _ _ _ (by simp at H ⊢;ext) (h.step w z)
def CT{n:Nat}{f:Q3}{ps:Q2}{a b:Int}{s:e_}(w:lG n f)(B:0<=a/\a<(n:Int)):
  (∃i,aU.p [aF n f,.lst (ps.map .int),.int a,.int b] s=.ok (.lst (i.map .int)) s/\Iw f ps a i b)\/(aU.p [aF n f,.lst (ps.map .int),.int a,.int b] s=.ok .non s/\¬Rc f ps a b):=by
 have z:Bf n f ps a b [] [([a],a)] [a]:=by
  refine⟨rfl,by simp,λx l=>?_,by simp,λq y=>?_,by simp,by simp⟩
  .have:x=a:=by simpa using l
   subst this;exact B
  .have:q=([a],a):=by simpa using y
   subst this;exact⟨.one,λx l j=>absurd (by simpa using l) j⟩
 have r:=G9 (s:=s) w 400 [] [([a],a)] [a] Y Y (by have:=w.n12;simp;ext) z;have pre:aU.p [aF n f,.lst (ps.map .int),.int a,.int b] s=((cA K_.p Mz.p 400 (y6 n f ps a b [([a],a)] [a] Y Y) s).then (c8 (xC .non):Xd [4,5]).p).fin:=by rw[lI (by rfl)];unfold cx;rw[show m_ 8 [aF n f,.lst (ps.map .int),.int a,.int b]=[J (aF n f),J (.lst (ps.map .int)),J (.int a),J (.int b),Y,Y,Y,Y]from rfl];rw[aB,cr];simp![cV,ai,aw,y_,AW,show(0+1:Nat)<=100000 by decide,if_true,Pg,uy,uD,PU.ak,aB,cr];rw[ph fy];rfl
 rw[pre];rcases r with⟨i,r,t⟩|⟨u,r,t⟩
 .refine .inl ⟨i,?_,t⟩;rw[r];rfl
 .refine .inr ⟨?_,t⟩;rw[r];rfl
section
variable{ks:Q3}{L M:Q2}{a x y z:Int}{P Q:Q3}
def Rc.trans(h:Rc ks L x y)(f:Rc ks L y z):Rc ks L x z:=by
 induction f with
 |base=>exact h
 |step _ t m i=>exact .step i t m
def Rc.mem(f:x∈L)(h:Rc ks L x y):y∈L:=by
 cases h with
 |base=>exact f
 |step _ _ m=>exact m
def Rc.symm(f:x∈L)(h:Rc ks L x y):Rc ks L y x:=by
 induction h with
 |base=>exact .base
 |step r t m i=>exact Rc.trans (.step .base t.symm (r.mem f)) i
def Rc.mono(s:∀x∈M,x∈L)(h:Rc ks M x y):Rc ks L x y:=by
 induction h with
 |base=>exact .base
 |step _ t m f=>exact .step f t (s _ m)
def Rc.back(c:∀x∈M,∀y,Rc ks L x y->y∈M)(f:x∈M)(h:Rc ks L x y):Rc ks M x y:=by
 induction h with
 |base=>exact .base
 |step r t m i=>exact .step i t (c x f _ (.step r t m))
structure Part(ks:Q3)(L M:Q2)(P:Q3):Prop where
 ris:∀p∈P,p.Pairwise (·<·)
 ne:∀p∈P,p≠[]
 hd:P.Pairwise λp q=>p.headD 0<q.headD 0
 cl:∀p∈P,∀x∈p,∀y,y∈p↔Rc ks L x y
 all:∀x∈M,∃p∈P,x∈p
 sub:∀p∈P,∀x∈p,x∈M
def Part.len(h:Part ks L M P):P.length<=M.length:=by
 have nd:(P.map λp=>p.headD 0).Nodup:=Iu.mpr (h.hd.imp λ{a b} h=>by ext)
 have:=List.Nodup.length_le_of_subset (l₂:=M) nd λx i=>by
  obtain⟨p,f,rfl⟩:=n6.mp i
  cases p with
  |nil=>exact absurd rfl (h.ne _ f)
  |cons a p=>exact h.sub _ f a rl
 simpa using this
open Classical in
def bn(ks:Q3)(M:Q2)(a:Int):Q2:=M.filter λy=>decide (Rc ks M a y)
def y9(ks:Q3):Nat->Q2->Q3
 |0,_=>[]
 |_+1,[]=>[]
 |f+1,a::l=>bn ks (a::l) a::y9 ks f ((a::l).filter λy=>!decide (y∈bn ks (a::l) a))
def kQ:y∈bn ks M a↔y∈M/\Rc ks M a y:=by simp[bn]
def oE{l:Q2}:∃r,bn ks (a::l) a=a::r:=by unfold bn;rw[Ps (by simpa using Rc.base)];exact⟨_,rfl⟩
def pC{l:Q2}:((a::l).filter λy=>!decide (y∈bn ks (a::l) a))=l.filter λy=>!decide (y∈bn ks (a::l) a) :=
 Pt (by simp[kQ,Rc.base])
def yV:∀(f:Nat)(M:Q2),M.length<=f->M.Pairwise (·<·)->(∀x∈M,x∈L)->(∀x∈M,∀y,Rc ks L x y->y∈M)->Part ks L M (y9 ks f M):=by
 intro f
 induction f with
 |zero =>
  intro M U _ _ _
  have:M=[]:=AD.mp (by ext)
  subst this;exact⟨by simp[y9],by simp[y9],by simp[y9],by simp[y9],by simp,by simp[y9]⟩
 |succ f X =>
  intro M U G E R
  cases M with
  |nil=>exact⟨by simp[y9],by simp[y9],by simp[y9],by simp[y9],by simp,by simp[y9]⟩
  |cons a l =>
   have O:a∈a::l:=rl;have key:∀y,y∈bn ks (a::l) a↔Rc ks L a y:=λy=>kQ.trans ⟨λh=>h.2.mono E,λh=>⟨R a O y h,h.back R O⟩⟩;have C:∀y,y∈((a::l).filter λy=>!decide (y∈bn ks (a::l) a))↔y∈a::l/\¬Rc ks L a y:=λy=>by
    rw[zT,<-key];simp
   have i:=X ((a::l).filter λy=>!decide (y∈bn ks (a::l) a)) (by
    rw[pC]
    have:=AE (λy=>!decide (y∈bn ks (a::l) a)) l
    simp at U;ext) (G.filter _) (λx u=>E x ((C x).mp u).1) (λx u y r=>by
    obtain⟨B,S⟩:=(C x).mp u
    exact(C y).mpr ⟨R x B y r,λq=>S (q.trans (r.symm (E x B)))⟩)
   have H:∀x y,Rc ks L a x->(Rc ks L a y↔Rc ks L x y):=λx y h=>⟨λF=>(h.symm (E a O)).trans F,λF=>h.trans F⟩;unfold y9;refine⟨λp j=>?_,λp j=>?_,?_,λp j=>?_,λx u=>?_,λp j x u=>?_⟩
   .rcases mu.mp j with rfl|j
    .exact G.filter _
    .exact i.ris p j
   .rcases mu.mp j with rfl|j
    .obtain⟨r,e⟩:=oE (ks:=ks) (a:=a) (l:=l);rw[e];simp
    .exact i.ne p j
   .refine Iq.mpr ⟨λq W=>?_,i.hd⟩;obtain⟨r,e⟩:=oE (ks:=ks) (a:=a) (l:=l);rw[e]
    cases q with
    |nil=>exact absurd rfl (i.ne _ W)
    |cons b q =>
     obtain⟨B,S⟩:=(C b).mp (i.sub _ W b rl);show a<b;rcases mu.mp B with rfl|B
     .exact absurd .base S
     .exact (Iq.mp G).1 b B
   .rcases mu.mp j with rfl|j
    .exact λx u y=>(key y).trans (H x y ((key x).mp u))
    .exact i.cl p j
   .by_cases z:Rc ks L a x
    .exact⟨_,rl,(key x).mpr z⟩
    .obtain⟨p,j,h⟩:=i.all x ((C x).mpr ⟨u,z⟩);exact⟨p,l_ _ j,h⟩
   .rcases mu.mp j with rfl|j
    .exact (kQ.mp u).1
    .exact ((C x).mp (i.sub p j x u)).1
end
abbrev jj(p:Q2):D:=.lst (p.map .int)
structure Sm(n:Nat)(qs:Q2):Prop where
 n12:n<=12
 nd:qs.Nodup
 bd:∀x∈qs,0<=x/\x<(n:Int)
def Sm.len{n:Nat}{a:Q2}(m:Sm n a):a.length<=n:=by
 have:=List.Nodup.length_le_of_subset (l₂:=j_ n) m.nd λx f=>cS.mpr (m.bd x f)
 simpa [j_]using this
def uT(n:Nat)(a:Q2):Q2:=(j_ n).filter λx=>!decide (x∈a)
def bB{n:Nat}{a:Q2}{x:Int}:x∈uT n a↔(0<=x/\x<(n:Int))/\x∉a:=by simp[uT,cS]
def CU{n:Nat}{f:Q2}:(uT n f).Pairwise (·<·):=by unfold uT j_;exact(List.Pairwise.map (R:=λa b:Nat=>a<b) _ (λa b h=>by ext) Pw).filter _
def nD{n:Nat}{a:Q2}:(uT n a).length<=n:=by
 have:=AE (λx=>!decide (x∈a)) (j_ n)
 unfold uT;simpa [j_]using this
def ka(n:Nat)(a:Q3)(f:Q2):Q3:=y9 a n (uT n f)
def dA{n:Nat}{ks:Q3}{qs:Q2}:Part ks (uT n qs) (uT n qs) (ka n ks qs):=yV n _ nD CU (λ_ h=>h) λ_ a _ r=>r.mem a
def nS{n:Nat}{f:Q3}{a:Q2}{s:e_}(m:Sm n a):br.p [aF n f,.lst (a.map .int)] s=.ok .non s:=by have i:=m.len;have n12:=m.n12;have e1:=Km (ns:=a) (by ext);rw[CA.mpr m.nd]at e1;rw[kR (by rfl)];unfold cc;simp[m_,aF,xI m.bd,dN,e1]
def fo(p:Int->Bool)(q:D->Bool):∀(ns:Q2),(∀i∈ns,q (.int i)=p i)->(((ns.map D.int).filter q).map λx=>x)=(ns.filter p).map .int
 |[],_=>rfl
 |i::ns,h=>by
  have a:=fo p q ns λi f=>h i (l_ _ f);rw[nt,HA,HA,h i rl]
  cases p i with
  |true=>simp only[if_true,nt,a]
  |false=>simpa using a
def Ig(p:Int->Bool):D->Bool
 |.int i=>p i
 |_=>T
open Classical in
theorem La{n:Nat}{f:Q3}{M:Q2}{a b:Int}{s:e_}(w:lG n f)(r:0<=a/\a<(n:Int)):((aU.p [aF n f,.lst (M.map .int),.int a,.int b] s).bind λx j=>PR.of ((HZ I).p x .non) j)=.ok (.bl (decide (Rc f M a b))) s:=by
 have of:∀i e,Iw f M a i e->Rc f M a e:=λi e h=>by
  induction h with
  |one=>exact .base
  |more _ t m _ _ l=>exact .step l t m
 rcases CT (ps:=M) (b:=b) (s:=s) w r with⟨i,e,h⟩|⟨e,h⟩
 .rw[e,decide_eq_true (of _ _ h)];rfl
 .rw[e,decide_eq_false h];rfl
abbrev Az(n:Nat)(ks:Q3)(qs:Q2)(P:Q3)(M:Q2)(z:RU):ao:=[J (aF n ks),J (.lst (qs.map .int)),J (.lst (P.map jj)),J (.lst (M.map .int)),z]
abbrev MB:Xt [2]:=Gm (aa 3)
abbrev QG:Xd [2]:=(aD (bJ 4 (aI 1 [0,3] (aG (aa 3)) (ws':=[]) (i3 0) (xB (ae (HZ I) (az aU (ac (aa 1) (ac (aa 2) (ac (ae n4 (aa 2) (xC (.int 0))) (ac (aa 0) a_))))) (xC .non))) (aa 0)))
 (aD (q7 kl 2 (ac (aa 4) a_))
 (bJ 3 (aI 1 [4] (aG (aa 3)) (ws':=[]) (i3 0) (xB (ae (oF I) (aa 0) (aa 1))) (aa 0)))))
def G_{n:Nat}{j:Q3}{qs:Q2}{s:e_}(w:lG n j)(n12:n<=12):∀(f N:Nat)(M:Q2)(P:Q3)(z:RU),f<N->M.length<=f->(∀x∈M,0<=x/\x<(n:Int))->P.length+f<=100->M.length<=12 ->
  ∃E,cA MB.p QG.p N (Az n j qs P M z) s=.nx (Az n j qs (P++y9 j f M) [] E) s:=by
 intro f
 induction f with
 |zero =>
  intro N M P z hN F _ _ _;obtain⟨N,rfl⟩:∃m,N=m+1:=⟨N-1,by ext⟩
  have:M=[]:=AD.mp (by ext)
  subst this;refine⟨z,?_⟩;rw[cA,show MB.p (Az n j qs P [] z) s=.ok T s by simp[iF]];simp[y9]
 |succ f S =>
  intro N M P z hN F G U u;obtain⟨N,rfl⟩:∃m,N=m+1:=⟨N-1,by ext⟩
  cases M with
  |nil =>
   refine⟨z,?_⟩;rw[cA,show MB.p (Az n j qs P [] z) s=.ok T s by simp[iF]];simp[y9]
  |cons a l =>
   have Q:MB.p (Az n j qs P (a::l) z) s=.ok I s:=by simp[iF]
   have C:=fO (ws:=[2]) (ws':=[]) (env:=Az n j qs P (a::l) z) (s:=s) (fm:=[0,3]) (i:=aG (aa 3)) (t:=xB (ae (HZ I) (az aU (ac (aa 1) (ac (aa 2) (ac (ae n4 (aa 2) (xC (.int 0))) (ac (aa 0) a_))))) (xC .non))) (e:=aa 0) (ds:=(a::l).map .int) (open Classical in Ig λy=>decide (Rc j (a::l) a y)) (λx=>x) (by simp) (by simp at u ⊢;ext) (λx B=>by
    obtain⟨i,O,rfl⟩:=n6.mp B;refine⟨?_,λ_=>by simp⟩;have e:=La (M:=a::l) (b:=i) (s:=s) w (G a rl);have H:mw ((a::l).map D.int) 0=J (.int a):=pc;simp only[bX,aK,aV,ai,ar,aq,nt,zt,zG,zH,zq,Pb,de,bF,Gb,kh,Pf,aw]at e H ⊢;rw[H];simp only[Pf,Pb];rw[e]
    rfl)
   rw[fo (open Classical in λy=>decide (Rc j (a::l) a y)) _ _ λi _=>rfl]at C;have C:(aI 1 [0,3] (aG (aa 3)) (ws':=[]) (i3 0) (xB (ae (HZ I) (az aU (ac (aa 1) (ac (aa 2) (ac (ae n4 (aa 2) (xC (.int 0))) (ac (aa 0) a_))))) (xC .non))) (aa 0):Xe [2]).p (Az n j qs P (a::l) z) s=.ok (jj (bn j (a::l) a)) s:=C
   have L:=fO (ws:=[2]) (ws':=[]) (env:=Az n j qs (P++[bn j (a::l) a]) (a::l) (J (jj (bn j (a::l) a)))) (s:=s) (fm:=[4]) (i:=aG (aa 3)) (t:=xB (ae (oF I) (aa 0) (aa 1))) (e:=aa 0) (ds:=(a::l).map .int) (Ig λy=>!decide (y∈bn j (a::l) a)) (λx=>x) (by simp) (by simp at u ⊢;ext) (λx B=>by
    obtain⟨i,O,rfl⟩:=n6.mp B;have R:=dn (neg:=I) (x:=i) (d:=jj (bn j (a::l) a)) (xs:=bn j (a::l) a) rfl;refine⟨?_,λ_=>by simp⟩;simp![bX,aK,nt,zt,zG,zH,zq,eE,R,Pf,Pl]
    rfl)
   rw[fo (λy=>!decide (y∈bn j (a::l) a)) _ _ λi _=>rfl,pC]at L
   obtain⟨E,e⟩:=S N (l.filter λy=>!decide (y∈bn j (a::l) a)) (P++[bn j (a::l) a]) (J (jj (bn j (a::l) a))) (by ext) (by
    have:=AE (λy=>!decide (y∈bn j (a::l) a)) l
    simp at F;ext) (λx B=>G x (l_ _ (zT.mp B).1)) (by rw[v3,Ln];ext) (by
    have:=AE (λy=>!decide (y∈bn j (a::l) a)) l
    simp at u;ext)
   refine⟨E,?_⟩;rw[cA,Q,Pg,b_ rfl];have st:QG.p (Az n j qs P (a::l) z) s=.nx (Az n j qs (P++[bn j (a::l) a]) (l.filter λy=>!decide (y∈bn j (a::l) a)) (J (jj (bn j (a::l) a)))) s:=by rw[aB,cL,C,Pg];simp only[uy,uD,PU.ak];rw[aB,bZ (s1:=s) (as:=[jj (bn j (a::l) a)]) (ds:=P.map jj) (ds':=(P++[bn j (a::l) a]).map jj) (r:=.non) (by simp) rfl (by rw[dY (by simp;ext)];simp),PU.ak,cL];refine(congrArg (λz:PR D=>z.go _ _) L).trans ?_;rfl
   rw[st];refine Eq.trans e ?_;rw[zJ];show _=PS.nx (Az n j qs (P++bn j (a::l) a::y9 j f ((a::l).filter λy=>!decide (y∈bn j (a::l) a))) [] E) s;rw[pC];rfl
def xp{n:Nat}{f:Q3}{a:Q2}{s:e_}(w:lG n f)(m:Sm n a):eT.p [aF n f,.lst (a.map .int)] s=.ok (.lst ((ka n f a).map jj)) s:=by
 have n12:=m.n12;rw[vG (by rfl)];unfold gI;rw[show m_ 5 [aF n f,.lst (a.map .int)]=[J (aF n f),J (.lst (a.map .int)),Y,Y,Y]from rfl]
 have l:=fO (ws:=[2]) (ws':=[]) (env:=[J (aF n f),J (.lst (a.map .int)),J (.lst []),Y,Y]) (s:=s) (fm:=[1]) (i:=bx vu (ac (ae n4 (aa 0) (xC (.int 0))) a_)) (t:=xB (ae (oF I) (aa 0) (aa 1))) (e:=aa 0) (ds:=(j_ n).map .int) (Ig λy=>!decide (y∈a)) (λx=>x) (by
  simp only[fx,ai,aK,aq,Pb,de,bF,aF,uW,pc,Pf,aw]
  rw[i5 (by ext),xZ,nM];rfl) (by simp[j_];ext) (λx j=>by
   obtain⟨i,B,rfl⟩:=n6.mp j;have r:=dn (neg:=I) (x:=i) (d:=.lst (a.map .int)) (xs:=a) rfl;refine⟨?_,λ_=>by simp⟩;simp![bX,aK,nt,zt,zG,zH,zq,eE,r,Pf,Pl]
   rfl)
 rw[fo (λy=>!decide (y∈a)) _ _ λi _=>rfl]at l;have u:(uT n a).length<=n:=nD;obtain⟨C,e⟩:=G_ (qs:=a) (s:=s) w n12 n 400 (uT n a) [] Y (by ext) u (λx j=>(bB.mp j).1) (by simp;ext) (by ext);rw[aB,tE,aV,ai];simp![ai,aw,nS m,Pg,PU.ak];rw[aB,cr];simp only[cV,aw,Pb,AW,ux,if_true,Pg,uy,uD,PU.ak];rw[aB,cL,l,Pg];simp only[uy,uD,PU.ak];rw[aB,ph fy];refine(congrArg (λz:PS=>(z.then _).fin) e).trans ?_;rw[PU.ak,jW (d:=.lst ((ka n f a).map jj)) rfl,PU.ec]
def rj(f:Q3)(a p:Q2):Q2:=(eO a).filter λx=>(yD x f).any λy=>decide (y∈p)
def sg:∀(bs:List Bool),kA (bs.map .bl)=J bs
 |[]=>rfl
 |b::bs=>by rw[nt,kA,sg bs];rfl
def CV{n:Nat}{a:Q3}{f p:Q2}{s:e_}(w:lG n a)(m:Sm n f):dw.p [aF n a,.lst (f.map .int),jj p] s=.ok (jj (rj a f p)) s:=by
 have E:=m.len;have n12:=m.n12
 have q:=fO (ws:=[]) (ws':=[]) (env:=[J (aF n a),J (.lst (f.map .int)),J (jj p)]) (s:=s) (fm:=[2,0]) (i:=aG (n7 fW (ac (aa 1) a_))) (t:=xB (n7 Cr (ac (aI 1 [1] (aG (az bg (ac (aa 2) (ac (aa 0) a_)))) (ws':=[]) (i3 0) k6 (ae (oF T) (aa 0) (aa 1))) a_))) (e:=aa 0) (ds:=(eO f).map .int) (Ig λx=>(yD x a).any λy=>decide (y∈p)) (λx=>x) (by
  simp![gK,dL,ai,aw,nR (show f.length<64 by ext),Pf];rfl) (by rw[n_,(cT f).length_eq];ext) (λx l=>by
   obtain⟨i,z,rfl⟩:=n6.mp l;have u:=m.bd i ((cT f).mem_iff.mp z)
   have r:=fO (ws:=[]) (ws':=[]) (env:=[J (.int i),J (jj p),J (aF n a)]) (s:=s) (fm:=[1]) (i:=aG (az bg (ac (aa 2) (ac (aa 0) a_)))) (t:=k6) (e:=ae (oF T) (aa 0) (aa 1)) (ds:=(yD i a).map .int) (λ_=>I) (λx=>.bl (Ig (λy=>decide (y∈p)) x)) (by
    simp![gK,aV,ai,aw,DA w u.1 u.2];rfl) (by have:=sJ (v:=i) w;rw[n_];exact l7 this (by decide)) (λx l=>by
     obtain⟨j,C,rfl⟩:=n6.mp l;have B:=dn (neg:=T) (x:=j) (d:=jj p) (xs:=p) rfl;refine⟨rfl,λ_=>?_⟩;simp![aK,nt,zt,zG,zH,zq,eE,B,Pf]
     rfl)
   rw[fi,zu]at r;have e2:(yD i a).map ((λx:D=>D.bl (Ig (λy=>decide (y∈p)) x))∘D.int)=((yD i a).map λy=>decide (y∈p)).map .bl:=by rw[zu];rfl
   rw[e2]at r;have e3:Cr.p [.lst (((yD i a).map λy=>decide (y∈p)).map .bl)]=J (.bl ((yD i a).any λy=>decide (y∈p))):=by show((J (((yD i a).map λy=>decide (y∈p)).map D.bl)).bind kA).map _=_;rw[zS,sg];simp
   refine⟨?_,λ_=>by simp⟩;simp only[bX,dL,ai,nt,zt,zG,zH,zq];rw[r];simp only[Pb,aw,e3,Pf,Pl]
   rfl)
 rw[fo (λx=>(yD x a).any λy=>decide (y∈p)) _ _ λi _=>rfl]at q;rw[rZ (by rfl)];unfold eK;rw[show m_ 3 [aF n a,.lst (f.map .int),jj p]=[J (aF n a),J (.lst (f.map .int)),J (jj p)]from rfl,fk,q];rfl
def w4{a:Q5}:(iS a).length=a.length:=by simp[iS]
def wZ{a:Q5}{j:Nat}{d:D}(e:(iS a)[j]?=J d):∃x,a[j]?=J x/\d=.tup [.int (j:Int),x]:=by
 unfold iS at e;rw[s_,List.getElem?_zipIdx]at e
 cases e1:a[j]? with
 |none=>rw[e1]at e;cases e
 |some x=>rw[e1]at e;simp at e;exact⟨x,rfl,e.symm⟩
def tH{ns:Q2}{s:e_}(F:ns.length<=12):bK.p [.lst (ns.map .int)] s=.ok (.lst ((bz ns ns.length).map kD)) s:=by
 rw[mW (by rfl)];unfold cM;have B:m_ 4 [D.lst (ns.map .int)]=[J (.lst (ns.map .int)),Y,Y,Y]:=rfl;obtain⟨z,a,e,l,f,rfl,H⟩:=bR (g:=(zj (sf (i3 2) (sf (i3 3) zi)) 2:Xg [1]).p) (b:=(q7 i_ 1 (ac (aI 1 [3] (aG (Av (aa 0) (Au (ae bq (aa 2) (xC (.int 1)))) At)) (ws':=[]) (i3 0) k6 (aS (ac (aa 1) (ac (aa 0) a_)))) a_):Xd [1]).p)
  (λj env a=>∃l f,env=[J (.lst (ns.map .int)),J (.lst ((bz ns j).map kD)),l,f]/\a=s) (iS (ns.map .int)) 0 [J (.lst (ns.map .int)),J (.lst []),Y,Y] s ⟨Y,Y,rfl,rfl⟩ (λj env a d ⟨l,f,u,E⟩ hd=>by
   rw[qr]at u ⊢;subst u E;obtain⟨x,y,rfl⟩:=wZ hd;obtain⟨rfl,L⟩:=rB y;have C:=i6 F j
   have q:=fO (ws:=[1]) (ws':=[]) (env:=[J (.lst (ns.map .int)),J (.lst ((bz ns j).map kD)),J (.int (j:Int)),J (.int (ns.getD j 0))]) (s:=a) (fm:=[3]) (i:=(aG (Av (aa 0) (Au (ae bq (aa 2) (xC (.int 1)))) At))) (t:=k6) (e:=(aS (ac (aa 1) (ac (aa 0) a_)))) (ds:=(ns.drop (j+1)).map .int) (λ_=>I) (λx=>.tup [.int (ns.getD j 0),x]) (by
     have:=xV (ns:=ns) (j:=j+1) (by ext)
     push_cast at this
     simp[this]) (by simp;ext) (λx y=>⟨rfl,λ_=>by simp⟩)
   have e2:((((ns.drop (j+1)).map D.int).filter λ_=>I).map λx=>D.tup [.int (ns.getD j 0),x])=((ns.drop (j+1)).map λb=>[ns.getD j 0,b]).map kD:=by rw[fi,zu,zu];rfl
   rw[e2]at q;refine⟨[J (.lst (ns.map .int)),J (.lst ((bz ns j).map kD)),J (.int (j:Int)),J (.int (ns.getD j 0))],_,a,by simp,bZ (s1:=a) (as:=[.lst (((ns.drop (j+1)).map λb=>[ns.getD j 0,b]).map kD)]) (ds:=(bz ns j).map kD) (ds':=(bz ns (j+1)).map kD) (r:=.non) (by rw[ai,q];simp only[Pb,aw]) rfl ?_,_,_,rfl,rfl⟩
   rw[fw (by simp;ext),pJ,HE])
 rw[w4,n_,qr,H]at e;have G:(ck 1 (cj a_):Xd [1]).p [J (.lst (ns.map .int)),Y,Y,Y] s=.nx [J (.lst (ns.map .int)),J (.lst []),Y,Y] s:=by simp
 rw[B,aB,G,PU.ak,aB,cH,fx,ai];simp only[aq,Pb,aw,Oo,Pf,Pg];rw[e,PU.ak,jW (d:=.lst ((bz ns ns.length).map kD)) rfl,PU.ec]
def xx{n:Int}{d:D}{ks:Q3}{s:e_}(e:OW d ks)(l:∀k∈ks,IsT n k)(r:ks.length<=100000)(hd:(SetT.mm (ks.map uI)).length<=66):
  b8.p [d] s=.ok (.tup ((bE (SetT.mm (ks.map uI))).map kD)) s:=by
 rw[m5 (by rfl)];unfold cI
 have q:=fO (ws:=[]) (ws':=[]) (env:=m_ 1 [d]) (s:=s) (fm:=[]) (i:=aG (aa 0)) (t:=k6) (e:=(aS (ac (n7 lx (ac (aa 0) a_)) (ac (n7 lC (ac (aa 0) a_)) a_)))) (ds:=ks.map kD) (λ_=>I) (λx=>match cE x with|some k=>kD (uI k)|none=>.non) (by simp[m_,e]) (by simpa using r) (λx y=>by
   obtain⟨k,f,rfl⟩:=n6.mp y;obtain⟨a,b,rfl,_⟩:=l k f;refine⟨rfl,λ_=>?_⟩
   simp[kD,G0,G1,cE,bo,uI])
 have e2:(((ks.map kD).filter λ_=>I).map λx=>match cE x with|some k=>kD (uI k)|none=>.non)=(ks.map uI).map kD:=by rw[fi,zu,zu];refine MQ λk f=>?_;obtain⟨a,b,rfl,_⟩:=l k f;rfl
 rw[e2]at q
 have z:=Dz (ks:=ks.map uI) ⟨λk f=>by
  obtain⟨u,j,rfl⟩:=n6.mp f;obtain⟨a,b,rfl,_⟩:=l u j
  simp[uI],hd⟩
 rw[fk,dL,ai,dL,ai,q];simp only[Pb,aw,z,Pf,qj,Pg,PU.ec]
def fK{l k:Q2}:k∈bz l l.length↔∃i j:Nat,i<j/\j<l.length/\k=[l.getD i 0,l.getD j 0]:=by
 unfold bz;rw[DO];constructor
 .rintro⟨i,_,h⟩;obtain⟨b,u,rfl⟩:=n6.mp h;obtain⟨j,r,f⟩:=MU u;rw[DM]at r;rw[List.getElem_drop]at f;have a:i+1+j<l.length:=by ext
  exact⟨i,i+1+j,by ext,a,by simp[List.getD,a,f]⟩
 .rintro⟨i,j,y,a,rfl⟩;refine⟨i,by simp;ext,n6.mpr ⟨l.getD j 0,?_,rfl⟩⟩;refine List.mem_iff_getElem.mpr ⟨j-(i+1),by rw[DM];ext,?_⟩;rw[List.getElem_drop];simp[List.getD,a,show i+1+(j-(i+1))=j by ext]
def lD{n:Nat}{l:Q2}(nd:l.Nodup)(bd:∀x∈l,0<=x/\x<(n:Int)):∀k∈bz l l.length,IsT n k:=λk u=>by
 obtain⟨i,j,y,f,rfl⟩:=fK.mp u;have r:=bd (l.getD i 0) (by simp[List.getD,show i<l.length by ext]);have a:=bd (l.getD j 0) (by simp[List.getD,f]);exact⟨_,_,rfl,r.1,r.2,a.1,a.2,λe=>by have:=pg nd (show i<l.length by ext) f e;ext⟩
def pi{a b:Int}(h:a<b):uI [a,b]=[a,b]/\uI [b,a]=[a,b]:=by
 constructor
 .simp[uI,show ¬b<a by ext,show b>a by ext]
 .simp[uI,h,show ¬a>b by ext]
def gR{l k:Q2}(nd:l.Nodup):k∈(bz l l.length).map uI↔∃a b:Int,k=[a,b]/\a<b/\a∈l/\b∈l:=by
 rw[n6];constructor
 .rintro⟨M,H,rfl⟩;obtain⟨i,j,O,C,rfl⟩:=fK.mp H;have y:l.getD i 0∈l:=by simp[List.getD,show i<l.length by ext]
  have B:l.getD j 0∈l:=by simp[List.getD,C]
  have ne:l.getD i 0≠l.getD j 0:=λe=>by have:=pg nd (show i<l.length by ext) C e;ext
  by_cases z:l.getD i 0<l.getD j 0
  .exact⟨_,_,(pi z).1,z,y,B⟩
  .exact⟨_,_,(pi (show l.getD j 0<l.getD i 0 by ext)).2,by ext,B,y⟩
 .rintro⟨a,b,rfl,h,L,G⟩;obtain⟨i,r,E⟩:=MU L;obtain⟨j,u,F⟩:=MU G;have f:l.getD i 0=a:=by simp[List.getD,r,E]
  have gj:l.getD j 0=b:=by simp[List.getD,u,F]
  rcases Nat.lt_trichotomy i j with z|z | z
  .exact⟨_,fK.mpr ⟨i,j,z,u,rfl⟩,by rw[f,gj];exact(pi h).1⟩
  .subst z;rw[f]at gj;ext
  .exact⟨_,fK.mpr ⟨j,i,z,r,rfl⟩,by rw[f,gj];exact(pi h).2⟩
def y3(a:Q3)(f p:Q2):Q2:=p++rj a f p
structure Gp(n:Nat)(g:Q2):Prop where
 nd:g.Nodup
 bd:∀x∈g,0<=x/\x<(n:Int)
def Gp.len{n:Nat}{g:Q2}(h:Gp n g)(n12:n<=12):g.length<=12:=by
 have:=List.Nodup.length_le_of_subset (l₂:=j_ 12) h.nd λx a=>by
  rw[cS];have:=h.bd x a;ext
 simpa [j_]using this
def kY{l:Q3}{i p:Q2}{x:Int}:x∈rj l i p↔x∈i/\∃y∈p,y∈yD x l:=by
 unfold rj;rw[zT,(cT i).mem_iff,Lz];constructor
 .rintro⟨a,y,j,f⟩;exact⟨a,y,of_decide_eq_true f,j⟩
 .rintro⟨a,y,j,f⟩;exact⟨a,y,f,decide_eq_true j⟩
def Ha{n:Nat}{l:Q3}{f p:Q2}(m:Sm n f)(pn:p.Nodup)(i:∀x∈p,x∈uT n f):Gp n (y3 l f p):=by
 refine⟨?_,λx a=>?_⟩
 .unfold y3;rw[zR];refine⟨pn,((cT f).symm.nodup m.nd).filter _,λx a y j e=>?_⟩;subst e;exact(bB.mp (i x a)).2 (kY.mp j).1
 .rcases mh.mp a with a|a
  .exact (bB.mp (i x a)).1
  .exact m.bd x (kY.mp a).1
def fC{n:Nat}{j:Q3}{f:Q2}(m:Sm n f):∀p∈ka n j f,Gp n (y3 j f p):=λp i =>
 Ha m ((dA.ris p i).imp λ{a b} h=>by ext) (dA.sub p i)
def cu(l:Q2):Q3:=bz l l.length
def CW(n:Nat)(f:Q3)(a:Q2):Q3:=cu a++(ka n f a).flatMap λp=>cu (y3 f a p)
def zZ(n:Nat)(a:Q3)(f:Q2):Q3:=(bE (SetT.mm ((CW n a f).map uI))).filter λk=>!decide (k∈a)
def qP{l:Q2}(h:l.length<=12):(cu l).length<=144:=by
 have:=i6 h l.length
 unfold cu;ext
def qB{f:Q2->Q3}:∀{P:Q3},(∀p∈P,(f p).length<=144)->(P.flatMap f).length<=144*P.length
 |[],_=>by simp
 |p::P,h=>by
  have i:=h p rl;have j:=qB (P:=P) λq a=>h q (l_ _ a);rw[List.flatMap_cons,v3,y_];ext
def mH{n:Nat}{ks:Q3}{a:Q2}(m:Sm n a):∀k∈CW n ks a,IsT n k:=λk i=>by
 rcases mh.mp i with h|h
 .exact lD m.nd m.bd k h
 .obtain⟨p,f,h⟩:=DO.mp h;have g:=fC m p f;exact lD g.nd g.bd k h
def oe(p:Q2->Bool)(q:D->Bool):∀(l:Q3),(∀k∈l,q (kD k)=p k)->((l.map kD).filter q)=(l.filter p).map kD
 |[],_=>rfl
 |i::l,h=>by
  have a:=oe p q l λi f=>h i (l_ _ f);rw[nt,HA,HA,h i rl]
  cases p i with
  |true=>simp only[if_true,nt,a]
  |false=>simpa using a
def O0(f:Q2->Bool):D->Bool
 |.tup a=>(match bo a with
  |some p=>f p
  |none=>T)
 |_=>T
def vT{f:Q2->Bool}{k:Q2}:O0 f (kD k)=f k:=by simp[O0,kD,gW]
def jx:∀a:Q3,PU.qd (a.map kD)=I
 |[]=>rfl
 |k::a=>by
  have:∀k:Q2,PU.qd (k.map .int)=I:=λk=>by
   induction k with
   |nil=>rfl
   |cons i k f=>simpa [PU.qd,PU.flat]using f
  simp only[nt,PU.qd,kD,PU.flat,this,jx a,M5]
def v8{n:Nat}{l:Q3}{a:Q2}{s:e_}(w:lG n l)(m:Sm n a):cf.p [aF n l,.lst (a.map .int)] s=.ok (.lst ((zZ n l a).map kD)) s:=by
 have n12:=m.n12;have C:a.length<=12:=l7 m.len n12;have L:(ka n l a).length<=12:=l7 (dA (ks:=l)).len (l7 nD n12);have gl:∀p∈ka n l a,(cu (y3 l a p)).length<=144:=λp y=>qP ((fC m p y).len n12);have O:∀j,((ka n l a).take j).length<=12:=λj=>by rw[AG];ext
 have al:∀j,(cu a++((ka n l a).take j).flatMap λp=>cu (y3 l a p)).length<=144*13:=λj=>by
  have h1:=qP C;have h2:=qB (P:=(ka n l a).take j) (f:=λp=>cu (y3 l a p)) λp y=>gl p (Lp y)
  have:=O j
  rw[v3];ext
 obtain⟨H,u,e,z,rfl,rfl⟩:=bR (g:=(i3 3:Xg [2]).p) (b:=(q7 i_ 2 (ac (az bK (ac (ae bq (aa 3) (az dw (ac (aa 0) (ac (aa 1) (ac (aa 3) a_))))) a_)) a_):Xd [2]).p)
  (λj env u=>∃z,env=[J (aF n l),J (.lst (a.map .int)),J (.lst ((cu a++((ka n l a).take j).flatMap λp=>cu (y3 l a p)).map kD)),z]/\u=s) ((ka n l a).map jj) 0 [J (aF n l),J (.lst (a.map .int)),J (.lst ((cu a).map kD)),Y] s ⟨Y,by simp,rfl⟩ (λj env u d ⟨z,E,Q⟩ hd=>by
   rw[qr]at E ⊢;subst E Q;rw[s_,ub]at hd;obtain⟨p,y,rfl⟩:=hd;have B:=zI y;have g:=fC m p B;have ga:(p++rj l a p).length<=12:=g.len n12;have G:cu a++((ka n l a).take (j+1)).flatMap (λp=>cu (y3 l a p))=(cu a++((ka n l a).take j).flatMap λp=>cu (y3 l a p))++cu (y3 l a p):=by rw[AH,y,List.flatMap_append,zJ];simp
   have U:=al j;generalize Z:(cu a++((ka n l a).take j).flatMap λp=>cu (y3 l a p))=F at U G;have gp:=gl p B;refine⟨[J (aF n l),J (.lst (a.map .int)),J (.lst (F.map kD)),J (jj p)],_,u,rfl,bZ (s1:=u) (as:=[.lst ((cu (y3 l a p)).map kD)]) (ds:=F.map kD) (ds':=(F++cu (y3 l a p)).map kD) (r:=.non) ?_ rfl (by rw[fw (by rw[n_,n_];ext),HE]),J (jj p),by rw[G];rfl,rfl⟩;simp![ai,aV,aK,aw,CV w m];rw[ni (by rw[n_,n_,<-v3];ext),<-HE];simp only[Pf,Pb,tH ga]
   rfl)
 rw[n_,qr,AU]at e
 have X:=xx (n:=n) (d:=.lst ((CW n l a).map kD)) (ks:=CW n l a) (s:=u) rfl (mH m) (by
  have:=al 12
  rw[C2 L]at this
  unfold CW;ext) (jH (n:=n) (by ext) (jp (mH m)))
 have q:=fO (ws:=[2]) (ws':=[]) (env:=[J (aF n l),J (.lst (a.map .int)),J (.lst ((CW n l a).map kD)),z]) (s:=u) (fm:=[0]) (i:=aG (lT b8 (ac (aa 2) a_))) (t:=xB (ae (oF I) (aa 0) (ae n4 (aa 1) (xC (.int 1))))) (e:=aa 0) (ds:=(bE (SetT.mm ((CW n l a).map uI))).map kD) (O0 λk=>!decide (k∈l)) (λx=>x) (by
  simp![gK,Ct,ai,aw,X]
  rw[b_ (show Cp (.tup _)=I from jx _)];rfl) (by
  rw[n_,(bw _).length_eq]
  have:=jH (n:=n) (by ext) (jp (mH (ks:=l) m));ext) (λx S=>by
   obtain⟨k,hk,rfl⟩:=n6.mp S;have R:=Cv (neg:=I) (k:=k) (d:=.tup (l.map kD)) (ks:=l) rfl;refine⟨?_,λ_=>by simp⟩;have W:n4.p (aF n l) (.int 1)=J (.tup (l.map kD)):=by simp[aF]
   simp![bX,aK,nt,zt,zG,zH,zq,de,bF,W,eE,R,Pf,Pl,vT]
   rfl)
 rw[oe (λk=>!decide (k∈l)) _ _ λk _=>vT,List.map_id']at q;rw[rY (by rfl)];unfold eJ;rw[show m_ 4 [aF n l,.lst (a.map .int)]=[J (aF n l),J (.lst (a.map .int)),Y,Y]from rfl];rw[aB,tE,aV,ai];simp![ai,aw,nS m,Pg,PU.ak];rw[aB,cr];simp![aV,ai,aw,tH C,Pg,uy,uD,PU.ak];rw[aB,cH];have M:(aG (az eT (ac (aa 0) (ac (aa 1) a_))):Xi [2]).p [J (aF n l),J (.lst (a.map .int)),J (.lst ((bz a a.length).map kD)),Y] u=.ok ((ka n l a).map jj) u:=by simp![gK,aV,ai,aw,xp w m];rfl
 rw[M,Pg];refine(congrArg (λz:PS=>(z.then _).fin) e).trans ?_;rw[PU.ak,fk];refine(congrArg (λz:PR D=>(z.go _ _).fin) q).trans ?_;rfl
abbrev O3:Xd [3,4]:=(t0 (xB (ae (oF T) (aa 5) (aS (ac (aa 6) (ac (aa 7) a_))))) (aD (bJ 8 (ae cC (ae bq (aa 6) (aa 7)) (aa 5)))
 (t0 (xB (ae (oF I) (aa 8) (aa 3))) (aD (q7 kl 3 (ac (aa 8) a_))
 (t0 (xB (ae (oF I) (aa 8) (aa 1))) (q7 kl 4 (ac (aa 8) a_)) i4)) i4)) i4)
abbrev yH(n:Nat)(ks:Q3)(qs:Q2)(v:Int)(F W:Q2)(z5 z6 z7 z8:RU):ao:=[J (aF n ks),J (.lst (qs.map .int)),J (.int v),J (jj F),J (jj W),z5,z6,z7,z8]
def Ih(c:Int)(f:Q2)(F W k:Q2):Q2×Q2:=match k with
 |[a,b]=>if c=a\/c=b then(if a+b-c∈F then(F,W)else(F++[a+b-c],if a+b-c∈f then W else W++[a+b-c]))else(F,W)
 |_=>(F,W)
def Hb{n:Nat}{ks:Q3}{qs F W:Q2}{v c a b:Int}{z8:RU}{s:e_}(H:F.length<=12)(L:W.length<=12):
  ∃f,O3.p (yH n ks qs v F W (J (.int c)) (J (.int a)) (J (.int b)) z8) s=.nx (yH n ks qs v (Ih c qs F W [a,b]).1 (Ih c qs F W [a,b]).2 (J (.int c)) (J (.int a)) (J (.int b)) f) s:=by
 have G:=dn (neg:=T) (x:=c) (d:=.tup [.int a,.int b]) (xs:=[a,b]) rfl;have E:=dn (neg:=I) (x:=a+b-c) (d:=jj F) (xs:=F) rfl;have j:=dn (neg:=I) (x:=a+b-c) (d:=.lst (qs.map .int)) (xs:=qs) rfl;have C:∀{x y:D}{s:e_},(if [x,y].length<=100000 then PR.ok (D.tup [x,y]) s else .bad)=.ok (.tup [x,y]) s:=λ{x y s}=>b_ (by simp);have l:(xB (ae (oF T) (aa 5) (aS (ac (aa 6) (ac (aa 7) a_)))):Xt [3,4]).p (yH n ks qs v F W (J (.int c)) (J (.int a)) (J (.int b)) z8) s=.ok (decide (c=a\/c=b)) s:=by simp![bX,aK,eI,ai,aw,C,eE,G,Pf,Pl,o0,if_false];simp
 rw[fg,l,Pg];unfold Ih;dsimp only;by_cases z:c=a\/c=b
 .rw[b_ (by simpa using z),b_ z];refine⟨J (.int (a+b-c)),?_⟩;have u:(bJ 8 (ae cC (ae bq (aa 6) (aa 7)) (aa 5)):Xd [3,4]).p (yH n ks qs v F W (J (.int c)) (J (.int a)) (J (.int b)) z8) s=.nx (yH n ks qs v F W (J (.int c)) (J (.int a)) (J (.int b)) (J (.int (a+b-c)))) s:=by
   simp
  rw[aB,u,PU.ak,fg];have B:(xB (ae (oF I) (aa 8) (aa 3)):Xt [3,4]).p (yH n ks qs v F W (J (.int c)) (J (.int a)) (J (.int b)) (J (.int (a+b-c)))) s=.ok (!decide (a+b-c∈F)) s:=by simp![bX,aK,eE,E,Pf,Pl];rfl
  rw[B,Pg];by_cases h:a+b-c∈F
  .rw[d_ (by simpa using h),b_ h];rfl
  .rw[b_ (by simpa using h),d_ h];rw[aB,bZ (s1:=s) (as:=[.int (a+b-c)]) (ds:=F.map .int) (ds':=(F++[a+b-c]).map .int) (r:=.non) (by simp) rfl (by rw[dY (by simp;ext)];simp),PU.ak,fg];have i:(xB (ae (oF I) (aa 8) (aa 1)):Xt [3,4]).p ((yH n ks qs v F W (J (.int c)) (J (.int a)) (J (.int b)) (J (.int (a+b-c)))).set 3 (J (.lst ((F++[a+b-c]).map .int)))) s=.ok (!decide (a+b-c∈qs)) s:=by
    simp![bX,aK,uy,uD,eE,j,Pf,Pl];rfl
   rw[i,Pg];by_cases g:a+b-c∈qs
   .rw[d_ (by simpa using g),b_ g];rfl
   .rw[b_ (by simpa using g),d_ g];exact bZ (s1:=s) (as:=[.int (a+b-c)]) (ds:=W.map .int) (ds':=(W++[a+b-c]).map .int) (r:=.non) (by simp) rfl (by rw[dY (by simp;ext)];simp)
 .rw[d_ (by simpa using z),d_ z];exact⟨z8,rfl⟩
structure Tn(ks T:Q3)(qs:Q2)(c:Int)(F0 W0 F W A:Q2):Prop where
 eF:F=F0++A
 eW:W=W0++A.filter λx=>!decide (x∈qs)
 nd:A.Nodup
 dj:∀x∈A,x∉F0
 td:∀x∈A,Td ks c x
 al:∀y,Td T c y->y∈F
def Tn.step{B f:Q3}{l u C F W A:Q2}{c a b:Int}(t:Tn B f l c u C F W A)(G:[a,b]∈B):∃M,Tn B (f++[[a,b]]) l c u C (Ih c l F W [a,b]).1 (Ih c l F W [a,b]).2 M:=by
 have r:∀y,Td (f++[[a,b]]) c y->Td f c y\/(c=a/\y=b)\/(c=b/\y=a):=λy h=>by
  rcases h with h|h<;>rcases mh.mp h with h|h
  .exact .inl (.inl h)
  .have e:[c,y]=[a,b]:=by simpa using h
   injection e with e1 e;injection e with e2 _
   exact .inr (.inl ⟨e1,e2⟩)
  .exact .inl (.inr h)
  .have e:[y,c]=[a,b]:=by simpa using h
   injection e with e1 e;injection e with e2 _
   exact .inr (.inr ⟨e2,e1⟩)
 unfold Ih;dsimp only;by_cases z:c=a\/c=b
 .rw[b_ z];have E:∀y,(c=a/\y=b)\/(c=b/\y=a)->y=a+b-c:=λy h=>by ext
  by_cases h:a+b-c∈F
  .rw[b_ h];exact⟨A,{ t with al:=λy i=>(r y i).elim (t.al y) λq=>by rw[E y q];exact h}⟩
  .rw[d_ h];have H:a+b-c∉A:=λq=>h (by rw[t.eF];exact pk _ q);have L:a+b-c∉u:=λq=>h (by rw[t.eF];exact sv _ q);refine⟨A++[a+b-c],by rw[t.eF,zJ],?_,?_,λx j=>?_,λx j=>?_,λy i=>?_⟩
   .rw[List.filter_append,<-zJ,<-t.eW];by_cases g:a+b-c∈l
    .rw[b_ g];simp[g]
    .rw[d_ g];simp[g]
   .rw[zR];refine⟨t.nd,by simp,λx j y i e=>H ?_⟩;rw[AF.mp i]at e;exact e▸j
   .rcases mh.mp j with q|q
    .exact t.dj x q
    .rw[AF.mp q];exact L
   .rcases mh.mp j with q|q
    .exact t.td x q
    .rw[AF.mp q];rcases z with z|z
     .rw[show a+b-c=b by ext,z];exact .inl G
     .rw[show a+b-c=a by ext,z];exact .inr G
   .rcases r y i with q|q
    .exact sv _ (t.al y q)
    .rw[E y q];simp
 .rw[d_ z];exact⟨A,{ t with al:=λy i=>(r y i).elim (t.al y) λq=>by ext}⟩
def Rq(n:Nat)(f:Q3)(a:Q2)(v x:Int):Prop:=Rc f (uT n a) v x\/(x∈a/\∃y,Rc f (uT n a) v y/\Td f y x)
structure Rs(n:Nat)(ks:Q3)(qs:Q2)(v:Int)(F W:Q2):Prop where
 gp:Gp n F
 v0:v∈F
 rq:∀x∈F,Rq n ks qs v x
 wl:∀x∈W,x∈F/\x∈uT n qs
 cl:∀x∈F,x∉qs->x∉W->∀y,Td ks x y->y∈F
def Rs.turn{n:Nat}{i:Q3}{f F W C u A:Q2}{v c:Int}(w:lG n i)(r:Rs n i f v F (W++[c]))(t:Tn i i f c F W C u A)(hv:v∈uT n f):Rs n i f v C u/\u.length+F.length<=W.length+C.length:=by
 obtain⟨M,cl⟩:=r.wl c (by simp);have L:c∉f:=(bB.mp cl).2;have G:Rc i (uT n f) v c:=(r.rq c M).elim id λh=>absurd h.1 L;refine⟨⟨⟨?_,λx a=>?_⟩,by rw[t.eF];exact sv _ r.v0,λx a=>?_,λx a=>?_,λx a H B y j=>?_⟩,?_⟩
 .rw[t.eF,zR];exact⟨r.gp.nd,t.nd,λx a y j e=>t.dj y j (e▸a)⟩
 .rw[t.eF]at a;rcases mh.mp a with h|h
  .exact r.gp.bd x h
  .exact (ly w (t.td x h)).2.2
 .rw[t.eF]at a;rcases mh.mp a with h|h
  .exact r.rq x h
  .by_cases q:x∈f
   .exact .inr ⟨q,c,G,t.td x h⟩
   .exact .inl (.step G (t.td x h) (bB.mpr ⟨(ly w (t.td x h)).2.2,q⟩))
 .rw[t.eW]at a;rw[t.eF];rcases mh.mp a with h|h
  .obtain⟨l,E⟩:=r.wl x (sv _ h);exact⟨sv _ l,E⟩
  .obtain⟨l,E⟩:=zT.mp h;exact⟨pk _ l,bB.mpr ⟨(ly w (t.td x l)).2.2,by simpa using E⟩⟩
 .rw[t.eW]at B;by_cases e:x=c
  .subst e;exact t.al y j
  .rw[t.eF]at a;rcases mh.mp a with h|h
   .rw[t.eF]
    exact sv _ (r.cl x h H (λz=>by
     rcases mh.mp z with z|z
     .exact B (sv _ z)
     .exact e (AF.mp z)) y j)
   .exact absurd (pk _ (zT.mpr ⟨h,by simpa using H⟩)) B
 .rw[t.eF,t.eW,v3,v3]
  have:=AE (λx=>!decide (x∈f)) A
  ext
def Rs.done{n:Nat}{f:Q3}{a F:Q2}{v:Int}(r:Rs n f a v F [])(hv:v∈uT n a):∀x,x∈F↔Rq n f a v x:=λx=>by
 have key:∀x,Rc f (uT n a) v x->x∈F:=λx h=>by
  induction h with
  |base=>exact r.v0
  |step i t m j=>exact r.cl _ j (bB.mp (i.mem hv)).2 (by simp) _ t
 refine⟨r.rq x,λh=>?_⟩;rcases h with h|⟨_,y,h,t⟩
 .exact key x h
 .exact r.cl y (key y h) (bB.mp (h.mem hv)).2 (by simp) x t
abbrev QH:Xd [3,4]:=(aD (jl 5 zY 4 a_)
 (bY (aG (ae n4 (aa 0) (xC (.int 1)))) (zj (sf (i3 6) (sf (i3 7) zi)) 2) O3))
abbrev O4:Xt [3,4]:=xB (ae zW (aa 4) (cj a_))
def rw_one{n:Nat}{f:Q3}{i F W:Q2}{v c:Int}{z5 z6 z7 z8:RU}{s:e_}(w:lG n f)(r:Rs n f i v F (W++[c]))(hv:v∈uT n i)(lW:(W++[c]).length<=12)(n12:n<=12)(lS:W.length+12<=12+F.length):
  ∃O H Q E G z,QH.p (yH n f i v F (W++[c]) z5 z6 z7 z8) s=.nx (yH n f i v O H Q E G z) s/\Rs n f i v O H/\H.length+F.length<=W.length+O.length:=by
 have lw:W.length<=11:=by simp at lW;ext
 have pp:(jl 5 zY 4 a_:Xd [3,4]).p (yH n f i v F (W++[c]) z5 z6 z7 z8) s=.nx (yH n f i v F W (J (.int c)) z6 z7 z8) s:=by refine Eq.trans (show _=zC zY 4 (a_:Xs [3,4]).p (yH n f i v F (W++[c]) z5 z6 z7 z8) s (λr env s=>.nx (env.set 5 (J r)) s)from rfl) ?_;rw[mz (as:=[]) (s1:=s) (ds:=(W++[c]).map .int) (r:=.int c) (ds':=W.map .int) (by simp) rfl (by simp[zY])];rfl
 have cF:=(r.wl c (by simp)).1;have cq:=(bB.mp (r.wl c (by simp)).2).2;have l:∀{L u B A},Tn f L i c F W u B A->u.length<=12/\B.length<=12:=λ{L u B A} t=>by
  have g:Gp n u:=⟨by
   rw[t.eF,zR];exact⟨r.gp.nd,t.nd,λx P y X e=>t.dj y X (e▸P)⟩,λx P=>by
   rw[t.eF]at P;rcases mh.mp P with h|h
   .exact r.gp.bd x h
   .exact (ly w (t.td x h)).2.2⟩
  have R:=g.len n12;refine⟨R,?_⟩;have e1:=t.eF;rw[t.eW,v3]
  have:=AE (λx=>!decide (x∈i)) A
  rw[e1,v3]at R;ext
 obtain⟨U,C,e,O,H,A,E,G,z,rfl,rfl,t⟩:=bR (g:=(zj (sf (i3 6) (sf (i3 7) zi)) 2:Xg [3,4]).p) (b:=O3.p)
  (λj env C=>∃u B A z6 z7 z8,env=yH n f i v u B (J (.int c)) z6 z7 z8/\C=s/\Tn f (f.take j) i c F W u B A) (f.map kD) 0 (yH n f i v F W (J (.int c)) z6 z7 z8) s
  ⟨F,W,[],z6,z7,z8,rfl,rfl,by simp,by simp,.nil,by simp,by simp,λy h=>by rcases h with h|h<;>cases h⟩ (λj env C d ⟨u,B,A,z6,z7,z8,hE,hS,t⟩ hd=>by
   rw[qr]at t ⊢;subst hE hS;rw[s_,ub]at hd;obtain⟨k,S,rfl⟩:=hd;have M:=zI S;obtain⟨a,b,rfl,R,h2,h3⟩:=w.tie k M;obtain⟨z,e⟩:=Hb (n:=n) (ks:=f) (qs:=i) (v:=v) (c:=c) (a:=a) (b:=b) (z8:=z8) (s:=C) (l t).1 (l t).2;obtain⟨A',t'⟩:=t.step M;refine⟨yH n f i v u B (J (.int c)) (J (.int a)) (J (.int b)) z8,_,C,rfl,e,_,_,A',_,_,_,rfl,rfl,?_⟩;rw[AH,S]
   exact t')
 rw[n_,qr,AU]at t;refine⟨O,H,J (.int c),E,G,z,?_,(r.turn w t hv).1,(r.turn w t hv).2⟩;rw[aB,pp,PU.ak,cH];have Z:(aG (ae n4 (aa 0) (xC (.int 1))):Xi [3,4]).p (yH n f i v F W (J (.int c)) z6 z7 z8) C=.ok (f.map kD) C:=by simp[aF]
 rw[Z,Pg];exact e
def rw_run{n:Nat}{u:Q3}{y:Q2}{v:Int}{s:e_}(w:lG n u)(hv:v∈uT n y)(n12:n<=12):∀(f N:Nat)(F W:Q2)(j l a i:RU),f<N->W.length+12<=f+F.length->W.length<=F.length->Rs n u y v F W ->
  ∃C E L M H,cA O4.p QH.p N (yH n u y v F W j l a i) s=.nx (yH n u y v C [] E L M H) s/\Rs n u y v C []:=by
 intro f
 induction f with
 |zero =>
  intro N F W j l a i hN hf O r;obtain⟨N,rfl⟩:∃m,N=m+1:=⟨N-1,by ext⟩
  have:=r.gp.len n12
  have:W=[]:=AD.mp (by ext)
  subst this;refine⟨F,j,l,a,i,?_,r⟩;have G:=jb (neg:=I) (xs:=[]) (ys:=[]);have B:O4.p (yH n u y v F [] j l a i) s=.ok T s:=by simp![bX,aK,cV,aw,AW,ux,if_true,pq];rw[show yA I (jj []) (.lst [])=_ from G];rfl
  rw[cA,B];rfl
 |succ f ih =>
  intro N F W j l a i hN hf O r;obtain⟨N,rfl⟩:∃m,N=m+1:=⟨N-1,by ext⟩;have lF:=r.gp.len n12;have G:=jb (neg:=I) (xs:=W) (ys:=[]);have B:O4.p (yH n u y v F W j l a i) s=.ok (!decide (W=[])) s:=by simp![bX,aK,cV,aw,AW,ux,if_true,pq];rw[show yA I (jj W) (.lst [])=_ from G];rfl
  by_cases h:W=[]
  .subst h;refine⟨F,j,l,a,i,?_,r⟩;rw[cA,B];rfl
  .obtain⟨z,c,rfl⟩:∃z c,W=z++[c]:=⟨W.dropLast,W.getLast h,(List.dropLast_concat_getLast h).symm⟩;have ab:z.length+1<=F.length:=by simpa using O
   obtain⟨C,P,y5,X,y7,y8,e,Q,le⟩:=rw_one (z5:=j) (z6:=l) (z7:=a) (z8:=i) (s:=s) w r hv (by ext) n12 (by ext);have U:z.length+1+12<=f+1+F.length:=by simpa using hf
   obtain⟨Z,R,S,x7,x8,e2,r2⟩:=ih N C P y5 X y7 y8 (by ext) (by ext) (by ext) Q;refine⟨Z,R,S,x7,x8,?_,r2⟩;rw[cA,B,show(!decide (z++[c]=[]))=I by simp,Pg,b_ rfl,e];exact e2
def v9{n:Nat}{f:Q3}{i:Q2}{v:Int}{s:e_}(w:lG n f)(n12:n<=12)(hv:v∈uT n i):∃F,cP.p [aF n f,.lst (i.map .int),.int v] s=.ok (jj F) s/\Gp n F/\∀x,x∈F↔Rq n f i v x:=by have j:Rs n f i v [v] [v]:=⟨⟨by simp,λx a=>by rw[AF.mp a];exact(bB.mp hv).1⟩,by simp,λx a=>by rw[AF.mp a];exact .inl .base,λx a=>by rw[AF.mp a];exact⟨by simp,hv⟩,λx a _ h=>absurd a h⟩;obtain⟨F,y,B,l,u,e,r⟩:=rw_run (s:=s) w hv n12 12 400 [v] [v] Y Y Y Y (by ext) (by simp) (by simp) j;refine⟨F,?_,r.gp,r.done hv⟩;rw[qM (by rfl)];unfold dD;rw[show m_ 9 [aF n f,.lst (i.map .int),.int v]=[J (aF n f),J (.lst (i.map .int)),J (.int v),Y,Y,Y,Y,Y,Y]from rfl];rw[aB,cr];simp![cV,ai,aw,Ln,show(1:Nat)<=100000 by decide,if_true,Pg,uy,uD,PU.ak];rw[aB,cr];simp![cV,ai,aw,Ln,show(1:Nat)<=100000 by decide,if_true,Pg,uy,uD,PU.ak];rw[aB,ph fy];refine(congrArg (λz:PS=>(z.then _).fin) e).trans ?_;rw[PU.ak,jW (d:=jj F) rfl,PU.ec]
abbrev tD(B:Q3):D:=.dic B (B.map λ_=>.bl I)
def Hc{a b:Int}:cE (.tup [.int a,.int b])=J [a,b]:=rfl
def w8{B:Q3}{k:Q2}:D.dic (iy B (B.map λ_=>D.bl I) k (.bl I)).1 (iy B (B.map λ_=>D.bl I) k (.bl I)).2=tD (SetT.aZ B k):=by
 have:(iy B (B.map λ_=>D.bl I) k (.bl I)).1=SetT.aZ B k/\(iy B (B.map λ_=>D.bl I) k (.bl I)).2=(SetT.aZ B k).map λ_=>.bl I:=by
  induction B with
  |nil=>exact⟨rfl,rfl⟩
  |cons x B j =>
   obtain⟨i,f⟩:=j;by_cases e:x=k
   .subst e
    have:SetT.aZ (x::B) x=x::B:=by simp[SetT.aZ]
    rw[this];simp[iy]
   .have a:SetT.aZ (x::B) k=x::SetT.aZ B k:=by
     unfold SetT.aZ;by_cases h:k∈B
     .rw[b_ h,b_ (l_ _ h)]
     .rw[d_ h,d_ (by simp[h,Ne.symm e])];rfl
    rw[a];simp[iy,e,i,f]
 rw[this.1,this.2]
def DC:∀{B:Q3}{k:Q2},(zm B (B.map λ_=>D.bl I) k).isSome=decide (k∈B)
 |[],k=>by simp[zm]
 |x::B,k=>by
  have a:=DC (B:=B) (k:=k);unfold zm;by_cases e:x=k
  .simp[e]
  .simp[e,Ne.symm e,a]
def Lb{f:Bool}{a b:Int}{B:Q3}:(rF f).p (.tup [.int a,.int b]) (tD B)=J (.bl (if f then !decide ([a,b]∈B)else decide ([a,b]∈B))):=by show(cE (.tup [.int a,.int b])).map (λi=>D.bl (if f then !(zm B (B.map λ_=>D.bl I) i).isSome else(zm B (B.map λ_=>D.bl I) i).isSome))=_;rw[Hc,IB,DC]
def stK(B:Q3)(l:Q3):Q3:=l.foldl SetT.aZ B
def jQ{B l m:Q3}:stK B (l++m)=stK (stK B l) m:=MY
def jN{B l:Q3}:(stK B l).length<=B.length+l.length:=by
 induction l generalizing B with
 |nil=>simp[stK]
 |cons k l a =>
  have f:(SetT.aZ B k).length<=B.length+1:=by unfold SetT.aZ;split<;>simp
  have i:=a (B:=SetT.aZ B k);show(stK (SetT.aZ B k) l).length<=_;rw[y_];ext
def yK(f:Q3)(a:Int)(l:Q2):Q3:=(l.filter λb=>decide (a<b/\[a,b]∉f)).map λb=>[a,b]
def zo(f:Q3)(g l:Q2):Q3:=l.flatMap λa=>yK f a g
def sq(a:Q3)(G:Q3):Q3:=G.flatMap λg=>zo a g g
def sV{ks:Q3}{a:Int}{l:Q2}:(yK ks a l).length<=l.length:=by unfold yK;rw[n_];exact AE _ _
def nH{ks:Q3}{g:Q2}:∀{l:Q2},(zo ks g l).length<=g.length*l.length
 |[]=>by simp[zo]
 |a::l=>by
  have f:=sV (ks:=ks) (a:=a) (l:=g);have i:=nH (ks:=ks) (g:=g) (l:=l);have e:zo ks g (a::l)=yK ks a g++zo ks g l:=rfl;rw[e,v3,y_,Nat.mul_add];ext
def vz{ks:Q3}:∀{G:Q3},(∀g∈G,g.length<=12)->(sq ks G).length<=144*G.length
 |[],_=>by simp[sq]
 |g::G,h=>by
  have i:=nH (ks:=ks) (g:=g) (l:=g);have j:=vz (ks:=ks) (G:=G) λx f=>h x (l_ _ f);have a:=h g rl;have r:g.length*g.length<=12*12:=Nat.mul_le_mul a a;have e:sq ks (g::G)=zo ks g g++sq ks G:=rfl;rw[e,v3,y_];ext
def wg{j G:Q3}{k:Q2}:k∈sq j G↔∃g∈G,∃a b:Int,k=[a,b]/\a<b/\a∈g/\b∈g/\k∉j:=by
 unfold sq zo yK;rw[DO];refine exists_congr λg=>and_congr_right λ_=>?_;rw[DO];constructor
 .rintro⟨a,l,h⟩;obtain⟨b,u,rfl⟩:=n6.mp h;obtain⟨i,f⟩:=zT.mp u;have f:=of_decide_eq_true f;exact⟨a,b,rfl,f.1,l,i,f.2⟩
 .rintro⟨a,b,rfl,i,f,r,y⟩;exact⟨a,f,n6.mpr ⟨b,zT.mpr ⟨r,decide_eq_true ⟨i,y⟩⟩,rfl⟩⟩
abbrev oI(n:Nat)(ks:Q3)(qs:Q2)(a:D)(z3 z4 z5 z6 z7 z8 z9:RU):ao:=[J (aF n ks),J (.lst (qs.map .int)),J a,z3,z4,z5,z6,z7,z8,z9]
abbrev O5:Xd [2,6]:=(t0 (dZ (xB (ae zD (aa 8) (aa 9))) (xB (ae (rF I) (aS (ac (aa 8) (ac (aa 9) a_))) (aa 2)))) (kg 6 (xC (.bl I)) (aS (ac (aa 8) (ac (aa 9) a_)))) i4)
def Hd{n:Nat}{ks B:Q3}{qs:Q2}{a b:Int}{z3 z4 z5 z7:RU}{s:e_}(l:B.length<100000):
  O5.p (oI n ks qs (tD ks) z3 z4 z5 (J (tD B)) z7 (J (.int a)) (J (.int b))) s=.nx (oI n ks qs (tD ks) z3 z4 z5 (J (tD (stK B (yK ks a [b])))) z7 (J (.int a)) (J (.int b))) s:=by
 have f:∀{x y:D}{s:e_},(if [x,y].length<=100000 then PR.ok (D.tup [x,y]) s else .bad)=.ok (.tup [x,y]) s:=λ{x y s}=>b_ (by simp);have i:(dZ (xB (ae zD (aa 8) (aa 9))) (xB (ae (rF I) (aS (ac (aa 8) (ac (aa 9) a_))) (aa 2))):Xt [2,6]).p (oI n ks qs (tD ks) z3 z4 z5 (J (tD B)) z7 (J (.int a)) (J (.int b))) s=.ok (decide (a<b/\[a,b]∉ks)) s:=by simp![pF,bX,aK,eI,ai,aw,f,vV,Pf,Pl,Lb,if_true];by_cases z:a<b<;>simp[z]
 rw[fg,i,Pg];by_cases z:a<b/\[a,b]∉ks
 .rw[b_ (by simpa using z)];have e:yK ks a [b]=[[a,b]]:=by simp[yK,z]
  rw[e,tj];refine(qh (v:=.bl I) (s1:=s) (s2:=s) (k:=.tup [.int a,.int b]) (j:=[a,b]) (ks:=B) (ds:=B.map λ_=>.bl I) rfl ?_ rfl rfl l).trans ?_
  .simp![eI,ai,aw,f]
  .rw[w8];rfl
 .rw[d_ (by simpa using z)];have e:yK ks a [b]=[]:=by simp[yK,z]
  rw[e];rfl
abbrev O6:Xd [2,6]:=(bY (aG (aa 7)) (i3 9) O5)
def He{n:Nat}{ks B:Q3}{qs g:Q2}{a:Int}{z3 z4 z5 z9:RU}{s:e_}(F:g.length<=12)(H:B.length+12<100000):
  ∃i,O6.p (oI n ks qs (tD ks) z3 z4 z5 (J (tD B)) (J (jj g)) (J (.int a)) z9) s=.nx (oI n ks qs (tD ks) z3 z4 z5 (J (tD (stK B (yK ks a g)))) (J (jj g)) (J (.int a)) i) s:=by
 obtain⟨u,f,e,i,rfl,rfl⟩:=bR (g:=(i3 9:Xg [2,6]).p) (b:=O5.p) (λj env f=>∃z9,env=oI n ks qs (tD ks) z3 z4 z5 (J (tD (stK B (yK ks a (g.take j))))) (J (jj g)) (J (.int a)) z9/\f=s) (g.map .int) 0
  (oI n ks qs (tD ks) z3 z4 z5 (J (tD B)) (J (jj g)) (J (.int a)) z9) s ⟨z9,rfl,rfl⟩ (λj env f d ⟨z9,r,z⟩ hd=>by
   rw[qr]at r ⊢;subst r z;rw[s_,ub]at hd;obtain⟨b,C,rfl⟩:=hd;have G:=jN (B:=B) (l:=yK ks a (g.take j));have E:=sV (ks:=ks) (a:=a) (l:=g.take j);rw[AG]at E;have e:=Hd (n:=n) (ks:=ks) (qs:=qs) (B:=stK B (yK ks a (g.take j))) (a:=a) (b:=b) (z3:=z3) (z4:=z4) (z5:=z5) (z7:=J (jj g)) (s:=f) (by ext);refine⟨_,_,f,rfl,e,J (.int b),?_,rfl⟩;rw[AH,C]
   have:yK ks a (g.take j++[b])=yK ks a (g.take j)++yK ks a [b]:=by simp[yK]
   show _=oI n ks qs (tD ks) z3 z4 z5 (J (tD (stK B (yK ks a (g.take j++[b]))))) _ _ _
   rw[this,jQ])
 rw[n_,qr,AU]at e;refine⟨i,?_⟩;rw[cH];have y:(aG (aa 7):Xi [2,6]).p (oI n ks qs (tD ks) z3 z4 z5 (J (tD B)) (J (jj g)) (J (.int a)) z9) f=.ok (g.map .int) f:=rfl;rw[y,Pg];exact e
abbrev O7:Xd [2,6]:=(bY (aG (aa 7)) (i3 8) O6)
def Hf{n:Nat}{ks B:Q3}{qs g:Q2}{z3 z4 z5 z8 z9:RU}{s:e_}(u:g.length<=12)(M:B.length+200<100000):
  ∃r f,O7.p (oI n ks qs (tD ks) z3 z4 z5 (J (tD B)) (J (jj g)) z8 z9) s=.nx (oI n ks qs (tD ks) z3 z4 z5 (J (tD (stK B (zo ks g g)))) (J (jj g)) r f) s:=by
 obtain⟨z,i,e,r,f,rfl,rfl⟩:=bR (g:=(i3 8:Xg [2,6]).p) (b:=O6.p) (λj env i=>∃z8 z9,env=oI n ks qs (tD ks) z3 z4 z5 (J (tD (stK B (zo ks g (g.take j))))) (J (jj g)) z8 z9/\i=s) (g.map .int) 0
  (oI n ks qs (tD ks) z3 z4 z5 (J (tD B)) (J (jj g)) z8 z9) s ⟨z8,z9,rfl,rfl⟩ (λj env i d ⟨z8,z9,y,E⟩ hd=>by
   rw[qr]at y ⊢;subst y E;rw[s_,ub]at hd;obtain⟨a,F,rfl⟩:=hd;have H:=jN (B:=B) (l:=zo ks g (g.take j));have L:=nH (ks:=ks) (g:=g) (l:=g.take j);have l3:(g.take j).length<=12:=by rw[AG];ext
   have G:g.length*(g.take j).length<=12*12:=Nat.mul_le_mul u l3;obtain⟨f,e⟩:=He (n:=n) (ks:=ks) (qs:=qs) (B:=stK B (zo ks g (g.take j))) (a:=a) (g:=g) (z3:=z3) (z4:=z4) (z5:=z5) (z9:=z9) (s:=i) u (by ext);refine⟨_,_,i,rfl,e,J (.int a),f,?_,rfl⟩;rw[AH,F]
   have:zo ks g (g.take j++[a])=zo ks g (g.take j)++yK ks a g:=by simp[zo]
   show _=oI n ks qs (tD ks) z3 z4 z5 (J (tD (stK B (zo ks g (g.take j++[a]))))) _ _ _
   rw[this,jQ])
 rw[n_,qr,AU]at e;refine⟨r,f,?_⟩;rw[cH];have C:(aG (aa 7):Xi [2,6]).p (oI n ks qs (tD ks) z3 z4 z5 (J (tD B)) (J (jj g)) z8 z9) i=.ok (g.map .int) i:=rfl;rw[C,Pg];exact e
def Hg{n:Nat}{ks G:Q3}{qs:Q2}{z3 z5 z7 z8 z9:RU}{s:e_}(C:∀g∈G,g.length<=12)(O:G.length<=13):
  ∃r f a,(bY (aG (aa 4)) (i3 7) O7:Xd [2,6]).p (oI n ks qs (tD ks) z3 (J (.lst (G.map jj))) z5 (J (tD [])) z7 z8 z9) s=.nx (oI n ks qs (tD ks) z3 (J (.lst (G.map jj))) z5 (J (tD (SetT.mm (sq ks G)))) r f a) s:=by
 obtain⟨y,i,e,r,f,a,rfl,rfl⟩:=bR (g:=(i3 7:Xg [2,6]).p) (b:=O7.p) (λj env i=>∃z7 z8 z9,env=oI n ks qs (tD ks) z3 (J (.lst (G.map jj))) z5 (J (tD (stK [] (sq ks (G.take j))))) z7 z8 z9/\i=s) (G.map jj) 0
  (oI n ks qs (tD ks) z3 (J (.lst (G.map jj))) z5 (J (tD [])) z7 z8 z9) s ⟨z7,z8,z9,rfl,rfl⟩ (λj env i d ⟨z7,z8,z9,u,F⟩ hd=>by
   rw[qr]at u ⊢;subst u F;rw[s_,ub]at hd;obtain⟨g,z,rfl⟩:=hd;have H:=jN (B:=[]) (l:=sq ks (G.take j));have L:=vz (ks:=ks) (G:=G.take j) λx M=>C x (Lp M);rw[AG]at L;rw[AW]at H;obtain⟨f,a,e⟩:=Hf (n:=n) (ks:=ks) (qs:=qs) (B:=stK [] (sq ks (G.take j))) (g:=g) (z3:=z3) (z4:=J (.lst (G.map jj))) (z5:=z5) (z8:=z8) (z9:=z9) (s:=i) (C g (zI z)) (by ext);refine⟨_,_,i,rfl,e,J (jj g),f,a,?_,rfl⟩;rw[AH,z]
   have:sq ks (G.take j++[g])=sq ks (G.take j)++zo ks g g:=by simp[sq]
   show _=oI n ks qs (tD ks) z3 _ z5 (J (tD (stK [] (sq ks (G.take j++[g]))))) _ _ _
   rw[this,jQ])
 rw[n_,qr,AU]at e;refine⟨r,f,a,?_⟩;rw[cH];have E:(aG (aa 4):Xi [2,6]).p (oI n ks qs (tD ks) z3 (J (.lst (G.map jj))) z5 (J (tD [])) z7 z8 z9) i=.ok (G.map jj) i:=rfl;rw[E,Pg];exact e
def qg{α:Type}{g:α->D}(p:α->Bool)(q:D->Bool):∀(l:List α),(∀i∈l,q (g i)=p i)->(((l.map g).filter q).map λx=>x)=(l.filter p).map g
 |[],_=>rfl
 |i::l,h=>by
  have a:=qg p q l λi f=>h i (l_ _ f);rw[nt,HA,HA,h i rl]
  cases p i with
  |true=>simp only[if_true,nt,a]
  |false=>simpa using a
def O8(f:Q2->Bool):D->Bool
 |.lst a=>(match bo a with
  |some p=>f p
  |none=>T)
 |_=>T
def xh{f:Q2->Bool}{p:Q2}:O8 f (jj p)=f p:=by simp[O8,gW]
def O9{d:D}{ds:Q5}:gA (d::ds) (J 1) Y=ds:=by rw[show(1:Int)=((1:Nat):Int)from rfl];unfold gA;rw[HT.kH,HT.m4,C7 (by simp)];simp
def Hh{X:Q3}:lh.p (.lst (X.map jj)) (.lst [])=J (.bl (decide (X=[]))):=by
 cases X with
 |nil=>exact(Gw rfl).trans (jb (neg:=T) (xs:=[]) (ys:=[]))
 |cons x X=>rw[Gu (by simp)];simp
def vJ{B:Q3}(a:∀k∈B,k≠[])(f:B.length<=66):fW.p [.lst (B.map kD)]=J (.lst ((bE B).map kD)):=by
 cases B with
 |nil =>
  have e1:bE []=[]:=AD.mp (by rw[(bw []).length_eq];rfl);have e2:eO []=[]:=AD.mp (by rw[(cT []).length_eq];rfl)
  have:=nR (ns:=[]) (by simp)
  rw[e2]at this;rw[e1];exact this
 |cons k B =>
  show(j0 ((k::B).map kD)).map _=_;have e:bo ((k::B).map kD)=Y:=rfl;unfold j0;rw[e];dsimp only;rw[ft];dsimp only;rw[b_ ⟨a,f⟩];rfl
def vH:∀{l B:Q3},(B++l).Nodup->stK B l=B++l
 |[],B,_=>by simp[stK]
 |k::l,B,h=>by
  have a:k∉B:=λz=>by
   rw[zR]at h;exact h.2.2 k z k rl rfl
  have e:SetT.aZ B k=B++[k]:=d_ a;show stK (SetT.aZ B k) l=_;rw[e,vH (by rw[zJ];exact h),zJ];rfl
abbrev O_:Xd [2,4,6]:=kg 2 (xC (.bl I)) (aa 3)
def Hi{n:Nat}{a:Q3}{qs:Q2}{z3 z4 z5 z6 z7 z8 z9:RU}{s:e_}(w:lG n a):
  ∃i,(bY (aG (ae n4 (aa 0) (xC (.int 1)))) (i3 3) O_:Xd [2,4,6]).p (oI n a qs (tD []) z3 z4 z5 z6 z7 z8 z9) s=.nx (oI n a qs (tD a) i z4 z5 z6 z7 z8 z9) s:=by
 have F:=uf w.n12 w.tie w.nd;obtain⟨u,f,e,i,rfl,rfl⟩:=bR (g:=(i3 3:Xg [2,4,6]).p) (b:=O_.p) (λj env f=>∃z3,env=oI n a qs (tD (stK [] (a.take j))) z3 z4 z5 z6 z7 z8 z9/\f=s) (a.map kD) 0
  (oI n a qs (tD []) z3 z4 z5 z6 z7 z8 z9) s ⟨z3,rfl,rfl⟩ (λj env f d ⟨z3,r,z⟩ hd=>by
   rw[qr]at r ⊢;subst r z;rw[s_,ub]at hd;obtain⟨k,E,rfl⟩:=hd;have C:=jN (B:=[]) (l:=a.take j);rw[AG,AW]at C;have e:O_.p (oI n a qs (tD (stK [] (a.take j))) (J (kD k)) z4 z5 z6 z7 z8 z9) f=.nx (oI n a qs (tD (SetT.aZ (stK [] (a.take j)) k)) (J (kD k)) z4 z5 z6 z7 z8 z9) f:=by rw[tj,<-w8];exact qh (v:=.bl I) (s1:=f) (s2:=f) (k:=kD k) (j:=k) (ks:=stK [] (a.take j)) (ds:=(stK [] (a.take j)).map λ_=>.bl I) rfl rfl (mO k) rfl (by ext)
   refine⟨_,_,f,rfl,e,J (kD k),?_,rfl⟩;rw[AH,E,Option.toList_some,jQ]
   rfl)
 rw[n_,qr,AU]at e;rw[vH (by simpa using w.nd)]at e;refine⟨i,?_⟩;rw[cH];have y:(aG (ae n4 (aa 0) (xC (.int 1))):Xi [2,4,6]).p (oI n a qs (tD []) z3 z4 z5 z6 z7 z8 z9) f=.ok (a.map kD) f:=by simp[aF]
 rw[y,Pg];exact e
structure Gs(n:Nat)(ks:Q3)(qs:Q2)(j:Nat)(gs:Q3):Prop where
 src:∀g∈gs,∃u∈uT n qs,Gp n g/\∀x,x∈g↔Rq n ks qs u x
 all:∀v∈uT n qs,v<(j:Int)->∃g∈gs,v∈g
 len:gs.length<=j
abbrev Pa:Xd [2,4,6]:=(t0 (dZ (xB (ae (oF I) (aa 5) (aa 1))) (xB (ae lh (aI 1 [5] (aG (Av (aa 4) (Au (xC (.int 1))) At)) (ws':=[]) (i3 0) (xB (ae (oF T) (aa 1) (aa 0))) (aa 0)) (cj a_)))) (q7 kl 4 (ac (az cP (ac (aa 0) (ac (aa 1) (ac (aa 5) a_)))) a_)) i4)
def Hj{n:Nat}{l f:Q3}{a:Q2}{j:Nat}{z3 z6 z7 z8 z9:RU}{s:e_}(w:lG n l)(m:Sm n a)(X:j<n)(G:Gs n l a j f):
  ∃y,Pa.p (oI n l a (tD l) z3 (J (.lst ((a::f).map jj))) (J (.int (j:Int))) z6 z7 z8 z9) s=.nx (oI n l a (tD l) z3 (J (.lst ((a::y).map jj))) (J (.int (j:Int))) z6 z7 z8 z9) s/\Gs n l a (j+1) y:=by
 have n12:=m.n12;have gl:=G.len;have W:=dn (neg:=I) (x:=(j:Int)) (d:=.lst (a.map .int)) (xs:=a) rfl
 have q:=fO (ws:=[2,4,6]) (ws':=[]) (env:=oI n l a (tD l) z3 (J (.lst ((a::f).map jj))) (J (.int (j:Int))) z6 z7 z8 z9) (s:=s) (fm:=[5]) (i:=aG (Av (aa 4) (Au (xC (.int 1))) At)) (t:=xB (ae (oF T) (aa 1) (aa 0))) (e:=aa 0) (ds:=f.map jj) (O8 λp=>decide ((j:Int)∈p)) (λx=>x) (by
   have:=O9 (d:=jj a) (ds:=f.map jj)
   simp[this]) (by rw[n_];ext) (λx S=>by
  obtain⟨p,Z,rfl⟩:=n6.mp S;have C:=dn (neg:=T) (x:=(j:Int)) (d:=jj p) (xs:=p) rfl;refine⟨?_,λ_=>by simp⟩;simp![bX,aK,nt,zt,zG,zH,zq,eE,C,Pf,Pl,xh]
  rfl)
 rw[qg (λp=>decide ((j:Int)∈p)) _ _ λi _=>xh]at q;have P:(if([]:Q5).length<=100000 then PR.ok (D.lst []) s else .bad)=.ok (.lst []) s:=b_ (by decide);have Q:(dZ (xB (ae (oF I) (aa 5) (aa 1))) (xB (ae lh (aI 1 [5] (aG (Av (aa 4) (Au (xC (.int 1))) At)) (ws':=[]) (i3 0) (xB (ae (oF T) (aa 1) (aa 0))) (aa 0)) (cj a_))):Xt [2,4,6]).p (oI n l a (tD l) z3 (J (.lst ((a::f).map jj))) (J (.int (j:Int))) z6 z7 z8 z9) s
   = .ok (decide ((j:Int)∉a/\f.filter (λp=>decide ((j:Int)∈p))=[])) s:=by
  have R:(xB (ae (oF I) (aa 5) (aa 1)):Xt [2,4,6]).p (oI n l a (tD l) z3 (J (.lst ((a::f).map jj))) (J (.int (j:Int))) z6 z7 z8 z9) s=.ok (!decide ((j:Int)∈a)) s:=by simp![bX,aK,eE,W,Pf,Pl];rfl
  rw[pF,R];by_cases z:(j:Int)∈a
  .simp[z]
  .simp only[z,decide_false,M3,Pb,if_true];rw[bX,aK,q];simp only[Pb,cV,aw,P,Hh,Pf,Pl];simp
 rw[fg,Q,Pg];have B:0<=(j:Int)/\(j:Int)<(n:Int):=⟨by ext,by ext⟩;by_cases z:(j:Int)∉a/\f.filter (λp=>decide ((j:Int)∈p))=[]
 .rw[b_ (by simpa using z)];have hv:(j:Int)∈uT n a:=bB.mpr ⟨B,z.1⟩;obtain⟨F,e,U,M⟩:=v9 (s:=s) w n12 hv
  refine⟨f++[F],bZ (s1:=s) (as:=[jj F]) (ds:=(a::f).map jj) (ds':=(a::(f++[F])).map jj) (r:=.non) (by
   simp![ai,aV,aw,e]) rfl (by rw[dY (by simp;ext)];simp),λg H=>?_,λv u O=>?_,by simp;ext⟩
  .rcases mh.mp H with h|h
   .exact G.src g h
   .rw[AF.mp h];exact⟨j,hv,U,M⟩
  .by_cases h:v<(j:Int)
   .obtain⟨g,E,L⟩:=G.all v u h;exact⟨g,sv _ E,L⟩
   .have:v=(j:Int):=by ext
    subst this;exact⟨F,by simp,(M _).mpr (.inl .base)⟩
 .rw[d_ (by simpa using z)];refine⟨f,rfl,G.src,λv u O=>?_,by ext⟩;by_cases h:v<(j:Int)
  .exact G.all v u h
  .have:v=(j:Int):=by ext
   subst this;have C:=(bB.mp u).2;obtain⟨g,H⟩:=Po _ (λe=>z ⟨C,e⟩);obtain⟨E,L⟩:=zT.mp H;exact⟨g,E,of_decide_eq_true L⟩
def Hk{n:Nat}{a:Q3}{f:Q2}{z3 z5 z6 z7 z8 z9:RU}{s:e_}(w:lG n a)(m:Sm n f):
  ∃l r,(bY (bx vu (ac (ae n4 (aa 0) (xC (.int 0))) a_)) (i3 5) Pa:Xd [2,4,6]).p (oI n a f (tD a) z3 (J (.lst ([f].map jj))) z5 z6 z7 z8 z9) s=.nx (oI n a f (tD a) z3 (J (.lst ((f::l).map jj))) r z6 z7 z8 z9) s/\Gs n a f n l:=by
 have n12:=m.n12;obtain⟨E,u,e,l,r,rfl,rfl,G⟩:=bR (g:=(i3 5:Xg [2,4,6]).p) (b:=Pa.p) (λj env u=>∃l z5,env=oI n a f (tD a) z3 (J (.lst ((f::l).map jj))) z5 z6 z7 z8 z9/\u=s/\Gs n a f j l) ((j_ n).map .int) 0
  (oI n a f (tD a) z3 (J (.lst ([f].map jj))) z5 z6 z7 z8 z9) s ⟨[],z5,rfl,rfl,by simp,λv hv h=>by have:=(bB.mp hv).1;ext,by simp⟩ (λj env u d ⟨l,z5,L,H,G⟩ hd=>by
   rw[qr]at G ⊢;subst L H;rw[s_,ub]at hd;obtain⟨i,B,rfl⟩:=hd;have y:j<n:=by
    have:=(qp.mp B).1
    simpa [j_]using this
   have z:i=(j:Int):=by
    have:(j_ n)[j]?=J (j:Int):=by simp[j_,y]
    rw[this]at B;cases B;rfl
   subst z;obtain⟨C,e,F⟩:=Hj (z3:=z3) (z6:=z6) (z7:=z7) (z8:=z8) (z9:=z9) (s:=u) w m y G
   exact⟨_,_,u,rfl,e,C,_,rfl,rfl,F⟩)
 rw[n_,qr,show(j_ n).length=n by simp[j_]]at G;refine⟨l,r,?_,G⟩;rw[cH];have z:(bx vu (ac (ae n4 (aa 0) (xC (.int 0))) a_):Xi [2,4,6]).p (oI n a f (tD a) z3 (J (.lst ([f].map jj))) z5 z6 z7 z8 z9) u=.ok ((j_ n).map .int) u:=by simp only[fx,ai,aK,aq,Pb,de,bF,aF,uW,pc,Pf,aw];rw[i5 (by ext),xZ,nM];rfl
 rw[z,Pg];exact e
def jF{n:Nat}{a:Q3}{f p:Q2}{u:Int}(w:lG n a)(l:p∈ka n a f)(r:u∈p)(x:Int):x∈y3 a f p↔Rq n a f u x:=by have cl:=(dA (n:=n) (ks:=a) (qs:=f)).cl p l u r;unfold y3 Rq;rw[mh,cl,kY];refine or_congr_right (and_congr_right λ_=>⟨λ⟨y,i,j⟩=>⟨y,(cl y).mp i,((iz w).mp j).symm⟩,λ⟨y,i,j⟩=>⟨y,(cl y).mpr i,(iz w).mpr j.symm⟩⟩)
def Hl{n:Nat}{z R:Q3}{i:Q2}(w:lG n z)(m:Sm n i)(G:Gs n z i n R):bE (SetT.mm (sq z (i::R)))=zZ n z i:=by
 have P:=dA (n:=n) (ks:=z) (qs:=i);refine iU (eV _) ((eV _).filter _) ((bw _).trans ((Pk (fj _) (((bw _).symm.nodup (fj _)).filter _)).mpr λk=>?_));rw[SetT.eU,wg,zT,(bw _).mem_iff,SetT.eU];have E:∀a b:Int,(∃g∈i::R,a∈g/\b∈g)↔(a∈i/\b∈i)\/∃p∈ka n z i,a∈y3 z i p/\b∈y3 z i p:=λa b=>by
  constructor
  .rintro⟨g,y,f,j⟩;rcases mu.mp y with rfl|y
   .exact .inl ⟨f,j⟩
   .obtain⟨u,O,_,M⟩:=G.src g y;obtain⟨p,l,L⟩:=P.all u O;exact .inr ⟨p,l,(jF w l L a).mpr ((M a).mp f),(jF w l L b).mpr ((M b).mp j)⟩
  .rintro (⟨f,j⟩|⟨p,l,f,j⟩)
   .exact⟨i,rl,f,j⟩
   .obtain⟨u,L⟩:=Po _ (P.ne p l);have O:=P.sub p l u L;obtain⟨g,y,ug⟩:=G.all u O (bB.mp O).1.2;obtain⟨U,Z,_,M⟩:=G.src g y;have r:Rc z (uT n i) U u:=((M u).mp ug).elim id λh=>absurd h.1 (bB.mp O).2;obtain⟨p',C,H⟩:=P.all U Z;have ep:u∈p':=(P.cl p' C U H u).mpr r;have key:∀x,x∈y3 z i p->x∈g:=λx h=>(M x).mpr ((jF w C H x).mp ((jF w C ep x).mpr ((jF w l L x).mp h)));exact⟨g,l_ _ y,key a f,key b j⟩
 constructor
 .rintro⟨g,y,a,b,rfl,F,ha,hb,hk⟩;refine⟨?_,by simpa using hk⟩;unfold CW;rw[HE,mh];rcases(E a b).mp ⟨g,y,ha,hb⟩with⟨f,j⟩|⟨p,l,f,j⟩
  .exact .inl ((gR m.nd).mpr ⟨a,b,rfl,F,f,j⟩)
  .refine .inr ?_;obtain⟨X,B,S⟩:=n6.mp ((gR (fC m p l).nd).mpr ⟨a,b,rfl,F,f,j⟩);exact n6.mpr ⟨X,DO.mpr ⟨p,l,B⟩,S⟩
 .rintro⟨h,hk⟩;unfold CW at h;rw[HE,mh]at h;have B:k∉z:=by simpa using hk
  rcases h with h|h
  .obtain⟨a,b,rfl,F,f,j⟩:=(gR m.nd).mp h;obtain⟨g,y,W,Q⟩:=(E a b).mpr (.inl ⟨f,j⟩);exact⟨g,y,a,b,rfl,F,W,Q,B⟩
  .obtain⟨X,hf,S⟩:=n6.mp h;obtain⟨p,l,hf⟩:=DO.mp hf;obtain⟨a,b,rfl,F,f,j⟩:=(gR (fC m p l).nd).mp (n6.mpr ⟨X,hf,S⟩);obtain⟨g,y,W,Q⟩:=(E a b).mpr (.inr ⟨p,l,f,j⟩);exact⟨g,y,a,b,rfl,F,W,Q,B⟩
def Lc{n:Nat}{i:Q3}{f:Q2}{s:e_}(w:lG n i)(m:Sm n f):gf.p [aF n i,.lst (f.map .int)] s=.ok (.lst ((zZ n i f).map kD)) s:=by
 have n12:=m.n12;obtain⟨y,e1⟩:=Hi (qs:=f) (z3:=Y) (z4:=Y) (z5:=Y) (z6:=Y) (z7:=Y) (z8:=Y) (z9:=Y) (s:=s) w;obtain⟨j,F,e2,G⟩:=Hk (z3:=y) (z5:=Y) (z6:=Y) (z7:=Y) (z8:=Y) (z9:=Y) (s:=s) w m;have L:∀g∈f::j,g.length<=12:=λg l=>by
  rcases mu.mp l with rfl|l
  .exact l7 m.len n12
  .obtain⟨_,_,h,_⟩:=G.src g l;exact h.len n12
 obtain⟨O,Q,P,e3⟩:=Hg (n:=n) (ks:=i) (G:=f::j) (qs:=f) (z3:=y) (z5:=F) (z7:=Y) (z8:=Y) (z9:=Y) (s:=s) L (by have:=G.len;simp;ext);have tie:∀k∈sq i (f::j),∃a b:Int,k=[a,b]/\0<=a/\a<b/\b<(n:Int):=λk u=>by
  obtain⟨g,l,a,b,rfl,H,M,E,_⟩:=wg.mp u;have bd:∀x∈g,0<=x/\x<(n:Int):=by
   rcases mu.mp l with rfl|l
   .exact m.bd
   .obtain⟨_,_,h,_⟩:=G.src g l;exact h.bd
  exact⟨a,b,rfl,(bd a M).1,H,(bd b E).2⟩
 have r:=jH (n:=n) (by ext) tie
 have C:=vJ (B:=SetT.mm (sq i (f::j))) (λk u=>by
  obtain⟨a,b,rfl,_⟩:=tie k ((SetT.eU k _).mp u)
  simp) r
 rw[Hl w m G]at C;have ld:qW.p [tD (SetT.mm (sq i (f::j)))]=J (.lst ((SetT.mm (sq i (f::j))).map kD)):=b_ (by ext);rw[yn (by rfl)];unfold ir;rw[show m_ 10 [aF n i,.lst (f.map .int)]=[J (aF n i),J (.lst (f.map .int)),Y,Y,Y,Y,Y,Y,Y,Y]from rfl];rw[aB,cr,vx];simp only[Pg,uy,uD,PU.ak];rw[aB];refine(congrArg (λz:PS=>(z.then _).fin) e1).trans ?_;rw[PU.ak,aB,cr];simp![cV,ai,aw,Ln,show(1:Nat)<=100000 by decide,if_true,Pg,uy,uD,PU.ak];rw[aB];refine(congrArg (λz:PS=>(z.then _).fin) e2).trans ?_;rw[PU.ak,aB,cr,vx];simp only[Pg,uy,uD,PU.ak];rw[Kn (x:=.lst ((f::j).map jj)) (d:=.lst ((zZ n i f).map kD)) (s':=s) rfl ?_,PU.ec];rw[aB];refine(congrArg (λz:PS=>z.then _) e3).trans ?_;rw[PU.ak,fk,dL,ai,dL,ai];simp![aw,ld,Pf,C,Pg]
def u3{lo:Int}{c i:Nat}{x:PV}(h:(bN lo c)[i]?=J x):x=.int (lo+i)/\i<c:=by
 unfold bN at h;rw[s_,ub]at h;obtain⟨k,f,rfl⟩:=h
 have:=qp.mp f
 obtain⟨a,b⟩:=this;simp at a b;subst b;exact⟨rfl,a⟩
def sA{ns:Q2}{k:Nat}(a:k<ns.length):mw (ns.map PV.int) (k:Int)=J (.int ns[k]):=L2.f8 (by simp[a])
def pG{h:MH}:p_ (.int 10) (.int 18) h=.ok (.int (10^18)) h:=qS (by decide)
def xY{h:MH}:p_ (.int 10) (.int 15) h=.ok (.int (10^15)) h:=qS (by decide)
def xw{h:MH}{ns:Q2}{k:Nat}(hk:k<64):∃m c:Int,dW [.frl (ns.map .int),.int k] h=.ok (.loc h.length) (h++[.lst [.int m,.int c,.int 0]]):=by
 unfold dW;have B:∀{i:Int}{h:MH},ki (.int 7919) (.int i) h=.ok (.int (7919*i)) h:=fV (by decide);have R:∀{i:Int}{h:MH},ki (.int 48271) (.int i) h=.ok (.int (48271*i)) h:=fV (by decide);have O:∀{i:Int}{h:MH},ki (.int 40009) (.int i) h=.ok (.int (40009*i)) h:=fV (by decide);have M:∀{a b c:PV}{h:MH},oy [a,b,c] h=.ok (.loc h.length) (h++[.lst [a,b,c]]):=uX (by simp)
 have fin:∀cell:Int,∃m c:Int,(aW (zy (mB (av Al (uj zc (ag (ah 2) ia)) (av p_ (mC (.int 10)) (mC (.int 18))))) (bT (hZ (ag (mC (.int 1)) (ag (uj zc (ag (ah 2) ia)) (ag (mC (.int 0)) ia))))) ls)
   (bT (hZ (ag (mC (.int 0)) (ag (av lb (av lB (ah 2) (mC (.int 2147483587))) (av ki (mC (.int 40009)) (ah 1))) (ag (mC (.int 0)) ia)))))) [J (.frl (ns.map .int)),J (.int k),J (.int cell)] h=.rt (.loc h.length) (h++[.lst [.int m,.int c,.int 0]]):=λcell=>by
  by_cases z:(10:Int)^18<=(if cell<0 then -cell else cell)
  .exact⟨1,(if cell<0 then -cell else cell),by simp[pG,M,z,-Int.reducePow]⟩
  .exact⟨0,cell.fmod 2147483587+40009*k,by simp[pG,M,z,O,eR,-Int.reducePow]⟩
 have u:∀cell:Int,∃m c:Int,((aW (zy (mB (av Al (uj zc (ag (ah 2) ia)) (av p_ (mC (.int 10)) (mC (.int 18))))) (bT (hZ (ag (mC (.int 1)) (ag (uj zc (ag (ah 2) ia)) (ag (mC (.int 0)) ia))))) ls)
   (bT (hZ (ag (mC (.int 0)) (ag (av lb (av lB (ah 2) (mC (.int 2147483587))) (av ki (mC (.int 40009)) (ah 1))) (ag (mC (.int 0)) ia)))))) [J (.frl (ns.map .int)),J (.int k),J (.int cell)] h).fin=.ok (.loc h.length) (h++[.lst [.int m,.int c,.int 0]]):=λcell=>by
  obtain⟨m,c,q⟩:=fin cell;exact⟨m,c,by rw[q];rfl⟩
 have j:∀cell:Int,(aW (bc 2 (av lb (av ki (mC (.int 7919)) (ah 1)) (mC (.int 11))))
 (zy (mB (av Aj (ah 1) (uj zd (ag (uj r_ (ag (ah 0) ia)) (ag (mC (.int 63)) ia))))) (bc 2 (av bO (ah 0) (ah 1))) (zy (mB (av Ak (uj r_ (ag (ah 0) ia)) (mC (.int 0)))) (bc 2 (av lb (av lB (av bO (ah 0) (av lB (ah 1) (uj zd (ag (uj r_ (ag (ah 0) ia)) (ag (mC (.int 63)) ia))))) (av p_ (mC (.int 10)) (mC (.int 15)))) (av ki (mC (.int 48271)) (ah 1)))) ls))) [J (.frl (ns.map .int)),J (.int k),Y] h=.nx [J (.frl (ns.map .int)),J (.int k),J (.int cell)] h ->
   ∃m c:Int,dR 3 2 v2 [.frl (ns.map .int),.int k] h=.ok (.loc h.length) (h++[.lst [.int m,.int c,.int 0]]):=λcell q=>by
  obtain⟨m,c,X⟩:=u cell;refine⟨m,c,(jM (by rfl)).trans ?_⟩;rw[<-X];unfold v2;simp only[b9]at q ⊢;have P:bM 3 [PV.frl (ns.map .int),PV.int k]=[J (.frl (ns.map .int)),J (.int k),Y]:=rfl;rw[P];generalize (bc 2 (av lb (av ki (mC (.int 7919)) (ah 1)) (mC (.int 11)))) [J (.frl (ns.map .int)),J (.int k),Y] h=W at q ⊢
  cases W with
  |nx Z G =>
   simp only[MM.ak,b9]at q ⊢;rw[q];rfl
  |_=>cases q
 have l:∃f:Nat,(if(63:Int)<(ns.length:Int)then(63:Int)else(ns.length:Int))=(f:Int)/\f<=ns.length/\(0<ns.length->0<f):=by
  by_cases z:(63:Int)<(ns.length:Int)
  .exact⟨63,by rw[b_ z];rfl,by ext,by ext⟩
  .exact⟨ns.length,by rw[d_ z],by ext,by ext⟩
 obtain⟨f,C,F,r⟩:=l;by_cases G:k<f
 .refine j (ns[k]'(by ext)) ?_;simp[B,C,G,sA (show k<ns.length by ext)]
 .by_cases y:0<ns.length
  .have E:(f:Int)≠0:=by have:=r y;ext
   have L:k % f<ns.length:=q_ (Nat.mod_lt _ (r y)) F;have Q:(k:Int).fmod (f:Int)=((k % f:Nat):Int):=by rw[MF _ (by ext)];rfl
   refine j ((ns[k % f]'L).fmod (10^15)+48271*k) ?_;have S:((10:Int)^15)≠0:=by decide
   have H:=sA L;rw[Int.natCast_emod]at H;simp[B,C,G,y,eR E,Q,H,xY,eR S,R,-Int.reducePow]
  .have U:ns=[]:=AD.mp (by ext);refine j (7919*k+11) ?_;have z:¬((k:Int)<(f:Int)):=by ext
   simp[B,C,z,y]
def vQ{i:Int}(h:i.natAbs<1900):i.natAbs.log2<1920:=by
 have:=Nat.log2_le_self i.natAbs
 ext
def ya{P:Q3}(C:P.length<=66)(z:∀p∈P,p.length=2/\∀x∈p,x.natAbs<1900):∃t,jT.p [.lst (P.map kD)]=J (.str t):=by
 obtain⟨a,b⟩:=kF P;have s:=BL (L:=5000) (ds:=P.map λk=>PyData.tuple (k.map .int)) λu B=>by
  obtain⟨p,y,rfl⟩:=n6.mp B;obtain⟨l,r⟩:=z p y;refine(xF (L:=2000) (ds:=p.map .int) λd hd=>?_).mono (by rw[n_];ext);obtain⟨i,j,rfl⟩:=n6.mp hd;exact Ff (vQ (r i j))
 have f:1000000<=sizeLine:=by decide
 refine⟨(PyData.list (P.map λk=>PyData.tuple (k.map .int))).shown,?_⟩;show(lc (.lst (P.map kD))).map D.str=_;unfold lc;dsimp only;rw[show py (.lst (P.map kD))=J (.list (P.map λk=>.tuple (k.map .int))) by simp[py,a]];dsimp only;have sl:=s.len;rw[n_]at sl;rw[b_ ⟨by simp only[up];ext,s.able,l7 sl (by ext)⟩];rfl
def wj{h:MH}{p:Nat}{s:e_}(pn:bu h p s):∀o∈[p],o<h.length:=λo a=>by
 have:o=p:=by simpa using a
 subst this;exact aE pn
def yS{n:Int}{a:Q3}:flat (aF n a)=I:=by simp[aF,flat,qd,jx]
def iG{p:Nat}{h:MH}{Z:ll}{E:ao}{s:e_}(pn:bu h p s)(f:Z.length=E.length)(r:∀(i:Nat) d,E[i]?=J (J d)->∃v,Z[i]?=J (J v)/\Rp p h [p] d v):PU.Cx p h h.length [p] [p] [] Z E s :=
 ⟨wj pn,λ_ h=>h,wj pn,by simp,ii _,pn,f,λi d e _=>r i d e,λi _ _ a=>by cases a⟩
def DD{e:Xe []}{p:Nat}{h:MH}{Z:ll}{E:ao}{s s':e_}{d:D}(j:e.fz=I)(c:PU.Cx p h h.length [p] [p] [] Z E s)(i:e.p E s=.ok d s'):∃v a,e.m Z h=.ok v a/\KB p h a/\bu a p s'/\Rp p a [p] d v:=by have k:=e.ok c;rw[i]at k;obtain⟨v,a,e,kb,f,_,r,_⟩:=k;exact⟨v,a,e,kb,f,r j⟩
def qT{e:Xe []}{p:Nat}{h:MH}{Z:ll}{E:ao}{s s':e_}{ds:Q5}(u:e.fr=I)(c:PU.Cx p h h.length [p] [p] [] Z E s)(y:e.p E s=.ok (.lst ds) s'):∃l xs a,e.m Z h=.ok (.loc l) a/\KB p h a/\bu a p s'/\h.length<=l/\a[l]?=J (.lst xs)/\Rps p a [l,p] ds xs:=by have k:=e.ok c;rw[y]at k;obtain⟨v,a,e,kb,i,_,_,f⟩:=k;obtain⟨l,xs,rfl,j,g,r⟩:=f u Y ds rfl;exact⟨l,xs,a,e,kb,i,j,g,r⟩
def DE{t:Xt []}{p:Nat}{h:MH}{Z:ll}{E:ao}{s i:e_}{b:Bool}(c:PU.Cx p h h.length [p] [p] [] Z E s)(j:t.p E s=.ok b i):∃a,t.m Z h=.ok b a/\KB p h a/\bu a p i:=by have k:=t.ok c;rw[j]at k;obtain⟨v,a,e,kb,f,r⟩:=k;subst r;exact⟨a,e,kb,f⟩
def Ld{p:Nat}{h:MH}{O:Q4}{f:Q2}{v:PV}(r:Rp p h O (jj f) v):∃a,v=.loc a/\a∉O/\h[a]?=J (.lst (f.map .int)):=by obtain⟨a,xs,e,i,g,r⟩:=r;exact⟨a,e,i,by rw[g,dr r (gW f)]⟩
def jX{p:Nat}{h:MH}{O:Q4}{f:Q2}{a:Nat}(i:a∉O)(g:h[a]?=J (.lst (f.map .int))):Rp p h O (jj f) (.loc a):=⟨a,_,rfl,i,g,gJ _⟩
abbrev Lf(B:Q3):D:=.lst (B.map kD)
def uU{p:Nat}{h:MH}{O:Q4}{B:Q3}{a:Nat}(f:a∉O)(g:h[a]?=J (.lst (B.map kP))):Rp p h O (Lf B) (.loc a):=⟨a,_,rfl,f,g,gv _⟩
def DF{p:Nat}{h:MH}{O:Q4}{B:Q3}{xs:Q0}(r:Rps p h O (B.map kD) xs):xs=B.map kP:=i7 r (ft B)
def Lg{h:MH}{Z:ll}{i l:Nat}{a:Q0}{N:Mx PV}{v:PV}(f:ah i Z h=.ok (.loc l) h)(g:h[l]?=J (.lst a))(j:a.length<=66)(hN:N Z h=.ok v h):
  fb (zf cv (ah i) (ag N ia)) Z h=.nx Z (h.set l (.lst (a++[v]))):=by
 rw[xz,Cd (n:=l) (h1:=h) f g];simp only[xj,hN,Bx,Out.bind_ok];rw[ud g (by ext)];rfl
abbrev X3:Xe []:=az gh (ac (aa 2) (ac (xC (.int 12)) a_))
abbrev X4:Xe []:=Av (az cB (ac (aa 2) (ac (ae n4 (aa 3) (xC (.int 0))) a_))) At (Au (az aM (ac (aa 2) (ac (ae bq (ae n4 (aa 3) (xC (.int 0))) (xC (.int 1))) a_))))
abbrev X5:Xe []:=n7 lP (ac (aa 4) a_)
abbrev X6:Xe []:=az gf (ac (aa 3) (ac (aa 4) a_))
abbrev X7:Xe []:=az cf (ac (aa 3) (ac (aa 5) a_))
abbrev T7:Xt []:=(Dt (nc (xB (zO (mY ["list"]) (aa 7)))) (Dt (xB (ae Gx (n7 jT (ac (aa 7) a_)) (n7 jT (ac (aa 6) a_)))) (xB (ae zW (aa 5) (aa 4)))))
abbrev T8:Xt []:=xB (ae Gx (n7 jT (ac (az cf (ac (aa 3) (ac (n7 lP (ac (aa 4) a_)) a_))) a_)) (n7 jT (ac (aa 6) a_)))
abbrev o5:nw:=(aW (bc 3 X3.m)
 (aW (bc 4 X4.m)
 (aW (bc 5 X5.m)
 (aW (bc 6 X6.m)
 (aW (bc 7 X7.m)
 (aW (zy T7.m (bT (mC (.bl T))) ls)
 (aW (fb (zf cv (ah 7) (ag (kX (ag (mC (.int 0)) (ag (mC (.int 1)) ia))) ia)))
 (aW (fb (zf cv (ah 5) (ag (mC (.int 0)) ia)))
 (zy T8.m (bT (mC (.bl T))) ls)))))))))
def za:Ay=aW (qE (jS (ag (mC (.int 3)) ia)) (EY 1) (aW (bc 2 (cD dW (ag (ah 0) (ag (ah 1) ia)))) o5)) (bT (mC (.bl I))):=rfl
section
variable{n:Nat}{s:e_}{ks:Q3}{qs:Q2}
def Pc{r:ao}(a:n<=12):∃qs y,X4.p (Y::Y::J .pen::J (aF n ks)::r) s=.ok (jj qs) y/\Sm n qs:=by obtain⟨f,j,i,o⟩:=tY (n:=n) (s:=s) a;obtain⟨d,l,u,C,B⟩:=cW (s:=j) (size:=(n:Int)+1) (by ext) (by ext);have nd:f.Nodup:=o.pm.symm.nodup (sG n);refine⟨f.take d.toNat,l,?_,a,nd.sublist (MX _ _),λx z=>o.bd x (Lp z)⟩;simp![Kg,aV,ai,aK,de,bF,aF,uW,pc,Pf,aw,i,Ke,Kf,fX,B,Kk,G3 u]
def nF(m:Sm n qs):(zZ n ks qs).length<=66/\∃t,jT.p [Lf (zZ n ks qs)]=J (.str t):=by have n12:=m.n12;have tie:=jp (mH (ks:=ks) m);have l:=jH (n:=n) (by ext) tie;have f:(zZ n ks qs).length<=66:=l7 (AE _ _) (by rw[(bw _).length_eq];exact l);refine⟨f,ya f λk i=>?_⟩;obtain⟨a,b,rfl,r,y,u⟩:=tie k ((SetT.eU k _).mp ((bw _).mem_iff.mp (zT.mp i).1));refine⟨rfl,λx j=>?_⟩;simp only[mu,Hy,or_false]at j;ext
def Ph(m:Sm n qs):T7.p [Y,Y,J .pen,J (aF n ks),J (jj qs),J (jj qs),J (Lf (zZ n ks qs)),J (Lf (zZ n ks qs))] s=.ok T s:=by obtain⟨_,t,a⟩:=nF (ks:=ks) m;simp![Dx,Gc,bX,pe,Ge,Gf,IB,Pf,show(["list"].any (dN "list"))=I by simp[dN],Pl,HG,o0,if_false,aK,dL,ai,aw,a,n8,pq,jb,if_true,decide_true]
def Pj(w:lG n ks)(m:Sm n qs):T8.p [Y,Y,J .pen,J (aF n ks),J (jj qs),Y,J (Lf (zZ n ks qs)),Y] s=.ok T s:=by obtain⟨_,t,f⟩:=nF (ks:=ks) m;have i:qs.length<=12:=l7 m.len m.n12;have a:lP.p [jj qs]=J (jj qs):=tw (by rw[n_];ext);simp![bX,aK,dL,ai,aV,aw,a,Pf,v8 w m,f,n8,Pl]
def Hm{h:MH}{a b:Int}{z0 z1:Option PV}{r:List (Option PV)}(hr:r.length=5):∃Z' h',o5 (z0::z1::J (.loc h.length)::r) (h++[.lst [.int a,.int b,.int 0]])=.nx Z' h'/\Z'.length=8/\Z'[0]?=J z0:=by
 match r,hr with
 |[a3,a4,a5,X,S],_ =>
  have ap:bu (h++[.lst [.int a,.int b,.int 0]]) h.length (a,b,0):=JP;generalize h++[MO.lst [.int a,.int b,.int 0]]=g0 at *;generalize h.length=p at *;obtain⟨n,ks,s1,q1,hn,w⟩:=K9 (s:=(a,b,0))
  obtain⟨B,g1,e1,k1,am,G⟩:=DD (e:=X3) (Z:=[z0,z1,J (.loc p),a3,a4,a5,X,S]) (E:=[Y,Y,J .pen,Y,Y,Y,Y,Y]) (d:=aF n ks) (s':=s1) rfl (iG ap rfl λi d e=>by
   match i,e with
   |0,e=>cases e
   |1,e=>cases e
   |2,e=>cases e;exact⟨_,rfl,rfl⟩
   |i+3,e =>
    have:(List.replicate 5 (Y:RU))[i]?=J (J d):=e
    rw[Ag]at this
    split at this<;>cases this) (by simp[q1])
  obtain⟨qs,L,q2,m⟩:=Pc (ks:=ks) (r:=[Y,Y,Y,Y]) (s:=s1) hn
  obtain⟨v4,g2,e2,k2,R,r4⟩:=DD (e:=X4) (Z:=[z0,z1,J (.loc p),J B,a4,a5,X,S]) rfl (iG am rfl λi d e=>by
   match i,e with
   |0,e=>cases e
   |1,e=>cases e
   |2,e=>cases e;exact⟨_,rfl,rfl⟩
   |3,e=>cases e;exact⟨_,rfl,G⟩
   |i+4,e =>
    have:(List.replicate 4 (Y:RU))[i]?=J (J d):=e
    rw[Ag]at this
    split at this<;>cases this) q2
  have G:∀g O,Rp p g O (aF n ks) B:=λg O=>G.flat yS;obtain⟨l,rfl,M,f⟩:=Ld r4;have p4:l≠p:=by simpa using M
  have t4:=aE f;have ql:qs.length<=12:=l7 m.len hn;have el:lP.p [jj qs]=J (jj qs):=tw (by rw[n_];ext)
  obtain⟨u,ax,g3,e3,k3,a0,f5,y,c5⟩:=qT (e:=X5) (Z:=[z0,z1,J (.loc p),J B,J (.loc l),a5,X,S]) (E:=[Y,Y,J .pen,J (aF n ks),J (jj qs),Y,Y,Y]) (ds:=qs.map .int) (s':=L) rfl (iG R rfl λi d e=>by
   match i,e with
   |0,e=>cases e
   |1,e=>cases e
   |2,e=>cases e;exact⟨_,rfl,rfl⟩
   |3,e=>cases e;exact⟨_,rfl,G _ _⟩
   |4,e=>cases e;exact⟨_,rfl,r4⟩
   |i+5,e =>
    have:(List.replicate 3 (Y:RU))[i]?=J (J d):=e
    rw[Ag]at this
    split at this<;>cases this) (by simp[el])
  have ay:ax=qs.map .int:=dr c5 (gW qs);subst ay;have t5:=aE y;have f:=(k3.keep l t4 p4).trans f;have bj:=aE R
  obtain⟨F,be,g4,e4,k4,a8,f6,H,c6⟩:=qT (e:=X6) (Z:=[z0,z1,J (.loc p),J B,J (.loc l),J (.loc u),X,S]) (E:=[Y,Y,J .pen,J (aF n ks),J (jj qs),Y,Y,Y]) (ds:=(zZ n ks qs).map kD) (s':=L) rfl (iG a0 rfl λi d e=>by
   match i,e with
   |0,e=>cases e
   |1,e=>cases e
   |2,e=>cases e;exact⟨_,rfl,rfl⟩
   |3,e=>cases e;exact⟨_,rfl,G _ _⟩
   |4,e=>cases e;exact⟨_,rfl,jX M f⟩
   |i+5,e =>
    have:(List.replicate 3 (Y:RU))[i]?=J (J d):=e
    rw[Ag]at this
    split at this<;>cases this) (by simp[Lc w m])
  have aj:=DF c6;subst aj;have t6:=aE H;have b2:=k3.len;have b3:=k4.len;have f:=(k4.keep l (aE f) p4).trans f;have y:=(k4.keep u t5 (by ext)).trans y
  obtain⟨C,ca,g5,e5,W,a9,f7,Q,c7⟩:=qT (e:=X7) (Z:=[z0,z1,J (.loc p),J B,J (.loc l),J (.loc u),J (.loc F),S]) (E:=[Y,Y,J .pen,J (aF n ks),J (jj qs),J (jj qs),Y,Y]) (ds:=(zZ n ks qs).map kD) (s':=L) rfl (iG a8 rfl λi d e=>by
   match i,e with
   |0,e=>cases e
   |1,e=>cases e
   |2,e=>cases e;exact⟨_,rfl,rfl⟩
   |3,e=>cases e;exact⟨_,rfl,G _ _⟩
   |4,e=>cases e;exact⟨_,rfl,jX M f⟩
   |5,e=>cases e;exact⟨_,rfl,jX (by simp;ext) y⟩
   |i+6,e =>
    have:(List.replicate 2 (Y:RU))[i]?=J (J d):=e
    rw[Ag]at this
    split at this<;>cases this) (by simp[v8 w m])
  have an:=DF c7;subst an;have t7:=aE Q;have b1:=W.len;have f:=(W.keep l (aE f) p4).trans f;have y:=(W.keep u (aE y) (by ext)).trans y;have H:=(W.keep F t6 (by ext)).trans H
  obtain⟨g6,e6,U,P⟩:=DE (t:=T7) (Z:=[z0,z1,J (.loc p),J B,J (.loc l),J (.loc u),J (.loc F),J (.loc C)]) (iG a9 rfl λi d e=>by
   match i,e with
   |0,e=>cases e
   |1,e=>cases e
   |2,e=>cases e;exact⟨_,rfl,rfl⟩
   |3,e=>cases e;exact⟨_,rfl,G _ _⟩
   |4,e=>cases e;exact⟨_,rfl,jX M f⟩
   |5,e=>cases e;exact⟨_,rfl,jX (by simp;ext) y⟩
   |6,e=>cases e;exact⟨_,rfl,uU (by simp;ext) H⟩
   |7,e=>cases e;exact⟨_,rfl,uU (by simp;ext) Q⟩) (Ph (ks:=ks) (s:=L) m)
  have b0:=U.len;have f:=(U.keep l (aE f) p4).trans f;have y:=(U.keep u (aE y) (by ext)).trans y;have H:=(U.keep F (aE H) (by ext)).trans H;have Q:=(U.keep C t7 (by ext)).trans Q;obtain⟨cl,_⟩:=nF (ks:=ks) m;have a1:=Lg (Z:=[z0,z1,J (.loc p),J B,J (.loc l),J (.loc u),J (.loc F),J (.loc C)]) (i:=7) (N:=kX (ag (mC (.int 0)) (ag (mC (.int 1)) ia))) (v:=.tup [.int 0,.int 1]) rfl Q (by rw[n_];exact cl) (by simp);generalize ab:g6.set C (.lst ((zZ n ks qs).map kP++[.tup [.int 0,.int 1]]))=g7 at a1;have k7:∀j:Nat,j≠C->g7[j]?=g6[j]?:=λj hj=>by rw[<-ab,rc (λz=>hj z.symm)]
  have a2:=Lg (h:=g7) (Z:=[z0,z1,J (.loc p),J B,J (.loc l),J (.loc u),J (.loc F),J (.loc C)]) (i:=5) (N:=mC (.int 0)) (v:=.int 0) rfl ((k7 u (by ext)).trans y) (by rw[n_];ext) (by simp);generalize as:g7.set u (.lst (qs.map .int++[.int 0]))=g8 at a2;have k8:∀j:Nat,j≠C->j≠u->g8[j]?=g6[j]?:=λj h1 h2=>by rw[<-as,rc (λz=>h2 z.symm),k7 j h1]
  have bi:=aE P
  obtain⟨g9,e9,k9,bm⟩:=DE (t:=T8) (Z:=[z0,z1,J (.loc p),J B,J (.loc l),J (.loc u),J (.loc F),J (.loc C)]) (h:=g8) (p:=p) (iG (s:=L) ((k8 p (by ext) (by ext)).trans P) rfl λi d e=>by
   match i,e with
   |0,e=>cases e
   |1,e=>cases e
   |2,e=>cases e;exact⟨_,rfl,rfl⟩
   |3,e=>cases e;exact⟨_,rfl,G _ _⟩
   |4,e=>cases e;exact⟨_,rfl,jX M ((k8 l (by ext) (by ext)).trans f)⟩
   |5,e=>cases e
   |6,e=>cases e;exact⟨_,rfl,uU (by simp;ext) ((k8 F (by ext) (by ext)).trans H)⟩
   |7,e=>cases e) (Pj (s:=L) w m)
  have sk:∀(Z:ll)(g:MH),ls Z g=.nx Z g:=λ_ _=>rfl;refine⟨[z0,z1,J (.loc p),J B,J (.loc l),J (.loc u),J (.loc F),J (.loc C)],g9,?_,rfl,rfl⟩;unfold o5;rw[b9,iu,e1,aA];simp only[uy,uD,MM.ak];rw[b9,iu,e2,aA];simp only[uy,uD,MM.ak];rw[b9,iu,e3,aA];simp only[uy,uD,MM.ak];rw[b9,iu,e4,aA];simp only[uy,uD,MM.ak];rw[b9,iu,e5,aA];simp only[uy,uD,MM.ak];rw[b9,vP,e6,aA];simp only[o0,if_false];rw[sk,MM.ak,b9,a1,MM.ak,b9,a2,MM.ak,vP,e9,aA];simp only[o0,if_false];exact sk _ _
end
def Lh{Z:ll}{x:Option PV}(h:Z.length=8)(f:Z[0]?=J x):∃i j r,Z=x::i::j::r/\r.length=5:=by
 match Z,h with
 |b0::a::l::r,h =>
  cases f;exact⟨a,l,r,rfl,by simpa using h⟩
def AA(ns:Q2)(U:ns.length<=63):∃f,zQ [.frl (ns.map .int)] []=.ok (.bl I) f:=by
 unfold zQ;rw[jM (by rfl),za];have y:bM 8 [PV.frl (ns.map .int)]=[J (.frl (ns.map .int)),Y,Y,Y,Y,Y,Y,Y]:=rfl;rw[y];obtain⟨W,f,e,E,l⟩:=sC (it:=⟨bN 0 3,[]⟩) (g:=EY 1) (b:=aW (bc 2 (cD dW (ag (ah 0) (ag (ah 1) ia)))) o5)
  (λj Z h=>Z.length=8/\Z[0]?=J (J (.frl (ns.map .int)))) (bN 0 3) 0 [J (.frl (ns.map .int)),Y,Y,Y,Y,Y,Y,Y] [] ⟨rfl,rfl⟩ (λ_ _ _ _=>BA.mpr trivial) (λm Z h x ⟨u,M⟩ L=>by
   obtain⟨S,O,r,rfl,F⟩:=Lh u M;obtain⟨rfl,R⟩:=u3 L;obtain⟨a,b,B⟩:=xw (h:=h) (ns:=ns) (k:=m) (by ext);obtain⟨Q,P,e2,C,G⟩:=Hm (h:=h) (a:=a) (b:=b) (z0:=J (.frl (ns.map .int))) (z1:=J (.int (0+(m:Int)))) (r:=r) F;refine⟨_,_,Q,P,rfl,?_,C,G⟩;rw[b9];have i:dW [.frl (ns.map .int),.int (0+(m:Int))] h=.ok (.loc h.length) (h++[.lst [.int a,.int b,.int 0]]):=by rw[Int.zero_add];exact B
   have e1:bc 2 (cD dW (ag (ah 0) (ag (ah 1) ia))) (J (.frl (ns.map .int))::J (.int (0+(m:Int)))::O::r) h=.nx (J (.frl (ns.map .int))::J (.int (0+(m:Int)))::J (.loc h.length)::r) (h++[.lst [.int a,.int b,.int 0]]):=by simp -implicitDefEqProofs [i,-Int.zero_add]
   refine(congrArg (λz:SOut=>z.then _) e1).trans ?_;rw[MM.ak]
   exact e2)
 refine⟨f,?_⟩;have H:jS (ag (mC (.int 3)) ia) [J (.frl (ns.map .int)),Y,Y,Y,Y,Y,Y,Y] []=.ok ⟨bN 0 3,[]⟩ []:=by simp -implicitDefEqProofs
 rw[b9,By,H,aA,e,MM.ak];rfl
end Law
namespace Law
open PySem.Spec PyProof.Rows L2 MM
set_option maxHeartbeats 4000000
def x6(i:Nat):Stmt:=PySem.Challenge.pw_fewfills_k25_pairs_that_may_come.main.body.getD i (.Pass ⟨0,0,0,0⟩)
structure Cl(K:g_)(mg:Aa):Prop where
 r_NoParting:∃C,BH K mg "NoParting" C
 r_NoPlace:∃C,BH K mg "NoPlace" C
def QI(K:g_):Prop:=∀(mg:Aa)(base:Heap),K.In base->base.Ns mainGlobals mg->Cl K mg
def Hn{K:g_}{a:Addr}{f:Addr}(j:PySem.W.nsIn K mainGlobals "NoParting"=J (J (.ref a)))(u:PySem.W.nsIn K mainGlobals "NoPlace"=J (J (.ref f)))(l:PySem.W.excIn K a Fb "ValueError.__new__"=I)(y:PySem.W.excIn K f Fb "ValueError.__new__"=I)(E:PySem.W.findIn K (.ref a) "__getattribute__"=J (J (.builtin "BaseException.__getattribute__")))(B:PySem.W.findIn K (.ref a) "__class__"=J (J (.builtin "object.__class__")))(F:PySem.W.findIn K (.ref a) "__getattr__"=J Y)(z:PySem.W.mroIn K a (.type "object")=J I)(C:PySem.W.mroIn K a (.type "BaseException")=J I)(G:PySem.W.findIn K (.ref f) "__getattribute__"=J (J (.builtin "BaseException.__getattribute__")))(M:PySem.W.findIn K (.ref f) "__class__"=J (J (.builtin "object.__class__")))(O:PySem.W.findIn K (.ref f) "__getattr__"=J Y)(H:PySem.W.mroIn K f (.type "object")=J I)(L:PySem.W.mroIn K f (.type "BaseException")=J I):QI K:=λmg base kin ns=>by
 have i:=PySem.W.mg_of kin ns j;have r:=PySem.W.mg_of kin ns u;exact⟨⟨_,i,l⟩,⟨_,r,y⟩⟩
local macro_rules | `(tactic| contradiction)=>do let q <-[`w_var,`Kp,`Ov,`Kq,`Kr,`Kz,`GC,`Ow,`GD,`GF,`OG,`K5,`OH,`KQ,`KJ,`Ks,`Kt,`Ku,`GA,`CC,`Kv,`GB,`Kw,`Kx,`Ky,`Ox,`Oy,`Oz,`GQ,`KZ,`K0,`OI,`GN,`w_tchain,`GO,`OL,`GP,`w_and,`KU,`w_or,`KW,`KY,`OO,`OM,`ON,`OP,`OQ,`K2,`K1,`OR,`OS,`iD,`gL,`K3,`GU,`OT,`K4,`OU,`w_set,`GW,`GY,`KR,`OK,`KS,`yq,`x9,`xl,`GL,`K6,`GV,`w_pass,`CG,`KA,`KC,`OA,`OB,`OC,`OD,`OE,`KG,`KD,`GZ,`OF,`KH,`KL,`KN,`GG,`GH,`KI,`CD,`KO,`xP,`CJ,`KP,`GJ,`GK].foldrM (λn t=>`(tactic| first | apply $(Lean.mkIdent n) | $t:tactic)) (<-`(tactic| fail));`(tactic| (first | assumption | (apply GR;assumption;(intro env h;cases env;cases h;first | rfl | with_unfolding_all rfl)) | (apply GX;assumption;(intro env h;cases env;cases h;first | rfl | with_unfolding_all rfl)) | with_reducible $q:tactic | exact rfl | decide +kernel | refine λY c=>⟨?_,?_,?_⟩ | (intro _;rfl) | exact λ_ _=>rfl | exact Ai _ | omega | exact⟨⟨rfl,rfl⟩,rfl,rfl,rfl⟩ | with_unfolding_all rfl) <;> contradiction)
abbrev fJ:Stmt:=x6 5
abbrev fL:Stmt:=x6 7
abbrev dH:Stmt:=x6 8
abbrev dz:Stmt:=x6 9
abbrev dE:Stmt:=x6 10
abbrev eG:Stmt:=x6 11
abbrev dI:Stmt:=x6 13
abbrev dy:Stmt:=x6 15
abbrev cR:Stmt:=x6 17
abbrev iH:Stmt:=x6 18
abbrev fM:Stmt:=x6 19
abbrev fR:Stmt:=x6 20
abbrev jO:Stmt:=x6 22
abbrev tU:Q1:=["_law_script","_law_k","_law_cell"]
abbrev tJ:Q1:=["min","len","abs"]
abbrev CY:Q1:=["_law_script","_law_k"]
def CZ(AL:Sc X jO)(g:Gd X tU tJ k)(i:j3 X)(n0:Nn X "abs")(a:Nn X "len")(f:Nn X "min"):zx X (aJ jO) v2 :=
 (n5.h (yu (Ab g 2 (u_ (aN cZ (aN gC aC (kV g 1)) aC)))
 (yu (Ar (i0 (Gn Df (kV g 1) (Ax g 0 (pZ g) f lY (aH (Ax g 1 lq a mf (aH (kV g 0) aY)) (aH aC aY)))) (n5.h (Ac (Ab g 2 (u_ (Aw (kV g 0) (kV g 1)))))) (n5.h (Ac (Ar (i0 (Gn Dg (Ax g 1 lq a mf (aH (kV g 0) aY)) aC) (n5.h (Ac (Ab g 2 (u_ (aN cZ (aN dB (Aw (kV g 0) (aN dB (kV g 1) (Ax g 0 (pZ g) f lY (aH (Ax g 1 lq a mf (aH (kV g 0) aY)) (aH aC aY))))) (aN wp aC aC)) (aN gC aC (kV g 1))))))) fZ))))))
 (yu (Ar (i0 (Gn Jy (Ax g 2 wR n0 wQ (aH (kV g 2) aY)) (aN wp aC aC)) (n5.h (Ac (Ch (N9 (eA (u_ aC) (eA (u_ (Ax g 2 wR n0 wQ (aH (kV g 2) aY))) (eA (u_ aC) lA))))))) fZ))
 (Ac (Ch (N9 (eA (u_ aC) (eA (u_ (aN cZ (aN dB (kV g 2) aC) (aN gC aC (kV g 1)))) (eA (u_ aC) lA))))))))))
abbrev iZ:Stmt:=x6 23
abbrev pE:Q1:=["_law_pen_here","_law_size","_law_number","_law_drawn"]
abbrev rA:Q1:=[]
abbrev yz:Q1:=["_law_pen_here","_law_size"]
def xN(AL:Sc X iZ)(g:Gd X pE rA k)(a:j3 X):zx X (aJ iZ) t_ :=
 (n5.h (yu (Ar (pS (aN cZ (Aw (kV g 0) aC) aC) (wd (kV g 0) aC)))
 (yu (Ar (i0 (Gn (o6 g.room) (Aw (kV g 0) aC) aC) (n5.h (yu (Ab g 3 (u_ (aN dB (Aw (kV g 0) aC) (kV g 1))))
 (yu (Ar (pS (aN Dh (Aw (kV g 0) aC) (kV g 1)) (wd (kV g 0) aC)))
 (Ac (Ch (u_ (kV g 3))))))) fZ))
 (yu (Ab g 2 (u_ (aN dB (aN gC (aN cZ (aN cZ (Aw (kV g 0) aC) (aN gC aC (Aw (kV g 0) aC))) aC) aC) aC)))
 (yu (Ab g 2 (u_ (aN dB (aN gC (kV g 2) (aN cZ (aN cZ (aN dB (kV g 2) aC) (Aw (kV g 0) aC)) aC)) aC)))
 (Ac (Ch (u_ (aN dB (aN Dh (aN dB (aN gC (kV g 2) (aN cZ (aN dB (kV g 2) aC) aC)) aC) aC) (kV g 1))))))))))
abbrev gX:Stmt:=x6 24
abbrev iX:Stmt:=x6 25
abbrev gZ:Stmt:=x6 26
abbrev jR:Stmt:=x6 27
abbrev ff:Stmt:=x6 28
abbrev jL:Stmt:=x6 29
abbrev lr:Stmt:=x6 30
abbrev DG:Q1:=["_law_script","_law_turn","_law_pen_here","_law_web_here","_law_some","_law_handed","_law_due_here","_law_found"]
abbrev DH:Q1:=["range","_law_pen","_law_web","_law_order","_law_draw","list","_law_due","may_come","isinstance","repr"]
abbrev AB:Q1:=["_law_script"]
def Li(AL:Sc X lr)(g:Gd X DG DH k)(F:j3 X)(f:AK X "may_come" ["web","some"] cf.m k)(B:AK X "_law_due" ["_law_web_here","_law_some"] gf.m k)(y:AK X "_law_order" ["_law_pen_here","_law_n"] cB.m k)(l:AK X "_law_draw" ["_law_pen_here","_law_size"] dk k)(z:AK X "_law_web" ["_law_pen_here","_law_most"] gh.m k)(C:AK X "_law_pen" ["_law_script","_law_k"] dW k)(u:Nn X "range")(r:Nn X "list")(a:Nn X "repr")(E:Nn X "isinstance"):zx X (aJ lr) Ay :=
 (n5.h (yu (Ar (wc g (QX g 0 u (aH aC aY)) (QW g 1) (n5.h (yu (Ab g 2 (u_ (Go g 1 C (aH (kV g 0) (aH (kV g 1) aY)))))
 (yu (Ab g 3 (u_ (Go g 2 z (aH (kV g 2) (aH aC aY)))))
 (yu (Ab g 4 (u_ (Dp (Go g 3 y (aH (kV g 2) (aH (Aw (kV g 3) aC) aY))) tf (tR (Go g 4 l (aH (kV g 2) (aH (aN cZ (Aw (kV g 3) aC) aC) aY)))))))
 (yu (Ab g 5 (u_ (QA g 5 sE r io (aH (kV g 4) aY))))
 (yu (Ab g 6 (u_ (Go g 6 B (aH (kV g 3) (aH (kV g 4) aY)))))
 (yu (Ab g 7 (u_ (Go g 7 f (aH (kV g 3) (aH (kV g 5) aY)))))
 (yu (Ar (i0 (MW.mt (uu (w6 (vM (vD g (i:=8) (j:=5) rfl E rfl r io pR (kV g 7)))) (uu (Gn (vY g.room) (Ax g 9 (i9 g) a jV (aH (kV g 7) aY)) (Ax g 9 (i9 g) a jV (aH (kV g 6) aY))) (vF (Gn (u6 g.room) (kV g 5) (kV g 4)))))) (n5.h (Ac (Ch (u_ o4)))) fZ))
 (yu (Ar (j5 (u5 jv js jE (kV g 7) (aH (ky.h (Qe (eA (u_ aC) (eA (u_ aC) lA)))) aY))))
 (yu (Ar (j5 (u5 jv js jE (kV g 5) (aH aC aY))))
 (Ac (Ar (i0 (Gn (vY g.room) (Ax g 9 (i9 g) a jV (aH (Go g 7 f (aH (kV g 3) (aH (QA g 5 sE r io (aH (kV g 4) aY)) aY))) aY)) (Ax g 9 (i9 g) a jV (aH (kV g 6) aY))) (n5.h (Ac (Ch (u_ o4)))) fZ)))))))))))))))
 (Ac (Ch (u_ o4)))))
def Ho:ic "law" lr AB:=λ_ _ _ _ _ _=>Op λ_=>rfl
abbrev iT:Q1:=["thing"]
def uC{K:g_}(c:Wc X P w K mg base iT iT 0 (af fJ))(d:j3 X)(i:Zn K "isinstance")(a:Zn K "bool")(f:Zn K "int"):n5 X (aJ fJ) d5.m:=by unfold d5;apply iD<;>contradiction
abbrev iQ:Q1:=["n","thing"]
def uv{K:g_}(c:Wc X P w K mg base iQ iQ 1 (af fL))(d:j3 X)(a:FnAt P w K mg base "is_whole" Ps0 eB.m 1):n5 X (aJ fL) d6.m:=by unfold d6;apply iD<;>contradiction
abbrev fH:Q1:=["n","thing"]
def oV{K:g_}(c:Wc X P w K mg base fH fH 2 (af dH))(d:j3 X)(r_NoPlace:OV K mg "NoPlace")(a:FnAt P w K mg base "is_place" Ps1 d4.m 2):n5 X (aJ dH) cN.m:=by unfold cN;apply iD<;>contradiction
abbrev eL:Q1:=["n","things","thing"]
def mT{K:g_}(c:Wc X P w K mg base eL eL 3 (af dz))(d:j3 X)(a:FnAt P w K mg base "check_place" Ps2 bh.m 3):n5 X (aJ dz) cy.m:=by unfold cy;apply iD<;>contradiction
abbrev fG:Q1:=["pairs"]
def oS{K:g_}(c:Wc X P w K mg base fG fG 0 (af dE))(d:j3 X)(i:Zn K "sorted")(a:Zn K "set")(j:Zn K "max")(l:Zn K "min")(f:Zn K "tuple"):n5 X (aJ dE) cI.m:=by unfold cI;apply iD<;>contradiction
abbrev gP:Q1:=["web","v","below","above"]
def qf{K:g_}(c:Wc X P w K mg base gP gP 3 (af eG))(d:j3 X)(a:FnAt P w K mg base "check_place" Ps2 bh.m 3):n5 X (aJ eG) cY.m:=by unfold cY;apply gL<;>contradiction
abbrev fF:Q1:=["places","pairs","k","a"]
def oW{K:g_}(c:Wc X P w K mg base fF fF 0 (af dI))(d:j3 X)(a:Zn K "enumerate"):n5 X (aJ dI) cM.m:=by unfold cM;apply gL<;>contradiction
abbrev eM:Q1:=["web","places","a","b","ways","seen","way","place"]
def nj{K:g_}(c:Wc X P w K mg base eM eM 4 (af dy))(d:j3 X)(a:FnAt P w K mg base "neighbours" Ps5 bg.m 4):n5 X (aJ dy) cx.m:=by unfold cx;apply gL<;>contradiction
abbrev d8:Q1:=["web","some"]
def lV{K:g_}(c:Wc X P w K mg base d8 d8 4 (af cR))(d:j3 X)(i:Zn K "len")(a:Zn K "set")(j:Zn K "isinstance")(f:Zn K "list")(r_NoParting:OV K mg "NoParting")(l:FnAt P w K mg base "check_places" Ps3 cw.m 4):n5 X (aJ cR) cc.m:=by unfold cc;apply gL<;>contradiction
abbrev kU:Q1:=["web","some","found","left","piece"]
def xT{K:g_}(c:Wc X P w K mg base kU kU 5 (af iH))(d:j3 X)(a:Zn K "range")(i:FnAt P w K mg base "shortest_way" Ps7 aU.m 5)(f:FnAt P w K mg base "check_parting" Ps8 br.m 5):n5 X (aJ iH) gI.m:=by unfold gI;apply gL<;>contradiction
abbrev iK:Q1:=["web","some","piece"]
def ua{K:g_}(c:Wc X P w K mg base iK iK 4 (af fM))(d:j3 X)(a:Zn K "sorted")(i:Zn K "any")(f:FnAt P w K mg base "neighbours" Ps5 bg.m 4):n5 X (aJ fM) eK.m:=by unfold eK;apply iD<;>contradiction
abbrev iW:Q1:=["web","some","pairs","piece"]
def u4{K:g_}(c:Wc X P w K mg base iW iW 6 (af fR))(d:j3 X)(f:FnAt P w K mg base "rising_once" Ps4 b8.m 1)(j:FnAt P w K mg base "pieces" Ps9 eT.m 6)(a:FnAt P w K mg base "shore_of" Ps10 dw.m 5)(l:FnAt P w K mg base "pairs_among" Ps6 bK.m 1)(i:FnAt P w K mg base "check_parting" Ps8 br.m 5):n5 X (aJ fR) eJ.m:=by unfold eJ;apply gL<;>contradiction
abbrev jA:Q1:=["_law_pen_here","_law_n","_law_found","_law_k"]
def wB{K:g_}(c:Wc X P w K mg base jA jA 1 (af gX))(d:j3 X)(f:Zn K "range")(a:FnAt P w K mg base "_law_draw" Ps13 dk 1):n5 X (aJ gX) fh.m:=by unfold fh;apply gL<;>contradiction
abbrev kW:Q1:=["_law_n","_law_pairs"]
def x4{K:g_}(c:Wc X P w K mg base kW kW 0 (af iX))(d:j3 X)(i:Zn K "sorted")(a:Zn K "set")(j:Zn K "max")(l:Zn K "min")(f:Zn K "tuple"):n5 X (aJ iX) gH.m:=by unfold gH;apply iD<;>contradiction
abbrev jg:Q1:=["_law_ring"]
def ww{K:g_}(c:Wc X P w K mg base jg jg 0 (af gZ))(d:j3 X)(a:Zn K "range")(f:Zn K "len"):n5 X (aJ gZ) fA.m:=by unfold fA;apply iD<;>contradiction
abbrev nB:Q1:=["_law_pen_here","_law_most","_law_n","_law_order_here","_law_way","_law_cut","_law_pairs","_law_a","_law_at","_law_size","_law_some"]
def C0{K:g_}(c:Wc X P w K mg base nB nB 2 (af jR))(d:j3 X)(l:Zn K "range")(r:Zn K "list")(a:FnAt P w K mg base "_law_made" Ps15 gO.m 1)(f:FnAt P w K mg base "_law_draw" Ps13 dk 1)(i:FnAt P w K mg base "_law_round" Ps16 dX.m 1)(j:FnAt P w K mg base "_law_order" Ps14 cB.m 2):n5 X (aJ jR) ik.m:=by unfold ik;apply gL<;>contradiction
abbrev hV:Q1:=["_law_web_here","_law_some","_law_start","_law_found","_law_waiting","_law_here","_law_a","_law_b","_law_there"]
def rK{K:g_}(c:Wc X P w K mg base hV hV 0 (af ff))(d:j3 X):n5 X (aJ ff) dD.m:=by unfold dD;apply gL<;>contradiction
abbrev m9:Q1:=["_law_web_here","_law_some","_law_ties","_law_pair","_law_groups","_law_v","_law_found","_law_group","_law_a","_law_b"]
def C1{K:g_}(c:Wc X P w K mg base m9 m9 1 (af jL))(d:j3 X)(j:Zn K "list")(f:Zn K "sorted")(i:Zn K "range")(a:FnAt P w K mg base "_law_reached" Ps18 cP.m 1):n5 X (aJ jL) ir.m:=by unfold ir;apply gL<;>contradiction
def Hr{K:g_}(b:Ba P w K mg base)(D0:f_ K "is_whole" fJ)(D1:f_ K "is_place" fL)(D2:f_ K "check_place" dH)(D3:f_ K "check_places" dz)(D4:f_ K "rising_once" dE)(D5:f_ K "neighbours" eG)(D6:f_ K "pairs_among" dI)(D7:f_ K "shortest_way" dy)(D8:f_ K "check_parting" cR)(D9:f_ K "pieces" iH)(H:f_ K "shore_of" fM)(ap:f_ K "may_come" fR)(B:f_ K "_law_pen" jO)(C:f_ K "_law_draw" iZ)(O:f_ K "_law_order" gX)(be:f_ K "_law_made" iX)(as:f_ K "_law_round" gZ)(Z:f_ K "_law_web" jR)(ax:f_ K "_law_reached" ff)(U:f_ K "_law_due" jL)(L:f_ K "law" lr)(z0:Zn K "abs")(z1:Zn K "any")(z2:Zn K "bool")(z3:Zn K "enumerate")(z4:Zn K "int")(R:Zn K "isinstance")(S:Zn K "len")(u:Zn K "list")(z8:Zn K "max")(E:Zn K "min")(a:Zn K "range")(am:Zn K "repr")(j:Zn K "set")(f:Zn K "sorted")(l:Zn K "tuple")(cl:Cl K mg):FnAt P w K mg base "law" AB zQ 8:=by
 have a0:=y4 (F:=eB) iT b D0 λX c d=>uC c d R z2 z4;have a1:=y4 (F:=d4) iQ b D1 λX c d=>uv c d  a0;have a2:=y4 (F:=bh) fH b D2 λX c d=>oV c d  ⟨cl.r_NoPlace⟩ a1;have a3:=y4 (F:=cw) eL b D3 λX c d=>mT c d  a2;have a4:=y4 (F:=b8) fG b D4 λX c d=>oS c d f j z8 E l;have a5:=y4 (F:=bg) gP b D5 λX c d=>qf c d  a2;have a6:=y4 (F:=bK) fF b D6 λX c d=>oW c d z3;have a7:=y4 (F:=aU) eM b D7 λX c d=>nj c d  a5;have a8:=y4 (F:=br) d8 b D8 λX c d=>lV c d S j R u ⟨cl.r_NoParting⟩ a3;have a9:=y4 (F:=eT) kU b D9 λX c d=>xT c d a a7 a8;have Q:=y4 (F:=dw) iK b H λX c d=>ua c d f z1 a5;have aj:=y4 (F:=cf) iW b ap λX c d=>u4 c d  a4 a9 Q a6 a8;have ab:=Oq (k:=0) (N:=tU) (G:=tJ) (ps:=CY) b B λX e h g d=>CZ h g d (e.n z0) (e.n S) (e.n E);have i:=Oq (k:=0) (N:=pE) (G:=rA) (ps:=yz) b C λX e h g d=>xN h g d;have r:=y4 (F:=cB) jA b O λX c d=>wB c d a i;have z:=y4 (F:=gO) kW b be λX c d=>x4 c d f j z8 E l;have W:=y4 (F:=dX) jg b as λX c d=>ww c d a S;have ay:=y4 (F:=gh) nB b Z λX c d=>C0 c d a u z i W r;have M:=y4 (F:=cP) hV b ax λX c d=>rK c d;have y:=y4 (F:=gf) m9 b U λX c d=>C1 c d u f a M;have an:=Oq (k:=7) (N:=DG) (G:=DH) (ps:=AB) b L λX e h g d=>Li h g d (aj.c e) (y.c e) (r.c e) (i.c e) (ay.c e) (ab.c e) (e.n a) (e.n u) (e.n am) (e.n R);exact an
end Law
namespace PySem.W.Fast
def tw17440944513643203477:=0
def tw10248577931753916222:=0
def tw15434391054696349025:=0
def tw565614424159292656:=0
def tw11478171350750460214:=0
def tw7216983490401384207:=0
def tw15439765528335876570:=0
def tw11222556135445530994:=0
def tw7115078911705496999:=0
def tw2195994792627535370:=0
def tw4012547361703652339:=0
def tw9136180511079606045:=0
def tw14260732448881124902:=0
def tw12838926917747017702:=0
def tw10376923884010664521:=0
def tw15325571953034339560:=0
def tw12276602701544619016:=0
def tw12569538269527462455:=0
def tw5336804333348599910:=0
def tw17485932181329367688:=0
def tw1044914696074643470:=0
def tw14892367683069853498:=0
def tw5132279970612982268:=0
def tw767570299477675155:=0
def tw5433400023690489693:=0
def tw407457908638475468:=0
def tw8870240021820563348:=0
def tw10790244393469009071:=0
def tw12666958355791726085:=0
def tw13714524761846918322:=0
def tw16674979838080507981:=0
def tw959275131986040678:=0
def tw9786405418014386394:=0
def tw17860029682516556627:=0
def tw1884667012981564702:=0
def tw14233990138292704471:=0
def tw11726179847579947825:=0
def tw5393894743115405499:=0
def tw6754134074892035306:=0
def tw2838840163771905550:=0
def tw11760137536788132832:=0
def tw12615788872826711264:=0
def tw11327035252794208955:=0
def tw12890091977174748920:=0
def tw10538535085996285982:=0
def tw15983532916213023118:=0
def tw17873057599278517236:=0
def tw4207927748088639161:=0
def tw14527339889857758079:=0
def tw2458655639433985398:=0
def tw12997959414143756960:=0
def tw4458604443991970811:=0
def tw17921431336321855449:=0
def tw8784728920837206180:=0
def tw2990784313882065638:=0
def tw161039801624095074:=0
def tw2848550525130938804:=0
def tw52626058756783482:=0
def tw14745813205098739078:=0
def tw535977701854099657:=0
def tw11558011962699870420:=0
def tw7330673421696221768:=0
def tw7028647894988593921:=0
def tw13702369737859221070:=0
def tw7441173765774656053:=0
def tw12143906676756323409:=0
def tw2571964837827182220:=0
def tw2241341995487908625:=0
def tw9986547089730147581:=0
def tw7663820966794401128:=0
def tw12919116793381079371:=0
def tw6946087588383581033:=0
def tw14132444992448266174:=0
def tw17558233958728543056:=0
def tw4788836435556135694:=0
def tw16195332846885244933:=0
def tw16561450462135480847:=0
def tw1190663245564506260:=0
def tw4906879652666876187:=0
def tw13530593167409731789:=0
def tw9311524597670799826:=0
def tw1808708179608865108:=0
def tw2544822800731735472:=0
def tw7797759993563046157:=0
def tw5945761643165647938:=0
def tw6696055407462725691:=0
def tw9311871348011096407:=0
def tw1713544185614492959:=0
def tw17425216725424203800:=0
def tw14539464268961599374:=0
def tw8710505478230730323:=0
def tw7483903237087748689:=0
def tw8471464799721309101:=0
def tw5935302589766340735:=0
def tw6851206829569045481:=0
def tw447567689031305669:=0
def tw628183200986042203:=0
def tw17891845025081546725:=0
def tw1334838746134243568:=0
def tw17001866580433755698:=0
def tw555813627008618754:=0
def tw6191755168794261605:=0
def tw4286119006403718518:=0
def tw12023567690943125783:=0
def tw7157051653308756632:=0
def tw5166473220015482579:=0
def tw246415765985679426:=0
def tw9369254664302792529:=0
def tw18175149225704918497:=0
end PySem.W.Fast
open PySem PySem.W PyProof.Rows
local macro_rules | `(tactic| and_intros) => `(tactic| (dsimp only [L2.oi]; first | k_is | (refine' MM.Ao ?a ?l ?c ?k; (case a => k_is); (case l => k_is); (case c => k_is); (case k => k_is))))
set_option maxRecDepth 100000 in
set_option maxHeartbeats 0 in
theorem PySem.Challenge.cw_fewfills_k25_pairs_that_may_come_holds : PySem.Challenge.rw_fewfills_k25_pairs_that_may_come.Holds := by
  w_on; o_law; k_head; (case hw=>w_witness2)
  k_fill
  refine MM.Fa (l:=PySem.Challenge.rw_fewfills_k25_pairs_that_may_come) (k:=8) (x:="_law_script") (F:=Law.zQ) rfl rfl ⟨rfl,by decide,by decide,rfl⟩ (fun w h Y=>PySem.W.kIn_of Y) ?F Law.AA
  case F=>
    intro w mg fa h KX G hmg
    have Dlaw:MM.f_ (L2.oi KX) "law" Law.lr:=by and_intros
    have D0:MM.f_ (L2.oi KX) "is_whole" Law.fJ:=by and_intros
    have D1:MM.f_ (L2.oi KX) "is_place" Law.fL:=by and_intros
    have D2:MM.f_ (L2.oi KX) "check_place" Law.dH:=by and_intros
    have D3:MM.f_ (L2.oi KX) "check_places" Law.dz:=by and_intros
    have D4:MM.f_ (L2.oi KX) "rising_once" Law.dE:=by and_intros
    have D5:MM.f_ (L2.oi KX) "neighbours" Law.eG:=by and_intros
    have D6:MM.f_ (L2.oi KX) "pairs_among" Law.dI:=by and_intros
    have D7:MM.f_ (L2.oi KX) "shortest_way" Law.dy:=by and_intros
    have D8:MM.f_ (L2.oi KX) "check_parting" Law.cR:=by and_intros
    have D9:MM.f_ (L2.oi KX) "pieces" Law.iH:=by and_intros
    have D10:MM.f_ (L2.oi KX) "shore_of" Law.fM:=by and_intros
    have D11:MM.f_ (L2.oi KX) "may_come" Law.fR:=by and_intros
    have D12:MM.f_ (L2.oi KX) "_law_pen" Law.jO:=by and_intros
    have D13:MM.f_ (L2.oi KX) "_law_draw" Law.iZ:=by and_intros
    have D14:MM.f_ (L2.oi KX) "_law_order" Law.gX:=by and_intros
    have D15:MM.f_ (L2.oi KX) "_law_made" Law.iX:=by and_intros
    have D16:MM.f_ (L2.oi KX) "_law_round" Law.gZ:=by and_intros
    have D17:MM.f_ (L2.oi KX) "_law_web" Law.jR:=by and_intros
    have D18:MM.f_ (L2.oi KX) "_law_reached" Law.ff:=by and_intros
    have D19:MM.f_ (L2.oi KX) "_law_due" Law.jL:=by and_intros
    have Z20:PySem.W.nsIn (L2.oi KX) mainGlobals "abs" = some none:=by and_intros
    have Z21:PySem.W.nsIn (L2.oi KX) mainGlobals "any" = some none:=by and_intros
    have Z22:PySem.W.nsIn (L2.oi KX) mainGlobals "bool" = some none:=by and_intros
    have Z23:PySem.W.nsIn (L2.oi KX) mainGlobals "enumerate" = some none:=by and_intros
    have Z24:PySem.W.nsIn (L2.oi KX) mainGlobals "int" = some none:=by and_intros
    have Z25:PySem.W.nsIn (L2.oi KX) mainGlobals "isinstance" = some none:=by and_intros
    have Z26:PySem.W.nsIn (L2.oi KX) mainGlobals "len" = some none:=by and_intros
    have Z27:PySem.W.nsIn (L2.oi KX) mainGlobals "list" = some none:=by and_intros
    have Z28:PySem.W.nsIn (L2.oi KX) mainGlobals "max" = some none:=by and_intros
    have Z29:PySem.W.nsIn (L2.oi KX) mainGlobals "min" = some none:=by and_intros
    have Z30:PySem.W.nsIn (L2.oi KX) mainGlobals "range" = some none:=by and_intros
    have Z31:PySem.W.nsIn (L2.oi KX) mainGlobals "repr" = some none:=by and_intros
    have Z32:PySem.W.nsIn (L2.oi KX) mainGlobals "set" = some none:=by and_intros
    have Z33:PySem.W.nsIn (L2.oi KX) mainGlobals "sorted" = some none:=by and_intros
    have Z34:PySem.W.nsIn (L2.oi KX) mainGlobals "tuple" = some none:=by and_intros
    have CL:Law.QI (L2.oi KX):=by
      dsimp only [L2.oi]
      refine' Law.Hn ?p0 ?p1 ?p2 ?p3 ?p4 ?p5 ?p6 ?p7 ?p8 ?p9 ?p10 ?p11 ?p12 ?p13
      (case p0=>k_is)
      (case p1=>k_is)
      (case p2=>k_exc)
      (case p3=>k_exc)
      (case p4=>k_is)
      (case p5=>k_is)
      (case p6=>k_is)
      (case p7=>k_is)
      (case p8=>k_is)
      (case p9=>k_is)
      (case p10=>k_is)
      (case p11=>k_is)
      (case p12=>k_is)
      (case p13=>k_is)
    exact MM.E_ Dlaw Law.Ho hmg KX G fun base kb nb=>Law.Hr ⟨kb,nb⟩ D0 D1 D2 D3 D4 D5 D6 D7 D8 D9 D10 D11 D12 D13 D14 D15 D16 D17 D18 D19 Dlaw Z20 Z21 Z22 Z23 Z24 Z25 Z26 Z27 Z28 Z29 Z30 Z31 Z32 Z33 Z34  (CL _ _ kb nb)
