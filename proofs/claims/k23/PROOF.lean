import PyProof.Rows.All
import Wide.All
import OpenK.AllK
import Wide.FinOn
import Lean
import PyProof.EqAt
import PyProof.EqKinds
import PyProof.TupleCall
import PyProof.ReprRoads
import PyProof.FitsInt
import PyProof.FitsBits
import PyProof.Rows.IntMath
import PyProof.ConsumeWalk
import PyProof.WalkInts
import PyProof.ListRange
import PySem.SetTable
import PyProof.SetKind
import PyProof.TupleKey
import PyProof.DictKinds
import PyProof.IsRules
import PyProof.Rows.SetFrom
import PyProof.CollectIter
import PyProof.ForAny
import PyProof.Rows.SortRuns
import PyProof.Rows.SortKey
import KE.KSortTup
import PyProof.ZipIter
import PyProof.Draws
import PyProof.EnumMake
import PyProof.TupleIter
import PyProof.P3Eq
import PyProof.StrCalls2
import PyProof.StrCalls3
import PyProof.FString
import PyProof.SetRoads
import PyProof.Rows.SeqMore
import PyProof.CallFns
import PyProof.StrOps
import PyProof.Rows.Chain
import PyProof.Rows.TupDisplay
import PyProof.MeetsSeq
import KE.KDictList
import PyProof.DictRoadsH
import PyProof.SumWalkG
import PyProof.DictTruth
import PyProof.MinMaxWalk
import PyProof.Rows.CallKwBuiltin
import PyProof.TupleOfStr
import PySem.Challenge.RW_fewfills_k23_least_of_known_webs
set_option Elab.async false
set_option bootstrap.genMatcherCode false
set_option compiler.extract_closed false
set_option genSizeOf false
set_option linter.all false
set_option maxRecDepth 100000
noncomputable section
local macro_rules|`(command|def $i:declId $s:optDeclSig $v:declVal)=>`(command|noncomputable def $i:declId $s:optDeclSig $v:declVal)
local macro_rules|`(command|abbrev $i:declId $s:optDeclSig $v:declVal)=>`(command|noncomputable abbrev $i:declId $s:optDeclSig $v:declVal)
open PySem
abbrev _root_.VM:=List Str
abbrev _root_.VN:=List Int
abbrev _root_.VP:=List (List Int)
abbrev _root_.VQ:=List Nat
abbrev _root_.VS:=List Addr
abbrev _root_.VT:=List Value
abbrev _root_.VU:=List (Addr×Obj)
abbrev _root_.VV:=Option Value
abbrev _root_.VW:=Option Int
abbrev _root_.VX:=List Expr
abbrev _root_.VB:=Value->Shared->Prop
abbrev _root_.VC:=Str->Option Value
abbrev _root_.VE:=Option Nat
abbrev _root_.VF:=List Stmt
abbrev _root_.VG:=Option Addr
abbrev d_:=@wpAny_bind
abbrev h8:=@PySem.W.Frag
abbrev m_:=@List.mem_cons_of_mem
abbrev ii:=@Nat.le_refl
abbrev n_:=@Heap.get?_push_of_some
abbrev ia:=@wpAny_pure
abbrev oI:=@List.mem_append_right
abbrev qt:=@List.getElem?_eq_some_iff
abbrev c_:=@if_pos
abbrev sd:=@List.getElem?_append_left
abbrev pc:=@List.getElem?_set_ne
abbrev nq:=@List.mem_append
abbrev lb:=@List.mem_cons
abbrev pq:=@Nat.lt_of_lt_of_le
abbrev f_:=@if_neg
abbrev ml:=@List.mem_map
abbrev s_:=@List.mem_append_left
abbrev sf:=@Bool.false_eq_true
abbrev tz:=@Heap.get?_push_size
abbrev nr:=@Heap.lt_size
abbrev v_:=@Array.getElem?_toList
abbrev rT:=@List.size_toArray
abbrev t3:=@List.mem_cons_self
abbrev p_:=@List.mem_filter
abbrev zb:=@List.getElem?_eq_getElem
abbrev o0:=@Nat.le_trans
abbrev yw:=@List.getElem?_set_self
abbrev yJ:=@Option.map_eq_some_iff
abbrev vu:=@List.getElem?_map
abbrev xK:=@List.length_append
abbrev Bs:=@List.mem_iff_getElem?
abbrev qw:=@List.map_cons
abbrev C5:=@List.getElem?_append_right
abbrev yT:=@Int.toNat_natCast
abbrev B6:=@Array.length_toList
abbrev w5:=@List.mem_range
abbrev t4:=@Nat.ne_of_lt
abbrev vv:=@Nat.le_of_lt
abbrev vw:=@Nat.zero_add
abbrev CT:=@List.mem_singleton
abbrev wc:=@List.map_map
abbrev CU:=@List.set_cons_succ
abbrev CV:=@List.set_cons_zero
abbrev CJ:=@List.nodup_append
abbrev Df:=@List.mem_of_getElem?
abbrev BL:=@List.length_map
abbrev B_:=@List.nodup_cons
abbrev DI:=@Option.bind_eq_some_iff
abbrev Do:=@List.getElem?_eq_none
abbrev GC:=@List.perm_ext_iff_of_nodup
abbrev DX:=@List.length_eq_zero_iff
abbrev ya:=@Nat.zero_le
abbrev GD:=@List.pairwise_iff_getElem
abbrev Dp:=@List.map_congr_left
abbrev DY:=@Heap.get?_update_other
abbrev Ca:=@Nat.lt_irrefl
abbrev Dq:=@List.mem_filterMap
abbrev Dr:=@Int.lt_or_gt_of_ne
abbrev DZ:=@List.take_append_drop
abbrev Hm:=@List.drop_eq_getElem_cons
abbrev Dt:=@List.length_drop
abbrev Hn:=@List.getElem?_replicate
abbrev DJ:=@List.append_assoc
abbrev DK:=@Bool.not_eq_true'
abbrev DL:=@List.pairwise_map
abbrev DM:=@List.not_mem_nil
abbrev DN:=@List.length_cons
abbrev GF:=@Nat.add_sub_cancel'
abbrev Ho:=@Heap.get?_update_self
abbrev D_:=@Array.toList_push
abbrev Hr:=@List.length_filter_le
abbrev GG:=@Bool.false_ne_true
abbrev Ea:=@List.lookup_cons
abbrev Eb:=@Option.bind_some
abbrev LX:=@Array.getElem?_eq_some_iff
abbrev GH:=@Nat.le_of_lt_succ
abbrev Hs:=@Array.toList_append
abbrev Ht:=@List.getElem_of_mem
abbrev LY:=@Array.getElem?_eq_getElem
abbrev Ec:=@Array.size_push
abbrev O8:=@List.eq_nil_iff_forall_not_mem
abbrev Hu:=@Nat.sub_add_cancel
abbrev Hv:=@List.pairwise_cons
abbrev GJ:=@Array.toList_inj
abbrev GK:=@List.append_nil
abbrev LZ:=@List.take_of_length_le
abbrev L0:=@Array.getElem?_extract
abbrev L3:=@List.drop_eq_nil_of_le
abbrev Hw:=@Nat.succ_le_succ
abbrev L4:=@List.length_replicate
abbrev L5:=@List.getElem?_toArray
abbrev Lg:=@Nat.lt_of_le_of_lt
abbrev GL:=@Heap.size_push
abbrev L6:=@Nat.le_sub_one_of_lt
abbrev O9:=@List.getElem?_take_of_lt
abbrev Lh:=@List.ext_getElem?
abbrev Li:=@Nat.le_of_succ_le
abbrev O_:=@List.length_filterMap_le
abbrev Hx:=@List.map_append
abbrev Ee:=@Nat.ne_of_gt
abbrev GN:=@Bool.not_true
abbrev Lj:=@Bool.and_eq_true
abbrev Lk:=@Nat.le_add_right
abbrev Ll:=@List.mem_flatMap
abbrev L7:=@Nat.pos_of_ne_zero
abbrev Lm:=@Nat.min_eq_left
abbrev Pa:=@List.perm_append_comm
abbrev Ln:=@List.length_nil
abbrev L8:=@Array.size_append
abbrev L9:=@Nat.lt_succ_of_lt
abbrev DO:=@Nat.sub_le
abbrev QH:=@Array.getElem?_eq_none_iff
abbrev QI:=@Array.perm_iff_toList_perm
abbrev QJ:=@Int.fmod_eq_emod_of_nonneg
abbrev Pc:=@Array.toList_extract
abbrev Ph:=@List.mem_of_mem_drop
abbrev QK:=@List.extract_eq_take_drop
abbrev L_:=@List.length_take
abbrev Ma:=@Nat.lt_succ_self
abbrev Mb:=@List.nodup_range
abbrev Mc:=@List.perm_middle
abbrev Md:=@Nat.sub_sub_self
abbrev Pj:=@List.filterMap_cons
abbrev Pk:=@Nat.sub_le_sub_left
abbrev Pm:=@Nat.add_lt_add_left
abbrev QL:=@List.length_erase_of_mem
abbrev Me:=@Option.map_some
abbrev QM:=@List.pairwise_filterMap
abbrev Po:=@List.getElem?_drop
abbrev QN:=@List.pairwise_lt_range
abbrev GO:=@Nat.sub_lt
abbrev Hy:=@Nat.one_pos
abbrev Pp:=@List.getElem_drop
abbrev Mf:=@Bool.not_false
abbrev Mh:=@List.take_succ
abbrev Pq:=@List.drop_length
abbrev Pr:=@List.take_length
abbrev Ps:=@List.getElem_mem
abbrev QO:=@List.pairwise_append
abbrev QP:=@List.perm_cons_erase
abbrev TN:=@List.dropLast_concat_getLast
abbrev Lo:=@Nat.le_succ
abbrev QQ:=@Heap.get?_update_ne
abbrev Pt:=@List.range_succ
abbrev TQ:=@List.perm_append_singleton
abbrev TR:=@List.getD_eq_getElem?_getD
abbrev QR:=@Bool.not_eq_false'
abbrev Pu:=@List.nodup_nil
abbrev TU:=@List.exists_mem_of_ne_nil
abbrev QS:=@Nat.le_succ_of_le
abbrev Pw:=@List.any_cons
abbrev TV:=@Nat.add_sub_cancel_left
abbrev QT:=@List.all_eq_true
abbrev QU:=@Nat.min_eq_right
abbrev QV:=@Nat.lt_of_not_le
abbrev QW:=@List.append_inj'
abbrev TW:=@List.range_succ_eq_map
abbrev TX:=@Array.getElem?_eq_none
abbrev TY:=@List.getElem_cons_drop
abbrev TZ:=@Nat.sub_eq_zero_iff_le
abbrev T0:=@Nat.eq_zero_of_not_pos
abbrev QX:=@List.of_mem_zip
abbrev QY:=@List.foldl_cons
abbrev Px:=@Nat.lt_trans
abbrev QZ:=@Nat.not_lt_zero
abbrev T4:=@Nat.le_sub_of_add_le'
abbrev T5:=@Nat.le_of_sub_eq_zero
abbrev T7:=@List.mem_of_mem_erase
abbrev Q0:=@Bool.and_false
abbrev Q1:=@Nat.sub_add_eq
abbrev Q2:=@Nat.le_of_eq
noncomputable section
local macro_rules | `(tactic| ext) => `(tactic| first|lia|omega)
local instance (priority:=1) cdec (p:Prop):Decidable p:=Classical.propDecidable p
local macro_rules | `(⋯) => `(by lia)
open Option renaming some->J,none->Y
open Bool renaming true->I,false->T
namespace L2
open PySem.Spec PyProof.Rows
abbrev CW:=Sum Int Str
def GP:CW->Value->Bool
 |.inl k,v=>Value.isInt k v
 |.inr x,v=>Value.isStrOf x v
def Q3(w:World):CW->Int
 |.inl k=>hashInt k
 |.inr x=>hashStr w x
def cj:∀{k:CW}{v:Value},GP k v=I->(∃i t,k=Sum.inl i/\v=Value.int i t)\/(∃x t,k=Sum.inr x/\v=Value.str x t)
 |.inl i,v,h=>by
  obtain⟨t,e⟩:=Value.isInt_shape h;exact .inl ⟨i,t,rfl,e⟩
 |.inr x,v,h=>by
  obtain⟨t,e⟩:=Value.isStrOf_shape h;exact .inr ⟨x,t,rfl,e⟩
def Hz(a b:Int):decide ((Sum.inl a:CW)=Sum.inl b)=(a==b):=by
 by_cases e:a=b
 .subst e;simp
 .have h:¬(Sum.inl a:CW)=Sum.inl b:=λq=>e (Sum.inl.inj q);rw[decide_eq_false h];exact(beq_eq_false_iff_ne.mpr e).symm
def HA(a b:Str):decide ((Sum.inr a:CW)=Sum.inr b)=decide (a=b):=by simp
def HD(a:Int)(b:Str):decide ((Sum.inl a:CW)=Sum.inr b)=T:=decide_eq_false (λq=>nomatch q)
def HE(a:Str)(b:Int):decide ((Sum.inr a:CW)=Sum.inl b)=T:=decide_eq_false (λq=>nomatch q)
def pV(prog:Program)(w:World):PySem.KeyKind prog w CW where
 is:=GP
 hash:=Q3 w
 inj:=λv a b l f=>by
  rcases cj l with⟨i,t,rfl,rfl⟩|⟨x,t,rfl,rfl⟩
  .rcases cj f with⟨j,u,rfl,e⟩|⟨y,u,rfl,e⟩
   .injection e with e1 _;rw[e1]
   .exact nomatch e
  .rcases cj f with⟨j,u,rfl,e⟩|⟨y,u,rfl,e⟩
   .exact nomatch e
   .injection e with e1 _;rw[e1]
 byValue:=λk v h=>by
  rcases cj h with⟨i,t,rfl,rfl⟩|⟨x,t,rfl,rfl⟩<;>rfl
 pyHash:=λhv h=>by
  rcases cj hv with⟨i,t,rfl,rfl⟩|⟨x,t,rfl,rfl⟩
  .exact wpAny_pyHash_int h
  .exact wpAny_pyHash_str h
 eqBool:=λr hv h=>by
  rcases cj r with⟨i,t,rfl,rfl⟩|⟨x,t,rfl,rfl⟩
  .rcases cj hv with⟨j,u,rfl,rfl⟩|⟨y,u,rfl,rfl⟩
   .rw[Hz]at h;exact wpAny_eqBool_int h
   .rw[HD]at h;exact SeqAt.EqAt.int_str i t y u _ _ _ _ h
  .rcases cj hv with⟨j,u,rfl,rfl⟩|⟨y,u,rfl,rfl⟩
   .rw[HE]at h;exact SeqAt.EqAt.str_int x t j u _ _ _ _ h
   .rw[HA]at h;exact wpAny_eqBool_str h
 «strs»:=λk x t v h=>by
  rcases cj h with⟨i,u,rfl,e⟩|⟨y,u,rfl,e⟩
  .exact nomatch e
  .injection e with e1 _
   subst e1;cases v<;>rfl
inductive V where
 |non | bl (b:Bool) | int (i:Int) | str (x:Str) | byt (b:Array UInt8) | flt (b:UInt64) | ref (a:Addr) | ty (n:String)
 deriving DecidableEq
def aM:V->Value->Prop
 |.non,u=>u=Value.none
 |.bl b,u=>u=Value.bool b
 |.int i,u=>∃t,u=Value.int i t
 |.str x,u=>∃t,u=Value.str x t
 |.byt b,u=>∃t,u=Value.bytes b t
 |.flt b,u=>∃t,u=Value.float b t
 |.ref a,u=>u=Value.ref a
 |.ty n,u=>u=Value.type n
abbrev aw:List V->VT->Prop:=Paired aM
def aw.length(r:aw xs us):xs.length=us.length:=Paired.length r
def aw.get{xs:List V}{f:VT}{i:Nat}{x:V}(r:aw xs f)(e:xs[i]?=J x):∃u,f[i]?=J u/\aM x u:=by
 induction r generalizing i with
 |nil=>cases e
 |cons r t j =>
  cases i with
  |zero=>cases e;exact⟨_,rfl,r⟩
  |succ i=>have z:=@j i e;exact z
def aw.set(r:aM x u)(i:Nat)(q:aw xs us):aw (xs.set i x) (us.set i u):=by
 induction q generalizing i with
 |nil=>exact .nil
 |cons a t f =>
  cases i with
  |zero=>exact .cons r t
  |succ i=>exact .cons a (f i)
def aw.append(r:aw xs us)(s:aw ys ws):aw (xs++ys) (us++ws):=by
 induction r with
 |nil=>exact s
 |cons r t f=>exact .cons r f
def aw.take(n:Nat)(r:aw xs us):aw (xs.take n) (us.take n):=by
 induction r generalizing n with
 |nil=>cases n<;>exact .nil
 |cons a t f =>
  cases n with
  |zero=>exact .nil
  |succ n=>exact .cons a (f n)
def aw.drop(n:Nat)(r:aw xs us):aw (xs.drop n) (us.drop n):=by
 induction r generalizing n with
 |nil=>cases n<;>exact .nil
 |cons a t f =>
  cases n with
  |zero=>exact .cons a t
  |succ n=>exact f n
def qG:Option V->VV->Prop
 |some v,J u=>aM v u
 |none,Y=>True
 |_,_=>False
def KV{κ:Type}:List (κ×V)->List (κ×Value)->Prop:=Paired λ(p:κ×V)(q:κ×Value)=>p.1=q.1/\aM p.2 q.2
def kV:CW->V
 |.inl i=>.int i
 |.inr x=>.str x
inductive HO where
 |lst(xs:List V)
 |tup(xs:List V)
 |dK(kvs:List (CW×V)) | dT (kvs:List (List CW×V))
 |set(S:Int->Bool)(n:Nat)
 |ins(C dx:Addr)(fs:List (Str×V))
 |own(x:Addr)
 |xd(fs:List (Str×V))
 |met(f x:Addr)
 |rng(lo hi:Int)
 |frz(o:Obj)(u:HO)
 |tbl(ps:Array Value)
 |ext(φ:Heap->Prop)
abbrev Hp:=Addr->Option HO
def kx(H:Hp)(a:Addr)(o:HO):Hp:=λb=>if b=a then J o else H b
def bD:kx H a o a=J o:=by unfold kx;rw[c_ rfl]
def aN(h:b≠a):kx H a o b=H b:=by unfold kx;rw[f_ h]
def bK{H:Hp}{a b:Addr}{o:HO}(h:H a=J o)(f:H b=Y):a≠b:=by intro e;subst e;rw[h]at f;cases f
def hJ(h:Heap)(a:Addr)(f:Array Value):Prop:=∃o,h.get? a=J o/\o.cls=.type "tuple"/\(∃n,o.data=.seq f n)/\o.dict=Y
def hJ.tup(t:hJ h a its):IsTup h a its:=let⟨o,e,c,d,_⟩:=t;⟨o,e,c,d⟩
def hJ.lt(t:hJ h a its):a<h.objs.size:=t.tup.lt
def hJ.new(h:Heap)(f:Array Value):hJ (h.push { cls:=.type "tuple",data:=.seq f}) h.objs.size f:=⟨_,tz h rfl,rfl,⟨_,rfl⟩,rfl⟩
section
variable(P:Program)(w:World)
def ObjOk(H:Hp)(h:Heap)(a:Addr):HO->Prop
 |.lst xs=>xs.length<=sizeLine/\∃(j:VT) (n:Nat),aw xs j/\h.get? a=J { cls:=.type "list",data:=.seq j.toArray n}
 |.tup xs=>xs.length<=sizeLine/\∃j:VT,aw xs j/\hJ h a j.toArray
 |.dK i=>i.length<=sizeLine/\(a==sysModules)=T/\∃F,KV i F/\h.DictOf (pV P w) a F
 |.dT i=>i.length<=sizeLine/\(a==sysModules)=T/\∃xs:List (List CW×Addr×Value),
   Paired (λ(p:List CW×V)(q:List CW×Addr×Value)=>p.1=q.1/\H q.2.1=J (.tup (p.1.map kV))/\aM p.2 q.2.2) i xs /\
   ∃o B L,h.get? a=J o/\o.ExactDict/\o.data=.dict B L/\B.toList=xs.map (entryOfKey (tupleKind (pV P w)))/\(xs.map (·.1)).Nodup
 |.set S n=>h.SetOf (intKind P w) a S n
 |.ins C r fs=>H r=J (.own a)/\fs.length<=1000/\r≠a/\h.get? a=J (PySem.W.instObj C r) /\
   ∃l,h.Ns1 r l/\(∀f,qG (fs.lookup f) (l f))/\PySem.Within l (fs.map (·.1))
 |.own _=>∃o,h.get? a=J o
 |.xd fs=>∃l,h.Ns1 a l/\∀f,qG (fs.lookup f) (l f)
 |.rng lo M=>∃t u v,h.get? a=J { cls:=.type "range",data:=.fields #[.int lo t,.int M u,.int 1 v]}
 |.frz o u=>h.get? a=J o/\ObjOk H h a u
 |.tbl G=>h.get? a=J { cls:=.none,data:=.fields G}
 |.met f x=>h.get? a=J (PySem.W.methodObj (.ref f) (.ref x))
 |.ext φ=>φ h/\(∃o,h.get? a=J o)/\∀z E:Heap,φ z->(∀o,z.get? a=J o->E.get? a=J o)->φ E
def HOk(H:Hp)(h:Heap):Prop:=∀a o,H a=J o->ObjOk P w H h a o
end
section
variable{P:Program}{w:World}{H H':Hp}{h h':Heap}{a:Addr}{o:HO}
def ObjOk.lt(x:ObjOk P w H h a o):a<h.objs.size:=by
 cases o with
 |lst xs=>obtain⟨_,_,_,_,e⟩:=x;exact nr e
 |tup xs=>obtain⟨_,_,_,p⟩:=x;exact p.lt
 |dK i=>obtain⟨_,_,_,_,o,_,_,e,_⟩:=x;exact nr e
 |dT i=>obtain⟨_,_,_,_,o,_,_,e,_⟩:=x;exact nr e
 |set S n=>obtain⟨o,_,_,_,e,_⟩:=x;exact nr e
 |ins C r fs=>obtain⟨_,_,_,e,_⟩:=x;exact nr e
 |own y=>obtain⟨_,e⟩:=x;exact nr e
 |xd fs=>obtain⟨_,⟨_,_,_,e,_⟩,_⟩:=x;exact nr e
 |rng lo z=>obtain⟨_,_,_,e⟩:=x;exact nr e
 |frz j u=>obtain⟨e,_⟩:=x;exact nr e
 |tbl l=>exact nr (x)
 |met f y=>exact nr (x)
 |ext φ=>obtain⟨_,⟨_,e⟩,_⟩:=x;exact nr e
def Paired.mapP{α β:Type}{F G:α->β->Prop}{i:List α}{j:List β}(r:Paired F i j)(f:∀a b,F a b->G a b):Paired G i j:=by
 induction r with
 |nil=>exact .nil
 |cons r t l=>exact .cons (f _ _ r) l
def ObjOk.stay(x:ObjOk P w H h a o)(k:∀b u,(b=a\/H b=J (.own a))->h.get? b=J u->h'.get? b=J u)(O:∀b,H b=J (.own a)->H' b=J (.own a))(L:∀b xs,H b=J (.tup xs)->H' b=J (.tup xs)):ObjOk P w H' h' a o:=by
 induction o with
 |lst xs=>obtain⟨z,B,n,r,e⟩:=x;exact⟨z,B,n,r,k _ _ (.inl rfl) e⟩
 |tup xs=>obtain⟨z,B,r,i,e,c⟩:=x;exact⟨z,B,r,i,k _ _ (.inl rfl) e,c⟩
 |dK G=>obtain⟨z,y,Q,r,i,l,j,e,c⟩:=x;exact⟨z,y,Q,r,i,l,j,k _ _ (.inl rfl) e,c⟩
 |dT G =>
  obtain⟨z,y,xs,r,i,l,j,e,c⟩:=x;exact⟨z,y,xs,Paired.mapP r λp q z=>⟨z.1,L _ _ z.2.1,z.2.2⟩,i,l,j,k _ _ (.inl rfl) e,c⟩
 |set S n=>obtain⟨i,l,j,t,e,c⟩:=x;exact⟨i,l,j,t,k _ _ (.inl rfl) e,c⟩
 |ins C U fs =>
  obtain⟨d,z,ne,e,E,⟨F,l,j,e2,c⟩,r⟩:=x;exact⟨O _ d,z,ne,k _ _ (.inl rfl) e,E,⟨F,l,j,k _ _ (.inr d) e2,c⟩,r⟩
 |own y=>obtain⟨i,e⟩:=x;exact⟨i,k _ _ (.inl rfl) e⟩
 |xd fs=>obtain⟨E,⟨F,l,j,e,c⟩,r⟩:=x;exact⟨E,⟨F,l,j,k _ _ (.inl rfl) e,c⟩,r⟩
 |rng lo W=>obtain⟨t,u,v,e⟩:=x;exact⟨t,u,v,k _ _ (.inl rfl) e⟩
 |frz i u M=>obtain⟨e,q⟩:=x;exact⟨k _ _ (.inl rfl) e,M q⟩
 |tbl R =>
  have e:=x;exact k a _ (.inl rfl) e
 |met f y =>
  have e:=x;exact k a _ (.inl rfl) e
 |ext φ=>obtain⟨p,⟨o,e⟩,st⟩:=x;exact⟨st _ _ p λo q=>k _ _ (.inl rfl) q,⟨o,k _ _ (.inl rfl) e⟩,st⟩
def HOk.lt(x:HOk P w H h)(e:H a=J o):a<h.objs.size:=(x a o e).lt
def HOk.fresh(x:HOk P w H h)(e:h.objs.size<=a):H a=Y:=by
 cases q:H a with
 |none=>rfl
 |some u=>exact absurd (pq (x.lt q) e) (Ca _)
def HOk.kept(x:HOk P w H h)(k:∀b u,h.get? b=J u->h'.get? b=J u):HOk P w H h':=λa o e =>
 (x a o e).stay (λb u _ q=>k b u q) (λ_ q=>q) λ_ _ q=>q
def HOk.laid(x:HOk P w H h)(k:∀b u,h.get? b=J u->h'.get? b=J u)(j:h.objs.size<=a)(new:ObjOk P w (kx H a o) h' a o):HOk P w (kx H a o) h':=λb u e=>by
 have i:=x.fresh j;by_cases f:b=a
 .subst f;rw[bD]at e;cases e;exact new
 .rw[aN f]at e;exact(x b u e).stay (λc v _ q=>k c v q) (λc q=>by rw[aN (bK q i)];exact q) λc xs q=>by rw[aN (bK q i)];exact q
end
def Rd(H:Hp)(a:Addr)(u:HO):Prop:=H a=J u\/∃o,H a=J (.frz o u)
def Rd.ok(r:Rd H a u)(x:HOk P w H h):ObjOk P w H h a u:=by
 rcases r with r|⟨o,r⟩
 .exact x a u r
 .obtain⟨_,q⟩:=x a _ r;exact q
def Py:Option HO->Prop
 |some (.lst _)=>True
 |some (.dK _)=>True
 |some (.dT _)=>True
 |some (.set _ _)=>True
 |some (.ins _ _ _)=>True
 |some (.ext _)=>True
 |_=>False
section
variable{P:Program}{w:World}{H:Hp}{h h':Heap}{x e:Addr}{o':HO}
def HOk.write(ok:HOk P w H h)(l:Py (H x))(F:e=x\/H e=J (.own x))(k:∀b u,b≠e->h.get? b=J u->h'.get? b=J u)(B:∃u,h'.get? e=J u)(new:ObjOk P w (kx H x o') h' x o'):HOk P w (kx H x o') h':=λb u q=>by
 have j:∀c y,H c=J (.own y)->c≠x:=λc y r z=>by subst z;rw[r]at l;exact l
 have i:∀c xs,H c=J (.tup xs)->c≠x:=λc xs r z=>by subst z;rw[r]at l;exact l
 by_cases C:b=x
 .subst C;rw[bD]at q;cases q;exact new
 .rw[aN C]at q;by_cases f:b=e
  .have E:H b=J (.own x):=by
    rcases F with z|z
    .exact absurd (f.trans z) C
    .rw[f];exact z
   rw[q]at E;cases E;obtain⟨v,hv⟩:=B;exact⟨v,by rw[f];exact hv⟩
  .refine (ok b u q).stay (λc v G r=>k c v ?_ r) (λc r=>by rw[aN (j c b r)];exact r) λc xs r=>by rw[aN (i c xs r)];exact r
   grind
end
structure Un(fs ex:VS)(H H':Hp)(h h':Heap):Prop where
 keep:∀b o,h.get? b=J o->H b=Y->b∉fs->b∉ex->h'.get? b=J o
 slot:∀b o,h.get? b=J o->H b=Y->b∈fs->b∉ex->∃sl,h'.get? b=J { o with slots:=sl}
 free:∀b o,h.get? b=J o->H b=Y->b∉ex->H' b=Y
 there:∀b o,h.get? b=J o->b∉ex->∃o',h'.get? b=J o'
 tups:∀b xs,H b=J (.tup xs)->H' b=J (.tup xs)
 frzs:∀b o u,H b=J (.frz o u)->H' b=J (.frz o u)
 tbls:∀b ps,H b=J (.tbl ps)->∃more,H' b=J (.tbl (ps++more))
section
variable{fs fs' ex ex':VS}{H H1 H2:Hp}{h h1 h2 h':Heap}{a x e:Addr}{o:HO}
def Un.any(u:Un fs ex H H1 h h1)(q:h.get? b=J ob)(n:H b=Y)(i:b∉ex):∃sl,h1.get? b=J { ob with slots:=sl}:=by
 by_cases f:b∈fs
 .exact u.slot b ob q n f i
 .exact⟨ob.slots,u.keep b ob q n f i⟩
def Un.kept(k:∀b u,h.get? b=J u->h'.get? b=J u):Un fs ex H H h h' :=
 ⟨λb f q _ _ _=>k b f q,λb f q _ _ _=>⟨f.slots,k b f q⟩,λ_ _ _ n _=>n,λb f q _=>⟨f,k b f q⟩,λ_ _ q=>q,λ_ _ _ q=>q,λ_ i q=>⟨#[],by rw[q];simp⟩⟩
def Un.refl:Un fs ex H H h h:=Un.kept λ_ _ q=>q
def Un.laid(k:∀b u,h.get? b=J u->h'.get? b=J u)(i:h.objs.size<=a)(f:H a=Y):Un fs ex H (kx H a o) h h' where
 keep:=λb u q _ _ _=>k b u q
 slot:=λb u q _ _ _=>⟨u.slots,k b u q⟩
 free:=λb u q n _=>by rw[aN (t4 (pq (nr q) i))];exact n
 there:=λb u q _=>⟨u,k b u q⟩
 tups:=λb xs q=>by rw[aN (bK q f)];exact q
 frzs:=λb u xs q=>by rw[aN (bK q f)];exact q
 tbls:=λb j q=>⟨#[],by rw[aN (bK q f),q];simp⟩
def Un.write(i:Py (H x))(F:e=x\/H e=J (.own x))(k:∀b u,b≠e->h.get? b=J u->h'.get? b=J u)(j:∃u,h'.get? e=J u):Un fs ex H (kx H x o) h h':=by
 have C:∀b,H b=Y->b≠x:=λb n z=>by subst z;rw[n]at i;exact i
 have r:∀b,H b=Y->b≠e:=λb n z=>by
  simp_all
 have l:∀b u,H b=J u->¬Py (J u)->b≠x:=λb u q B z=>by subst z;rw[q]at i;exact B i
 refine⟨λb u q n _ _=>k b u (r b n) q,λb u q n _ _=>⟨u.slots,k b u (r b n) q⟩,λb u q n _=>by rw[aN (C b n)];exact n,λb u q _=>?_,
  λb xs q=>by rw[aN (l b _ q λz=>z)];exact q,λb u xs q=>by rw[aN (l b _ q λz=>z)];exact q,λb E q=>⟨#[],by rw[aN (l b _ q λz=>z),q];simp⟩⟩
 by_cases f:b=e
 .subst f;exact j
 .exact⟨u,k b u f q⟩
end
def Pz(h:Heap)(H:Hp):VS:=(List.range h.objs.size).filter λa=>(H a).isSome
def j5(h:Heap)(H:Hp):Heap:=PySem.W.hideAll h (Pz h H)
def zk(h:Heap)(H:Hp):(j5 h H).objs.size=h.objs.size:=PySem.W.hideAll_size _ _
def BN(e:h.get? b=J o)(n:H b=Y):(j5 h H).get? b=J o :=
 PySem.W.hideAll_get _ e λf=>by
  have q:=(p_.mp f).2;rw[n]at q;simp at q
def Ef(e:(j5 h H).get? b=J o):h.get? b=J o/\H b=Y:=by
 have f:=PySem.W.of_hideAll (Pz h H) e;refine⟨f,?_⟩
 cases q:H b with
 |none=>rfl
 |some x =>
  have i:b∈Pz h H:=p_.mpr ⟨w5.mpr (nr f),by simp[q]⟩;have z:(j5 h H).get? b=Y:=PySem.W.hideAll_none (Pz h H) i;rw[z]at e;cases e
structure Mod(K:h8)(mg:VC)(base:Heap):Prop where
 kin:K.In base
 glob:base.Ns mainGlobals mg
 blt:∃mb,base.Ns builtinsNs mb/\∀x:Str,x≠"__name__"->mb x=bootBuiltins x
 nolimit:base.NoLimit
structure Cx where
 prog:Program
 w:World
 K:h8
 mg:Str->VV
 base:Heap
 A:Around
 N:VM
 s₀:Shared
 H₀:Hp
 env:Env
 outer:List Env
 stack:List Env
 ex:VS
 fn:Str->Bool
 calm:Bool
 pn:VU
 xe:Value->Shared->Prop
def wh(l:List Env):VS:=l.filterMap (·.frame)
abbrev Cx.fs(X:Cx):VS:=wh X.outer
def PC(f:Scope)(x:Str):Prop:=f.names.lookup x=J .local\/f.names.lookup x=J .cell\/f.names.lookup x=J .free
def Loc(f:Scope)(x:Str):Prop:=f.names.lookup x=J .local\/f.names.lookup x=J .cell
def Look(env:Env)(h:Heap)(m:VC)(x:Str)(u:Value):Prop :=
 (env.kindOf x=J .local/\m x=J u)\/((env.kindOf x=J .cell\/env.kindOf x=J .free)/\∃c,env.cells.lookup x=J c/\h.IsCell c (J u))
structure Cx.Ok(X:Cx):Prop where
 mod:Mod X.K X.mg X.base
 kind:X.env.scope.kind=.function
 glob:X.env.globals=mainGlobals
 blt:X.env.builtins=builtinsNs
 above:X.s₀.heap.objs.size<=X.env.locals
 inj:∀x y c,X.env.cells.lookup x=J c->X.env.cells.lookup y=J c->x=y
 has:∀x,(X.env.kindOf x=J .cell\/X.env.kindOf x=J .free)->∃c,X.env.cells.lookup x=J c
 cab:∀x c,X.fn x=I->X.env.cells.lookup x=J c->X.s₀.heap.objs.size<=c
 hd:X.calm=I->X.A.handled=Y
 frames:X.A.frames=J X.stack
 stk:X.stack=X.outer\/(X.stack=X.env::X.outer/\X.env.frame=J X.env.locals)
 exf:∀b∈X.ex,b≠X.env.locals/\∀x c,X.env.cells.lookup x=J c->c≠b
 bs:∀b o,X.base.get? b=J o->X.s₀.heap.get? b=J o/\X.H₀ b=Y
 bsz:X.base.objs.size<=X.s₀.heap.objs.size
 noex:∀b o,X.base.get? b=J o->b∉X.ex
 exfs:∀b∈X.ex,b∉X.fs
 funs:X.s₀.heap.FunFrames X.base X.outer
 frf:∀b∈X.fs,X.H₀ b=Y
structure Inv(X:Cx)(Nc:VU)(Z:List (Option V))(H:Hp)(s:Shared):Prop where
 ok:X.Ok
 os:s.os=X.s₀.os
 bare:AllBare s.gens
 base:Un X.fs X.ex X.H₀ H X.s₀.heap s.heap
 loc:∃m,s.heap.Ns X.env.locals m/\∀(i:Nat)(x:Str)(v:V),X.N[i]?=J x->Z[i]?=J (J v)->PC X.env.scope x->∃u,aM v u/\Look X.env s.heap m x u
 cell:∀x c,X.env.cells.lookup x=J c->∃v,s.heap.IsCell c v
 free:H X.env.locals=Y
 freeC:∀x c,X.env.cells.lookup x=J c->H c=Y
 pin:∀p∈X.pn++Nc,s.heap.get? p.1=J p.2/\H p.1=Y/\p.1≠X.env.locals/\p.1∉X.fs/\∀v,p.2.data≠.cell v
 hok:HOk X.prog X.w H s.heap
 len:Z.length=X.N.length
section
variable{X:Cx}{Nc:List (Addr × Obj)}{Z:List (Option V)}{H H':Hp}{s:Shared}{h':Heap}
def Cx.Ok.nofr(ok:X.Ok)(e:X.base.get? b=J o):b∉X.fs:=λf=>by
 have:=(ok.funs.mem f).1
 rw[e]at this;cases this
def Inv.bs(f:Inv X Nc Z H s):∀b o,X.base.get? b=J o->s.heap.get? b=J o/\H b=Y:=λb o e =>
 ⟨f.base.keep b o (f.ok.bs b o e).1 (f.ok.bs b o e).2 (f.ok.nofr e) (f.ok.noex b o e),f.base.free b o (f.ok.bs b o e).1 (f.ok.bs b o e).2 (f.ok.noex b o e)⟩
def Inv.bk(f:Inv X Nc Z H s):∀b o,X.base.get? b=J o->s.heap.get? b=J o:=λb o e=>(f.bs b o e).1
def Inv.mod(f:Inv X Nc Z H s):Mod X.K X.mg X.base:=f.ok.mod
def Inv.kIn(f:Inv X Nc Z H s):X.K.In s.heap:=f.ok.mod.kin.keeps f.bk
def Inv.lt(f:Inv X Nc Z H s):X.env.locals<s.heap.objs.size:=let⟨_,i,_⟩:=f.loc;i.lt
def Inv.sz(f:Inv X Nc Z H s):X.s₀.heap.objs.size<=s.heap.objs.size:=o0 f.ok.above (vv f.lt)
def Inv.nofs(f:Inv X Nc Z H s){a:Addr}(h:s.heap.objs.size<=a):a∉X.fs:=λi=>by
 obtain⟨_,o,j,_⟩:=f.ok.funs.mem i;exact absurd (pq (nr j) (o0 f.sz h)) (Ca _)
def Inv.cne(f:Inv X Nc Z H s):∀x c,X.env.cells.lookup x=J c->c≠X.env.locals:=λx c e z=>by
 obtain⟨v,o,l,hd⟩:=f.cell x c e;obtain⟨m,⟨u,B,r,j,i,_⟩,_⟩:=f.loc;rw[z,j]at l;cases l;rw[i]at hd;cases hd
def Inv.funs(f:Inv X Nc Z H s):s.heap.FunFrames X.base X.outer:=by
 have all:∀(l:List Env),(∀b∈wh l,b∈X.fs)->X.s₀.heap.FunFrames X.base l->s.heap.FunFrames X.base l:=by
  intro l
  induction l with
  |nil=>intro _ _;trivial
  |cons env r B =>
   intro j C;obtain⟨G,⟨L,o,hf,F,E,hd⟩,u⟩:=C;have hL:=j L (by unfold wh;rw[Pj,hf];exact t3);obtain⟨sl,e⟩:=f.base.slot L o E (f.ok.frf L hL) hL λz=>f.ok.exfs L z hL;exact⟨G,⟨L,_,hf,F,e,hd⟩,B (λb i=>j b (by unfold wh;rw[Pj,hf];exact m_ _ i)) u⟩
 exact all X.outer (λ_ i=>i) f.ok.funs
def Inv.stack(f:Inv X Nc Z H s):s.heap.FunFrames X.base X.stack:=by
 rcases f.ok.stk with e|⟨e,hf⟩
 .rw[e];exact f.funs
 .rw[e];obtain⟨m,i,_⟩:=f.loc;refine .cons (by rw[f.ok.kind];decide) hf i ?_ f.funs;exact Heap.get?_none_of_le (o0 f.ok.bsz f.ok.above)
def Inv.stkSub(i:Inv X Nc Z H s):∀b∈wh X.stack,b∈X.env.locals::X.fs:=λb f=>by
 rcases i.ok.stk with e|⟨e,hf⟩
 .rw[e]at f;exact m_ _ f
 .rw[e]at f;unfold wh at f;rw[Pj,hf]at f;exact f
def Inv.stkFree(f:Inv X Nc Z H s):∀b∈wh X.stack,H b=Y:=λb i=>by
 rcases lb.mp (f.stkSub b i)with e|i
 .rw[e];exact f.free
 .obtain⟨_,o,j,_⟩:=f.ok.funs.mem i;exact f.base.free b o j (f.ok.frf b i) λz=>f.ok.exfs b z i
def Inv.step{g':Array GenState}{t':Nat}{d':Drawn}{ch:VS}(f:Inv X Nc Z H s)(E:∀b∈ch,(b∈X.ex\/X.s₀.heap.objs.size<=b)/\b≠X.env.locals/\(∀x c,X.env.cells.lookup x=J c->c≠b)/\∀p∈X.pn++Nc,p.1≠b)(keep:∀b o,b≠X.env.locals->b∉X.fs->b∉ch->s.heap.get? b=J o->H b=Y->h'.get? b=J o)(slot:∀b o,b≠X.env.locals->b∈X.fs->b∉ch->s.heap.get? b=J o->H b=Y->∃sl,h'.get? b=J { o with slots:=sl})(free:∀b o,b∉ch->s.heap.get? b=J o->H b=Y->H' b=Y)(there:∀b o,b∉ch->s.heap.get? b=J o->∃O,h'.get? b=J O)(tups:∀b xs,H b=J (.tup xs)->H' b=J (.tup xs))(frzs:∀b o u,H b=J (.frz o u)->H' b=J (.frz o u))(tbls:∀b P,H b=J (.tbl P)->∃more,H' b=J (.tbl (P++more)))(ns:∀m,s.heap.Ns X.env.locals m->h'.Ns X.env.locals m)(hok:HOk X.prog X.w H' h')(hg:AllBare g'):
  Inv X Nc Z H' { s with heap:=h',gens:=g',drawn:=d',toks:=t'}:=by
 have M:∀b o,X.s₀.heap.get? b=J o->b≠X.env.locals:=λb o e=>t4 (pq (nr e) f.ok.above);have F:∀b o,X.s₀.heap.get? b=J o->b∉X.ex->b∉ch:=λb o e j G=>by
  rcases(E b G).1 with z|z
  .exact j z
  .exact absurd (pq (nr e) z) (Ca _)
 have C:∀x c,X.env.cells.lookup x=J c->∀v,s.heap.IsCell c v->h'.IsCell c v:=λx c e v ⟨o,L,hd⟩=>by
  have B:c∉ch:=λz=>(E c z).2.2.1 x c e rfl;by_cases U:c∈X.fs
  .obtain⟨sl,q⟩:=slot c o (f.cne x c e) U B L (f.freeC x c e);exact⟨_,q,hd⟩
  .exact⟨o,keep c o (f.cne x c e) U B L (f.freeC x c e),hd⟩
 refine⟨f.ok,f.os,hg,⟨λb o e n G j=>?_,λb o e n G j=>?_,λb o e n j=>?_,λb o e j=>?_,λb xs e=>tups b xs (f.base.tups b xs e),λb o xs e=>frzs b o xs (f.base.frzs b o xs e),λb P e=>?_⟩,?_,λx c e=>?_,?_,λx c e=>?_,λp S=>?_,hok,f.len⟩
 .exact keep b o (M b o e) G (F b o e j) (f.base.keep b o e n G j) (f.base.free b o e n j)
 .obtain⟨sl,e1⟩:=f.base.slot b o e n G j;obtain⟨Q,e2⟩:=slot b _ (M b o e) G (F b o e j) e1 (f.base.free b o e n j);exact⟨Q,e2⟩
 .obtain⟨O,e1⟩:=f.base.there b o e j;exact free b O (F b o e j) e1 (f.base.free b o e n j)
 .obtain⟨O,e1⟩:=f.base.there b o e j;exact there b O (F b o e j) e1
 .obtain⟨m1,e1⟩:=f.base.tbls b P e;obtain⟨W,e2⟩:=tbls b _ e1;exact⟨m1++W,by rw[e2,Array.append_assoc]⟩
 .obtain⟨m,hn,hl⟩:=f.loc;refine⟨m,ns m hn,λi x v e1 e2 e3=>?_⟩;obtain⟨u,r,l⟩:=hl i x v e1 e2 e3;refine⟨u,r,?_⟩;rcases l with l|⟨k,c,e,z⟩
  .exact .inl l
  .exact .inr ⟨k,c,e,C x c e _ z⟩
 .obtain⟨v,z⟩:=f.cell x c e;exact⟨v,C x c e v z⟩
 .obtain⟨m,⟨o,_,_,L,_⟩,_⟩:=f.loc;exact free _ o (λz=>(E _ z).2.1 rfl) L f.free
 .obtain⟨v,o,L,hd⟩:=f.cell x c e;exact free c o (λz=>(E c z).2.2.1 x c e rfl) L (f.freeC x c e)
 .obtain⟨e,n,ne,R,d⟩:=f.pin p S;have B:p.1∉ch:=λz=>(E p.1 z).2.2.2 p S rfl;exact⟨keep p.1 p.2 ne R B e n,free p.1 p.2 B e n,ne,R,d⟩
def Inv.un{t':Nat}(f:Inv X Nc Z H s)(u:Un X.fs [] H H' s.heap h')(hok:HOk X.prog X.w H' h'):Inv X Nc Z H' { s with heap:=h',toks:=t'}:=by
 obtain⟨m,⟨o,M,G,C,r⟩,_⟩:=id f.loc;obtain⟨sl,hL⟩:=u.any C f.free (by simp)
 exact f.step (g':=s.gens) (d':=s.drawn) (ch:=[]) (λ_ z=>nomatch z) (λb o _ l _ e n=>u.keep b o e n l (by simp)) (λb o _ l _ e n=>u.slot b o e n l (by simp)) (λb o _ e n=>u.free b o e n (by simp)) (λb o _ e=>u.there b o e (by simp)) u.tups u.frzs u.tbls (λL F=>by
  obtain⟨O,j,B,i,E⟩:=F;rw[C]at i;cases i
  exact⟨_,j,B,hL,E⟩) hok f.bare
def Inv.call{g':Array GenState}{t':Nat}{d':Drawn}{E:VS}(f:Inv X Nc Z H s)(u:Un (wh X.stack) E H H' s.heap h')(hok:HOk X.prog X.w H' h')(G:AllBare g')(j:∀b∈E,(b∈X.ex\/X.s₀.heap.objs.size<=b)/\b≠X.env.locals/\(∀x c,X.env.cells.lookup x=J c->c≠b)/\∀p∈X.pn++Nc,p.1≠b):
  Inv X Nc Z H' { s with heap:=h',gens:=g',drawn:=d',toks:=t'}:=by
 obtain⟨m,⟨o,R,P,F,r⟩,_⟩:=id f.loc;obtain⟨sl,hL⟩:=u.any F f.free λz=>(j _ z).2.1 rfl
 exact f.step j (λb o hL M i e n=>u.keep b o e n (λz=>(lb.mp (f.stkSub b z)).elim hL M) i) (λb o _ _ i e n=>u.any e n i) (λb o i e n=>u.free b o e n i) (λb o i e=>u.there b o e i) u.tups u.frzs u.tbls (λQ O=>by
  obtain⟨S,B,C,l,L⟩:=O;rw[F]at l;cases l
  exact⟨_,B,C,hL,L⟩) hok G
def Inv.turned{t':Nat}{f:Addr}(i:Inv X Nc Z H s)(k:∀b o,b≠f->s.heap.get? b=J o->h'.get? b=J o)(O:H f=Y)(hL:f≠X.env.locals)(C:f∈X.ex\/X.s₀.heap.objs.size<=f)(M:∀x c,X.env.cells.lookup x=J c->c≠f)(P:∀p∈X.pn++Nc,p.1≠f):Inv X Nc Z H { s with heap:=h',toks:=t'}:=by
 have l:∀b u,H b=J u->b≠f:=λb u e z=>by rw[z,O]at e;cases e
 refine i.step (g':=s.gens) (d':=s.drawn) (ch:=[f]) (λb G=>?_) (λb o _ _ j e _=>k b o (λz=>j (by simp[z])) e) (λb o _ _ j e _=>⟨o.slots,k b o (λz=>j (by simp[z])) e⟩) (λ_ _ _ _ n=>n)
  (λb o j e=>⟨o,k b o (λz=>j (by simp[z])) e⟩) (λ_ _ e=>e) (λ_ _ _ e=>e) (λb Q e=>⟨#[],by rw[e];simp⟩) (λm L=>?_) (λb u e=>?_) i.bare
 .have e:b=f:=by simpa using G
  subst e;exact⟨C,hL,M,P⟩
 .obtain⟨o,E,B,F,r⟩:=L;exact⟨o,E,B,k _ o (Ne.symm hL) F,r⟩
 .refine (i.hok b u e).stay (λc v j q=>k c v ?_ q) (λ_ q=>q) λ_ _ q=>q;rcases j with z|z
  .rw[z];exact l b u e
  .exact l c _ z
def Inv.tok(f:Inv X Nc Z H s)(t:Nat):Inv X Nc Z H { s with toks:=t}:=f.un (h':=s.heap) (t':=t) Un.refl f.hok
def Inv.kept(f:Inv X Nc Z H s)(k:∀b u,s.heap.get? b=J u->h'.get? b=J u):Inv X Nc Z H { s with heap:=h',toks:=t'}:=f.un (Un.kept k) (f.hok.kept k)
def Inv.laid{a:Addr}{o:HO}{t':Nat}(f:Inv X Nc Z H s)(k:∀b u,s.heap.get? b=J u->h'.get? b=J u)(i:s.heap.objs.size<=a)(new:ObjOk X.prog X.w (kx H a o) h' a o):
  Inv X Nc Z (kx H a o) { s with heap:=h',toks:=t'}:=f.un (Un.laid k i (f.hok.fresh i)) (f.hok.laid k i new)
def Inv.write(f:Inv X Nc Z H s)(l:Py (H x))(j:e=x\/H e=J (.own x))(k:∀b u,b≠e->s.heap.get? b=J u->h'.get? b=J u)(i:∃u,h'.get? e=J u)(new:ObjOk X.prog X.w (kx H x o) h' x o):Inv X Nc Z (kx H x o) { s with heap:=h',toks:=t'}:=f.un (Un.write l j k i) (f.hok.write l j k i new)
def Inv.pins_of(f:Inv X Nc Z H s)(h:∀p∈i,s.heap.get? p.1=J p.2/\H p.1=Y/\p.1≠X.env.locals/\p.1∉X.fs/\∀v,p.2.data≠.cell v):Inv X i Z H s :=
 ⟨f.ok,f.os,f.bare,f.base,f.loc,f.cell,f.free,f.freeC,λp j=>(nq.mp j).elim (λz=>f.pin p (s_ _ z)) (h p),f.hok,f.len⟩
def nR{N:VM}(hN:N.Nodup){i j:Nat}{x:Str}(a:N[i]?=J x)(b:N[j]?=J x):i=j:=by obtain⟨f,e1⟩:=qt.mp a;obtain⟨l,e2⟩:=qt.mp b;exact(List.getElem_inj hN).mp (e1.trans e2.symm)
def zZ{M:Model}{A:Around}{E:VB}{i:Nat}{x:Str}{v:V}{u:Value}{Q:Unit->Shared->Prop}(f:Inv X Nc Z H s)(hN:X.N.Nodup)(U:X.N[i]?=J x)(F:Loc X.env.scope x)(r:aM v u)(h:∀s',Inv X Nc (Z.set i (J v)) H s'->(∃a,Heap.SameBut a s.heap s'.heap/\(a=X.env.locals\/X.env.cells.lookup x=J a))->Q () s')(hf:X.fn x=I\/X.env.scope.names.lookup x=J .local:=by first | exact .inl rfl | exact .inr rfl | assumption):wpAny M A (storeName X.env x u) Q E s:=by
 obtain⟨m,hn,hl⟩:=id f.loc;have S:(X.env.scope.kind == .class||(X.env.scope.kind == .module&&X.env.locals != X.env.globals))=T:=by rw[f.ok.kind];rfl
 have O:i<Z.length:=by rw[f.len];exact(qt.mp U).1
 have cne:=f.cne;have B:∀{a:Addr}{h':Heap},(∃o,s.heap.get? a=J o/\H a=Y)->Heap.SameBut a s.heap h'->HOk X.prog X.w H h':=λ{a h'} ha l b ob e=>by
  obtain⟨_,_,G⟩:=ha;refine(f.hok b ob e).stay (λc w' C q=>(l.2 c ?_).trans q) (λ_ q=>q) λ_ _ q=>q;rintro rfl;rcases C with rfl|C
  .rw[G]at e;cases e
  .rw[G]at C;cases C
 rcases F with L|L
 .refine wpAny_storeName_local L hn (λh' as l=>?_) S;obtain⟨oL,_,_,ax,_⟩:=id hn;refine h _ ⟨f.ok,f.os,f.bare,⟨λb o e n R F=>?_,λb o e n R F=>?_,f.base.free,λb o e F=>?_,f.base.tups,f.base.frzs,f.base.tbls⟩,⟨_,as,λj y v' e1 e2 e3=>?_⟩,λy c e=>?_,f.free,f.freeC,λp hp=>?_,B ⟨oL,ax,f.free⟩ l,by simpa using f.len⟩ ⟨_,l,.inl rfl⟩
  .exact (l.2 b (t4 (pq (nr e) f.ok.above))).trans (f.base.keep b o e n R F)
  .obtain⟨sl,e1⟩:=f.base.slot b o e n R F;exact⟨sl,(l.2 b (t4 (pq (nr e) f.ok.above))).trans e1⟩
  .obtain⟨o',e1⟩:=f.base.there b o e F;exact⟨o',(l.2 b (t4 (pq (nr e) f.ok.above))).trans e1⟩
  .by_cases P:j=i
   .subst P;rw[U]at e1;cases e1;rw[yw O]at e2;cases e2;exact⟨u,r,.inl ⟨L,by simp⟩⟩
   .rw[pc (Ne.symm P)]at e2;obtain⟨u',r',q⟩:=hl j y v' e1 e2 e3;refine⟨u',r',?_⟩;rcases q with⟨k,e⟩|⟨k,c,e,z⟩
    .refine .inl ⟨k,?_⟩
     have:y≠x:=λe=>P (nR hN e1 (e▸U))
     simp[this,e]
    .exact .inr ⟨k,c,e,z.sameBut l (cne y c e)⟩
  .obtain⟨w',z⟩:=f.cell y c e;exact⟨w',z.sameBut l (cne y c e)⟩
  .obtain⟨e,n,ne,nf,d⟩:=f.pin p hp;exact⟨(l.2 p.1 ne).trans e,n,ne,nf,d⟩
 .have Jm:X.fn x=I:=by
   rcases hf with z|z
   .exact z
   .rw[z]at L;cases L
  obtain⟨c,C⟩:=f.ok.has x (.inl L);obtain⟨w',z⟩:=f.cell x c C;refine wpAny_storeName_cell f.ok.kind L C z (λh' ab l=>?_);obtain⟨oc,an,W⟩:=id z;refine h { s with heap:=h'} ⟨f.ok,f.os,f.bare,⟨λb o e n R F=>?_,λb o e n R F=>?_,f.base.free,λb o e F=>?_,f.base.tups,f.base.frzs,f.base.tbls⟩,⟨m,hn.sameBut l (Ne.symm (cne x c C)),λj y v' e1 e2 e3=>?_⟩,λy c' e=>?_,f.free,f.freeC,λp hp=>?_,B ⟨oc,an,f.freeC x c C⟩ l,by simpa using f.len⟩ ⟨c,l,.inr C⟩
  .exact (l.2 b (t4 (pq (nr e) (f.ok.cab x c Jm C)))).trans (f.base.keep b o e n R F)
  .obtain⟨sl,e1⟩:=f.base.slot b o e n R F;exact⟨sl,(l.2 b (t4 (pq (nr e) (f.ok.cab x c Jm C)))).trans e1⟩
  .obtain⟨o',e1⟩:=f.base.there b o e F;exact⟨o',(l.2 b (t4 (pq (nr e) (f.ok.cab x c Jm C)))).trans e1⟩
  .by_cases P:j=i
   .subst P;rw[U]at e1;cases e1;rw[yw O]at e2;cases e2;exact⟨u,r,.inr ⟨.inl L,c,C,ab⟩⟩
   .rw[pc (Ne.symm P)]at e2;obtain⟨u',r',q⟩:=hl j y v' e1 e2 e3;refine⟨u',r',?_⟩;rcases q with q|⟨k,c',e,z'⟩
    .exact .inl q
    .refine .inr ⟨k,c',e,z'.sameBut l ?_⟩;rintro rfl;exact P (nR hN e1 (f.ok.inj _ _ _ e C▸U))
  .by_cases ap:c'=c
   .subst ap;exact⟨_,ab⟩
   .obtain⟨w2,z2⟩:=f.cell y c' e;exact⟨w2,z2.sameBut l ap⟩
  .obtain⟨e,n,ne,nf,d⟩:=f.pin p hp;refine⟨(l.2 p.1 ?_).trans e,n,ne,nf,d⟩;intro q;rw[q,an]at e;have q':oc=p.2:=Option.some.inj e;exact d w' (by rw[<-q'];exact W)
def mZ(j:Inv X Nc Z H s)(hN:X.N.Nodup)(z:X.N[i]?=J x)(B:Loc X.env.scope x)(r:aM v u)(h:∀f,Inv X Nc (Z.set i (J v)) H f->Q () f)(hf:X.fn x=I\/X.env.scope.names.lookup x=J .local:=by first | exact .inl rfl | exact .inr rfl | assumption):wpAny M A (storeName X.env x u) Q E s :=
 zZ j hN z B r (λf l _=>h f l) hf
def Inv.call'(f:Inv X Nc Z H s)(z:s'.os=s.os)(u:Un (wh X.stack) ch H H' s.heap s'.heap)(hok:HOk X.prog X.w H' s'.heap)(B:AllBare s'.gens)(i:∀b∈ch,(b∈X.ex\/X.s₀.heap.objs.size<=b)/\b≠X.env.locals/\(∀x c,X.env.cells.lookup x=J c->c≠b)/\∀p∈X.pn++Nc,p.1≠b):Inv X Nc Z H' s':=by
 obtain⟨h',r,j,l,C⟩:=s';have e:=z;subst e;exact f.call (g':=r) (t':=l) (d':=j) u hok B i
end
abbrev XK:=Value->VG->Hp->Prop
abbrev St:=List (Option V)
abbrev VK:=V->Hp->Prop
abbrev TE:=St->Hp->VK->Prop
abbrev TT:=St->Hp->(Bool->Hp->Prop)->Prop
abbrev TA:=St->Hp->(List V->Hp->Prop)->Prop
structure Ends where
 nx:St->Hp->Prop
 rt:VK
 bk:St->Hp->Prop:=λ_ _=>False
 ct:St->Hp->Prop:=λ_ _=>False
abbrev TS:=Ends->St->Hp->Prop
inductive EP(X:Cx)(Nc:VU)(Z:St)(Q:VK)(u:Value)(s':Shared):Prop
 |mk(v:V)(H':Hp)(i:Inv X Nc Z H' s')(r:aM v u)(q:Q v H'):EP X Nc Z Q u s'
inductive TP(X:Cx)(Nc:VU)(Z:St)(Q:Bool->Hp->Prop)(b:Bool)(s':Shared):Prop
 |mk(H':Hp)(i:Inv X Nc Z H' s')(q:Q b H'):TP X Nc Z Q b s'
inductive AP(X:Cx)(Nc:VU)(Z:St)(Q:List V->Hp->Prop)(us:VT)(s':Shared):Prop
 |mk(vs:List V)(H':Hp)(i:Inv X Nc Z H' s')(r:aw vs us)(q:Q vs H'):AP X Nc Z Q us s'
inductive SN(X:Cx)(Nc:VU)(Q:St->Hp->Prop)(s':Shared):Prop
 |mk(Z':St)(H':Hp)(i:Inv X Nc Z' H' s')(q:Q Z' H'):SN X Nc Q s'
inductive SR(X:Cx)(Nc:VU)(Q:VK)(u:Value)(s':Shared):Prop
 |mk(v:V)(Z':St)(H':Hp)(i:Inv X Nc Z' H' s')(r:aM v u)(q:Q v H'):SR X Nc Q u s'
def SP(X:Cx)(j:VU)(D:Ends)(f:Flow)(i:Shared):Prop :=
 match f with
 |.next=>SN X j D.nx i
 |.brk=>SN X j D.bk i
 |.cont=>SN X j D.ct i
 |.ret u=>SR X j D.rt u i
def PE(X:Cx)(e:Expr)(t:TE):Prop :=
 ∀(f:VU)(s:Shared)(Z:St)(H:Hp)(Q:VK),Inv X f Z H s->t Z H Q->wpAny (model X.prog X.w) X.A (eval e X.env) (EP X f Z Q) X.xe s
def PT(X:Cx)(e:Expr)(t:TT):Prop :=
 ∀(f:VU)(s:Shared)(Z:St)(H:Hp)(Q:Bool->Hp->Prop),Inv X f Z H s->t Z H Q->wpAny (model X.prog X.w) X.A (isTrue e X.env (eval e X.env)) (TP X f Z Q) X.xe s
def PW(X:Cx)(e:Expr)(t:TT):Prop :=
 ∀(f:Sem Value)(i:VU)(s:Shared)(Z:St)(H:Hp)(Q:Bool->Hp->Prop),Inv X i Z H s->t Z H Q->wpAny (model X.prog X.w) X.A (isTrue e X.env f) (TP X i Z Q) X.xe s
def PW.pt(h:PW X e t):PT X e t:=h _
def PA(X:Cx)(j:VX)(t:TA):Prop :=
 ∀(f:Pos)(i:VU)(s:Shared)(Z:St)(H:Hp)(Q:List V->Hp->Prop),Inv X i Z H s->t Z H Q->wpAny (model X.prog X.w) X.A (spliced (backTo f (starEach j X.env))) (AP X i Z Q) X.xe s
def PS(X:Cx)(st:Stmt)(t:TS):Prop :=
 ∀(f:VU)(s:Shared)(Z:St)(H:Hp)(D:Ends),Inv X f Z H s->t D Z H->wpAny (model X.prog X.w) X.A (exec st X.env) (SP X f D) X.xe s
def PSs(X:Cx)(st:VF)(t:TS):Prop :=
 ∀(f:VU)(s:Shared)(Z:St)(H:Hp)(D:Ends),Inv X f Z H s->t D Z H->wpAny (model X.prog X.w) X.A (execs st X.env) (SP X f D) X.xe s
def ka(h:wpAny M A t Q E s)(f:∀a s,Q a s->Q' a s):wpAny M A t Q' E s:=wpAny_mono h f λ_ _ x=>x
section
variable{X:Cx}
def Q4(i:Nat):TE:=λZ H Q=>∃v,Z[i]?=J (J v)/\Q v H
def tC(v:V):TE:=λ_ H Q=>Q v H
def Ar{i:Nat}{x:Str}{pos:Pos}(hN:X.N[i]?=J x)(hv:PC X.env.scope x)(hd:(x==("__debug__":Str))=T:=by decide)(B:(x==("__classdict__":Str))=T:=by decide):PE X (.Name x pos) (Q4 i):=by
 intro E s Z H Q f h;obtain⟨v,e,h⟩:=h;obtain⟨m,L,F⟩:=f.loc;obtain⟨u,r,l⟩:=F i x v hN e hv;have fin:EP X E Z Q u s:=⟨v,H,f,r,h⟩;rcases l with⟨z,G⟩|⟨z,c,C,j⟩
 .exact wpAny_Name (wpAny_loadName_local f.ok.kind z L G fin) hd
 .rcases z with z|z
  .exact wpAny_Name (wpAny_loadName_cell f.ok.kind z C j fin) hd
  .exact wpAny_Name (wpAny_loadName_free f.ok.kind z C j fin B) hd
def HF{i j pos}:PE X (.Constant (.int i) j pos) (tC (.int i)):=λ_ _ _ H _ f h=>wpAny_Constant_int ⟨.int i,H,f.tok _,⟨_,rfl⟩,h⟩
def Mi{b j pos}:PE X (.Constant (.bool b) j pos) (tC (.bl b)):=λ_ _ _ H _ f h=>Constant_bool ⟨.bl b,H,f,rfl,h⟩
def HG{j pos}:PE X (.Constant .none j pos) (tC .non):=λ_ _ _ H _ f h=>Constant_none ⟨.non,H,f,rfl,h⟩
def HH{x j pos}:PE X (.Constant (.str x) j pos) (tC (.str x)):=λ_ _ _ H _ f h=>Calls.Constant_str ⟨.str x,H,f.tok _,⟨_,rfl⟩,h⟩
def Gl(X:Cx)(x:Str):Prop:=X.env.kindOf x=J .globalImplicit
def qM{E:VB}{j:VU}{s:Shared}{Z:St}{H:Hp}{x:Str}{u:Value}{i:Pos}{Q:VB}(f:Inv X j Z H s)(l:Gl X x)(r:X.mg x=J u)(h:Q u s)(hd:(x==("__debug__":Str))=T:=by decide):wpAny (model X.prog X.w) X.A (eval (.Name x i) X.env) Q E s :=
 Calls.Name_function_global f.ok.kind l (Calls.loadGlobal_global (by rw[f.ok.glob];exact f.mod.glob.keeps f.bk) r h) hd
def gT{E:VB}{j:VU}{s:Shared}{Z:St}{H:Hp}{x:Str}{u:Value}{i:Pos}{Q:VB}(f:Inv X j Z H s)(r:Gl X x)(z:X.mg x=Y)(hv:bootBuiltins x=J u)(h:Q u s)(C:x≠"__name__":=by decide)(hd:(x==("__debug__":Str))=T:=by decide):wpAny (model X.prog X.w) X.A (eval (.Name x i) X.env) Q E s:=by
 obtain⟨mb,l,B⟩:=f.mod.blt;exact Calls.Name_function_global f.ok.kind r (Calls.loadGlobal_builtin (by rw[f.ok.glob];exact f.mod.glob.keeps f.bk) z (by rw[f.ok.blt];exact l.keeps f.bk) ((B x C).trans hv) h) hd
def qB(i:Gl X x)(j:X.mg x=J u)(r:aM v u)(hd:(x==("__debug__":Str))=T:=by decide):PE X (.Name x pos) (tC v) :=
 λ_ _ _ H _ f h=>qM f i j ⟨v,H,f,r,h⟩ hd
def wd{x:Str}{v:V}{u:Value}{i:Pos}(j:Gl X x)(l:X.mg x=Y)(hv:bootBuiltins x=J u)(r:aM v u)(z:x≠"__name__":=by decide)(hd:(x==("__debug__":Str))=T:=by decide):PE X (.Name x i) (tC v) :=
 λ_ _ _ H _ f h=>gT f j l hv ⟨v,H,f,r,h⟩ z hd
variable{a b:Expr}{ta tb:TE}{pos:Pos}
def tB(t:TE):TT:=λZ H Q=>t Z H λx f=>∃c,x=.bl c/\Q c f
def HJ(h:PE X e t)(B:∀f,isTrue e X.env f=(do let v <-f;standAt e.pos;holding [v] (truthy v)):=by intro _;rfl):PT X e (tB t):=by intro r s Z H Q i z;refine isTrue_plain (ka (h r s Z H _ i z) λv E ⟨x,j,u,C,l⟩=>?_) (B _);obtain⟨d,rfl,q⟩:=l;cases C;exact wpAny_truthy_bool ⟨j,u,q⟩
variable{tA tB':TT}{rest:VX}
def Q5(t u:TT):TT:=λZ H Q=>t Z H λc f=>if c=I then u Z f Q else Q T f
def Vh(t u:TT):TT:=λZ H Q=>t Z H λc f=>if c=I then Q I f else u Z f Q
def Q6(t:TT):TT:=λZ H Q=>t Z H λc f=>Q (!c) f
def Eg(j:PT X a tA):PW X (.BoolOp .And [a] pos) tA:=by
 intro r i s Z H Q f h;refine isTrue_and (ka (j i s Z H Q f h) λc l e=>?_)
 cases c with
 |true=>exact isTrue_and_nil e
 |false=>exact e
def HK(j:PT X a tA):PW X (.BoolOp .Or [a] pos) tA:=by
 intro r i s Z H Q f h;refine isTrue_or (ka (j i s Z H Q f h) λc l e=>?_)
 cases c with
 |false=>exact isTrue_or_nil e
 |true=>exact e
def HL(u:PT X a tA)(z:PW X (.BoolOp .And (b::rest) pos) tB'):PW X (.BoolOp .And (a::b::rest) pos) (Q5 tA tB'):=by
 intro C i s Z H Q f h;refine isTrue_and (ka (u i s Z H _ f h) λc B ⟨l,j,r⟩=>?_)
 cases c with
 |true=>exact z C i B Z l Q j r
 |false=>exact⟨l,j,r⟩
def Mj(u:PT X a tA)(z:PW X (.BoolOp .Or (b::rest) pos) tB'):PW X (.BoolOp .Or (a::b::rest) pos) (Vh tA tB'):=by
 intro C i s Z H Q f h;refine isTrue_or (ka (u i s Z H _ f h) λc B ⟨l,j,r⟩=>?_)
 cases c with
 |true=>exact⟨l,j,r⟩
 |false=>exact z C i B Z l Q j r
def HM(r:PT X a tA):PT X (.UnaryOp .Not a pos) (Q6 tA):=by intro j s Z H Q f h;exact isTrue_not (ka (r j s Z H (λc i=>Q (!c) i) f h) λ_ _ ⟨i,l,q⟩=>⟨i,l,q⟩)
def Mk(ta tb:TE):TE:=λZ H Q=>ta Z H λx f=>∃c,x=.bl c/\if c=I then tb Z f Q else Q (.bl T) f
def Ml(ta:TE):TE:=λZ H Q=>ta Z H λx f=>∃c,x=.bl c/\Q (.bl (!c)) f
def HN{op}(h:PE X a t):PE X (.BoolOp op [a] pos) t:=λj s Z H Q f i=>BoolOp_one (h j s Z H Q f i)
def HP(u:PE X a ta)(z:PE X (.BoolOp .And (b::rest) pos) tb):PE X (.BoolOp .And (a::b::rest) pos) (Mk ta tb):=by
 intro l s Z H Q i h;refine BoolOp_and (ka (u l s Z H _ i h) λv C ⟨x,j,r,B,f⟩=>?_);obtain⟨c,rfl,f⟩:=f;cases B;refine wpAny_truthy_bool ?_
 cases c with
 |true=>exact z l C Z j Q r f
 |false=>exact⟨.bl T,j,r,rfl,f⟩
def HQ(z:PE X a ta):PE X (.UnaryOp .Not a pos) (Ml ta):=by intro l s Z H Q f h;refine UnaryOp_ (ka (z l s Z H _ f h) λv B ⟨x,u,r,j,i⟩=>?_);obtain⟨c,rfl,i⟩:=i;cases j;exact not_of (wpAny_truthy_bool ⟨.bl (!c),u,r,rfl,i⟩)
end
def SqL(K:h8)(H:Hp)(a:Addr)(xs:List V):Prop :=
 Rd H a (.lst xs) \/
  ∃(o:Obj) (f:Array Value) (n:Nat),K.lookup a=J o/\o.cls=.type "list"/\o.dict=Y/\o.data=.seq f n/\f.size<=sizeLine/\aw xs f.toList
def SqT(K:h8)(H:Hp)(a:Addr)(xs:List V):Prop :=
 Rd H a (.tup xs) \/
  ∃(o:Obj) (f:Array Value) (n:Nat),K.lookup a=J o/\o.cls=.type "tuple"/\(o.data=.seq f n/\o.dict=Y)/\f.size<=sizeLine/\aw xs f.toList
def Q7:Value->Option V
 |.none=>J .non
 |.bool b=>J (.bl b)
 |.int i _=>J (.int i)
 |.str x _=>J (.str x)
 |.bytes b _=>J (.byt b)
 |.float b _=>J (.flt b)
 |.ref a=>J (.ref a)
 |.type n=>J (.ty n)
 |_=>Y
def aM.abs(r:aM x u):Q7 u=J x:=by
 cases x with
 |non=>cases r;rfl
 |bl _=>cases r;rfl
 |int _=>obtain⟨t,rfl⟩:=r;rfl
 |str _=>obtain⟨t,rfl⟩:=r;rfl
 |byt _=>obtain⟨t,rfl⟩:=r;rfl
 |flt _=>obtain⟨t,rfl⟩:=r;rfl
 |ref _=>cases r;rfl
 |ty _=>cases r;rfl
def aM.inj(r:aM x u)(q:aM y u):x=y:=Option.some.inj (r.abs.symm.trans q.abs)
def aw.inj(r:aw xs us)(q:aw ys us):xs=ys:=by
 induction r generalizing ys with
 |nil=>cases q;rfl
 |cons r t i=>cases q with|cons j f=>rw[r.inj j,i f]
section
variable{X:Cx}{Nc:List (Addr × Obj)}{Z:St}{H:Hp}{s:Shared}{a:Addr}{xs ys:List V}
def SqL.of{K:h8}(h:H a=J (.lst xs)):SqL K H a xs:=.inl (.inl h)
def SqT.of{K:h8}(h:H a=J (.tup xs)):SqT K H a xs:=.inl (.inl h)
def Inv.list(i:Inv X Nc Z H s)(h:SqL X.K H a xs):∃f:VT,aw xs f/\PlainL s.heap a f.toArray/\xs.length<=sizeLine:=by
 rcases h with h|⟨o,f,n,j,u,hd,l,B,r⟩
 .obtain⟨z,f,n,r,e⟩:=h.ok i.hok;exact⟨f,r,⟨_,n,e,rfl,rfl,rfl⟩,z⟩
 .refine⟨f.toList,r,⟨o,n,i.kIn a o j,u,hd,by simpa using l⟩,?_⟩;have e:=r.length
  grind
def Inv.tupleN(i:Inv X Nc Z H s)(h:SqT X.K H a xs):∃f:VT,aw xs f/\hJ s.heap a f.toArray/\xs.length<=sizeLine:=by
 rcases h with h|⟨o,f,n,l,u,j,B,r⟩
 .obtain⟨z,f,r,p⟩:=h.ok i.hok;exact⟨f,r,p,z⟩
 .refine⟨f.toList,r,⟨o,i.kIn a o l,u,⟨n,by simpa using j.1⟩,j.2⟩,?_⟩;have e:=r.length
  grind
def Inv.tuple(i:Inv X Nc Z H s)(h:SqT X.K H a xs):∃f:VT,aw xs f/\IsTup s.heap a f.toArray/\xs.length<=sizeLine :=
 let⟨f,r,p,z⟩:=i.tupleN h
 ⟨f,r,p.tup,z⟩
def Inv.list_inj(f:Inv X Nc Z H s)(h:SqL X.K H a xs)(z:SqL X.K H a ys):xs=ys:=by
 obtain⟨j,r,⟨o,n,e,_,_,d⟩,_⟩:=f.list h;obtain⟨i,B,⟨E,C,u,_,_,l⟩,_⟩:=f.list z;rw[e]at u;cases u;rw[d]at l;injection l with d1 _
 have:j=i:=by simpa using congrArg Array.toList d1
 subst this;exact r.inj B
def Inv.tuple_inj(f:Inv X Nc Z H s)(h:SqT X.K H a xs)(z:SqT X.K H a ys):xs=ys:=by
 obtain⟨j,r,⟨o,e,_,n,d⟩,_⟩:=f.tuple h;obtain⟨i,B,⟨E,u,_,C,l⟩,_⟩:=f.tuple z;rw[e]at u;cases u;rw[d]at l;injection l with d1 _
 have:j=i:=by simpa using congrArg Array.toList d1
 subst this;exact r.inj B
end
section
variable{X:Cx}{Nc:List (Addr × Obj)}{Z:St}{H:Hp}{s:Shared}{E:VB}
end
section
variable{X:Cx}{st:Stmt}{rest:VF}{t u:TS}{e:Expr}{te:TE}{pos:Pos}
def Mm:TS:=λD Z H=>D.nx Z H
def Q8(t u:TS):TS:=λD Z H=>t { D with nx:=u D} Z H
def Eh:PSs X [] Mm:=λ_ _ Z H _ f h=>wpAny_execs_nil ⟨Z,H,f,h⟩
def A4(r:PS X st t)(C:PSs X rest u):PSs X (st::rest) (Q8 t u):=by
 intro j s Z H D i h;refine wpAny_execs_cons (ka (r j s Z H { D with nx:=u D} i h) λf E q=>?_)
 cases f with
 |next =>
  obtain⟨B,z,l,q⟩:=q;exact C j E B z D l q
 |ret v=>exact q
 |brk=>exact q
 |cont=>exact q
def wF(l:PS X st t):PSs X [st] t:=by
 intro j s Z H D i h;refine wpAny_execs_cons (ka (l j s Z H D i h) λf r q=>?_)
 cases f with
 |next=>exact wpAny_execs_nil q
 |ret v=>exact q
 |brk=>exact q
 |cont=>exact q
def Inv.quiet{i:VU}{Z:St}{H:Hp}{s:Shared}(f:Inv X i Z H s):interactive X.env=T:=by simp[interactive,f.ok.kind]
def Mn(te:TE):TS:=λD Z H=>te Z H λ_ f=>D.nx Z f
def Ei(l:PE X e te)(B:swapsWith e Y pos.line X.env=pure T:=by rfl):PS X (.Expr e pos) (Mn te):=by intro i s Z H D f h;exact wpAny_Expr_any (ka (l i s Z H _ f h) λv E ⟨x,r,j,C,z⟩=>⟨Z,r,j,z⟩) f.quiet B
def Q9(te:TE):TS:=λD Z H=>te Z H D.rt
def HR(r:PE X e te):PS X (.Return (J e) pos) (Q9 te):=by intro j s Z H D f h;exact wpAny_Return_some (ka (r j s Z H _ f h) λv C ⟨x,z,l,i,B⟩=>⟨x,Z,z,l,i,B⟩)
def Q_(c:TT)(t u:TS):TS:=λD Z H=>c Z H λb f=>if b=I then t D Z f else u D Z f
def Mo(E:PT X c tc)(B:PSs X a t)(C:PSs X b u):PS X (.If c a b pos) (Q_ tc t u):=by
 intro i s Z H D f h;refine wpAny_If (ka (E i s Z H _ f h) λd z ⟨l,j,r⟩=>?_)
 cases d with
 |true=>exact B i z Z l D j r
 |false=>exact C i z Z l D j r
end
abbrev TG:=V->St->Hp->(St->Hp->Prop)->Prop
abbrev Lp:=List V->St->Hp->(St->Hp->Prop)->Prop
def PG(X:Cx)(f:Expr)(t:TG):Prop :=
 ∀(i:VU)(s:Shared)(Z:St)(H:Hp)(v:V)(u:Value)(Q:St->Hp->Prop),Inv X i Z H s->aM v u->t v Z H Q ->
  wpAny (model X.prog X.w) X.A (assign f X.env u) (λ_ j=>SN X i Q j) X.xe s
def PGs(X:Cx)(r:VX)(t:Lp):Prop :=
 ∀(f:VU)(s:Shared)(Z:St)(H:Hp)(j:List V)(i:VT)(Q:St->Hp->Prop),Inv X f Z H s->aw j i->t j Z H Q ->
  wpAny (model X.prog X.w) X.A (assignInOrder ((assignEach r X.env).map (·.2)) i) (λ_ l=>SN X f Q l) X.xe s
abbrev dC:=V->V->V->Hp->(Hp->Prop)->Prop
inductive SE(X:Cx)(Nc:VU)(Z:St)(Q:Hp->Prop)(s':Shared):Prop
 |mk(H':Hp)(i:Inv X Nc Z H' s')(q:Q H'):SE X Nc Z Q s'
def HU(X:Cx)(t:dC):Prop :=
 ∀(f:VU)(s:Shared)(Z:St)(H:Hp)(o i v:V)(l j u:Value)(Q:Hp->Prop),Inv X f Z H s->aM o l->aM i j->aM v u->t o i v H Q ->
  wpAny (model X.prog X.w) X.A (setItem l j u) (λ_ r=>SE X f Z Q r) X.xe s
section
variable{X:Cx}{pos:Pos}
def GQ(i:Nat):TG:=λv Z H Q=>Q (Z.set i (J v)) H
def xf(hN:X.N.Nodup)(l:X.N[i]?=J x)(z:Loc X.env.scope x)(hf:X.fn x=I\/X.env.scope.names.lookup x=J .local:=by first | exact .inl rfl | exact .inr rfl | assumption):PG X (.Name x pos) (GQ i):=by intro C s Z H v u Q f r h;exact wpAny_assign_Name (mZ f hN l z r (λB j=>⟨_,H,j,h⟩) hf)
def Ra:Lp:=λf Z H Q=>f=[]/\Q Z H
def Mp(t:TG)(u:Lp):Lp:=λj Z H Q=>∃v r,j=v::r/\t v Z H λf i=>u r f i Q
def Ej:PGs X [] Ra:=by intro i s Z H l j Q f r h;obtain⟨e,h⟩:=h;subst e;cases r;exact assignInOrder_nil ⟨Z,H,f,h⟩
def Bc(C:PG X e t)(E:PGs X es u)(z:(assignEach (e::es) X.env).map (·.2)=assign e X.env::(assignEach es X.env).map (·.2):=by rfl):PGs X (e::es) (Mp t u):=by
 intro i s Z H P O Q f r h;obtain⟨v,M,e1,h⟩:=h;subst e1
 cases r with
 |cons r L =>
  rw[z];refine assignInOrder_cons (ka (C i s Z H _ _ _ f r h) λ_ G ⟨F,j,B,l⟩=>?_);exact E i G F j _ _ Q B L l
def Rb(K:h8)(n:Nat)(t:Lp):TG:=λv Z H Q=>∃a xs,v=.ref a/\SqT K H a xs/\xs.length=n/\t xs Z H Q
def HV{i:VX}{k:Nat}{t:Lp}{n:Nat}(P:X.calm=I)(h:PGs X i t)(M:(assignEach i X.env).length=n:=by rfl)(j:(assignEach i X.env).findIdx? (·.1)=Y:=by rfl):PG X (.Tuple i k pos) (Rb X.K n t):=by
 intro E s Z H v u Q f r l;obtain⟨a,xs,e1,L,G,l⟩:=l;subst e1;cases r;obtain⟨O,z,C,S⟩:=f.tuple L;refine assign_Tuple_tuple (f.ok.hd P) C (by simp[M,<-G,z.length]) j λR B=>?_;have F:=f.kept (t':=s.toks) λb o e=>B b o (t4 (nr e)) e;exact h E _ Z H xs _ Q F (by simpa using z) l
def Re(to f:TE)(t:dC):TG:=λv Z H Q=>to Z H λo j=>f Z j λi l=>t o i v l λr=>Q Z r
def zK(R:PE X o to)(P:PE X i ti)(F:HU X t)(ha:∀v,assign (.Subscript o i pos) X.env v=(do
   let f <-holding [v] (eval o X.env)
   let j <-holding [v,f] (eval i X.env)
   standAt pos
   holding [v,f,j] (setItem f j v)
   release [v,f,j] []):=by intro _;rfl):PG X (.Subscript o i pos) (Re to ti t):=by
 intro l s Z H v u Q z r h;refine d_ (wpAny_holding (ka (R l s Z H _ z h) λf s1 ⟨x,C,L,r1,E⟩=>?_));refine d_ (wpAny_holding (ka (P l s1 Z C _ L E) λj W ⟨y,H2,G,U,O⟩=>?_));refine d_ (wpAny_standAt (d_ (wpAny_holding (ka (F l W Z H2 x y v f j u _ G r1 U r O) λ_ s3 ⟨M,B,S⟩=>?_))));exact wpAny_release ⟨Z,M,B,S⟩
def Mq(i:TE)(g:TG):TS:=λD Z H=>i Z H λx f=>g x Z f D.nx
def HW(E:PE X e te)(B:PG X tg g)(r:swapsWithSole [tg] e pos.line X.env=pure T:=by rfl)(C:swappedStores [tg] e X.env=pure Y:=by rfl)(z:(assignEach [tg] X.env).map (·.2)=[assign tg X.env]:=by rfl):PS X (.Assign [tg] e pos) (Mq te g):=by
 intro i s Z H D f h;refine wpAny_Assign_stores (ka (E i s Z H _ f h) λv G ⟨x,j,u,F,l⟩=>?_) r C;rw[z];exact ka (B i G Z j x v _ u F l) λ_ L q=>q
def An(hN:X.N.Nodup)(E:X.N[i]?=J x)(u:Loc X.env.scope x)(F:PE X e te)(r:swapsWith e (J (.Name x pos')) pos.line X.env=pure T:=by rfl)(hf:X.fn x=I\/X.env.scope.names.lookup x=J .local:=by first | exact .inl rfl | exact .inr rfl | assumption):
  PS X (.Assign [.Name x pos'] e pos) (Mq te (GQ i)):=by
 intro B s Z H D f h;refine wpAny_Assign_Name (ka (F B s Z H _ f h) λv M ⟨y,j,C,G,l⟩=>?_) r;exact mZ C hN E u G (λL z=>⟨_,j,z,l⟩) hf
def HX(c:TT)(tb:TS):TS:=λD Z H=>∃W:Nat->St->Hp->Prop,(∃m,W m Z H)/\∀m Z H,W m Z H ->
 c Z H λb i=>if b=I then ∃N:St->Hp->Prop,(∀f l,N f l->∃j,j<m/\W j f l)/\tb { D with nx:=N,ct:=N,bk:=D.nx} Z i else D.nx Z i
def Br(R:PassesOwn (model X.prog X.w) X.A X.env X.xe)(hc:PT X c tc)(hb:PSs X body tb):PS X (.While c body [] pos) (HX tc tb):=by
 intro C s Z H D G h;obtain⟨W,⟨m0,w0⟩,turn⟩:=h;refine wpAny_While (codeAny_whileLoop (λn U=>∃Q P,Inv X C Q P U/\W n Q P) ?_ m0 ⟨Z,H,G,w0⟩);rintro n s1 ⟨u,M,I1,w1⟩;refine wpAny_passesOwn R (ka (hc C s1 u M _ I1 (turn n u M w1)) λb s2 ⟨S,O,l⟩=>?_)
 cases b with
 |true =>
  obtain⟨N,hN,l⟩:=l;refine wpAny_passesOwn R (ka (hb C s2 u S _ O l) λf s3 r=>?_)
  cases f with
  |next =>
   obtain⟨i,j,z,E⟩:=r;obtain⟨F,L,B⟩:=hN i j E;exact⟨F,L,i,j,z,B⟩
  |cont =>
   obtain⟨i,j,z,E⟩:=r;obtain⟨F,L,B⟩:=hN i j E;exact⟨F,L,i,j,z,B⟩
  |brk=>exact r
  |ret v=>exact r
 |false =>
  exact wpAny_execs_nil ⟨u,S,O,l⟩
end
structure It where
 go:Nat->Hp->Prop
 yld:Nat->Hp->V->Hp->Prop
 stop:Nat->Hp->Prop
def jx(X:Cx)(f:VU)(H:Hp)(b:Addr):Prop :=
 H b=Y/\b≠X.env.locals/\b∉X.fs/\(b∈X.ex\/X.s₀.heap.objs.size<=b)/\(∀x c,X.env.cells.lookup x=J c->c≠b)/\∀p∈X.pn++f,p.1≠b
def Inv.fpOk{X:Cx}{j:VU}{Z:St}{H H':Hp}{s:Shared}{b:Addr}(f:Inv X j Z H s)(i:s.heap.objs.size<=b)(r:H' b=Y):jx X j H' b:=by
 refine⟨r,Ee (pq f.lt i),f.nofs i,.inr (o0 f.sz i),λx c e z=>?_,λp l z=>?_⟩
 .obtain⟨v,q⟩:=f.cell x c e;exact absurd (pq q.lt (by rw[z];exact i)) (Ca _)
 .exact absurd (pq (nr (f.pin p l).1) (by rw[z];exact i)) (Ca _)
inductive T8(X:Cx)(Nc:VU)(Z:St)(u:Value)(Y:V->Hp->Prop)(n:Heap->Prop)(fp:VS)(s2:Shared):Prop
 |mk(x:V)(H':Hp)(i:Inv X Nc Z H' s2)(r:aM x u)(y:Y x H')(t:n s2.heap)(f:∀b∈fp,H' b=none):T8 X Nc Z u Y n fp s2
structure Du(P:Program)(w:World)(K:h8)(tg:Expr)(J:It)(fp:VS)(it:Addr)(tn:Nat->Heap->Prop):Prop where
 mem:it∈fp
 obj:∀i h,tn i h->∀b∈fp,∃o,h.get? b=some o/\∀v,o.data≠.cell v
 keep:∀i h h',tn i h->(∀b∈fp,∀o,h.get? b=some o->h'.get? b=some o)->tn i h'
 item:∀(X:Cx),X.prog=P->X.w=w->X.K=K->X.calm=I->∀(i:Nat)(Nc:VU)(s:Shared)(Z:St)(H:Hp)(E:VB),Inv X Nc Z H s->(∀b∈fp,jx X Nc H b)->tn i s.heap->J.go i H ->
  wpAny (model P w) X.A (pyNext (.ref it)) (λr s1=>∃u,r=some u /\
   wpAny (model P w) X.A (letOwnedTupleGo tg (.ref it) u) (λ_ s2=>T8 X Nc Z u (J.yld i H) (tn (i+1)) fp s2) E s1) E s
 done:∀(X:Cx),X.prog=P->X.w=w->X.K=K->X.calm=I->∀(i:Nat)(Nc:VU)(s:Shared)(Z:St)(H:Hp)(E:VB),Inv X Nc Z H s->(∀b∈fp,jx X Nc H b)->tn i s.heap->J.stop i H ->
  wpAny (model P w) X.A (pyNext (.ref it)) (λr s1=>r=Y/\Inv X Nc Z H s1) E s
 self:∀(A:Around)(i:Nat)(s:Shared)(Q:VB)(E:VB),tn i s.heap->Q (.ref it) s->wpAny (model P w) A (pyIter (.ref it)) Q E s
abbrev TI:=St->Hp->(It->Hp->Prop)->Prop
inductive Rf(X:Cx)(Nc:VU)(Z:St)(tg:Expr)(R:It->Hp->Prop)(itv:Value)(s2:Shared):Prop
 |mk(it:Addr)(fp:VS)(tn:Nat->Heap->Prop)(J:It)(H':Hp)(e:itv=.ref it)(i:Inv X Nc Z H' s2)(t:Du X.prog X.w X.K tg J fp it tn)(n:tn 0 s2.heap)(f:∀b∈fp,jx X Nc H' b)(r:R J H'):Rf X Nc Z tg R itv s2
def PI(X:Cx)(r f:Expr)(j:TI):Prop :=
 ∀(i:VU)(s:Shared)(Z:St)(H:Hp)(R:It->Hp->Prop),Inv X i Z H s->j Z H R ->
  wpAny (model X.prog X.w) X.A (eval f X.env) (λv l=>wpAny (model X.prog X.w) X.A (pyIter v) (Rf X i Z r R) X.xe l) X.xe s
def yI(l:s.heap.get? it=J o)(j:o.cls=.type n)(hd:o.data=.fields vs)(i:["enumerate","zip","dict_itemiterator","dict_reverseitemiterator","odict_iterator","itertools.zip_longest","itertools.pairwise"].contains n=T)(f:Q () s):wpAny M A (letOwnedTupleGo tg (.ref it) u) Q E s:=by
 cases tg<;>first
  |exact ia f
  | (cases u<;>first
    |exact ia f
    | (refine d_ (wpAny_load l ?_)
       rw[j,hd];show wpAny M A (if(["enumerate","zip","dict_itemiterator","dict_reverseitemiterator","odict_iterator","itertools.zip_longest","itertools.pairwise"].contains n&&vs[0]? == J (rawInt _))=I then _ else _) Q E s;rw[f_ (by intro h;rw[i]at h;cases h)]
       exact ia f))
def Rh(K:h8)(a:Addr):It :=
 ⟨λi H=>∃xs x,SqL K H a xs/\xs[i]?=J x,λi H x f=>f=H/\∀xs,SqL K H a xs->xs[i]?=J x,λi H=>∃xs,SqL K H a xs/\xs.length<=i⟩
def T9(K:h8)(a:Addr):It :=
 ⟨λi H=>∃xs x,SqT K H a xs/\xs[i]?=J x,λi H x f=>f=H/\∀xs,SqT K H a xs->xs[i]?=J x,λi H=>∃xs,SqT K H a xs/\xs.length<=i⟩
def PD(lo:Int)(n:Nat):It:=⟨λi _=>i<n,λi H x f=>f=H/\x=.int (lo+i),λi _=>n<=i⟩
def zg{P:Program}{w:World}{K:h8}{tg:Expr}(a l:Addr):Du P w K tg (Rh K a) [l] l (λi h=>h.IsListIter l a i) where
 mem:=by simp
 obj:=λi h st b j=>by
  have e:b=l:=by simpa using j
  subst e;obtain⟨o,e,c,d⟩:=st;exact⟨o,e,λv z=>by rw[d]at z;cases z⟩
 keep:=λi h h' st k=>st.at λo e=>k l (by simp) o e
 item:=by intro X S L M hc i Nc s Z H E f hf st G;subst S L M;obtain⟨xs,x,B,C⟩:=G;obtain⟨U,F,p,hz⟩:=f.list B;obtain⟨u,hu,ru⟩:=F.get C;obtain⟨f0,R,f2,O,W,Q⟩:=hf l (by simp);refine wpAny_pyNext_list_item st p.isList (by simpa using hu) λh' r sb=>?_;have I1:=f.turned (t':=s.toks) (λb o j e=>(sb.2 b j).trans e) f0 R O W Q;obtain⟨o,e,c,d⟩:=id r;exact⟨u,rfl,yI e c d (by decide) ⟨x,H,I1,ru,⟨rfl,λys hy=>by rw[f.list_inj hy B];exact C⟩,r,λb j=>(hf b j).1⟩⟩
 done:=by intro X S L M hc i Nc s Z H E f hf st G;subst S L M;obtain⟨xs,B,C⟩:=G;obtain⟨U,F,p,hz⟩:=f.list B;obtain⟨f0,R,f2,O,W,Q⟩:=hf l (by simp);have hl:=F.length;exact wpAny_pyNext_list_end (f.ok.hd hc) st p.isList (by simp;lia) λh' eb=>⟨rfl,f.turned (t':=s.toks) (λb o j e=>eb b o j e) f0 R O W Q⟩
 self:=λ_ _ _ _ _ st h=>wpAny_pyIter_listiter st h
def xZ{P:Program}{w:World}{K:h8}{tg:Expr}(a l:Addr):Du P w K tg (T9 K a) [l] l (λi h=>h.IsTupleIter l a i) where
 mem:=by simp
 obj:=λi h st b j=>by
  have e:b=l:=by simpa using j
  subst e;obtain⟨o,e,c,d⟩:=st;exact⟨o,e,λv z=>by rw[d]at z;cases z⟩
 keep:=λi h h' st k=>st.at λo e=>k l (by simp) o e
 item:=by intro X S L M hc i Nc s Z H E f hf st G;subst S L M;obtain⟨xs,x,B,C⟩:=G;obtain⟨U,F,p,hz⟩:=f.tuple B;obtain⟨u,hu,ru⟩:=F.get C;obtain⟨f0,R,f2,O,W,Q⟩:=hf l (by simp);refine wpAny_pyNext_tuple_item st (p) (by simpa using hu) λh' r sb=>?_;have I1:=f.turned (t':=s.toks) (λb o j e=>(sb.2 b j).trans e) f0 R O W Q;obtain⟨o,e,c,d⟩:=id r;exact⟨u,rfl,yI e c d (by decide) ⟨x,H,I1,ru,⟨rfl,λys hy=>by rw[f.tuple_inj hy B];exact C⟩,r,λb j=>(hf b j).1⟩⟩
 done:=by intro X S L M hc i Nc s Z H E f hf st G;subst S L M;obtain⟨xs,B,C⟩:=G;obtain⟨U,F,p,hz⟩:=f.tuple B;obtain⟨f0,R,f2,O,W,Q⟩:=hf l (by simp);have hl:=F.length;exact wpAny_pyNext_tuple_end (f.ok.hd hc) st (p) (by simp;lia) λh' eb=>⟨rfl,f.turned (t':=s.toks) (λb o j e=>eb b o j e) f0 R O W Q⟩
 self:=λ_ _ _ _ _ st h=>wpAny_pyIter_tupleiter st h
def xJ{P:Program}{w:World}{K:h8}{tg:Expr}(j:Addr)(lo:Int)(n:Nat):Du P w K tg (PD lo n) [j] j (λi h=>IsRangeIter h j (lo+(i:Nat)*1) ((n:Int)-(i:Nat)) 1) where
 mem:=by simp
 obj:=λi h st b l=>by
  have e:b=j:=by simpa using l
  subst e
  exact⟨_,st,λv z=>by
   have z':=z
   cases z'⟩
 keep:=λi h F st k=>k j (by simp) _ st
 item:=by intro X U R S O i Q s Z H E f hf st u;subst U R S;obtain⟨M,G,f2,B,L,C⟩:=hf j (by simp);have W:=Walks.range (prog:=X.prog) (w:=X.w) (f.ok.hd O) j lo 1 n;refine W.item i s _ _ u st λv F tk hv r kk=>?_;obtain⟨t,rfl⟩:=hv;have I1:Inv X Q Z H { s with heap:=F,toks:=tk}:=f.turned (λb o l e=>kk b o (by simpa using l) e) M G B L C;refine⟨_,rfl,yI r rfl rfl (by decide) ⟨.int (lo+i),H,I1,⟨t,?_⟩,⟨rfl,rfl⟩,r,λb l=>(hf b l).1⟩⟩;rw[Int.mul_one]
 done:=by intro X U R S O i Q s Z H E f hf st u;obtain⟨M,G,f2,B,L,C⟩:=hf j (by simp);exact wpAny_pyNext_range_end (f.ok.hd O) st (by have:n<=i:=u;lia) λF eb=>⟨rfl,f.turned (t':=s.toks) (λb o l e=>eb b o l e) M G B L C⟩
 self:=λ_ _ _ _ _ st h=>wpAny_pyIter_rangeiter st h
section
variable{X:Cx}{tg:Expr}
def Mr(K:h8)(i:TE):TI:=λZ H R=>i Z H λx f=>∃a,x=.ref a/\(∃xs,SqL K f a xs)/\R (Rh K a) f
def Ri(K:h8)(i:TE):TI:=λZ H R=>i Z H λx f=>∃a,x=.ref a/\(∃xs,SqT K f a xs)/\R (T9 K a) f
def Ek{l:Expr}{r:TE}(C:PE X l r):PI X tg l (Mr X.K r):=by
 intro B s Z H R j h;refine ka (C B s Z H _ j h) λv i ⟨x,u,f,G,z⟩=>?_;obtain⟨a,e,⟨xs,F⟩,q⟩:=z;subst e;cases G;obtain⟨L,M,p,O⟩:=f.list F;refine wpAny_pyIter_list p.isList ?_;refine⟨i.heap.objs.size,[i.heap.objs.size],_,_,u,rfl,f.kept (t':=i.toks) λb o e=>n_ _ e,zg a _,⟨_,tz _ rfl,rfl,rfl⟩,λb E=>?_,q⟩;have e:b=i.heap.objs.size:=by simpa using E
 subst e;exact f.fpOk (ii _) (f.hok.fresh (ii _))
def HY{l:Expr}{r:TE}(C:PE X l r):PI X tg l (Ri X.K r):=by
 intro B s Z H R j h;refine ka (C B s Z H _ j h) λv i ⟨x,u,f,G,z⟩=>?_;obtain⟨a,e,⟨xs,F⟩,q⟩:=z;subst e;cases G;obtain⟨L,M,p,O⟩:=f.tuple F;refine wpAny_pyIter_tuple (p) ?_;refine⟨i.heap.objs.size,[i.heap.objs.size],_,_,u,rfl,f.kept (t':=i.toks) λb o e=>n_ _ e,xZ a _,⟨_,tz _ rfl,rfl,rfl⟩,λb E=>?_,q⟩;have e:b=i.heap.objs.size:=by simpa using E
 subst e;exact f.fpOk (ii _) (f.hok.fresh (ii _))
def B2{j:VU}{Z:St}{H:Hp}{s:Shared}{R:It->Hp->Prop}{E:VB}{lo f:Int}{t u v:Tok}{i:Nat}(r:Inv X j Z H s)(z:-(2^62)<=lo)(F:lo<2^62)(G:-(2^62)<=f)(B:f<2^62)(q:R (PD lo (f-lo).toNat) H):wpAny (model X.prog X.w) X.A (pyIter (.ref s.heap.objs.size)) (Rf X j Z tg R) E { s with heap:=s.heap.push { cls:=.type "range",data:=.fields #[.int lo t,.int f u,.int 1 v]},toks:=i}:=by
 refine wpAny_pyIter_range (IsRange.new ..) (small_one z F G B) ?_;have l:Inv X j Z H { s with heap:=s.heap.push { cls:=.type "range",data:=.fields #[.int lo t,.int f u,.int 1 v]},toks:=i}:=r.kept λb o e=>n_ _ e
 refine⟨(s.heap.push { cls:=.type "range",data:=.fields #[.int lo t,.int f u,.int 1 v]}).objs.size,[(s.heap.push { cls:=.type "range",data:=.fields #[.int lo t,.int f u,.int 1 v]}).objs.size],_,_,H,rfl,
  l.kept (t':=i) λb o e=>n_ _ e,xJ _ lo (f-lo).toNat,?_,λb C=>?_,q⟩
 .have e1:lo+((0:Nat):Int)*1=lo:=by simp
  have e2:(((f-lo).toNat:Nat):Int)-((0:Nat):Int)=Builtin.Range.rangeSize lo f 1:=by rw[rangeSize_one];split<;>lia
  rw[e1,e2];exact tz _ rfl
 .have e:b=(s.heap.push { cls:=.type "range",data:=.fields #[.int lo t,.int f u,.int 1 v]}).objs.size:=by simpa using C
  subst e;exact l.fpOk (ii _) (l.hok.fresh (ii _))
def Ms(l:TA):TI:=λZ H R=>l Z H λi f=>∃j:Int,i=[.int j] /\ -(2^62)<=j/\j<2^62/\R (PD 0 j.toNat) f
def Am{a:Expr}{u:TA}{p f:Pos}(F:Gl X "range")(L:X.mg "range"=Y)(B:PA X [a] u)(z:starEach [a] X.env=[(T,eval a X.env)]:=by rfl):PI X tg (.Call (.Name "range" p) [a] [] f) (Ms u):=by
 intro C s Z H R i h;refine Call_ (gT i F L boot_range (PyProof.Rows.callWith_type1 (ka (B f C s Z H _ i h) λQ S ⟨U,P,E,M,l⟩=>?_) z rfl));obtain⟨j,e,l,G,q⟩:=l;subst e
 cases M with
 |cons r O =>
  cases O;obtain⟨t,rfl⟩:=r;exact call_range_1 (B2 E ⋯ ⋯ l G (by simpa using q))
def Rj(C:TI)(g:TG)(tb:TS):TS:=λD Z H=>C Z H λf z=>∃W:Nat->Nat->St->Hp->Prop,(∃m,W 0 m Z z)/\∀i m Z H,W i m Z H ->
 (f.stop i H/\D.nx Z H)\/(f.go i H/\∃N:St->Hp->Prop,(∀l j,N l j->∃r,r<m/\W (i+1) r l j)/\∀x j,f.yld i H x j->g x Z j λu B=>tb { D with nx:=N,ct:=N,bk:=D.nx} u B)
def kZ(f:VS)(h:Heap):VU:=f.filterMap λb=>(h.get? b).map λo=>(b,o)
def iq(f:b∈fp)(e:h.get? b=J o):(b,o)∈kZ fp h:=Dq.mpr ⟨b,f,by rw[e];rfl⟩
def ze(f:p∈kZ fp h):p.1∈fp/\h.get? p.1=J p.2:=by
 obtain⟨b,j,e⟩:=Dq.mp f
 cases q:h.get? b with
 |none=>rw[q]at e;cases e
 |some o =>
  rw[q]at e;have i:=Option.some.inj e;subst i;exact⟨j,q⟩
def Inv.pinned{j:VU}{Z:St}{H:Hp}{s:Shared}{i:VS}(f:Inv X j Z H s)(hf:∀b∈i,jx X j H b)(r:∀b∈i,∃o,s.heap.get? b=J o/\∀v,o.data≠.cell v):Inv X (j++kZ i s.heap) Z H s :=
 f.pins_of λp u=>(nq.mp u).elim (λz=>f.pin p (oI _ z)) λz=>by
  obtain⟨l,e⟩:=ze z;obtain⟨F,E,C,_⟩:=hf p.1 l;obtain⟨o,B,d⟩:=r p.1 l
  simp_all
def Inv.unpinned{Nc j:VU}{Z:St}{H:Hp}{s:Shared}(f:Inv X (Nc++j) Z H s):Inv X Nc Z H s:=f.pins_of λp i=>f.pin p (oI _ (s_ _ i))
def HZ(Q:PassesOwn (model X.prog X.w) X.A X.env X.xe)(hc:X.calm=I)(hi:PI X tg iter wi)(hg:PG X tg g)(E:PSs X body tb)(hs:∀x,foldedSetIterable iter X.env x=pure x:=by intro _;rfl):PS X (.For tg iter body [] pos) (Rj wi g tb):=by
 intro L s Z H D an h;refine wpAny_For (ka (hi L s Z H _ an h) λv s1 h1=>ka h1 λay s2 h2=>?_) hs;obtain⟨it,P,tn,ax,H2,e,I2,l,as,f2,W,⟨m0,w0⟩,turn⟩:=h2;subst e;have z:∀{F:Hp},(∀b∈P,F b=Y)->∀b∈P,jx X L F b:=λhn b E=>⟨hn b E,(f2 b E).2⟩;refine codeAny_forLoop_any (λn s'=>∃i U F,Inv X L U F s'/\tn i s'.heap/\(∀b∈P,F b=Y)/\W i n U F) ?_ m0 ⟨0,Z,H2,I2,as,λb E=>(f2 b E).1,w0⟩;rintro n s3 ⟨i,S,H3,I3,O,R,w3⟩;rcases turn i n S H3 w3 with⟨stop,qn⟩|⟨go,N,hN,step⟩
 .refine wpAny_passesOwn Q (ka (l.done X rfl rfl rfl hc i L s3 S H3 X.xe I3 (z R) O stop) λr s4 ⟨hr,I4⟩=>?_);subst hr;exact wpAny_execs_nil ⟨S,H3,I4,qn⟩
 .refine wpAny_passesOwn Q (ka (l.item X rfl rfl rfl hc i L s3 S H3 X.xe I3 (z R) O go) λr s4 ⟨u,hr,h4⟩=>?_);subst hr;refine wpAny_passesOwn Q (ka h4 λ_ s5 ⟨x,H5,I5,r5,y5,M,ap⟩=>?_);have ab:=I5.pinned (z ap) (l.obj _ _ M);refine wpAny_passesOwn Q (ka (hg _ s5 S H5 x u _ ab r5 (step x H5 y5)) λ_ s6 ⟨Z6,H6,I6,q6⟩=>?_);refine wpAny_passesOwn Q (ka (E _ s6 Z6 H6 _ I6 q6) λf s7 G=>?_);have again:∀{j:St}{C:Hp},Inv X (L++kZ P s5.heap) j C s7->N j C->∃m,m<n/\∃i U F,Inv X L U F s7/\tn i s7.heap/\(∀b∈P,F b=Y)/\W i m U F:=λ{j C} B n7=>by
   obtain⟨m',hm,w7⟩:=hN j C n7;refine⟨m',hm,i+1,j,C,B.unpinned,l.keep _ _ _ M λb E o e=>(B.pin (b,o) (oI _ (oI _ (iq E e)))).1,λb E=>?_,w7⟩;obtain⟨o,e,d⟩:=l.obj _ _ M b E;exact(B.pin (b,o) (oI _ (oI _ (iq E e)))).2.1
  cases f with
  |next=>obtain⟨j,C,B,n7⟩:=G;exact again B n7
  |cont=>obtain⟨j,C,B,n7⟩:=G;exact again B n7
  |brk=>obtain⟨j,C,B,G⟩:=G;exact⟨j,C,B.unpinned,G⟩
  |ret v=>obtain⟨x7,j,C,B,r7,G⟩:=G;exact⟨x7,j,C,B.unpinned,r7,G⟩
end
abbrev R2:=V->V->Hp->VK->Prop
def OpR(X:Cx)(f:Value->Value->Sem Value)(r:R2):Prop :=
 ∀(i:VU)(s:Shared)(Z:St)(H:Hp)(x y:V)(v u:Value)(Q:VK),Inv X i Z H s->aM x v->aM y u->r x y H Q ->
  wpAny (model X.prog X.w) X.A (f v u) (EP X i Z Q) X.xe s
def PF(X:Cx)(f:Value->Sem Value)(r:V->Hp->VK->Prop):Prop :=
 ∀(i:VU)(s:Shared)(Z:St)(H:Hp)(x:V)(v:Value)(Q:VK),Inv X i Z H s->aM x v->r x H Q ->
  wpAny (model X.prog X.w) X.A (f v) (EP X i Z Q) X.xe s
def cS(X:Cx)(f:Value)(r:List V->Hp->VK->Prop):Prop :=
 ∀(i:VU)(s:Shared)(Z:St)(H:Hp)(xs:List V)(j:VT)(Q:VK),Inv X i Z H s->aw xs j->r xs H Q ->
  wpAny (model X.prog X.w) X.A (call f j) (EP X i Z Q) X.xe s
def Rk(X:Cx)(r:V->Hp->(Bool->Hp->Prop)->Prop):Prop :=
 ∀(f:VU)(s:Shared)(Z:St)(H:Hp)(x:V)(v:Value)(Q:Bool->Hp->Prop),Inv X f Z H s->aM x v->r x H Q ->
  wpAny (model X.prog X.w) X.A (truthy v) (TP X f Z Q) X.xe s
def Mt(r:R2)(f tb:TE):TE:=λZ H Q=>f Z H λx i=>tb Z i λy j=>r x y j Q
def Vi(r:V->Hp->VK->Prop)(f:TE):TE:=λZ H Q=>f Z H λx i=>r x i Q
def rI(C:Int->Int->Prop)(g:Int->Int->V):R2:=λx y H Q=>∃i j,x=.int i/\y=.int j/\C i j/\Q (g i j) H
def El(g:Int->Int->V):R2:=λx y H Q=>∃i j,x=.int i/\y=.int j/\Q (g i j) H
def rU(g:Int->V):V->Hp->VK->Prop:=λx H Q=>∃i,x=.int i/\Q (g i) H
section
variable{X:Cx}{a b c:Expr}{ta tb tc:TE}{pos:Pos}
def H4(F:PE X a ta)(O:PE X b tb){r:VU}{s:Shared}{Z:St}{H:Hp}{R:V->V->Hp->Prop}(C:Inv X r Z H s)(h:ta Z H λx B=>tb Z B λy i=>R x y i){Q:VB}{f:Value->Value->Sem Value}(hf:∀v u z x y i,Inv X r Z i z->aM x v->aM y u->R x y i->wpAny (model X.prog X.w) X.A (f v u) Q X.xe z):
  wpAny (model X.prog X.w) X.A (eval a X.env) (λv l=>wpAny (model X.prog X.w) X.A (eval b X.env) (λu j=>wpAny (model X.prog X.w) X.A (f v u) Q X.xe j) X.xe l) X.xe s:=by
 refine ka (F r s Z H _ C h) λv U ⟨x,B,L,S,E⟩=>?_;refine ka (O r U Z B _ L E) λu z ⟨y,i,G,P,M⟩=>?_;exact hf v u z x y i G S P M
def Mu{i:Operator}{r:R2}(E:OpR X (binaryOp i) r)(j:PE X a ta)(F:PE X b tb):PE X (.BinOp a i b pos) (Mt r ta tb):=by intro C s Z H Q f h;exact wpAny_BinOp (H4 j F f h λv u G x y L B z l q=>E C G Z L x y v u Q B z l q)
def Mw(u:PF X (unaryOp op) r)(E:PE X a ta):PE X (.UnaryOp op a pos) (Vi r ta):=by intro i s Z H Q f h;exact UnaryOp_ (ka (E i s Z H _ f h) λv B ⟨x,z,l,j,C⟩=>u i B Z z x v Q l j C)
def Vj{f:Value->Value->Sem Value}{C:Int->Int->Prop}{g:Int->Int->Int}(rule:∀(i j:Int)(t u:Tok)(s:Shared)(Q:VB)(E:VB),C i j->Q (.int (g i j) s.toks) { s with toks:=s.toks+1}->wpAny (model X.prog X.w) X.A (f (.int i t) (.int j u)) Q E s):
  OpR X f (rI C λi j=>.int (g i j)):=by
 intro G s Z H x y v u Q l z r h;obtain⟨i,j,rfl,rfl,F,q⟩:=h;obtain⟨t,rfl⟩:=z;obtain⟨B,rfl⟩:=r;exact rule i j t B s _ _ F ⟨.int (g i j),H,l.tok _,⟨_,rfl⟩,q⟩
def My{f:Value->Value->Sem Value}{g:Int->Int->Int}(rule:∀(i j:Int)(t u:Tok)(s:Shared)(Q:VB)(E:VB),Q (.int (g i j) s.toks) { s with toks:=s.toks+1}->wpAny (model X.prog X.w) X.A (f (.int i t) (.int j u)) Q E s):
  OpR X f (El λi j=>.int (g i j)):=by
 intro C s Z H x y v u Q l z r h;obtain⟨i,j,rfl,rfl,q⟩:=h;obtain⟨t,rfl⟩:=z;obtain⟨B,rfl⟩:=r;exact rule i j t B s _ _ ⟨.int (g i j),H,l.tok _,⟨_,rfl⟩,q⟩
def Em{f:Value->Value->Sem Value}{g:Int->Int->Bool}(rule:∀(i j:Int)(t u:Tok)(s:Shared)(Q:VB)(E:VB),Q (.bool (g i j)) s->wpAny (model X.prog X.w) X.A (f (.int i t) (.int j u)) Q E s):
  OpR X f (El λi j=>.bl (g i j)):=by
 intro C s Z H x y v u Q l z r h;obtain⟨i,j,rfl,rfl,q⟩:=h;obtain⟨t,rfl⟩:=z;obtain⟨B,rfl⟩:=r;exact rule i j t B s _ _ ⟨.bl (g i j),H,l,rfl,q⟩
def iM(i j:Int):Prop:=0<=j/\j<=1000000/\i.natAbs<2^64
def H_:OpR X (binaryOp .Add) (El λi j=>.int (i+j)):=My λ_ _ _ _ _ _ _ q=>add_int q
def Ia:OpR X (binaryOp .Sub) (El λi j=>.int (i-j)):=My λ_ _ _ _ _ _ _ q=>sub_int q
def Ib:OpR X (binaryOp .Pow) (rI iM λi j=>.int (i^j.toNat)):=Vj λ_ _ _ _ _ _ _ f q=>pow_int_small f.1 f.2.1 f.2.2 q
def Vk{f:Value->Sem Value}{g:Int->Int}(rule:∀(i:Int)(t:Tok)(s:Shared)(Q:VB)(E:VB),Q (.int (g i) s.toks) { s with toks:=s.toks+1}->wpAny (model X.prog X.w) X.A (f (.int i t)) Q E s):
  PF X f (rU λi=>.int (g i)):=by
 intro r s Z H x v Q j l h;obtain⟨i,rfl,q⟩:=h;obtain⟨t,rfl⟩:=l;exact rule i t s _ _ ⟨.int (g i),H,j.tok _,⟨_,rfl⟩,q⟩
def Ic:PF X (unaryOp .USub) (rU λi=>.int (-i)):=Vk λ_ _ _ _ _ q=>neg_int q
def Ie{i:VU}{Z:St}{H:Hp}{s:Shared}{Q:VK}{k j:Bool}(f:Inv X i Z H s)(q:Q (.bl k) H)(e:k=j):EP X i Z Q (.bool j) s:=by subst e;exact⟨.bl k,H,f,rfl,q⟩
def Mz:OpR X (compareOp .Lt) (El λi j=>.bl (decide (i<j))):=Em λ_ _ _ _ _ _ _ q=>lt_int q
def MB:OpR X (compareOp .LtE) (El λi j=>.bl (decide (i<=j))):=Em λ_ _ _ _ _ _ _ q=>le_int q
def MC:OpR X (compareOp .Gt) (El λi j=>.bl (decide (j<i))):=Em λ_ _ _ _ _ _ _ q=>gt_int q
def MD:OpR X (compareOp .GtE) (El λi j=>.bl (decide (j<=i))):=Em λ_ _ _ _ _ _ _ q=>ge_int q
def En:OpR X (compareOp .IsNot) (λx y H Q=>y=.non/\Q (.bl (!decide (x=.non))) H):=by
 intro l s Z H x y v u Q f i j h;obtain⟨rfl,q⟩:=h;cases j;refine isnot_none_gen (Ie f q ?_);cases x<;>first
  |(obtain⟨t,rfl⟩:=i;rfl)
def Dv(b:Expr)(h:op≠.In:=by decide)(f:op≠.NotIn:=by decide):behindInMarks op b=T:=by
 have e1:(op==CmpOp.In)=T:=by cases op<;>first | rfl | exact absurd rfl h
 have e2:(op==CmpOp.NotIn)=T:=by cases op<;>first | rfl | exact absurd rfl f
 cases b<;>simp[behindInMarks,e1,e2]
def Eo{f:CmpOp}{r:R2}(E:OpR X (compareOp f) r)(j:PE X a ta)(F:PE X b tb)(G:behindInMarks f b=T):PE X (.Compare a [f] [b] pos) (Mt r ta tb):=by intro C s Z H Q i h;exact wpAny_Compare1 (H4 j F i h λv u L x y M B z l q=>E C L Z M x y v u Q B z l q) G
def MF(t:TE):TT:=λZ H Q=>t Z H λx f=>∃k,x=.bl k/\Q k f
def Ep(O:OpR X (compareOp op) r)(C:PE X a ta)(P:PE X b tb)(R:behindInMarks op b=T):PT X (.Compare a [op] [b] pos) (MF (Mt r ta tb)):=by
 intro f s Z H Q i h
 refine wpAny_isTrue_Compare1 (ka (C f s Z H _ i h) λv s1 ⟨x,l,G,r1,B⟩=>ka (P f s1 Z l _ G B) λu W ⟨y,H2,E,U,M⟩ =>
  ka (O f W Z H2 x y v u _ E r1 U M) λc s3 ⟨z,L,j,F,k,e,S⟩=>?_) R
 subst e;cases F;exact wpAny_truthy_bool ⟨L,j,S⟩
def yY(r u:R2)(ta tb tc:TE):TE:=λZ H Q=>ta Z H λx j=>tb Z j λy l=>r x y l λz f=>∃k,z=.bl k /\
 (if k=I then tc Z f λB i=>u y B i Q else Q (.bl T) f)
def AZ(ho:OpR X (compareOp op) r)(j:OpR X (compareOp op') r')(O:PE X a ta)(hb:PE X b tb)(hc:PE X c tc)(hm:lastMarks [op,op'] [b,c]=T:=by with_unfolding_all rfl):PE X (.Compare a [op,op'] [b,c] pos) (yY r r' ta tb tc):=by
 intro f s Z H Q i h
 refine Compare_chain (ka (O f s Z H _ i h) λv s1 ⟨x,L,U,r1,M⟩=>chain_link (ka (hb f s1 Z L _ U M) λu s2 ⟨y,H2,P,E,W⟩ =>
  ka (ho f s2 Z H2 x y v u _ P r1 E W) λd s3 ⟨z,B,l,R,k,e,C⟩=>?_)) hm
 subst e;cases R;refine wpAny_truthy_bool ?_
 cases k with
 |false=>exact ite_ff ⟨.bl T,B,l,rfl,C⟩
 |true=>exact ite_tt (chain_last (ka (hc f s3 Z B _ l C) λw' s4 ⟨z',G,F,r4,S⟩=>j f s4 Z G y z' u w' Q F E r4 S))
def MK(K:h8)(x:V)(H:Hp)(k:Bool):Prop :=
 match x with
 |.non=>k=T
 |.bl b=>k=b
 |.int i=>k=(i != 0)
 |.str y=>y.length<=sizeLine/\k=((y.length:Int) != 0)
 |.byt y=>y.size<=sizeLine/\k=((y.size:Int) != 0)
 |.ref p=>(∃xs,SqL K H p xs/\k=!xs.isEmpty)\/(∃xs,SqT K H p xs/\k=!xs.isEmpty)\/∃f,H p=J (.dK f)/\k=!f.isEmpty
 |_=>False
def yu{κ:Type}{f:List (κ×V)}{i:List (κ×Value)}(r:KV f i):(!i.isEmpty)=!f.isEmpty:=by cases r<;>rfl
def n4(r:aw xs its):(!its.toArray.isEmpty)=!xs.isEmpty:=by cases r<;>simp
def oW:(sizeLine:Nat)<2^63:=by rw[sizeLine_eq];decide
def uX:Rk X (λx H Q=>∃k,MK X.K x H k/\Q k H):=by
 intro P s Z H x v Q f z h;obtain⟨k,e,q⟩:=h;have O:sizeLine=16777216:=sizeLine_eq
 cases x with
 |non =>
  cases z;have j:k=T:=e;subst j;exact truthy_none ⟨H,f,q⟩
 |bl b =>
  cases z;have j:k=b:=e;subst j;exact wpAny_truthy_bool ⟨H,f,q⟩
 |int i =>
  obtain⟨t,rfl⟩:=z;have j:k=(i != 0):=e;subst j;exact PySem.P.truthy_int ⟨H,f,q⟩
 |str y =>
  obtain⟨t,rfl⟩:=z;obtain⟨L,j⟩:y.length<=sizeLine/\k=((y.length:Int) != 0):=e;subst j;exact PySem.P.truthy_str ⋯ ⟨H,f.tok _,q⟩
 |byt y =>
  obtain⟨t,rfl⟩:=z;obtain⟨L,j⟩:y.size<=sizeLine/\k=((y.size:Int) != 0):=e;subst j;exact PySem.W.truthy_bytes ⋯ ⟨H,f.tok _,q⟩
 |ref p =>
  cases z;have j:(∃xs,SqL X.K H p xs/\k=!xs.isEmpty)\/(∃xs,SqT X.K H p xs/\k=!xs.isEmpty)\/∃l,H p=J (.dK l)/\k=!l.isEmpty:=e;rcases j with⟨xs,B,j⟩|⟨xs,B,j⟩|⟨l,B,j⟩
  .subst j;obtain⟨F,r,E,G⟩:=f.list B;have u:=r.length;exact wpAny_truthy_list E.isList (by simp only[rT];lia) ⟨H,f.tok _,by rw[n4 r];exact q⟩
  .subst j;obtain⟨F,r,E,G⟩:=f.tuple B;have u:=r.length;exact truthy_tuple E (by simp only[rT];lia) ⟨H,f.tok _,by rw[n4 r];exact q⟩
  .subst j;obtain⟨G,M,C,r,m⟩:l.length<=sizeLine/\(p==sysModules)=T/\∃C,KV l C/\s.heap.DictOf (pV X.prog X.w) p C:=f.hok p _ B;have u:l.length=C.length:=Paired.length r;exact wpAny_truthy_dict M m ⋯ ⟨H,f.tok _,by rw[yu r];exact q⟩
 |_=>exact(show False from e).elim
def BK(z:PE X a ta)(C:∀f,isTrue a X.env f=(do let v <-f;standAt a.pos;holding [v] (truthy v))):
  PT X a (λZ H Q=>ta Z H λx l=>∃k,MK X.K x l k/\Q k l):=by
 intro j s Z H Q i h;exact isTrue_plain (ka (z j s Z H _ i h) λv F ⟨x,r,B,E,u⟩=>uX j F Z r x v Q B E u) (C _)
def yG:OpR X (binaryOp .Add) (λx y H Q=>∃i j,x=.str i/\y=.str j/\i.length+j.length<=sizeLine/\Q (.str (i++j)) H):=by intro E s Z H x y v u Q f r l h;obtain⟨i,j,rfl,rfl,B,q⟩:=h;obtain⟨t,rfl⟩:=r;obtain⟨z,rfl⟩:=l;exact add_str (λz C=>⟨.str (i++j),H,f.tok _,⟨_,rfl⟩,q⟩) B
def j8(r:aw [x] us):∃u,us=[u]/\aM x u:=by
 cases r with
 |cons f i=>cases i;exact⟨_,rfl,f⟩
def vals2(r:aw [x,y] us):∃u f,us=[u,f]/\aM x u/\aM y f:=by
 cases r with
 |cons i l =>
  cases l with
  |cons z j=>cases j;exact⟨_,_,rfl,i,z⟩
def Cw:cS X (.builtin "abs") (λxs H Q=>∃i,xs=[.int i]/\Q (.int (if i<0 then -i else i)) H):=by intro l s Z H xs z Q f r h;obtain⟨i,rfl,q⟩:=h;obtain⟨u,rfl,t,rfl⟩:=j8 r;exact call_abs_int λu j=>⟨.int (if i<0 then -i else i),H,f.tok _,⟨_,rfl⟩,q⟩
def rH(z:X.calm=I):cS X (.builtin "max") (λxs H Q=>∃i j,xs=[.int i,.int j]/\Q (.int (if j>i then j else i)) H):=by
 intro C s Z H xs L Q f r h;obtain⟨i,j,rfl,q⟩:=h;obtain⟨u,E,rfl,⟨t,rfl⟩,⟨G,rfl⟩⟩:=vals2 r;refine max_two_ints (f.ok.hd z) λF B k=>⟨_,H,f.kept k,?_,q⟩;by_cases l:j>i
 .rw[c_ l,c_ l];exact⟨_,rfl⟩
 .rw[f_ l,f_ l];exact⟨_,rfl⟩
def rS(z:X.calm=I):cS X (.builtin "min") (λxs H Q=>∃i j,xs=[.int i,.int j]/\Q (.int (if j<i then j else i)) H):=by
 intro C s Z H xs L Q f r h;obtain⟨i,j,rfl,q⟩:=h;obtain⟨u,E,rfl,⟨t,rfl⟩,⟨G,rfl⟩⟩:=vals2 r;refine min_two_ints (f.ok.hd z) λF B k=>⟨_,H,f.kept k,?_,q⟩;by_cases l:j<i
 .rw[c_ l,c_ l];exact⟨_,rfl⟩
 .rw[f_ l,f_ l];exact⟨_,rfl⟩
def Rm(K:h8)(x:V)(H:Hp)(n:Nat):Prop :=
 match x with
 |.str y=>y.length<=sizeLine/\n=y.length
 |.byt y=>y.size<=sizeLine/\n=y.size
 |.ref p=>(∃xs,SqL K H p xs/\n=xs.length)\/∃xs,SqT K H p xs/\n=xs.length
 |_=>False
def kF:cS X (.builtin "len") (λxs H Q=>∃x n,xs=[x]/\Rm X.K x H n/\Q (.int n) H):=by
 intro M s Z H xs O Q f r h;obtain⟨x,n,rfl,e,q⟩:=h;obtain⟨u,rfl,l⟩:=j8 r;have L:=sizeLine_eq
 cases x with
 |str y =>
  obtain⟨t,rfl⟩:=l;obtain⟨F,j⟩:=e;subst j;exact len_str ⋯ ⟨.int _,H,f.tok _,⟨_,rfl⟩,q⟩
 |byt y =>
  obtain⟨t,rfl⟩:=l;obtain⟨F,j⟩:=e;subst j;exact PySem.W.len_bytes ⋯ ⟨.int _,H,f.tok _,⟨_,rfl⟩,q⟩
 |ref p =>
  cases l;have j:=e;rcases j with⟨xs,z,j⟩|⟨xs,z,j⟩
  .subst j;obtain⟨E,C,B,G⟩:=f.list z;have i:=C.length;exact Calls.call_len_list B.isList (by simp only[rT];lia) ⟨.int xs.length,H,f.tok _,⟨_,by simp only[rT];rw[i]⟩,q⟩
  .subst j;obtain⟨E,C,B,G⟩:=f.tuple z;have i:=C.length;exact len_tuple B (by simp only[rT];lia) ⟨.int xs.length,H,f.tok _,⟨_,by simp only[rT];rw[i]⟩,q⟩
 |_=>exact(e).elim
end
section
variable{prog:Program}{w:World}{A:Around}{E:VB}{s:Shared}{K:h8}{x dx C f:Addr}{mA:VC}{name:Str}{v:Value}
end
def qG.some_of(r:qG (J v) o):∃u,o=J u/\aM v u:=by
 cases o with
 |none=>exact(r).elim
 |some u=>exact⟨u,rfl,r⟩
section
variable{P:Program}{w:World}{H H':Hp}{h h':Heap}{a C dx:Addr}{fs fs':List (Str × V)}
end
section
variable{X:Cx}{Nc:List (Addr × Obj)}{Z:St}{H:Hp}{s:Shared}{a C dx:Addr}{fs:List (Str × V)}{f:Str}{v:V}{A:Around}{E:VB}
end
section
variable{X:Cx}{o e value:Expr}{f:Str}{pos pos' tpos:Pos}{ta tv:TE}
end
section
variable{X:Cx}{Nc:List (Addr × Obj)}{Z:St}{H:Hp}{s:Shared}{A:Around}{E:VB}{Q:VB}{c:Value}{b:Bool}
end
structure Room(k:Nat)(A:Around):Prop where
 hd:A.handled=Y
 dp:A.depth+3*k+5<recursionLimit
 un:A.units+16*k+200<cLine
 gd:A.guards=J []
def Room.mono(r:Room k A)(h:j<=k):Room j A:=⟨r.hd,by have:=r.dp;lia,by have:=r.un;lia,r.gd⟩
def Room.deeper(r:Room (k+1) A)(env:Env):Room k (A.deeper env) :=
 ⟨r.hd,by have:=r.dp;show A.depth+1+3*k+5<_;lia,by have:=r.un;show A.units+3+16*k+200<_;lia,r.gd⟩
def Room.depth(r:Room k A):A.depth<recursionLimit:=by have:=r.dp;lia
def Room.units(r:Room k A):A.units+64<cLine:=by have:=r.un;lia
def Rn:TA:=λ_ H Q=>Q [] H
def ML(l:TE)(f:TA):TA:=λZ H Q=>l Z H λx i=>f Z i λxs j=>Q (x::xs) j
section
variable{X:Cx}{e:Expr}{es:VX}{te:TE}{t:TA}{pos:Pos}
def eQ:PA X [] Rn:=λ_ _ _ _ H Q f h=>Calls.spliced_nil ⟨[],H,f,.nil,h⟩
def cA(z:PE X e te)(E:PA X es t)(r:starEach (e::es) X.env=(T,eval e X.env)::starEach es X.env:=by rfl):PA X (e::es) (ML te t):=by intro pos i s Z H Q f h;rw[r];show wpAny _ _ (spliced ((T,eval e X.env)::backTo pos (starEach es X.env))) _ _ s;refine Calls.spliced_cons (ka (z i s Z H _ f h) λu O ⟨x,j,C,L,l⟩=>?_);exact ka (E pos i O Z j _ C l) λR P ⟨xs,M,B,G,F⟩=>⟨x::xs,M,B,.cons L G,F⟩
def Ro(t:TA):TE:=λZ H Q=>t Z H λxs f=>xs.length<=sizeLine/\∀p,f p=Y->Q (.ref p) (kx f p (.tup xs))
def Rq(t:TA):TE:=λZ H Q=>t Z H λxs f=>xs.length<=sizeLine/\∀p,f p=Y->Q (.ref p) (kx f p (.lst xs))
def AC{x1}(h:PA X es t):PE X (.Tuple es x1 pos) (Ro t):=by intro B s Z H Q f C;refine wpAny_Tuple_spliced (ka (h pos B s Z H _ f C) λE i ⟨xs,l,j,r,z,q⟩=>⟨by rw[<-r.length];exact z,?_⟩);have hf:=j.hok.fresh (ii _);refine⟨.ref i.heap.objs.size,kx l i.heap.objs.size (.tup xs),j.laid (t':=i.toks) (λb u e=>n_ _ e) (ii _) ?_,rfl,q _ hf⟩;exact⟨z,E,r,⟨_,tz _ rfl,rfl,⟨_,rfl⟩,rfl⟩⟩
def Ig(h:PA X es t):PE X (.List es pos) (Rq t):=by intro B s Z H Q f C;refine wpAny_List_spliced (ka (h pos B s Z H _ f C) λE i ⟨xs,l,j,r,z,q⟩=>⟨by rw[<-r.length];exact z,?_⟩);have hf:=j.hok.fresh (ii _);refine⟨.ref i.heap.objs.size,kx l i.heap.objs.size (.lst xs),j.laid (t':=i.toks) (λb u e=>n_ _ e) (ii _) ?_,rfl,q _ hf⟩;exact⟨z,E,0,r,tz _ rfl⟩
end
abbrev Sp:=List V->Hp->VK->XK->Prop
abbrev Dl:=List Env->Hp->Shared->XK->Value->Shared->Prop
structure Er(P:Program)(w:World)(K:h8)(mg:VC)(base:Heap)(A:Around)(outer:List Env)(s:Shared)(H:Hp):Prop where
 frames:A.frames=J outer
 mod:Mod K mg base
 bs:∀b o,base.get? b=J o->s.heap.get? b=J o/\H b=Y
 bsz:base.objs.size<=s.heap.objs.size
 funs:s.heap.FunFrames base outer
 frf:∀b∈wh outer,H b=Y
 hok:HOk P w H s.heap
 bare:AllBare s.gens
inductive CE(outer:List Env)(P:Program)(w:World)(H:Hp)(s:Shared)(Q:VK)(u:Value)(s':Shared):Prop
 |mk(v:V)(H':Hp)(o:s'.os=s.os)(b:AllBare s'.gens)(n:Un (wh outer) [] H H' s.heap s'.heap)(k:HOk P w H' s'.heap)(r:aM v u)(q:Q v H'):CE outer P w H s Q u s'
def CR(i:Dl)(outer:List Env)(P:Program)(w:World)(H:Hp)(s:Shared)(Q:VK)(E:XK)(r:Result)(f:Shared):Prop :=
 match r with
 |.ok (.ret u)=>CE outer P w H s Q u f
 |.ok _=>False
 |.error e=>i outer H s E e f
structure FnOk(P:Program)(w:World)(K:h8)(mg:VC)(base:Heap)(CX:Dl)(k:Nat)(f:Addr)(fd:FuncData)(ps:VM)(sp:Sp):Prop where
 len:∀vs H Q E,sp vs H Q E->vs.length=ps.length
 run:∀(A:Around)(outer:List Env)(s:Shared)(H:Hp)(args:Args)(us:VT)(vs:List V)(Q:VK)(E:XK),Room k A->Er P w K mg base A outer s H->BindsTo s fd args (ps.zip us)->aw vs us->sp vs H Q E ->
  codeAny (model P w) A (.call (.ref f) args) (CR CX outer P w H s Q E) s
def FnOk.mono{P:Program}{w:World}{K:h8}{mg:VC}{base:Heap}{r:Dl}{j k:Nat}{f:Addr}{fd:FuncData}{l:VM}{u:Sp}(F:FnOk P w K mg base r j f fd l u)(h:j<=k):
  FnOk P w K mg base r k f fd l u:=⟨F.len,λA outer s H i B C Q E z=>F.run A outer s H i B C Q E (z.mono h)⟩
def FnOk.imp{P:Program}{w:World}{K:h8}{mg:VC}{base:Heap}{u:Dl}{k:Nat}{f:Addr}{fd:FuncData}{r:VM}{z l:Sp}(F:FnOk P w K mg base u k f fd r z)(h:∀i H Q E,l i H Q E->z i H Q E):FnOk P w K mg base u k f fd r l :=
 ⟨λi H Q E q=>F.len i H Q E (h _ _ _ _ q),λA outer s H j M i Q E C L G hv B=>F.run A outer s H j M i Q E C L G hv (h _ _ _ _ B)⟩
section
variable{X:Cx}{Nc:List (Addr × Obj)}{Z:St}{H:Hp}{s s':Shared}
def Inv.env0(f:Inv X Nc Z H s):Er X.prog X.w X.K X.mg X.base X.A X.stack s H :=
 ⟨f.ok.frames,f.ok.mod,f.bs,o0 f.ok.bsz f.sz,f.stack,f.stkFree,f.hok,f.bare⟩
def Inv.after(f:Inv X Nc Z H s)(h:CE X.stack X.prog X.w H s Q u s'):EP X Nc Z Q u s':=by obtain⟨v,l,os,bare,un,hok,r,q⟩:=h;obtain⟨i,g,d,t,j⟩:=s';obtain rfl:=os;exact⟨v,l,f.call (h':=i) (g':=g) (d':=d) (t':=t) un hok bare (λb z=>absurd z (by simp)),r,q⟩
end
def o3(K:h8)(fd:FuncData)(i:VM)(j:VT):Prop :=
 ∀(s:Shared)(f:VT),K.In s.heap->(f++j).length=i.length->BindsTo s fd ⟨f,[]⟩ (i.zip (f++j))
def o3.all{K:h8}{fd:FuncData}{i:VM}(h:∀f:VT,f.length=i.length->bindArgs fd ⟨f,[]⟩=pure (i.zip f)):o3 K fd i []:=λs f _ j=>by
 rw[GK]at j ⊢;exact .of_eq (h f j)
section
variable{X:Cx}{CX:Dl}{k:Nat}{f C:Addr}{fd:FuncData}{ps:VM}{sp:Sp}{dvs:List V}{ds:VT}{E:XK}{x m:Str}{p pos apos:Pos}{e o:Expr}{es:VX}{ta:TE}{t:TA}
end
section
variable{X:Cx}{CX:Dl}{k:Nat}{f C:Addr}{fd:FuncData}{ps ks:VM}{sp:Sp}{E:XK}{x m:Str}{p pos apos kpos:Pos}{e o:Expr}{es:VX}{kws:List Keyword}{te ta:TE}{t tk:TA}{nm:Option Str}{g:VT->VT->VT}{gV:List V->List V->List V}
end
structure pk(N P:VM)(sc:Scope):Prop where
 kind:sc.kind=.function
 co:sc.isCoroutine=T
 gen:sc.isGenerator=T
 nd:N.Nodup
 pre:N.take P.length=P
 par:∀x∈P,sc.names.lookup x=J .local\/sc.names.lookup x=J .cell
 nofree:∀y∈sc.names,y.2≠.free
def qU{kindOf:Str->Option NameKind}{x:Str}:∀{binds:List (Str×Value)}{m:VC},(∀v,(x,v)∉binds)->bindL kindOf binds m x=m x
 |[],_,_=>rfl
 |(n,v)::r,m,h=>by
  unfold bindL;rw[qU λw f=>h w (m_ _ f)];split
  .have:x≠n:=by rintro rfl;exact h v t3
   simp[this]
  .rfl
def se{kindOf:Str->Option NameKind}{x:Str}:∀{binds:List (Str×Value)}{m:VC},(∀v,(x,v)∉binds)->bindC kindOf binds m x=m x
 |[],_,_=>rfl
 |(n,v)::r,m,h=>by
  unfold bindC;rw[se λw f=>h w (m_ _ f)];split
  .rfl
  .have:x≠n:=by rintro rfl;exact h v t3
   simp[this]
def r9{kindOf:Str->Option NameKind}{x:Str}{v:Value}:∀{P:VM}{f:VT}{i:Nat}{m:VC},P.Nodup->P[i]?=J x->f[i]?=J v->kindOf x=J .local ->
  bindL kindOf (P.zip f) m x=J v
 |p::P,w::f,0,m,nd,j,l,r=>by
  simp at j l;subst j;subst l;show bindL kindOf ((p,w)::P.zip f) m p=_;unfold bindL;rw[qU λv hv=>(B_.mp nd).1 (QX hv).1,c_ r];simp
 |p::P,w::f,i+1,m,nd,j,l,r=>by
  unfold bindL;exact r9 (B_.mp nd).2 (by simpa using j) (by simpa using l) r
def rF{kindOf:Str->Option NameKind}{x:Str}{v:Value}:∀{P:VM}{f:VT}{i:Nat}{m:VC},P.Nodup->P[i]?=J x->f[i]?=J v->kindOf x≠J .local ->
  bindC kindOf (P.zip f) m x=J v
 |p::P,w::f,0,m,nd,j,l,r=>by
  simp at j l;subst j;subst l;show bindC kindOf ((p,w)::P.zip f) m p=_;unfold bindC;rw[se λv hv=>(B_.mp nd).1 (QX hv).1,f_ r];simp
 |p::P,w::f,i+1,m,nd,j,l,r=>by
  unfold bindC;exact rF (B_.mp nd).2 (by simpa using j) (by simpa using l) r
def start(N:VM)(f:List V):St:=f.map J++List.replicate (N.length-f.length) Y
def vg(u:Dl)(P:Program)(w:World)(K:h8)(mg:VC)(base:Heap)(N:VM)(j:Str)(i:Scope)(f:Addr)(r:Value)(A:Around)(outer:List Env)(s:Shared)(H:Hp)(E:XK):Cx where
 prog:=P
 w:=w
 K:=K
 mg:=mg
 base:=base
 A:=A.deeper (envOfC j i s.heap.objs.size f r)
 N:=N
 s₀:=s
 H₀:=H
 env:=envOfC j i s.heap.objs.size f r
 outer:=outer
 stack:=envOfC j i s.heap.objs.size f r::outer
 ex:=[]
 calm:=I
 fn:=λ_=>I
 pn:=[]
 xe:=λe z=>wpAny (model P w) (A.deeper (envOfC j i s.heap.objs.size f r)) (leaving (envOfC j i s.heap.objs.size f r) e) (λ_ l=>u outer H s E e l) (λB l=>u outer H s E B l) z
def uA{f:Scope}{n:Nat}{x:Str}(h:f.names.lookup x=J .cell):∃c,(cellsFrom n f.names []).lookup x=J c:=by have q:=PySem.W.cellsFrom_some f.names n [] (.inl h);exact Option.isSome_iff_exists.mp q
def yZ{Z:Dl}{P:Program}{w:World}{K:h8}{mg:VC}{base:Heap}{N F:VM}{l:Str}{j:Scope}{f:Addr}{R:Value}{A:Around}{outer:List Env}{s s1:Shared}{H:Hp}{E:XK}{X:VT}{L:List V}(S:pk N F j)(hd:A.handled=Y)(C:Er P w K mg base A outer s H)(hl:L.length=F.length)(r:aw L X)(x:InCallC s s.heap.objs.size (bindL (envOfC l j s.heap.objs.size f R).kindOf (F.zip X) λ_=>Y) (cellsFrom (s.heap.objs.size+1) j.names []) (bindC (envOfC l j s.heap.objs.size f R).kindOf (F.zip X) λ_=>Y) s1):
  Inv (vg Z P w K mg base N l j f R A outer s H E) [] (start N L) H s1:=by
 have ab:F.length<=N.length:=by have:=congrArg List.length S.pre;rw[L_]at this;lia
 obtain⟨U,tk,rfl,hk⟩:=x.done;have G:∀b:Addr,b∉(vg Z P w K mg base N l j f R A outer s H E).ex:=λb z=>absurd (show b∈([]:VS)from z) (by simp)
 refine⟨⟨C.mod,S.kind,rfl,rfl,ii _,λy z c U B=>?_,λy O=>?_,λy c _ h=>?_,λ_=>hd,Around.frames_deeper C.frames,.inr ⟨rfl,rfl⟩,λb z=>absurd z (G b),C.bs,C.bsz,λb _ _=>G b,λb z=>absurd z (G b),C.funs,C.frf⟩,
  rfl,C.bare,Un.kept hk,⟨_,x.toInCall.ns,λi y v U B h3=>?_⟩,λy c h=>⟨_,x.cell y c h⟩,C.hok.fresh (ii _),λy c h=>?_,λp Q=>absurd (show p∈([]:VU)from Q) (by simp),C.hok.kept hk,?_⟩
 .exact name_of_addr x.apart (PySem.mem_of_lookup U) (PySem.mem_of_lookup B)
 .rcases O with O|O
  .exact uA O
  .exact absurd rfl (S.nofree _ (PySem.mem_of_lookup O))
 .exact vv (x.above y c (PySem.mem_of_lookup h))
 .have W:i<L.length:=by
   unfold start at B;by_cases W:i<L.length
   .exact W
   .rw[C5 (by simpa using W)]at B;rw[Hn]at B
    split at B<;>cases B
  have ha:L[i]?=J v:=by
   unfold start at B;rw[sd (by simpa using W),vu]at B
   cases e:L[i]? with
   |none=>rw[e]at B;cases B
   |some a=>rw[e]at B;cases B;rfl
  obtain⟨u,hu,rv⟩:=r.get ha;have Q:F[i]?=J y:=by rw[<-S.pre,O9 ⋯];exact U
  have M:F.Nodup:=by rw[<-S.pre];exact S.nd.sublist (List.take_sublist _ _)
  refine⟨u,rv,?_⟩;rcases S.par y (Df Q)with k|k
  .exact .inl ⟨k,r9 M Q hu k⟩
  .obtain⟨c,e⟩:=uA k;refine .inr ⟨.inl k,c,e,?_⟩;have q:=x.cell y c e;rw[rF M Q hu (by show j.names.lookup y≠_;rw[k];decide)]at q;exact q
 .exact C.hok.fresh (vv (x.above y c (PySem.mem_of_lookup h)))
 .unfold start;show _=N.length;rw[xK,BL,L4];lia
def MN{Z:Dl}{P:Program}{w:World}{K:h8}{mg:VC}{base:Heap}{k:Nat}{f:Addr}{G j:Str}{B:Arguments}{C:VF}{i:Scope}{dV kV W pm z ct oc:Value}{an od:VG}{ax:Array (VV)}{N ps:VM}{sp:Sp}(lk:K.lookup f=J ⟨oc,od,.func (PySem.W.fnOf G j B C i dV kV W pm an z ct),ax⟩)(ab:PySem.W.codeIn K z j=I)(S:pk N ps i)(len:∀F H Q E,sp F H Q E->F.length=ps.length)(O:∀(A:Around)(outer:List Env)(s:Shared)(H:Hp)(F:List V)(Q:VK)(E:XK),Room k (A.deeper (envOfC j i s.heap.objs.size f z))->sp F H Q E ->
   ∃t,PSs (vg Z P w K mg base N j i f z A outer s H E) C t/\t { nx:=λ_ L=>Q .non L,rt:=Q} (start N F) H):
  FnOk P w K mg base Z (k+1) f (PySem.W.fnOf G j B C i dV kV W pm an z ct) ps sp:=by
 refine⟨len,λA outer s H ay us F Q E hr X hb r U=>?_⟩;have hl:=len _ _ _ _ U;have KX:=X.mod.kin.keeps λb o e=>(X.bs b o e).1;have as:=X.mod.nolimit.keeps λb o e=>(X.bs b o e).1;have M:∀y∈ps.zip us,i.names.lookup y.1=J .local\/(i.names.lookup y.1=J .cell/\((cellsFrom (s.heap.objs.size+1) i.names []).lookup y.1).isSome=I):=λ⟨n,v⟩ hy=>by
  rcases S.par n (QX hy).1 with q|q
  .exact .inl q
  .exact .inr ⟨q,PySem.W.cellsFrom_some _ _ _ (.inl q)⟩
 refine codeAny_call_function hr.depth (KX _ _ lk) rfl S.co S.gen rfl (PySem.W.codeRec_of KX ab) (hb _ _ _ _ ?_);refine wpAny_newFunctionEnv_cells S.kind M λenv he s1 x=>?_;subst he;refine⟨as.keeps x.toInCall.keep,codeAny_func ?_⟩;obtain⟨t,ht,hq⟩:=O A outer s H F Q E (hr.deeper _) U;have ap:Inv (vg Z P w K mg base N j i f z A outer s H E) [] (start N F) H s1:=yZ S hr.hd X hl r x;refine wpAny_mono (ht [] s1 (start N F) H _ ap hq) (λfl s' R=>?_) λe s' R=>R;have fin:∀{Z':St}{L:Hp}{v:V}{u:Value},Inv (vg Z P w K mg base N j i f z A outer s H E) [] Z' L s'->aM v u->Q v L->CE outer P w H s Q u s' :=
  λ{Z' L v u} l rv q=>⟨v,L,l.os,l.bare,l.base,l.hok,rv,q⟩
 cases fl with
 |ret u =>
  obtain⟨v,Z',L,l,rv,q⟩:=R;exact fin l rv q
 |next =>
  obtain⟨Z',L,l,q⟩:=R;exact fin (v:=V.non) l rfl q
 |brk =>
  obtain⟨_,_,_,q⟩:=R;exact False.elim q
 |cont =>
  obtain⟨_,_,_,q⟩:=R;exact False.elim q
section
variable{X:Cx}{x:Str}{p pos:Pos}{e:Expr}{es:VX}{t:TA}{id T:String}{r:List V->Hp->VK->Prop}
def Rr(r:List V->Hp->VK->Prop)(t:TA):TE:=λZ H Q=>t Z H λi f=>r i f Q
def gk(S:cS X (.builtin id) r)(E:Gl X x)(L:X.mg x=Y)(hv:bootBuiltins x=J (.builtin id))(B:PA X (e::es) t)(M:x≠"__name__":=by decide)(i:(x==("__debug__":Str))=false:=by decide)(G:starEach (e::es) X.env=(false,eval e X.env)::starEach es X.env:=by rfl)(j:(backTo pos (starEach es X.env)).any (·.1)=false:=by rfl):PE X (.Call (.Name x p) (e::es) [] pos) (Rr r t):=by
 intro l s Z H Q f h;refine wpAny_Call_Name_kw (gT f E L hv ?_ M i);exact PyProof.Rows.callWith_builtin1 (ka (B pos l s Z H _ f h) λP R ⟨F,u,C,O,z⟩=>S l R Z u F P Q C O z) G j
def gX(S:cS X (.type T) r)(E:Gl X x)(L:X.mg x=Y)(hv:bootBuiltins x=J (.type T))(B:PA X (e::es) t)(M:x≠"__name__":=by decide)(i:(x==("__debug__":Str))=false:=by decide)(G:starEach (e::es) X.env=(false,eval e X.env)::starEach es X.env:=by rfl)(j:(backTo pos (starEach es X.env)).any (·.1)=false:=by rfl):PE X (.Call (.Name x p) (e::es) [] pos) (Rr r t):=by
 intro l s Z H Q f h;refine wpAny_Call_Name_kw (gT f E L hv ?_ M i);exact PyProof.Rows.callWith_type1 (ka (B pos l s Z H _ f h) λP R ⟨F,u,C,O,z⟩=>S l R Z u F P Q C O z) G j
end
end L2
namespace HT
open PyProof.Rows
section
open PySem.SeqAt
open PySem.AutoSeq1 (wpAny_loadPart')
open PySem.MeetsSeq PySem.MeetsSeq2 PySem.MeetsSeq3
end
section
variable{prog:Program}{w:World}{A:Around}{E:VB}{s:Shared}
def Es(H:IsTup s.heap t vs.toArray)(M:IsTup s.heap b ws.toArray)(hv:vs≠[])(L:ws=[]->Q (.ref t) s)(O:ws≠[]->Q (.ref s.heap.objs.size) { s with heap:=s.heap.push { cls:=.type "tuple",data:=.seq (vs++ws).toArray}})(z:vs.length+ws.length<=sizeLine):wpAny (model prog w) A (binaryOp .Add (.ref t) (.ref b)) Q E s:=by
 obtain⟨⟨cls,F,data,sl⟩,l,P,n,hd⟩:=id H;obtain⟨⟨G,i,data2,j⟩,f,B,C,u⟩:=id M;subst P hd B u;have e:vs.toArray++ws.toArray=(vs++ws).toArray:=by simp
 by_cases r:ws=[]
 .exact concat_meets ⟨_,l,rfl⟩ ⟨_,f,rfl⟩ noFill_tuple_add seq_tuple_add PySem.F.slot_tuple_add PySem.F.entry_tuple_add (PySem.F.args_tuple_add_2 _ _)
   (tuple_addW1 t b vs.toArray ws.toArray n C F i sl j (by simpa using hv) (by simp[r])) ⟨l,f,L r⟩
 .refine concat_meets ⟨_,l,rfl⟩ ⟨_,f,rfl⟩ noFill_tuple_add seq_tuple_add PySem.F.slot_tuple_add PySem.F.entry_tuple_add (PySem.F.args_tuple_add_2 _ _)
   (tuple_addW2 t b vs.toArray ws.toArray n C F i sl j (by simpa using hv) (by simpa using r) (by exact z)) ⟨l,f,?_⟩
  rw[e];exact O r
def ky(n d:Nat):VW->Nat
 |none=>d
 |some v=>if v<0 then(v+(n:Int)).toNat else min v.toNat n
def B9(n d:Nat):ky n d Y=d:=rfl
def Et(n d k:Nat):ky n d (J (k:Int))=min k n:=rfl
def w8(v:Int)(n d:Nat):(if v<0 then max (v+(n:Int)) 0 else min v (n:Int))=((ky n d (J v):Nat):Int):=by
 show(if v<0 then max (v+(n:Int)) 0 else min v (n:Int))=(((if v<0 then(v+(n:Int)).toNat else min v.toNat n):Nat):Int)
 grind
def yA(lo f:VW)(n:Nat):Builtin.Slice.sliceAdjust lo f 1 (n:Int)=(((ky n 0 lo:Nat):Int),((ky n n f:Nat):Int)):=by
 refine Prod.ext ?_ ?_
 .cases lo with
  |none=>rfl
  |some v=>exact w8 v n 0
 .cases f with
  |none=>rfl
  |some v=>exact w8 v n n
def xQ(i j:Nat):Builtin.Slice.slicePlaces (i:Int) (j:Int) 1=j-i:=by
 unfold Builtin.Slice.slicePlaces;have f:(1:Int)>0:=by lia
 simp only[f,if_true,Int.ediv_one]
 split<;>lia
def oM(p:IsPart v o)(h:Q o s):wpAny (model prog w) A (Builtin.Slice.slicePartIndex v) Q E s:=by
 cases p with
 |none=>exact slicePart_none h
 |int i t=>exact slicePart_int h
def nH{sl:Addr}{l r:Value}{lo j:VW}{n:Nat}{Q:Int×Int×Nat->Shared->Prop}(u:s.heap.IsSliceOf sl l r .none)(C:IsPart l lo)(z:IsPart r j)(h:Q (((ky n 0 lo:Nat):Int),1,ky n n j-ky n 0 lo) s):wpAny (model prog w) A (Builtin.Slice.sliceApplied (.ref sl) (pure (n:Int))) Q E s:=by
 obtain⟨os,f,B,i⟩:=id u;refine d_ (d_ (wpAny_field f i rfl (d_ (wpAny_field f i rfl (d_ (wpAny_field f i rfl (ia ?_)))))));refine d_ (slicePart_none ?_);refine d_ (oM C (d_ (oM z (d_ (ia ?_)))));show wpAny _ _ (match Builtin.Slice.sliceAdjust lo j 1 (n:Int)with | (lo,j)=>pure (lo,(1:Int),Builtin.Slice.slicePlaces lo j 1)) _ _ s;rw[yA lo j n];show wpAny _ _ (pure (((ky n 0 lo:Nat):Int),(1:Int),Builtin.Slice.slicePlaces ((ky n 0 lo:Nat):Int) ((ky n n j:Nat):Int) 1)) _ _ s;rw[xQ];exact ia h
def B3(xs:Array Value)(i k:Nat):((List.range k).filterMap λ(m:Nat)=>xs[((i:Int)+(m:Int)*1).toNat]?).toArray=((xs.toList.drop i).take k).toArray:=by
 have e:(λ(m:Nat)=>xs[((i:Int)+(m:Int)*1).toNat]?)=λm=>xs[i+m]?:=by grind
 rw[e]
 have:=pick_run xs i k
 rw[List.filterMap_map]at this;have e2:((λx=>xs[x]?)∘λx=>i+x)=λm=>xs[i+m]?:=rfl;rw[e2]at this;rw[this]
def mM{t sl:Addr}{items:Array Value}{F B:Value}{lo f:VW}{Q:VB}(j:IsTup s.heap t items)(C:s.heap.IsSliceOf sl F B .none)(L:IsPart F lo)(H:IsPart B f)(O:¬(ky items.size 0 lo=0/\ky items.size items.size f=items.size))(h:Q (.ref s.heap.objs.size) { s with heap:=s.heap.push { cls:=.type "tuple",data:=.seq ((items.toList.drop (ky items.size 0 lo)).take (ky items.size items.size f-ky items.size 0 lo)).toArray}})(G:items.size<=sizeLine):wpAny (model prog w) A (getItem (.ref t) (.ref sl)) Q E s:=by
 have i:sizeOk (.seq ((items.toList.drop (ky items.size 0 lo)).take (ky items.size items.size f-ky items.size 0 lo)).toArray):=by show((items.toList.drop (ky items.size 0 lo)).take (ky items.size items.size f-ky items.size 0 lo)).toArray.size<=sizeLine;rw[rT,L_,Dt,B6];lia
 obtain⟨os,l,z,M⟩:=id C;have u:s.TypeIs (.ref sl) "slice":=⟨os,l,z⟩;unfold getItem
 try with_reducible refine wpAny_holding ?_
 refine d_ (wpAny_sequenceKey j.typeIs (by decide) ?_)
 refine d_ (wpAny_callSpecial?_slot j.typeIs PyProof.Rows.slot_tuple_getitem
  (wpAny_call_entry PyProof.Rows.slot_tuple_getitem j.typeIs entry_tuple_getitem ?_ (args_tuple_getitem _ _)))
 show wpAny _ _ (Builtin.Tuple.tupleItemsOf (.ref t) >>= _) _ _ s;refine d_ (tupleItemsOf_ j ?_);refine d_ (wpAny_typeOf u ?_);refine d_ (nH C L H ?_);have r:¬((((ky items.size 0 lo:Nat):Int)==0&&(1:Int)==1&&(ky items.size items.size f-ky items.size 0 lo)==items.size)=I):=by intro q;rw[Lj,Lj]at q;have P:=eq_of_beq q.1.1;have R:=eq_of_beq q.2;exact O ⟨⋯,⋯⟩
 show wpAny _ _ (if(((ky items.size 0 lo:Nat):Int)==0&&(1:Int)==1&&(ky items.size items.size f-ky items.size 0 lo)==items.size)=I then _ else _) _ _ s;rw[f_ r,B3]
 first
  |exact d_ (m:=Builtin.Tuple.tupleExact _) (wpAny_newObj_type (d_ (ia (ia ⟨_,rfl,ia h⟩))) i)
end
end HT
namespace L2
open PySem.Spec PyProof.Rows
abbrev TO:=St->Hp->(VW->Hp->Prop)->Prop
def PO(X:Cx)(e:Option Expr)(t:TO):Prop :=
 ∀(f:VU)(s:Shared)(Z:St)(H:Hp)(Q:VW->Hp->Prop),Inv X f Z H s->t Z H Q ->
  wpAny (model X.prog X.w) X.A (evalPart e X.env) (λu j=>∃o i,Inv X f Z i j/\IsPart u o/\Q o i) X.xe s
def Eu:TO:=λ_ H Q=>Q Y H
def MP(t:TE):TO:=λZ H Q=>t Z H λx f=>∃i,x=.int i/\Q (J i) f
section
variable{X:Cx}{e:Expr}{te:TE}{lo hi:Option Expr}{tl th:TO}{pos p2:Pos}
def Ev:PO X Y Eu:=by intro i s Z H Q f h;rw[evalPart_none];exact ia ⟨Y,H,f,.none,h⟩
def Ew(h:PE X e te):PO X (J e) (MP te):=by intro r s Z H Q f B;refine ka (h r s Z H _ f B) λu E ⟨x,j,z,C,l⟩=>?_;obtain⟨i,rfl,q⟩:=l;obtain⟨t,rfl⟩:=C;exact⟨J i,j,z,.int i t,q⟩
def PH(X:Cx)(r:V->VW->VW->Hp->VK->Prop):Prop :=
 ∀(i:VU)(s:Shared)(Z:St)(H:Hp)(x:V)(v j l:Value)(lo hi:VW)(sl:Addr)(Q:VK),Inv X i Z H s->aM x v->s.heap.IsSliceOf sl j l .none->IsPart j lo->IsPart l hi->r x lo hi H Q ->
  ∃f id,typeLookup (.type f) "__getitem__"=pure (J (.builtin id))/\s.TypeIs v f/\wpAny (model X.prog X.w) X.A (getItem v (.ref sl)) (EP X i Z Q) X.xe s
def Vl(r:V->VW->VW->Hp->VK->Prop)(te:TE)(tl th:TO):TE:=λZ H Q=>te Z H λx f=>tl Z f λl i=>th Z i λu j=>r x l u j Q
def AY(hr:PH X r)(he:PE X e te)(hl:PO X lo tl)(hu:PO X hi th):PE X (.Subscript e (.Slice lo hi Y p2) pos) (Vl r te tl th):=by intro i s Z H Q B h;refine Subscript_ (ka (he i s Z H _ B h) λv s1 ⟨x,G,U,r1,L⟩=>?_);refine wpAny_Slice (ka (hl i s1 Z G _ U L) λz s2 ⟨l,H2,O,P,q2⟩=>ka (hu i s2 Z H2 _ O q2) λj f ⟨u,C,F,M,q3⟩=>?_);refine ia ?_;have E:Inv X i Z C { f with heap:=f.heap.push { cls:=.type "slice",data:=.fields #[z,j,.none]}}:=F.kept (t':=f.toks) λb ob q=>n_ _ q;obtain⟨S,id,hT,R,W⟩:=hr i { f with heap:=f.heap.push { cls:=.type "slice",data:=.fields #[z,j,.none]}} Z C x v z j l u f.heap.objs.size Q E r1 (Heap.IsSliceOf.new ..) P M q3;exact tail_any R hT W (by with_unfolding_all rfl)
def nJ(xs:List V)(lo hi:VW):List V:=(xs.drop (HT.ky xs.length 0 lo)).take (HT.ky xs.length xs.length hi-HT.ky xs.length 0 lo)
def mU(xs:List V)(lo hi:VW):(nJ xs lo hi).length<=xs.length:=by unfold nJ;rw[L_,Dt];lia
def Rs(K:h8):V->VW->VW->Hp->VK->Prop:=λx lo hi H Q=>∃a xs,x=.ref a/\SqT K H a xs /\
 ¬(HT.ky xs.length 0 lo=0/\HT.ky xs.length xs.length hi=xs.length)/\∀p,H p=Y->Q (.ref p) (kx H p (.tup (nJ xs lo hi)))
def Ih:PH X (Rs X.K):=by
 intro O s Z H x v P M lo hi sl Q i C z E B h;obtain⟨a,xs,rfl,F,G,q⟩:=h;cases C;obtain⟨j,r,l,u⟩:=i.tuple F;have f:j.toArray.size=xs.length:=by exact r.length.symm
 refine⟨"tuple",_,PyProof.Rows.slot_tuple_getitem.lookup,l.typeIs,?_⟩;refine HT.mM l z E B (by rw[f];exact G) ?_ (by rw[f];exact u);rw[f];refine⟨.ref s.heap.objs.size,_,i.laid (t':=s.toks) (λb L q=>n_ _ q) (ii _) ?_,rfl,q _ (i.hok.fresh (ii _))⟩;exact⟨o0 (mU xs lo hi) u,_,(r.drop (HT.ky xs.length 0 lo)).take (HT.ky xs.length xs.length hi-HT.ky xs.length 0 lo),hJ.new _ _⟩
def MQ(K:h8):R2:=λx y H Q=>∃a b xs ys,x=.ref a/\y=.ref b/\SqT K H a xs/\SqT K H b ys/\xs≠[]/\xs.length+ys.length<=sizeLine /\
 (ys=[]->Q (.ref a) H)/\(ys≠[]->∀p,H p=Y->Q (.ref p) (kx H p (.tup (xs++ys))))
def aw.nil_iff(r:aw xs us):us=[]↔xs=[]:=by
 cases r with
 |nil=>simp
 |cons _ _=>simp
def Ex:OpR X (binaryOp .Add) (MQ X.K):=by intro R s Z H x y v u Q f F E h;obtain⟨a,b,xs,ys,rfl,rfl,C,M,G,r,B,L⟩:=h;cases F;cases E;obtain⟨O,j,p1,_⟩:=f.tuple C;obtain⟨l,i,p2,_⟩:=f.tuple M;refine HT.Es p1 p2 (λz=>G (j.nil_iff.mp z)) (λz=>⟨.ref a,H,f,rfl,B (i.nil_iff.mp z)⟩) (λz=>?_) (by rw[<-j.length,<-i.length];exact r);refine⟨.ref s.heap.objs.size,_,f.laid (t':=s.toks) (λb P q=>n_ _ q) (ii _) ?_,rfl,L (λw=>z (i.nil_iff.mpr w)) _ (f.hok.fresh (ii _))⟩;exact⟨by rw[xK];exact r,_,j.append i,hJ.new _ _⟩
end
def wk(n:Nat)(i:Int):VE:=if 0<=i then(if i<n then J i.toNat else Y)else if -(n:Int)<=i then J (i+n).toNat else Y
def n5{α:Type}(xs:List α)(i:Int):Option α:=(wk xs.length i).bind λj=>xs[j]?
def wB(h:wk n i=J j):seqIndex? i n=J j/\j<n /\ -(n:Int)<=i/\i<n:=by
 unfold wk at h;by_cases l:0<=i
 .rw[c_ l]at h;by_cases f:i<n
  .rw[c_ f]at h;have e:=Option.some.inj h;exact⟨by rw[seqIndex_of l f,e],⋯,⋯,f⟩
  .rw[f_ f]at h;cases h
 .rw[f_ l]at h;by_cases f:-(n:Int)<=i
  .rw[c_ f]at h;have e:=Option.some.inj h;exact⟨by rw[seqIndex_neg ⋯ f,e],⋯,f,⋯⟩
  .rw[f_ f]at h;cases h
def pK(h:n5 xs i=J v):∃j,seqIndex? i xs.length=J j/\xs[j]?=J v/\j<xs.length /\ -(xs.length:Int)<=i/\i<xs.length:=by
 unfold n5 at h
 cases e:wk xs.length i with
 |none=>rw[e]at h;cases h
 |some j =>
  rw[e]at h;obtain⟨l,u,f,r⟩:=wB e;exact⟨j,l,h,u,f,r⟩
def iD{α:Type}{xs:List α}{j:Nat}{v:α}(h:xs[j]?=J v):n5 xs (j:Int)=J v:=by
 have f:=(qt.mp h).1;have e:wk xs.length (j:Int)=J j:=by
  unfold wk
  simp_all
 unfold n5;rw[e];exact h
def lT(b:Expr):Prop:=∀o i,subscripted b T o i=operate [o,i] (getItem o i)
def IxR(X:Cx)(r:R2):Prop :=
 ∀(i f:Expr)(j:VU)(s:Shared)(Z:St)(H:Hp)(x y:V)(v u:Value)(Q:VK),Inv X j Z H s->aM x v->aM y u->r x y H Q ->
  subscripted f T v u=operate [v,u] (getItem v u)->wpAny (model X.prog X.w) X.A (subscriptTail i f v u) (EP X j Z Q) X.xe s
def Ii(X:Cx)(id:String)(r:V->List V->Hp->VK->Prop):Prop :=
 ∀(f:VU)(s:Shared)(Z:St)(H:Hp)(x:V)(xs:List V)(v:Value)(i:VT)(Q:VK),Inv X f Z H s->aM x v->aw xs i->r x xs H Q ->
  wpAny (model X.prog X.w) X.A (call (.builtin id) (v::i)) (EP X f Z Q) X.xe s
section
variable{X:Cx}{a b:Expr}{ta tb:TE}{pos:Pos}
def IxR.or(h:IxR X r)(E:IxR X r'):IxR X (λx y H Q=>r x y H Q\/r' x y H Q):=by
 intro i f l s Z H x y v u Q j z C q B;rcases q with q|q
 .exact h i f l s Z H x y v u Q j z C q B
 .exact E i f l s Z H x y v u Q j z C q B
def MU{r:R2}(E:IxR X r)(j:PE X a ta)(F:PE X b tb)(i:lT b):PE X (.Subscript a b pos) (Mt r ta tb):=by intro C s Z H Q f h;exact Subscript_ (H4 j F f h λv u G x y L B z l q=>E a b C G Z L x y v u Q B z l q (i _ _))
def MV(K:h8):R2:=λx y H Q=>∃p xs i v,x=.ref p/\y=.int i/\SqL K H p xs/\n5 xs i=J v/\Q v H
def MX(K:h8):R2:=λx y H Q=>∃p xs i v,x=.ref p/\y=.int i/\SqT K H p xs/\n5 xs i=J v/\Q v H
def MY:R2:=λx y H Q=>∃z i c,x=.str z/\y=.int i/\z.length<=sizeLine/\n5 z.cps.toList i=J c/\Q (.str ⟨#[c]⟩) H
def Ey:IxR X (MV X.K):=by
 intro G B U s Z H x y v u Q f S R h O;obtain⟨p,xs,i,z,rfl,rfl,hq,he,q⟩:=h;cases S;obtain⟨t,rfl⟩:=R;obtain⟨L,r,E,hz⟩:=f.list hq;obtain⟨j,l,h2,h3,W,h5⟩:=pK he;obtain⟨w,P,F⟩:=r.get h2;have hl:=r.length;have hn:=oW;have fin:EP X U Z Q w s:=⟨z,H,f,F,q⟩;by_cases M:0<=i
 .have C:i.toNat=j:=by
   rw[seqIndex_of M h5]at l;exact Option.some.inj l
  exact item_listR E.isList M ⋯ (by rw[C];simpa using P) fin O
 .have C:(i+(L.toArray.size:Int)).toNat=j:=by
   rw[seqIndex_neg ⋯ W]at l;rw[rT,<-hl];exact Option.some.inj l
  exact subscriptTail_builtinR E.isList.typeIs slot_list_getitem.lookup
   (wpAny_getItem_list_neg E.isList ⋯ (by rw[rT]<;>lia) ⋯ (by rw[C];simpa using P) ⟨rfl,fin⟩) O
def Ij:IxR X (MX X.K):=by
 intro C l M s Z H x y v u Q f L G h F;obtain⟨p,xs,i,z,rfl,rfl,W,S,q⟩:=h;cases L;obtain⟨t,rfl⟩:=G;obtain⟨ab,r,E,hz⟩:=f.tuple W;obtain⟨j,O,U,h3,h4,h5⟩:=pK S;obtain⟨w,R,B⟩:=r.get U;have P:=r.length;have hn:=oW;have fin:EP X M Z Q w s:=⟨z,H,f,B,q⟩;exact subscriptTail_builtinR E.typeIs slot_tuple_getitem.lookup
  (getItem_tuple E ⋯ ⋯ (by rw[rT,<-P];exact O) (by simpa using R) ⟨rfl,fin⟩) F
def Ik:IxR X MY:=by
 intro r f R s Z H x y v u Q l F E h C;obtain⟨z,i,c,rfl,rfl,hz,O,q⟩:=h;obtain⟨t,rfl⟩:=F;obtain⟨W,rfl⟩:=E;obtain⟨j,B,P,U,G,M⟩:=pK O;have L:z.cps.toList.length=z.length:=by simp[Str.length]
 rw[L]at B G M;have S:=oW
 exact tail_any (typeIs_str s z t) slot_str_getitem.lookup (getItem_str (by
  have e1:decide (i < -(2^63:Int))=T:=decide_eq_false ⋯;have e2:decide (i>=2^63)=T:=decide_eq_false ⋯
  rw[e1,e2,Bool.or_false]) (by rw[B];simpa using P) ⟨.str ⟨#[c]⟩,H,l.tok _,⟨_,rfl⟩,q⟩) C
def Vm(K:h8):R2:=λx y H Q=>MV K x y H Q\/MX K x y H Q\/MY x y H Q
def Il:IxR X (Vm X.K):=Ey.or (Ij.or Ik)
def xF(f:VT)(n j:Nat)(u:Value):Obj.mapSeq (·.setIfInBounds j u) { cls:=.type "list",data:=.seq f.toArray n}={ cls:=.type "list",data:=.seq (f.set j u).toArray n}:=by simp[Obj.mapSeq]
def Inv.lst{j:VU}{Z:St}{H:Hp}{s:Shared}{p:Addr}{xs:List V}(i:Inv X j Z H s)(h:H p=J (.lst xs)):
  ∃(f:VT) (n:Nat),aw xs f/\s.heap.get? p=J { cls:=.type "list",data:=.seq f.toArray n}/\xs.length<=sizeLine:=by
 obtain⟨z,f,n,r,e⟩:=i.hok p _ h;exact⟨f,n,r,e,z⟩
def Inv.lstUpd{B:VU}{Z:St}{H:Hp}{s:Shared}{p:Addr}{xs ys:List V}{j i:VT}{n z:Nat}{f:Obj->Obj}(l:Inv X B Z H s)(h:H p=J (.lst xs))(C:s.heap.get? p=J { cls:=.type "list",data:=.seq j.toArray n})(hf:f { cls:=.type "list",data:=.seq j.toArray n}={ cls:=.type "list",data:=.seq i.toArray z})(r:aw ys i)(F:ys.length<=sizeLine)(t:Nat):
  Inv X B Z (kx H p (.lst ys)) { s with heap:=s.heap.update p f,toks:=t}:=by
 have e:(s.heap.update p f).get? p=J { cls:=.type "list",data:=.seq i.toArray z}:=by rw[Ho f C (by rw[hf]<;>rfl),hf]
 refine l.write (by rw[h];trivial) (.inl rfl) (λb u E q=>(DY _ _ (Ne.symm E)).trans q) ⟨_,e⟩ ?_;exact⟨F,i,z,r,e⟩
def MZ:V->V->V->Hp->(Hp->Prop)->Prop:=λo i v H Q=>∃p xs k j,o=.ref p/\i=.int k/\H p=J (.lst xs)/\wk xs.length k=J j/\Q (kx H p (.lst (xs.set j v)))
def Cp:HU X MZ:=by
 intro Nc s Z H o i v ov iv u Q f S U R h;obtain⟨p,xs,k,j,rfl,rfl,O,P,q⟩:=h;cases S;obtain⟨t,rfl⟩:=U;obtain⟨l,n,r,C,W⟩:=f.lst O;obtain⟨z,h2,M,L⟩:=wB P;have B:=r.length;have hn:=oW;have G :=
  f.lstUpd O C (xF l n j u) (r.set R j) (by rw[List.length_set];exact W) s.toks
 by_cases F:0<=k
 .have E:k.toNat=j:=by
   rw[seqIndex_of F L]at z;exact Option.some.inj z
  exact PySem.W.ki_setAt C F ⋯ (by rw[rT,<-B];exact L) (by rw[E];exact⟨_,G,q⟩)
 .have E:(k+(l.toArray.size:Int)).toNat=j:=by
   rw[seqIndex_neg ⋯ M]at z;rw[rT,<-B];exact Option.some.inj z
  exact PySem.W.ki_setBack C ⋯ (by rw[rT,<-B];exact M) ⋯ (by rw[E];exact⟨_,G,q⟩)
def vk(lo f:VW)(n:Nat):(sliceBounds lo f Y n).1=((HT.ky n 0 lo:Nat):Int)/\(sliceBounds lo f Y n).2.1=((HT.ky n n f:Nat):Int)/\(sliceBounds lo f Y n).2.2=1:=by
 refine⟨?_,?_,rfl⟩
 .cases lo with
  |none=>simp[sliceBounds,HT.ky]
  |some i =>
   simp only[sliceBounds,HT.ky,Option.getD_none,show(1:Int)>0 by decide,if_true];by_cases h:i<0
   .simp only[h,if_true]<;>lia
   .simp only[h,if_false]<;>lia
 .cases f with
  |none=>simp[sliceBounds,HT.ky]
  |some i =>
   simp only[sliceBounds,HT.ky,Option.getD_none,show(1:Int)>0 by decide,if_true];by_cases h:i<0
   .simp only[h,if_true]<;>lia
   .simp only[h,if_false]<;>lia
def sJ(f:VT)(lo i:VW):slicePick f.toArray lo i Y=((f.drop (HT.ky f.length 0 lo)).take (HT.ky f.length f.length i-HT.ky f.length 0 lo)).toArray:=by obtain⟨l,r,j⟩:=vk lo i f.toArray.size;unfold slicePick;rw[l,r,j];simp only[sliceRange_one,pick_run]<;>rfl
def Rt(K:h8):V->VW->VW->Hp->VK->Prop:=λx lo f H Q=>∃a xs,x=.ref a/\SqL K H a xs/\∀p,H p=Y->Q (.ref p) (kx H p (.lst (nJ xs lo f)))
def wH:PH X (Rt X.K):=by intro O s Z H x v P M lo l sl Q f B u C z h;obtain⟨a,xs,rfl,E,q⟩:=h;cases B;obtain⟨F,r,j,G⟩:=f.list E;have i:=r.length;refine⟨"list",_,slot_list_getitem.lookup,j.isList.typeIs,?_⟩;refine wpAny_getItem_list_slice j.isList u C z .none (by simp) ?_ (by rw[rT]<;>lia);rw[sJ,<-i];refine⟨.ref s.heap.objs.size,_,f.laid (t':=s.toks) (λb L q=>n_ _ q) (ii _) ?_,rfl,q _ (f.hok.fresh (ii _))⟩;exact⟨o0 (mU xs lo l) G,_,0,(r.drop (HT.ky xs.length 0 lo)).take (HT.ky xs.length xs.length l-HT.ky xs.length 0 lo),tz _ rfl⟩
def u0:cS X (.type "list") (λxs H Q=>∃p ys,xs=[.ref p]/\(SqL X.K H p ys\/SqT X.K H p ys)/\∀l,H l=Y->Q (.ref l) (kx H l (.lst ys))):=by
 intro R s Z H xs S Q i r h;obtain⟨p,ys,rfl,E,q⟩:=h;obtain⟨u,rfl,P⟩:=j8 r;cases P;have fin:∀(f:VT),aw ys f->ys.length<=sizeLine->∀(j:Heap)(z:Nat),(∀b O,s.heap.get? b=J O->j.get? b=J O) ->
   j.get? s.heap.objs.size=J { cls:=.type "list",dict:=Y,data:=.seq f.toArray z,slots:=#[]}->EP X R Z Q (.ref s.heap.objs.size) { s with heap:=j}:=λf B F j z kp e =>
  ⟨.ref s.heap.objs.size,_,i.laid (t':=s.toks) kp (ii _) (show ObjOk X.prog X.w _ j _ (.lst ys) from⟨F,f,z,B,e⟩),rfl,q _ (i.hok.fresh (ii _))⟩
 rcases E with E|E
 .obtain⟨f,B,G,F⟩:=i.list E;have C:=B.length;obtain⟨o,L,M,n,hd⟩:=G.isList;exact call_list_seq p (.inl rfl) L M hd (λj z kp e=>fin f B F j z kp e) (by simp only[rT]<;>lia)
 .obtain⟨f,B,G,F⟩:=i.tuple E;have C:=B.length;obtain⟨o,L,M,n,hd⟩:=G;exact call_list_seq p (.inr rfl) L M hd (λj z kp e=>fin f B F j z kp e) (by simp only[rT]<;>lia)
def kO:cS X (.type "tuple") (λxs H Q=>∃p ys,xs=[.ref p]/\((SqL X.K H p ys/\∀l,H l=Y->Q (.ref l) (kx H l (.tup ys)))\/(SqT X.K H p ys/\Q (.ref p) H))):=by
 intro O s Z H xs P Q f r h;obtain⟨p,ys,rfl,h⟩:=h;obtain⟨u,rfl,G⟩:=j8 r;cases G;rcases h with⟨B,q⟩|⟨B,q⟩
 .obtain⟨i,z,j,F⟩:=f.list B;have E:=z.length;refine call_tuple_list j.isList (λM kp=>?_) (by simp only[rT]<;>lia);have C:=f.kept (t':=s.toks) kp;have L :=
   C.laid (t':=s.toks) (λb o e=>n_ _ e) (ii _) (show ObjOk X.prog X.w _ _ _ (.tup ys) from⟨F,i,z,hJ.new _ _⟩)
  exact⟨.ref M.objs.size,_,L,rfl,q _ (C.hok.fresh (ii _))⟩
 .obtain⟨i,z,j,F⟩:=f.tuple B;exact call_tuple_same j ⟨.ref p,H,f,rfl,q⟩
def Ru(K:h8)(f:String)(x:V)(H:Hp):Prop:=match x with
 |.str _=>f="str"
 |.int _=>f="int"
 |.ref p=>(f="list"/\∃xs,SqL K H p xs)\/(f="tuple"/\∃o,K.lookup p=J o/\o.cls=.type "tuple"/\o.dict=Y) \/
   (f="dict"/\((∃i,H p=J (.dK i))\/∃i,H p=J (.dT i)))\/(f="set"/\∃S n,H p=J (.set S n))
 |_=>False
def Im{E:VU}{Z:St}{H:Hp}{s:Shared}{l:String}{x:V}{v:Value}(f:Inv X E Z H s)(r:aM x v)(ty:Ru X.K l x H):
  s.TypeIs v l/\∀a,v=.ref a->∃B,s.heap.get? a=J B/\B.dict=Y:=by
 cases x with
 |str z =>
  obtain⟨t,rfl⟩:=r;cases(ty);exact⟨typeIs_str s z t,λ_ e=>nomatch e⟩
 |int i =>
  obtain⟨t,rfl⟩:=r;cases(ty);exact⟨typeIs_int s i t,λ_ e=>nomatch e⟩
 |ref p =>
  cases r;rcases ty with⟨rfl,xs,F⟩|⟨rfl,o,j,L,hd⟩|⟨rfl,j⟩|⟨rfl,S,n,j⟩
  .obtain⟨G,_,C,_⟩:=f.list F;refine⟨C.isList.typeIs,λa e=>?_⟩;cases e;obtain⟨o,n,e,c,hd,_⟩:=C;exact⟨o,e,hd⟩
  .refine⟨⟨o,f.kIn p o j,L⟩,λa e=>?_⟩;cases e;exact⟨o,f.kIn _ o j,hd⟩
  .have z:∃o,s.heap.get? p=J o/\o.ExactDict:=by
    rcases j with⟨u,j⟩|⟨u,j⟩
    .obtain⟨_,_,_,_,o,_,_,e,ex,_⟩:=f.hok p _ j;exact⟨o,e,ex⟩
    .obtain⟨_,_,_,_,o,_,_,e,ex,_⟩:=f.hok p _ j;exact⟨o,e,ex⟩
   obtain⟨o,e,ex⟩:=z;refine⟨⟨o,e,ex.1⟩,λa e2=>?_⟩;cases e2;exact⟨o,e,ex.2.1⟩
  .obtain⟨o,_,_,_,e,ex,_⟩:=f.hok p _ j;refine⟨⟨o,e,ex.1⟩,λa e2=>?_⟩;cases e2;exact⟨o,e,ex.2.1⟩
 |_=>exact False.elim ty
def Vn(K:h8)(f:String)(r:V->List V->Hp->VK->Prop)(to:TE)(t:TA):TE:=λZ H Q=>to Z H λx i=>Ru K f x i/\t Z i λxs j=>r x xs j Q
variable{o e:Expr}{es:VX}{to:TE}{t:TA}{name:Str}{apos cpos:Pos}{T id:String}{r:V->List V->Hp->VK->Prop}
def M0(pa:PlainAttrs T)(slot:Slot T name id)(B:typeOf (.builtin id)=pure (.type "method_descriptor"))(W:Ii X id r)(U:PE X o to)(O:PA X (e::es) t)(j:attributeBase o name X.env (eval o X.env)=eval o X.env:=by rfl)(l:((backTo cpos (starEach (e::es) X.env)).all (λx=>!x.1)&&(backToKw cpos (keywordEach [] X.env)).all (λx=>x.1.isSome)
   && decide ((e::es).length+([]:List Keyword).length+(if([]:List Keyword).isEmpty then 0 else 1)<30))=I:=by rfl)(i:(apos.endLine==cpos.line)=I:=by rfl)(M:starEach (e::es) X.env=(false,eval e X.env)::starEach es X.env:=by rfl)(f:(backTo cpos (starEach es X.env)).any (·.1)=false:=by rfl):
  PE X (.Call (.Attribute o name apos) (e::es) [] cpos) (Vn X.K T r to t):=by
 intro u s Z H Q z h;refine wpAny_Call_method_late j l i rfl (ka (U u s Z H _ z h) λv s1 ⟨x,G,C,F,ty,L⟩=>?_);obtain⟨R,h2⟩:=Im C F ty;refine⟨T,id,pa,slot,B,R,h2,?_⟩;have E:=O cpos u s1 Z G _ C L;rw[M]at E ⊢;refine Calls.callWith_builtin (by show(false||(backTo cpos (starEach es X.env)).any (·.1))=false;rw[f]<;>rfl) (Calls.evalArgs_plain ?_);exact ka E λus s2 ⟨vs,H2,P,r2,S⟩=>W u s2 Z H2 x vs v us Q P F r2 S
end
def Rv(X:Cx)(id:String)(r:V->List V->Hp->VK->Prop):Prop :=
 ∀(f:VU)(s:Shared)(Z:St)(H:Hp)(x:V)(xs:List V)(v:Value)(i:VT)(Q:VK),Inv X f Z H s->aM x v->aw xs i->r x xs H Q ->
  wpAny (model X.prog X.w) X.A (call (.builtin id) (v::i)) (EP X f Z Q) X.xe s
def aw.zero(h:aw [] us):us=[]:=by cases h;rfl
def aw.one(h:aw [x] us):∃u,us=[u]/\aM x u:=by cases h with|cons r t=>exact⟨_,by rw[aw.zero t],r⟩
def aw.eraseIdx(i:Nat)(r:aw xs us):aw (xs.eraseIdx i) (us.eraseIdx i):=by
 induction r generalizing i with
 |nil=>exact .nil
 |cons a t f =>
  cases i with
  |zero=>exact t
  |succ i=>exact .cons a (f i)
def aw.rep(h:aw xs us):∀k:Nat,aw (List.replicate k xs).flatten (List.replicate k us).flatten
 |0=>.nil
 |k+1=>by
  exact aw.append h (aw.rep h k)
def rE{α:Type}:∀(l:List α)(i:Nat),(l.eraseIdx i).length<=l.length
 |[],_=>ii _
 |_::_,0=>Lo _
 |_::r,i+1=>Hw (rE r i)
def rW(f:VT):∀(k:Nat)(i:VT),
  List.foldl (λj l=>j++l) i.toArray (List.replicate k f.toArray)=(i++(List.replicate k f).flatten).toArray
 |0,i=>by simp
 |k+1,i=>by
  have e:i.toArray++f.toArray=(i++f).toArray:=by simp
  have e2:(i++f)++(List.replicate k f).flatten=i++(List.replicate (k+1) f).flatten:=by rw[List.replicate_succ,List.flatten_cons,DJ]
  rw[<-e2,<-rW f k (i++f),<-e,List.replicate_succ,QY]
section
variable{X:Cx}{Nc:List (Addr × Obj)}{Z:St}{H:Hp}{s:Shared}{l b:Addr}{xs ys zs:List V}
def Inv.lset{i its':VT}{n:Nat}{f:Array Value->Array Value}{z:Nat}(j:Inv X Nc Z H s)(C:H l=J (.lst xs))(e:s.heap.get? l=J { cls:=.type "list",data:=.seq i.toArray n})(hf:f i.toArray=its'.toArray)(hv:aw ys its')(E:ys.length<=sizeLine):
  Inv X Nc Z (kx H l (.lst ys)) { s with heap:=s.heap.update l (Obj.mapSeq f),toks:=z}:=by
 have q:=PySem.IsL.update e f;rw[hf]at q;refine j.write (x:=l) (e:=l) (by rw[C];exact trivial) (.inl rfl) (λF u B r=>(DY s.heap (Obj.mapSeq f) (Ne.symm B)).trans r) ⟨_,q⟩ ?_;exact⟨E,its',_,hv,q⟩
def Inv.lnew(f:Inv X Nc Z H s)(hv:aw ys its)(i:ys.length<=sizeLine):
  Inv X Nc Z (kx H s.heap.objs.size (.lst ys)) { s with heap:=s.heap.push { cls:=.type "list",data:=.seq its.toArray},toks:=t'} :=
 f.laid (λ_ _ q=>n_ _ q) (ii _) ⟨i,its,0,hv,tz _ rfl⟩
def Inv.fresh(f:Inv X Nc Z H s):H s.heap.objs.size=Y:=f.hok.fresh (ii _)
def Inv.lstM(i:Inv X Nc Z H s)(j:H l=J (.lst xs)):xs.length<=sizeLine/\∃(f:VT) (n:Nat),aw xs f/\xs.length=f.length/\s.heap.get? l=J { cls:=.type "list",data:=.seq f.toArray n}:=by obtain⟨z,f,n,r,e⟩:=i.hok l _ j;exact⟨z,f,n,r,r.length,e⟩
def nc(h:n<=sizeLine):Builtin.List.listTooLong n=T:=by unfold Builtin.List.listTooLong;exact decide_eq_false ⋯
end
section
variable{X:Cx}
def Ez:V->List V->Hp->VK->Prop:=λx f H Q=>∃l xs y,x=.ref l/\f=[y]/\H l=J (.lst xs)/\xs.length<sizeLine/\Q .non (kx H l (.lst (xs++[y])))
def sg:Rv X "list.append" Ez:=by
 intro G s Z H x P v M Q f B C h;obtain⟨l,xs,y,rfl,rfl,j,O,q⟩:=h;cases B;obtain⟨u,rfl,E⟩:=C.one;obtain⟨z,i,n,r,L,e⟩:=f.lstM j;refine call_meets F.slot_list_append ⟨_,e,rfl⟩ F.entry_list_append (F.args_list_append_2 _ _) (PySem.list_append l i.toArray n u (by rw[rT];lia)) ⟨e,?_⟩;refine⟨.non,_,f.lset (its':=i++[u]) j e (by simp) (r.append (.cons E .nil)) ?_,rfl,q⟩
 grind
def EA:V->List V->Hp->VK->Prop:=λx i H Q=>∃l b xs f,x=.ref l/\i=[.ref b]/\H l=J (.lst xs)/\H b=J (.lst f)/\xs.length+f.length<=sizeLine/\Q .non (kx H l (.lst (xs++f)))
def zh:Rv X "list.extend" EA:=by
 intro W s Z H x vs v us Q j L M h;obtain⟨l,b,xs,zs,rfl,rfl,E,R,hz,q⟩:=h;cases L;obtain⟨u,rfl,P⟩:=M.one;cases P;obtain⟨z,i,n,r,hl,e⟩:=j.lstM E;obtain⟨U,f,G,S,O,e2⟩:=j.lstM R;have C:i.toArray.size+f.toArray.size<=sizeLine:=by rw[rT,rT];lia
 have B:¬(!i.toArray.isEmpty&&Builtin.List.listTooLong (i.toArray.size+f.toArray.size))=I:=by rw[nc C,Q0];exact GG
 refine call_meets F.slot_list_extend ⟨_,e,rfl⟩ F.entry_list_extend (F.args_list_extend_2 _ _)
  (AutoSeq1.list_extend_list_list_0 l i.toArray n b f.toArray G B (by rw[rT];lia) ⋯) ⟨e,e2,?_⟩
 refine⟨.non,_,j.lset (its':=i++f) E e (by simp) (r.append S) ?_,rfl,q⟩;rw[xK];lia
def Io:V->List V->Hp->VK->Prop:=λx f H Q=>∃l xs i k y,x=.ref l/\f=[.int i]/\H l=J (.lst xs) /\ -(2^63)<=i/\i<2^63/\seqIndex? i xs.length=J k/\xs[k]?=J y/\Q y (kx H l (.lst (xs.eraseIdx k)))
def Bx:Rv X "list.pop" Io:=by
 intro W s Z H x vs v us Q f E G h;obtain⟨l,xs,i,k,y,rfl,rfl,C,L,S,U,M,q⟩:=h;cases E;obtain⟨u,rfl,P⟩:=G.one;obtain⟨t,rfl⟩:=P;obtain⟨z,j,n,r,O,e⟩:=f.lstM C;obtain⟨w,R,B⟩:=r.get M;refine call_meets F.slot_list_pop ⟨_,e,rfl⟩ F.entry_list_pop (F.args_list_pop_2 _ _)
  (MeetsSeq.list_pop_at l j.toArray n i t k w (fitsIndex_both L S) (by rw[rT,<-O];exact U) (by rw[<-v_];exact R) (by rw[rT];lia)) ⟨e,?_⟩
 refine⟨y,_,f.lset (its':=j.eraseIdx k) C e ?_ (r.eraseIdx k) ?_,B,q⟩
 .simp_all
 .have:=rE xs k
  lia
def Rw:R2:=λx y H Q=>∃l b xs f,x=.ref l/\y=.ref b/\H l=J (.lst xs)/\H b=J (.lst f)/\xs.length+f.length<=sizeLine/\∀p,H p=Y->Q (.ref p) (kx H p (.lst (xs++f)))
def Ip:OpR X (binaryOp .Add) Rw:=by
 intro R s Z H x y v u Q f E C h;obtain⟨l,b,xs,U,rfl,rfl,B,L,W,q⟩:=h;cases E;cases C;obtain⟨z,j,n,r,S,e⟩:=f.lstM B;obtain⟨P,i,O,M,G,e2⟩:=f.lstM L;refine PySem.P.add_list e e2 ?_ (by rw[rT,rT];lia);have F:j.toArray++i.toArray=(j++i).toArray:=by simp
 rw[F];exact⟨.ref _,_,f.lnew (t':=s.toks) (r.append M) (by rw[xK];lia),rfl,q _ f.fresh⟩
def Rx:R2:=λx y H Q=>∃l k xs,x=.ref l/\y=.int k/\H l=J (.lst xs) /\ -(2^63)<=k/\k<2^63/\xs.length*k.toNat<=sizeLine /\
 ∀p,H p=Y->Q (.ref p) (kx H p (.lst (List.replicate k.toNat xs).flatten))
def vJ{α:Type}(xs:List α)(k:Nat):(List.replicate k xs).flatten.length=k*xs.length:=by simp
def Iq:OpR X (binaryOp .Mult) Rx:=by
 intro Nc s Z H x y v u Q i U S h;obtain⟨l,k,xs,rfl,rfl,R,W,h2,O,q⟩:=h;cases U;obtain⟨t,rfl⟩:=S;obtain⟨z,f,n,r,hl,e⟩:=i.lstM R;have C:f.toArray.size*k.toNat<=sizeLine:=by rw[rT,<-hl];exact O
 have G:¬f.toArray.size*k.toNat>(2^63-1)/8:=by
  have:(sizeLine:Nat)<=(2^63-1)/8:=by decide
  lia
 have B:¬(!Builtin.List.listFitsIndex k)=I:=by rw[fitsIndex_both W h2];exact GG
 have j:¬Builtin.List.listTooLong (f.toArray.size*k.toNat)=I:=by rw[nc C];exact GG
 have E:List.foldl (λL M=>L++M) #[] (List.replicate (if f.toArray.isEmpty=I then 0 else k.toNat) f.toArray)=(List.replicate k.toNat f).flatten.toArray:=by
  have f0:∀m:Nat,List.foldl (λL M=>L++M) #[] (List.replicate m f.toArray)=(List.replicate m f).flatten.toArray:=λm=>by
   have:=rW f m []
   exact this
  rw[f0]
  cases f with
  |nil=>simp
  |cons a r'=>rw[f_ (by simp)]
 refine wpAny_binaryOp_repeat_ref (by decide) ⟨_,e,rfl⟩ (λP=>typeIs_int P k t) noFill_list_mul F.fills_int_mul F.slot_int_rmul repeat_list F.slot_int_index.lookup
  (call_meets F.slot_int_rmul (typeIs_int s k t) F.entry_int_rmul (F.args_int_rmul_2 _ _) (int___rmul___int_list k t l f.toArray n)
   ⟨e,rfl,⟨_,e,rfl⟩,call_meets F.slot_list_mul ⟨_,e,rfl⟩ F.entry_list_mul (F.args_list_mul_2 _ _) (AutoListH.list___mul___list_int_3 l f.toArray n k t B G j) ⟨e,?_⟩⟩)
 rw[E];exact⟨.ref _,_,i.lnew (t':=s.toks) (r.rep k.toNat) (by rw[vJ,Nat.mul_comm];exact O),rfl,q _ i.fresh⟩
end
section
variable{prog:Program}{w:World}{A:Around}{E:VB}{s:Shared}
end
section
variable{X:Cx}
end
end L2
namespace Att
open PySem.W PySem.Calls PyProof.Rows
def oC:∀(ns:VN)(f:VT),WellAll P h f (ns.map WData.int)->IntsAre f ns:=by
 intro ns
 induction ns with
 |nil =>
  intro f w;rw[List.map_nil]at w;cases w;exact .nil
 |cons n ns i =>
  intro f w;rw[qw]at w
  cases w with
  |cons a b =>
   cases a;exact .cons _ _ (i _ b)
def zG{l:OpenLaw}{n:Nat}(O:l.most=J n){P:Params}{h:Heap}{f:List WData}{i:VT}(j:l.row.toRowW.claim.pre f=I)(E:WellAll P h i f):
  ∃a F ns,i=[Value.ref a]/\f=[WData.list (ns.map WData.int)]/\h.get? a=J { cls:=.type "list",data:=.seq F.toArray}/\IntsAre F ns/\ns.length<=n:=by
 have C:=(pre_splitW j).1;have S:=(pre_splitW j).2;obtain⟨d,r,rfl,G,M⟩:=hasAllW_cons C;obtain rfl:=hasAllW_nil M;obtain⟨xs,rfl,Q⟩:=hasW_list G;obtain⟨ns,rfl⟩:=items_int Q;have z:ns.length<=n:=by
  have B:(WTm.not (.lt (.lit (.int (n:Int))) (.len (.arg 0)))).holds [] { args:=[.list (ns.map .int)]}=I:=by have B:=(holds_andW S).1;rw[O]at B;exact B
  have U:=condW_of B (w_not (w_lt w_lit (w_len_list (w_arg rfl))))
  simp_all
 cases E with
 |cons R L =>
  cases L
  cases R with
  |list H u=>exact⟨_,_,ns,rfl,rfl,H,oC ns _ u,z⟩
def zA(l:OpenLaw)(f:List WData):l.row.toRowW.claim.post f (.bool I) f=I :=
 postW_of
  (show WShape.has [] (.bool I) .bool=I by first | rfl | decide | simp)
  (w_eq_bool (w_res rfl) w_lit) rfl
def vD{l:OpenLaw}{n:Nat}{q:Program}{loose:VM}{XP:(Str->VV)->Heap->Prop}{W:World->Heap->Prop}{d:DefRec}(hn:l.most=J n)(M:d.params.defaults=[])(call:∀(w:World)(s₀ i:Shared)(mg mb:VC)(B:Addr)(o:Obj)(pm L u:Value)(a:Addr)(z:VT)(ns:VN),
   Ground q loose [] XP w s₀ mg mb i.heap->W w i.heap ->
   i.heap.get? B=J o->o.data=.func (docDef d.name d.params d.body d.scope pm L u)->i.heap.CodeRec L d.name->mg d.name=J (.ref B) ->
   i.heap.get? a=J { cls:=.type "list",data:=.seq z.toArray}->IntsAre z ns->ns.length<=n->i.gens=#[] ->
   codeAny (model l.prog w) callerA (.call (.ref B) ⟨[.ref a],[]⟩) (λr H=>r=.ok (.ret (.bool I))/\OldK i.heap H.heap/\H.os=i.os/\AllBare H.gens) i):
  WalkO q loose XP W l.row.toRowW d [] (λf z=>PySem.call f z):=by
 intro w s₀ i mg mb G O B o pm L u dV kV ho hd P U Q hg S X as E Z ab R an;obtain rfl:=Dflts.none U M;obtain rfl:=Dflts.noKw U;obtain⟨a,z,ns,rfl,rfl,F,j,C⟩:=zG hn E R;refine enter_call (codeAny_mono (call w s₀ i mg mb B o pm L u a z ns G O ho (fd_plain hd) P Q F j C hg) λr H hq=>?_);obtain⟨rfl,h2,h3,h4⟩:=hq;exact⟨.inl ⟨.bool I,.bool I,[],rfl,λ_=>rfl,.bool I,zA l _,λ_=>⟨List.Pairwise.nil,λ_ hm=>(nomatch hm)⟩⟩,h2,h3,h4⟩
section
variable{prog:Program}{w:World}{A:Around}{E:VB}{s:Shared}{K:Frag}
end
end Att
namespace L2
open PySem.Spec PyProof.Rows
def rV:∀{f:VT}{ns:VN},IntsAre f ns->aw (ns.map V.int) f
 |_,_,.nil=>.nil
 |_,_,.cons n t h=>.cons ⟨t,rfl⟩ (rV h)
def Ir(H:Hp):Prop:=∀b,H b=Y\/∃o xs,H b=J (.frz o (.lst xs))
def Bo{P:Program}{w:World}{K:h8}{mg mb:VC}{CX:Dl}{k:Nat}{fa a:Addr}{fd:FuncData}{x:Str}{sp:Sp}{f:Shared}{G:VT}{ns:VN}(KX:K.In f.heap)(R:f.heap.Ns mainGlobals mg)(j:f.heap.Ns builtinsNs mb)(ab:∀x:Str,x≠"__name__"->mb x=bootBuiltins x)(W:f.heap.NoLimit)(hg:f.gens=#[])(X:f.heap.get? a=J { cls:=.type "list",data:=.seq G.toArray})(hi:IntsAre G ns)(hl:ns.length<=sizeLine)(hr:Room k callerA)(F:∀base:Heap,K.In base->base.Ns mainGlobals mg->FnOk P w K mg base CX k fa fd [x] sp)(E:∀(s:Shared) (u:Value),BindsTo s fd ⟨[u],[]⟩ [(x,u)])(Z:∀H:Hp,Ir H->SqL K H a (ns.map V.int)->sp [.ref a] H (λv _=>v=.bl I) λ_ _ _=>False)(ap:∀H e l,CX [] H f (λ_ _ _=>False) e l->False):
  codeAny (model P w) callerA (.call (.ref fa) ⟨[.ref a],[]⟩) (λr l=>r=.ok (.ret (.bool I))/\OldK f.heap l.heap/\l.os=f.os/\AllBare l.gens) f:=by
 have rv:=rV hi;have S:=hi.length;have C:∀H:Hp,Ir H->SqL K H a (ns.map V.int)->HOk P w H f.heap->(∀b,H b≠Y->b=a)->(H a≠Y->K.lookup a=Y) ->
   codeAny (model P w) callerA (.call (.ref fa) ⟨[.ref a],[]⟩) (λr l=>r=.ok (.ret (.bool I))/\OldK f.heap l.heap/\l.os=f.os/\AllBare l.gens) f:=by
  intro H hO hS hok hA hK;have i:∀{b:Addr}{o:Obj},f.heap.get? b=J o->H b=Y->(j5 f.heap H).get? b=J o:=λe n=>BN e n;have an:∀{b:Addr}{o:Obj}{U:Array DictEntry}{Q:Nat},f.heap.get? b=J o->o.data=.dict U Q->H b=Y:=λ{b o U Q} e d=>by
   cases q:H b with
   |none=>rfl
   |some u =>
    have e':b=a:=hA b (by rw[q];simp);subst e';rw[X]at e;cases e;have d':Data.seq G.toArray _=Data.dict U Q:=d;cases d'
  have B:∀{b:Addr}{m:VC},f.heap.Ns b m->(j5 f.heap H).Ns b m:=λ{b m} ⟨o,U,Q,e,d,r⟩=>⟨o,U,Q,i e (an e d),d,r⟩
  have L:K.In (j5 f.heap H):=λb o e=>i (KX b o e) (by
   cases q:H b with
   |none=>rfl
   |some u =>
    have e':b=a:=hA b (by rw[q];simp);subst e'
    rw[hK (by rw[q];simp)]at e;cases e)
  have hM:Mod K mg (j5 f.heap H):=⟨L,B R,⟨mb,B j,ab⟩,let⟨mc,h1,h2⟩:=W;⟨mc,B h1,h2⟩⟩;have e0:Er P w K mg (j5 f.heap H) callerA [] f H:=⟨rfl,hM,λb o e=>Ef e,Q2 (zk _ _),trivial,λb j=>absurd (show b∈([]:VS)from j) (by simp),hok,.of_eq hg⟩;refine codeAny_mono ((F _ L (B R)).run callerA [] f H ⟨[.ref a],[]⟩ [.ref a] [.ref a] _ _ hr e0 (E f (.ref a)) (.cons rfl .nil) (Z H hO hS)) λr l h=>?_
  cases r with
  |error e=>exact(ap H e l h).elim
  |ok fl =>
   cases fl with
   |next=>exact False.elim h
   |brk=>exact False.elim h
   |cont=>exact False.elim h
   |ret u =>
    obtain⟨v,H',os,bare,un,O,r',q⟩:=h;have q':v=.bl I:=q;subst q';obtain rfl:u=Value.bool I:=r';refine⟨rfl,OldK.of_keep λb o e=>?_,os,bare⟩
    cases q:H b with
    |none=>exact un.keep b o e q (by intro z;exact absurd (show b∈([]:VS)from z) (by simp)) (by simp)
    |some u =>
     rcases hO b with z|⟨ob,xs,z⟩
     .rw[q]at z;cases z
     .have z2:=un.frzs b ob _ z;obtain⟨e1,_⟩:=hok b _ z;obtain⟨e2,_⟩:=O b _ z2;rw[e]at e1;cases e1;exact e2
 cases hk:K.lookup a with
 |some o =>
  have e:=KX a o hk;rw[X]at e;cases e;refine C (λ_=>Y) (λ_=>.inl rfl) (.inr ⟨_,G.toArray,_,hk,rfl,rfl,rfl,by rw[rT,S];exact hl,by simpa using rv⟩) (λb u z=>by have M:(Y:Option HO)=J u:=z;cases M) (λb z=>absurd rfl z) λz=>absurd rfl z
 |none =>
  refine C (λb=>if b=a then J (.frz { cls:=.type "list",data:=.seq G.toArray} (.lst (ns.map V.int)))else Y) (λb=>?_) (.inl (.inr ⟨{ cls:=.type "list",data:=.seq G.toArray},c_ rfl⟩)) (λb u z=>?_) (λb z=>?_) λ_=>hk
  .by_cases j:b=a
   .exact .inr ⟨_,_,c_ j⟩
   .exact .inl (f_ j)
  .by_cases j:b=a
   .have M:=(c_ j).symm.trans z;cases M;subst j;exact⟨X,by rw[BL];exact hl,G,_,rv,X⟩
   .have M:=(f_ j).symm.trans z;cases M
  .by_cases j:b=a
   .exact j
   .exact absurd (f_ j) z
abbrev n3{K:h8}{h:Heap}(_:K.In h):h8:=K
def EB{l:PySem.W.OpenLaw}{n k:Nat}{q:Program}{loose:VM}{XP:(Str->VV)->Heap->Prop}{R:World->Heap->Prop}{d:DefRec}{K:Params->h8}{CX:World->Dl}{sp:World->Sp}{x:Str}(hn:l.most=J n)(Q:n<=sizeLine)(E:d.params.defaults=[])(Z:Room k callerA)(W:∀(w:World)(h:Heap),R w h->(K w.params).In h)(F:∀(w:World)(mg:VC)(B:Addr)(h:Heap),(K w.params).In h->h.Ns mainGlobals mg->mg d.name=J (.ref B) ->
   ∃fd:FuncData,(∀(s:Shared)(u:Value),BindsTo s fd ⟨[u],[]⟩ [(x,u)]) /\
    ∀base:Heap,(K w.params).In base->base.Ns mainGlobals mg->FnOk l.prog w (K w.params) mg base (CX w) k B fd [x] (sp w))(P:∀(w:World)(H:Hp)(a:Addr)(ns:VN),ns.length<=n->Ir H->SqL (K w.params) H a (ns.map V.int)->sp w [.ref a] H (λv _=>v=.bl I) λ_ _ _=>False)(O:∀(w:World)(H:Hp)(s:Shared)(e:Value)(C:Shared),CX w [] H s (λ_ _ _=>False) e C->False):
  PySem.W.WalkO q loose XP R l.row.toRowW d [] (λf U=>PySem.call f U):=by
 refine Att.vD hn E λw s₀ z mg mb B o pm cd an a U ns G L ho hd ab M r j i X=>?_;have S:=W w _ L;obtain⟨fd,hb,hF⟩:=F w mg B _ S G.T.g M;exact Bo S G.T.g G.T.b G.T.builtins G.T.nolimit X r j (o0 i Q) Z hF hb (λH hO hS=>P w H a ns i hO hS) λH e C=>O w H z e C
def iI(s:Stmt):Arguments:=match s with
 |.FunctionDef _ a _ _ _ _ _ _ _ _=>a
 |_=>{ posonlyargs:=[],args:=[],vararg:=Y,kwonlyargs:=[],kw_defaults:=[],kwarg:=Y,defaults:=[]}
def aC(s:Stmt):VF:=match s with
 |.FunctionDef _ _ b _ _ _ _ _ _ _=>b
 |_=>[]
def ak(s:Stmt):Scope:=match s with
 |.FunctionDef _ _ _ _ _ _ f _ _ _=>f
 |_=>{ kind:=.function,names:=[],isGenerator:=T,isCoroutine:=T}
structure Fun(K:h8)(x qual:Str)(st:Stmt)(f:Addr)(fd:FuncData):Prop where
 ex:∃(oc:Value)(od:VG)(kV doc pm:Value)(an:VG)(cdv ct:Value)(osl:Array (VV)),
  fd=PySem.W.fnOf x qual (iI st) (aC st) (ak st) .none kV doc pm an cdv ct/\K.lookup f=J ⟨oc,od,.func fd,osl⟩/\PySem.W.codeIn K cdv qual=I
 kp:PySem.W.keepIn K (.ref f)=I
section
variable{P:Program}{w:World}{K:h8}{mg:VC}{base:Heap}
def Fun.binds{x i:Str}{st:Stmt}{f:Addr}{fd:FuncData}{r:VM}(F:Fun K x i st f fd)(h:∀(kV j pm:Value)(u:VG)(l ct:Value)(z:VT),z.length=r.length->bindArgs (PySem.W.fnOf x i (iI st) (aC st) (ak st) .none kV j pm u l ct) ⟨z,[]⟩=pure (r.zip z)):o3 K fd r []:=by
 obtain⟨G,E,kV,j,pm,u,l,ct,C,rfl,H,B⟩:=F.ex;exact .all (h kV j pm u l ct)
def Is{x i:Str}{st:Stmt}{f:Addr}{B:Value}{C z:VG}{u:Array (VV)}{kV r pm j ct:Value}(l:K.lookup f=J ⟨B,C,.func (PySem.W.fnOf x i (iI st) (aC st) (ak st) .none kV r pm z j ct),u⟩)(c:PySem.W.codeIn K j i=I)(k:PySem.W.keepIn K (.ref f)=I):Fun K x i st f (PySem.W.fnOf x i (iI st) (aC st) (ak st) .none kV r pm z j ct):=⟨⟨B,C,kV,r,pm,z,j,ct,u,rfl,l,c⟩,k⟩
end
section
variable{X:Cx}
end
end L2
namespace MM
open PySem.Spec PyProof.Rows L2
inductive PV where
 |non | bl (b:Bool) | int (i:Int) | str (x:Str) | tup (xs:List PV) | frl (xs:List PV) | loc (n:Nat)
abbrev _root_.VL:=List PV
structure CY where
 cls:Str
 fs:List (Str×PV):=[]
inductive MO where
 |lst(xs:VL)
 |dic(ks:VP)(xs:VL)
 |exc(x:CY)
abbrev MH:=List MO
abbrev mh:=List (Option PV)
inductive Out(α:Type) where
 |ok(a:α)(h:MH)
 |exc(x:CY)(h:MH)
 |bad
abbrev _root_.VZ:=Out PV
def Out.bind{α β:Type}(o:Out α)(f:α->MH->Out β):Out β:=match o with
 |.ok a h=>f a h
 |.exc x h=>.exc x h
 |.bad=>.bad
@[simp]theorem Out.bind_ok(a:α)(h:MH)(f:α->MH->Out β):(Out.ok a h).bind f=f a h:=rfl
@[simp]theorem Out.bind_exc(x:CY)(h:MH)(f:α->MH->Out β):(Out.exc x h).bind f=.exc x h:=rfl
@[simp]theorem Out.bind_bad(f:α->MH->Out β):(Out.bad:Out α).bind f=.bad:=rfl
inductive SOut where
 |nx(Z:mh)(h:MH)
 |rt(v:PV)(h:MH)
 |bk(Z:mh)(h:MH)
 |ct(Z:mh)(h:MH)
 |exc(x:CY)(Z:mh)(h:MH)
 |rse(x:CY)(Z:mh)(h:MH)
 |bad
def Out.ne{α:Type}(o:Out α):Out α:=match o with
 |.exc _ _=>.bad
 |o=>o
@[simp]theorem Out.ne_ok(a:α)(h:MH):(Out.ok a h).ne=.ok a h:=rfl
@[simp]theorem Out.ne_bad:(Out.bad:Out α).ne=.bad:=rfl
@[simp]theorem Out.ne_ne(o:Out α):o.ne.ne=o.ne:=by cases o<;>rfl
def SqF(K:h8)(H:Hp)(a:Addr)(ys:List V):Prop :=
 (∃o,H a=J (.frz o (.lst ys))) \/
  ∃(o:Obj) (f:Array Value) (n:Nat),K.lookup a=J o/\o.cls=.type "list"/\o.dict=Y/\o.data=.seq f n/\f.size<=sizeLine/\aw ys f.toList
def SqF.sq{K:h8}{H:Hp}{a:Addr}{ys:List V}(h:SqF K H a ys):SqL K H a ys:=by
 rcases h with h|h
 .exact .inl (.inr h)
 .exact .inr h
mutual
inductive RP(K:h8)(U:VS)(H:Hp):PV->V->Prop where
 |non:RP K U H .non .non
 |bl(b:Bool):RP K U H (.bl b) (.bl b)
 |int(i:Int):RP K U H (.int i) (.int i)
 |str(x:Str):RP K U H (.str x) (.str x)
 |tup{xs:VL}{a:Addr}{ys:List V}(s:SqT K H a ys)(r:RPs K U H xs ys):RP K U H (.tup xs) (.ref a)
 |frl{xs:VL}{a:Addr}{ys:List V}(s:SqF K H a ys)(r:RPs K U H xs ys):RP K U H (.frl xs) (.ref a)
 |loc{n:Nat}{a:Addr}(e:U[n]?=J a):RP K U H (.loc n) (.ref a)
inductive RPs(K:h8)(U:VS)(H:Hp):VL->List V->Prop where
 |nil:RPs K U H [] []
 |cons{x:PV}{y:V}{xs:VL}{ys:List V}(r:RP K U H x y)(t:RPs K U H xs ys):RPs K U H (x::xs) (y::ys)
end
structure Le(U:VS)(H:Hp)(U':VS)(H':Hp):Prop where
 pre:∃m,U'=U++m
 tup:∀a xs,H a=J (.tup xs)->H' a=J (.tup xs)
 frz:∀a o u,H a=J (.frz o u)->H' a=J (.frz o u)
def Le.refl(U:VS)(H:Hp):Le U H U H:=⟨⟨[],by simp⟩,λ_ _ h=>h,λ_ _ _ h=>h⟩
def Le.trans(a:Le U H U1 H1)(b:Le U1 H1 U2 H2):Le U H U2 H2:=by obtain⟨m,e⟩:=a.pre;obtain⟨i,f⟩:=b.pre;exact⟨⟨m++i,by rw[f,e,DJ]⟩,λc xs h=>b.tup c xs (a.tup c xs h),λc o u h=>b.frz c o u (a.frz c o u h)⟩
def Le.get{U f:VS}{H i:Hp}(l:Le U H f i){n:Nat}{a:Addr}(e:U[n]?=J a):f[n]?=J a:=by obtain⟨m,j⟩:=l.pre;rw[j,sd (qt.mp e).1];exact e
def Le.sqt{K:h8}{U i:VS}{H f:Hp}(l:Le U H i f){a:Addr}{xs:List V}(h:SqT K H a xs):SqT K f a xs:=by
 rcases h with(h|⟨o,h⟩)|h
 .exact .inl (.inl (l.tup _ _ h))
 .exact .inl (.inr ⟨o,l.frz _ _ _ h⟩)
 .exact .inr h
def Le.sqf{K:h8}{U i:VS}{H f:Hp}(l:Le U H i f){a:Addr}{xs:List V}(h:SqF K H a xs):SqF K f a xs:=by
 rcases h with⟨o,h⟩|h
 .exact .inl ⟨o,l.frz _ _ _ h⟩
 .exact .inr h
section
variable{K:h8}{U U':VS}{H H':Hp}
def RP.le(l:Le U H U' H'){x:PV}{y:V}(r:RP K U H x y):RP K U' H' x y :=
 RP.rec .non .bl .int .str (λs _ i=>.tup (l.sqt s) i) (λs _ i=>.frl (l.sqf s) i) (λe=>.loc (l.get e)) .nil (λ_ _ a b=>.cons a b) r
def RPs.le(l:Le U H U' H')(r:RPs K U H xs ys):RPs K U' H' xs ys:=by
 induction xs generalizing ys with
 |nil=>cases r;exact .nil
 |cons x xs f=>cases r with|cons a t=>exact .cons (a.le l) (f t)
def RPs.length(r:RPs K U H xs ys):xs.length=ys.length:=by
 induction xs generalizing ys with
 |nil=>cases r;rfl
 |cons x xs f=>cases r with|cons a t=>exact congrArg (·+1) (f t)
def RPs.get{xs:VL}{ys:List V}{i:Nat}{x:PV}(r:RPs K U H xs ys)(e:xs[i]?=J x):∃y,ys[i]?=J y/\RP K U H x y:=by
 induction xs generalizing ys i with
 |nil=>cases e
 |cons x xs f =>
  cases r with
  |cons a t =>
   cases i with
   |zero=>cases e;exact⟨_,rfl,a⟩
   |succ i=>have z:=@f _ i t e;exact z
def RPs.set(r:RP K U H x u)(i:Nat)(q:RPs K U H xs us):RPs K U H (xs.set i x) (us.set i u):=by
 induction xs generalizing us i with
 |nil=>cases q;exact .nil
 |cons x xs f =>
  cases q with
  |cons a t =>
   cases i with
   |zero=>exact .cons r t
   |succ i=>exact .cons a (f i t)
def RPs.append(r:RPs K U H xs us)(s:RPs K U H ys ws):RPs K U H (xs++ys) (us++ws):=by
 induction xs generalizing us with
 |nil=>cases r;exact s
 |cons x xs f=>cases r with|cons a t=>exact .cons a (f t)
def RPs.take(n:Nat)(r:RPs K U H xs us):RPs K U H (xs.take n) (us.take n):=by
 induction n generalizing xs us with
 |zero=>exact .nil
 |succ n f =>
  cases xs with
  |nil=>cases r;exact .nil
  |cons x xs=>cases r with|cons a t=>exact .cons a (f t)
def RPs.drop(n:Nat)(r:RPs K U H xs us):RPs K U H (xs.drop n) (us.drop n):=by
 induction n generalizing xs us with
 |zero=>exact r
 |succ n f =>
  cases xs with
  |nil=>cases r;exact .nil
  |cons x xs=>cases r with|cons a t=>exact f t
def RPs.ints:∀(ns:VN),RPs K U H (ns.map PV.int) (ns.map V.int)
 |[]=>.nil
 |n::r=>.cons (.int n) (RPs.ints r)
end
def ja(a C:Addr)(h:Heap):Prop:=∃o f,h.get? a=J o/\o.cls=.ref C/\o.data=.fields f
abbrev Cd:=Str->VV
def Ry(x:VN×Addr×Value):DictEntry:=⟨reduceHash (Builtin.Tuple.tupleHashOf (x.1.map hashInt)),.ref x.2.1,x.2.2⟩
def DT(a:Addr)(bs:List (VN×Addr×Value))(h:Heap):Prop :=
 ∃o f i,h.get? a=J o/\o.ExactDict/\o.data=.dict f i/\f.toList=bs.map Ry/\(bs.map (·.1)).Nodup/\(a==sysModules)=T/\bs.length<=sizeLine
def qX{a:Addr}{bs:List (VN×Addr×Value)}:∀f i:Heap,DT a bs f->(∀o,f.get? a=J o->i.get? a=J o)->DT a bs i :=
 λ_ _ ⟨o,l,j,u,r⟩ k=>⟨o,l,j,k o u,r⟩
inductive DR(K:h8)(U:VS)(H:Hp)(a:Addr)(ks:VP)(xs:VL)(oh:Option HO):Prop
 |mk(bs:List (VN×Addr×Value))(ys:List V)(e:ks=bs.map (·.1))(kr:∀x∈bs,SqT K H x.2.1 (x.1.map V.int))(vs:aw ys (bs.map (·.2.2)))(r:RPs K U H xs ys)(o:oh=J (.ext (DT a bs)))
def DR.le{K:h8}{U j:VS}{H i:Hp}{a:Addr}{f:VP}{xs:VL}{u:Option HO}(l:Le U H j i)(r:DR K U H a f xs u):DR K j i a f xs u:=by obtain⟨bs,ys,e,z,C,r,o⟩:=r;exact⟨bs,ys,e,λx B=>l.sqt (z x B),C,r.le l,o⟩
def RO(K:h8)(mg:Cd)(U:VS)(H:Hp)(a:Addr):MO->Option HO->Prop
 |.lst xs,f=>∃ys,f=J (.lst ys)/\RPs K U H xs ys
 |.dic i xs,f=>DR K U H a i xs f
 |.exc x,f=>x.fs=[]/\∃C,mg x.cls=J (.ref C)/\f=J (.ext (ja a C))
structure RH(K:h8)(mg:Cd)(U:VS)(H:Hp)(h:MH):Prop where
 len:U.length=h.length
 nd:U.Nodup
 at':∀(n:Nat)(a:Addr)(o:MO),U[n]?=J a->h[n]?=J o->RO K mg U H a o (H a)
def RO.le{K:h8}{mg:Cd}{U i:VS}{H f:Hp}{a:Addr}(l:Le U H i f){o:MO}{j:Option HO}(r:RO K mg U H a o j):RO K mg i f a o j:=by
 cases o with
 |lst xs=>obtain⟨ys,e,r⟩:=r;exact⟨ys,e,r.le l⟩
 |dic u xs=>exact DR.le l r
 |exc x=>exact r
def RO.some{K:h8}{mg:Cd}{U:VS}{H:Hp}{a:Addr}{o:MO}{f:Option HO}(r:RO K mg U H a o f):f≠Y:=by
 cases o with
 |lst xs=>obtain⟨ys,e,_⟩:=r;rw[e];simp
 |dic i xs=>obtain⟨_,_,_,_,_,_,e⟩:=r;rw[e];simp
 |exc x=>obtain⟨_,C,_,e⟩:=r;rw[e];simp
def RO.plain{K:h8}{mg:Cd}{U:VS}{H:Hp}{a:Addr}{o:MO}{f:Option HO}(r:RO K mg U H a o f):(∀xs,f≠Option.some (.tup xs))/\∀p u,f≠Option.some (.frz p u):=by
 cases o with
 |lst xs=>obtain⟨ys,e,_⟩:=r;rw[e];exact⟨(λ_ z=>nomatch z),(λ_ _ z=>nomatch z)⟩
 |dic i xs=>obtain⟨_,_,_,_,_,_,e⟩:=r;rw[e];exact⟨(λ_ z=>nomatch z),(λ_ _ z=>nomatch z)⟩
 |exc x=>obtain⟨_,C,_,e⟩:=r;rw[e];exact⟨(λ_ z=>nomatch z),(λ_ _ z=>nomatch z)⟩
section
variable{K:h8}{mg:Cd}{U:VS}{H:Hp}{h:MH}
def RH.obj(r:RH K mg U H h){n:Nat}{a:Addr}(e:U[n]?=J a):∃o,h[n]?=J o/\RO K mg U H a o (H a):=by
 have f:n<h.length:=by rw[<-r.len];exact(qt.mp e).1
 exact⟨h[n],by simp,r.at' n a _ e (by simp)⟩
def RH.new(r:RH K mg U H h){p:Addr}(E:H p=Y){o:MO}{ho:HO}(M:RO K mg U H p o (J ho)):RH K mg (U++[p]) (kx H p ho) (h++[o])/\Le U H (U++[p]) (kx H p ho):=by
 have i:∀n a,U[n]?=J a->a≠p:=λn a e z=>by
  obtain⟨F,_,q⟩:=r.obj e;rw[z,E]at q;exact q.some rfl
 have l:Le U H (U++[p]) (kx H p ho):=⟨⟨[p],rfl⟩,λa xs e=>by rw[aN (bK e E)];exact e,λa O u e=>by rw[aN (bK e E)];exact e⟩;refine⟨⟨by simp[r.len],?_,λn a F e1 e2=>?_⟩,l⟩
 .rw[CJ];refine⟨r.nd,by simp,λa G b L=>?_⟩;obtain⟨n,e⟩:=Bs.mp G;have j:b=p:=by simpa using L
  rw[j];exact i n a e
 .by_cases f:n<U.length
  .rw[sd f]at e1;rw[sd (by rw[<-r.len];exact f)]at e2;rw[aN (i n a e1)];exact(r.at' n a F e1 e2).le l
  .rw[C5 ⋯]at e1;rw[C5 (by rw[<-r.len];lia)]at e2;have C:n-U.length=0:=by
    grind
   rw[C]at e1;have B:n-h.length=0:=by have:=r.len;lia
   rw[B]at e2;simp at e1 e2;subst e1;subst e2;rw[bD];exact M.le l
def RH.put(r:RH K mg U H h){n:Nat}{a:Addr}(e:U[n]?=J a){o:MO}{ho:HO}(L:RO K mg U H a o (J ho)):RH K mg U (kx H a ho) (h.set n o)/\Le U H U (kx H a ho):=by
 obtain⟨R,_,q⟩:=r.obj e;obtain⟨i,C⟩:=q.plain
 have l:Le U H U (kx H a ho):=⟨⟨[],by simp⟩,λb xs z=>by
   have:b≠a:=by rintro rfl;exact i _ z
   rw[aN this];exact z,λb O u z=>by
   have:b≠a:=by rintro rfl;exact C _ _ z
   rw[aN this];exact z⟩
 refine⟨⟨by simp[r.len],r.nd,λm b M e1 e2=>?_⟩,l⟩;by_cases f:m=n
 .subst f;rw[e]at e1;cases e1;rw[bD]
  have:m<h.length:=by rw[<-r.len];exact(qt.mp e).1
  rw[yw this]at e2;cases e2;exact L.le l
 .rw[pc (λz=>f z.symm)]at e2;have F:b≠a:=by
   rintro rfl;have j:=qt.mp e;have G:=qt.mp e1;obtain⟨P,E⟩:=j;obtain⟨Q,B⟩:=G;exact f ((List.getElem_inj r.nd).mp (B.trans E.symm))
  rw[aN F];exact(r.at' m b M e1 e2).le l
def RH.tup(r:RH K mg U H h){p:Addr}(i:H p=Y)(ys:List V):RH K mg U (kx H p (.tup ys)) h/\Le U H U (kx H p (.tup ys)):=by
 have f:∀n a,U[n]?=J a->a≠p:=λn a e z=>by
  obtain⟨B,_,q⟩:=r.obj e;rw[z,i]at q;exact q.some rfl
 have l:Le U H U (kx H p (.tup ys)):=⟨⟨[],by simp⟩,λa xs e=>by rw[aN (bK e i)];exact e,λa j u e=>by rw[aN (bK e i)];exact e⟩;exact⟨⟨r.len,r.nd,λn a o e1 e2=>by rw[aN (f n a e1)];exact(r.at' n a o e1 e2).le l⟩,l⟩
end
def RS(K:h8)(U:VS)(H:Hp)(f:mh)(Z:L2.St):Prop :=
 Z.length=f.length/\∀(i:Nat)(v:PV),f[i]?=J (J v)->∃j,Z[i]?=J (J j)/\RP K U H v j
def RS.le{K:h8}{U j:VS}{H u:Hp}{f:mh}{Z:L2.St}(l:Le U H j u)(r:RS K U H f Z):RS K j u f Z :=
 ⟨r.1,λi v e=>by obtain⟨B,z,q⟩:=r.2 i v e;exact⟨B,z,q.le l⟩⟩
def RS.set{K:h8}{U:VS}{H:Hp}{f:mh}{Z:L2.St}(r:RS K U H f Z)(i:Nat){v:PV}{B:V}(q:RP K U H v B):RS K U H (f.set i (J v)) (Z.set i (J B)):=by
 refine⟨by simp[r.1],λj u e=>?_⟩;by_cases l:j=i
 .subst l;by_cases C:j<f.length
  .rw[yw C]at e;cases e;exact⟨B,yw (by rw[r.1];exact C),q⟩
  .rw[Do (by simp;lia)]at e;cases e
 .rw[pc (λz=>l z.symm)]at e;obtain⟨G,F,E⟩:=r.2 j u e;exact⟨G,by rw[pc (λz=>l z.symm)];exact F,E⟩
def T_(B:Heap)(fs:VS)(h:Heap):Prop:=∀b o,h.get? b=J o->b∉fs->∃f,B.get? b=J f
def Rz(l:List Env)(H:Hp)(f:Heap)(C i:Addr)(h:Heap):Prop :=
 ∃B t,Heap.FlyingW B l i (.ref C) (.ref t) h/\(∀b o,H b=J o->∃j,B.get? b=J j)/\T_ B (wh l) f/\H i=Y
structure Dw(X:Cx)(h:Heap):Prop where
 old:∀b o,X.s₀.heap.get? b=J o->b∉X.ex->∃o',h.get? b=J o'
 cell:∀x c,X.env.cells.lookup x=J c->∃o,h.get? c=J o
 pin:∀p∈X.pn,∃o,h.get? p.1=J o
def Inv.bears{X:Cx}{j:VU}{Z:L2.St}{H:Hp}{s:Shared}(f:Inv X j Z H s):Dw X s.heap :=
 ⟨λb o e n=>f.base.there b o e n,λx c e=>let⟨_,o,l,_⟩:=f.cell x c e;⟨o,l⟩,λp i=>⟨_,(f.pin p (s_ _ i)).1⟩⟩
def XP(X:Cx)(r:mh)(U:VS)(H:Hp)(x:CY)(h:MH):Prop:=∀(z C:Addr)(l:VS)(i:Hp)(u:L2.St)(j:Shared)(f:Heap),x.fs=[]->X.mg x.cls=J (.ref C)->Le U H l i->RH X.K X.mg l i h->RS X.K l i r u ->
 Inv X [] u i j->Dw X f->Rz X.stack i f C z j.heap->X.xe (.ref z) j
def XM(X:Cx)(r:mh)(U:VS)(H:Hp)(x:CY)(h:MH):Prop:=∀(B C:Addr)(l:VS)(i:Hp)(z:L2.St)(j:Shared)(u:Heap)(f:VT),x.fs=[]->X.mg x.cls=J (.ref C)->Le U H l i->RH X.K X.mg l i h->RS X.K l i r z ->
 Inv X [] z i { j with heap:=u}->Heap.MadeExcOf u j.heap B (.ref C) f->X.xe (.ref B) j
def XP.le(l:Le U H U' H')(q:XP X σp U H x h):XP X σp U' H' x h :=
 λB C r z i j f e1 e2 u=>q B C r z i j f e1 e2 (l.trans u)
def XM.le(l:Le U H U' H')(q:XM X σp U H x h):XM X σp U' H' x h :=
 λE C u B j r i f e1 e2 z=>q E C u B j r i f e1 e2 (l.trans z)
abbrev Rl(α β:Type):=VS->Hp->α->β->Prop
def Ful{α β:Type}(X:Cx)(R:Rl α β)(l:mh)(U:VS)(H:Hp)(o:Out α)(Q:β->Hp->Prop):Prop:=match o with
 |.ok v j=>∀i f r,Le U H i f->RH X.K X.mg i f j->R i f v r->Q r f
 |.exc x j=>XP X l U H x j
 |.bad=>False
def iN{α β:Type}(X:Cx)(R:Rl α β)(U:VS)(H:Hp)(o:Out α)(Q:β->Hp->Prop):Prop:=match o with
 |.ok v l=>∀i f j,Le U H i f->RH X.K X.mg i f l->R i f v j->Q j f
 |_=>False
def Ful.zero(f:Ful X R σp U H o.ne Q):iN X R U H o Q:=by
 cases o with
 |ok v h=>exact f
 |exc x h=>exact f
 |bad=>exact f
def Ful.le(l:Le U H U1 H1)(f:Ful X R σp U H o Q):Ful X R σp U1 H1 o Q:=by
 cases o with
 |ok v h=>exact λi r u j=>f i r u (l.trans j)
 |exc x h=>exact XP.le l f
 |bad=>exact f
def Ful.bind{α β γ δ:Type}{X:Cx}{R:Rl α β}{S:Rl γ δ}{i:mh}{U:VS}{H:Hp}{o:Out α}{f:α->MH->Out γ}{Q:δ->Hp->Prop}{C:β->Hp->Prop}(q:Ful X S i U H (o.bind f) Q)(k:∀u j v z B,o=.ok v B->Le U H u j->RH X.K X.mg u j B->R u j v z->Ful X S i u j (f v B) Q->C z j):Ful X R i U H o C:=by
 cases o with
 |ok v h=>exact λF E z l r w=>k F E v z h rfl l r w (Ful.le l q)
 |exc x h=>exact q
 |bad=>exact q
abbrev RV'(X:Cx):Rl PV V:=λU H=>RP X.K U H
abbrev RVs'(X:Cx):Rl (VL) (List V):=λU H=>RPs X.K U H
abbrev M1{α:Type}:Rl α α:=λ_ _ x y=>x=y
abbrev Mx(α:Type):=mh->MH->Out α
inductive tM{α β:Type}(X:Cx)(R:Rl α β)(m:Mx α)(Z:L2.St)(H:Hp)(Q:β->Hp->Prop):Prop
 |mk(U:VS)(σp:mh)(h:MH)(rs:RS X.K U H σp Z)(rh:RH X.K X.mg U H h)(q:Ful X R σp U H (m σp h) Q):tM X R m Z H Q
def ME(X:Cx)(e:Expr)(m:Mx PV):Prop:=PE X e (tM X (RV' X) m)
def MT(X:Cx)(e:Expr)(m:Mx Bool):Prop:=PT X e (tM X M1 m)
def MW(X:Cx)(e:Expr)(m:Mx Bool):Prop:=PW X e (tM X M1 m)
def MA(X:Cx)(f:VX)(m:Mx (VL)):Prop:=PA X f (tM X (RVs' X) m)
def PE.imp(h:PE X e t)(i:∀Z H Q,t' Z H Q->t Z H Q):PE X e t':=λj s Z H Q f q=>h j s Z H Q f (i Z H Q q)
def PT.imp(h:PT X e t)(i:∀Z H Q,t' Z H Q->t Z H Q):PT X e t':=λj s Z H Q f q=>h j s Z H Q f (i Z H Q q)
def PW.imp(h:PW X e t)(i:∀Z H Q,t' Z H Q->t Z H Q):PW X e t':=λf l s Z H Q j q=>h f l s Z H Q j (i Z H Q q)
def PA.imp(h:PA X e t)(i:∀Z H Q,t' Z H Q->t Z H Q):PA X e t':=λj l s Z H Q f q=>h j l s Z H Q f (i Z H Q q)
def PS.imp(h:PS X e t)(i:∀D Z H,t' D Z H->t D Z H):PS X e t':=λj s Z H D f q=>h j s Z H D f (i D Z H q)
def PSs.imp(h:PSs X e t)(i:∀D Z H,t' D Z H->t D Z H):PSs X e t':=λj s Z H D f q=>h j s Z H D f (i D Z H q)
def bI(X:Cx)(U:VS)(H:Hp)(o:SOut)(D:Ends):Prop:=match o with
 |.nx f l=>∀j i r,Le U H j i->RH X.K X.mg j i l->RS X.K j i f r->D.nx r i
 |.bk f l=>∀j i r,Le U H j i->RH X.K X.mg j i l->RS X.K j i f r->D.bk r i
 |.ct f l=>∀j i r,Le U H j i->RH X.K X.mg j i l->RS X.K j i f r->D.ct r i
 |.rt v l=>∀j i u,Le U H j i->RH X.K X.mg j i l->RP X.K j i v u->D.rt u i
 |.exc x f l=>XP X f U H x l
 |.rse x f l=>XM X f U H x l
 |.bad=>False
def bI.le(l:Le U H U1 H1)(f:bI X U H o D):bI X U1 H1 o D:=by
 cases o with
 |nx i h=>exact λj u z r=>f j u z (l.trans r)
 |bk i h=>exact λj u z r=>f j u z (l.trans r)
 |ct i h=>exact λj u z r=>f j u z (l.trans r)
 |rt v h=>exact λj u z r=>f j u z (l.trans r)
 |exc x i h=>exact XP.le l f
 |rse x i h=>exact XM.le l f
 |bad=>exact f
abbrev l_:=mh->MH->SOut
inductive PJ(X:Cx)(m:l_)(D:Ends)(Z:L2.St)(H:Hp):Prop
 |mk(U:VS)(σp:mh)(h:MH)(rs:RS X.K U H σp Z)(rh:RH X.K X.mg U H h)(q:bI X U H (m σp h) D):PJ X m D Z H
def MS(X:Cx)(st:Stmt)(m:l_):Prop:=PS X st (PJ X m)
def yf(X:Cx)(st:VF)(m:l_):Prop:=PSs X st (PJ X m)
section
variable{X:Cx}{N W G:VM}{k:Nat}
structure Good(X:Cx)(N W G:VM)(k:Nat):Prop where
 hN:X.N=N
 nd:N.Nodup
 loc:∀x∈N,Loc X.env.scope x
 fn:∀x∈W,X.fn x=I\/X.env.scope.names.lookup x=J .local
 gl:∀x∈G,Gl X x
 dbg:∀x∈N++G,(x==("__debug__":Str))=T/\(x==("__classdict__":Str))=T/\x≠"__name__"
 calm:X.calm=I
 room:Room k X.A
 po:PassesOwn (model X.prog X.w) X.A X.env X.xe
def Good.x(g:Good X N W G k){i:Nat}{x:Str}(f:N[i]?=J x):X.N[i]?=J x:=by rw[g.hN];exact f
def au{l:VM}{i:Nat}{x:Str}(f:l[i]?=J x):x∈l:=Df f
def rJ(X:Cx)(g:PV->PV->MH->VZ):R2:=λi f H Q=>∃U h x y,RH X.K X.mg U H h/\RP X.K U H x i/\RP X.K U H y f/\iN X (RV' X) U H (g x y h) Q
abbrev wl(X:Cx)(f:Value->Value->Sem Value)(g:PV->PV->MH->VZ):Prop:=OpR X f (rJ X g)
def uJ(X:Cx)(g:PV->MH->VZ):V->Hp->VK->Prop:=λf H Q=>∃U h x,RH X.K X.mg U H h/\RP X.K U H x f/\iN X (RV' X) U H (g x h) Q
abbrev Ua(X:Cx)(f:Value->Sem Value)(g:PV->MH->VZ):Prop:=PF X f (uJ X g)
def cJ(X:Cx)(g:VL->MH->VZ):List V->Hp->VK->Prop:=λf H Q=>∃U h xs,RH X.K X.mg U H h/\RPs X.K U H xs f/\iN X (RV' X) U H (g xs h) Q
abbrev dB(X:Cx)(f:Value)(g:VL->MH->VZ):Prop:=cS X f (cJ X g)
def af(i:Nat):Mx PV:=λZ h=>match Z[i]? with
 |some (J v)=>.ok v h
 |_=>.bad
def mC(v:PV):Mx PV:=λ_ h=>.ok v h
def zv(g:Good X N W G k)(i:Nat){x:Str}{j:Pos}(u:N[i]?=J x):ME X (.Name x j) (af i):=by
 have d:=g.dbg x (s_ _ (au u));have hv:PC X.env.scope x:=by
  rcases g.loc x (au u)with q|q
  .exact .inl q
  .exact .inr (.inl q)
 refine PE.imp (Ar (g.x u) hv d.1 d.2.1) λZ H Q ⟨U,l,h,B,C,f⟩=>?_;unfold af at f
 cases e:l[i]? with
 |none=>rw[e]at f;exact f.elim
 |some o =>
  rw[e]at f
  cases o with
  |none=>exact f.elim
  |some v =>
   obtain⟨z,E,r⟩:=B.2 i v e;exact⟨z,E,f U H z (Le.refl _ _) C r⟩
def ao:ME X (.Constant (.int i) j pos) (mC (.int i)):=PE.imp HF λ_ H _ ⟨U,_,_,_,l,f⟩=>f U H _ (Le.refl _ _) l (.int i)
def zF:ME X (.Constant (.str i) j pos) (mC (.str i)):=PE.imp HH λ_ H _ ⟨U,_,_,_,l,f⟩=>f U H _ (Le.refl _ _) l (.str i)
def mJ:ME X (.Constant (.bool i) j pos) (mC (.bl i)):=PE.imp Mi λ_ H _ ⟨U,_,_,_,l,f⟩=>f U H _ (Le.refl _ _) l (.bl i)
def zS:ME X (.Constant .none j pos) (mC .non):=PE.imp HG λ_ H _ ⟨U,_,_,_,i,f⟩=>f U H _ (Le.refl _ _) i .non
def ar(f:PV->PV->MH->VZ)(i mb:Mx PV):Mx PV:=λZ h=>(i Z h).bind λx j=>(mb Z j).bind λy l=>(f x y l).ne
def Dg(f:PV->MH->VZ)(i:Mx PV):Mx PV:=λZ h=>(i Z h).bind λx j=>(f x j).ne
def tj{f:PV->PV->MH->VZ}{u mb:Mx PV}{Z:L2.St}{H:Hp}{Q:VK}(q:tM X (RV' X) (ar f u mb) Z H Q):Mt (rJ X f) (tM X (RV' X) u) (tM X (RV' X) mb) Z H Q:=by obtain⟨U,i,h,r,B,q⟩:=q;refine⟨U,i,h,r,B,Ful.bind q λz H1 x x' M _ C j L E=>?_⟩;refine⟨z,i,M,r.le C,j,Ful.bind E λR H2 y y' P _ S l F O=>?_⟩;exact⟨R,P,x,y,l,L.le S,F,O.zero⟩
def aJ(l:wl X (binaryOp op) f)(j:ME X a ma)(i:ME X b mb):ME X (.BinOp a op b pos) (ar f ma mb) :=
 PE.imp (Mu l j i) λ_ _ _ q=>tj q
def M2(u:Ua X (unaryOp op) f)(F:ME X a ma):ME X (.UnaryOp op a pos) (Dg f ma) :=
 PE.imp (Mw u F) λ_ _ _ ⟨U,j,h,B,C,q⟩=>⟨U,j,h,B,C,Ful.bind q λr L x H z _ M i l E=>⟨r,z,x,i,l,E.zero⟩⟩
def Iu(r:wl X (compareOp op) f)(l:ME X a ma)(i:ME X b mb)(j:behindInMarks op b=T):ME X (.Compare a [op] [b] pos) (ar f ma mb) :=
 PE.imp (Eo r l i j) λ_ _ _ q=>tj q
def mB(m:Mx PV):Mx Bool:=λZ h=>(m Z h).bind λv f=>match v with
 |.bl b=>.ok b f
 |_=>.bad
def M3(q:tM X M1 (mB m) Z H Q):tM X (RV' X) m Z H λx f=>∃c,x=.bl c/\Q c f:=by
 obtain⟨U,j,h,u,z,q⟩:=q;refine⟨U,j,h,u,z,Ful.bind q λr f x E F _ C i B l=>?_⟩
 cases B with
 |bl b=>exact⟨b,rfl,l r f b (Le.refl _ _) i rfl⟩
 |_=>exact l.elim
def zi(B:wl X (compareOp op) f)(z:ME X a ma)(j:ME X b mb)(u:behindInMarks op b=T):MT X (.Compare a [op] [b] pos) (mB (ar f ma mb)) :=
 PT.imp (Ep B z j u) λZ H Q q=>by
  obtain⟨U,i,h,l,r,q⟩:=M3 q;exact tj ⟨U,i,h,l,r,q⟩
def lp(h:ME X e m)(i:∀f,isTrue e X.env f=(do let v <-f;standAt e.pos;holding [v] (truthy v)):=by intro _;rfl):MT X e (mB m) :=
 PT.imp (HJ h i) λ_ _ _ q=>M3 q
def uM(m:Mx Bool):Mx Bool:=λZ h=>(m Z h).bind λb f=>.ok (!b) f
def nV(h:MT X e m):MT X (.UnaryOp .Not e pos) (uM m) :=
 PT.imp (HM h) λ_ _ _ ⟨U,i,h,r,u,q⟩=>⟨U,i,h,r,u,Ful.bind q λl z x E C _ F f j B=>by
  cases j;exact B l z _ (Le.refl _ _) f rfl⟩
def Iv(a b:Mx Bool):Mx Bool:=λZ h=>(a Z h).bind λx f=>if x=I then b Z f else .ok T f
def PK(a b:Mx Bool):Mx Bool:=λZ h=>(a Z h).bind λx f=>if x=I then .ok I f else b Z f
section
variable{a b:Expr}{rest:VX}{ma mb:Mx Bool}{pos:Pos}
def EF(f:MT X a ma):MW X (.BoolOp .And [a] pos) ma:=Eg f
def Ab(f:MT X a ma):MW X (.BoolOp .Or [a] pos) ma:=HK f
def Ix(C:MT X a ma)(L:MW X (.BoolOp .And (b::rest) pos) mb):MW X (.BoolOp .And (a::b::rest) pos) (Iv ma mb) :=
 PW.imp (HL C L) λZ H Q ⟨U,i,h,l,u,q⟩=>⟨U,i,h,l,u,Ful.bind q λj z x M F _ B f E r=>by
  cases E
  cases x with
  |true=>exact⟨j,i,F,l.le B,f,r⟩
  |false=>exact r j z _ (Le.refl _ _) f rfl⟩
def GR(C:MT X a ma)(L:MW X (.BoolOp .Or (b::rest) pos) mb):MW X (.BoolOp .Or (a::b::rest) pos) (PK ma mb) :=
 PW.imp (Mj C L) λZ H Q ⟨U,i,h,l,u,q⟩=>⟨U,i,h,l,u,Ful.bind q λj z x M F _ B f E r=>by
  cases E
  cases x with
  |true=>exact r j z _ (Le.refl _ _) f rfl
  |false=>exact⟨j,i,F,l.le B,f,r⟩⟩
def MW.mt(h:MW X e m):MT X e m:=PW.pt h
end
def xu(a b:Mx PV):Mx PV:=λZ h=>(a Z h).bind λx f=>match x with
 |.bl c=>if c=I then b Z f else .ok (.bl T) f
 |_=>.bad
def sU(a:Mx PV):Mx PV:=λZ h=>(a Z h).bind λx f=>match x with
 |.bl c=>.ok (.bl (!c)) f
 |_=>.bad
section
variable{a b:Expr}{rest:VX}{ma mb:Mx PV}{pos:Pos}
def zp(f:ME X a ma):ME X (.BoolOp op [a] pos) ma:=HN f
def AH(C:ME X a ma)(L:ME X (.BoolOp .And (b::rest) pos) mb):ME X (.BoolOp .And (a::b::rest) pos) (xu ma mb) :=
 PE.imp (HP C L) λZ H Q ⟨U,i,h,r,u,q⟩=>⟨U,i,h,r,u,Ful.bind q λl z x M F _ B f E j=>by
  cases E with
  |bl c =>
   refine⟨c,rfl,?_⟩
   cases c with
   |true=>exact⟨l,i,F,r.le B,f,j⟩
   |false=>exact j l z _ (Le.refl _ _) f (.bl T)
  |_=>exact j.elim⟩
def Av(B:ME X a ma):ME X (.UnaryOp .Not a pos) (sU ma) :=
 PE.imp (HQ B) λZ H Q ⟨U,i,h,r,u,q⟩=>⟨U,i,h,r,u,Ful.bind q λl z x F L _ E f C j=>by
  cases C with
  |bl c=>exact⟨c,rfl,j l z _ (Le.refl _ _) f (.bl _)⟩
  |_=>exact j.elim⟩
end
def h_:Mx (VL):=λ_ h=>.ok [] h
def ai(a:Mx PV)(r:Mx (VL)):Mx (VL):=λZ h=>(a Z h).bind λx f=>(r Z f).bind λxs i=>.ok (x::xs) i
def aF:MA X [] h_:=PA.imp eQ λZ H Q ⟨U,i,h,j,f,q⟩=>q U H _ (Le.refl _ _) f .nil
def am(E:ME X e m)(O:MA X es ms)(C:starEach (e::es) X.env=(T,eval e X.env)::starEach es X.env:=by rfl):MA X (e::es) (ai m ms) :=
 PA.imp (cA E O C) λZ H Q ⟨U,f,h,l,u,q⟩=>⟨U,f,h,l,u,Ful.bind q λr H1 x x' M _ z i L B =>
  ⟨r,f,M,l.le z,i,Ful.bind B λR H2 y y' h2 _ S j F P=>P R H2 _ (Le.refl _ _) j (.cons (L.le S) F)⟩⟩
def pr(xs:VL)(h:MH):VZ:=if xs.length<=sizeLine then .ok (.loc h.length) (h++[.lst xs])else .bad
def t_(xs:VL)(h:MH):VZ:=if xs.length<=sizeLine then .ok (.tup xs) h else .bad
def mw{U:VS}{H:Hp}{h:MH}{xs:VL}{ys:List V}{Q:VK}(i:RH X.K X.mg U H h)(j:RPs X.K U H xs ys)(f:iN X (RV' X) U H (pr xs h) Q):ys.length<=sizeLine/\∀p,H p=Y->Q (.ref p) (kx H p (.lst ys)):=by
 unfold pr at f
 split at f
 .rename_i z
  refine⟨by rw[<-j.length];exact z,λp r=>?_⟩;obtain⟨l,u⟩:=i.new r (o:=.lst xs) ⟨ys,rfl,j⟩;refine f _ _ _ u l (.loc ?_);rw[<-i.len];simp
 .exact f.elim
def wJ{U:VS}{H:Hp}{h:MH}{xs:VL}{ys:List V}{Q:VK}(u:RH X.K X.mg U H h)(i:RPs X.K U H xs ys)(f:iN X (RV' X) U H (t_ xs h) Q):ys.length<=sizeLine/\∀p,H p=Y->Q (.ref p) (kx H p (.tup ys)):=by
 unfold t_ at f
 split at f
 .rename_i z
  refine⟨by rw[<-i.length];exact z,λp r=>?_⟩;obtain⟨l,j⟩:=u.tup r ys;exact f _ _ _ j l (.tup (.inl (.inl bD)) (i.le j))
 .exact f.elim
def Iy{i:mh}{U:VS}{H:Hp}{h:MH}{xs:VL}{Q:VK}(f:Ful X (RV' X) i U H (pr xs h) Q):iN X (RV' X) U H (pr xs h) Q:=by
 unfold pr at f ⊢
 split at f
 .rw[c_ (by assumption)];exact f
 .exact f.elim
def Iz{i:mh}{U:VS}{H:Hp}{h:MH}{xs:VL}{Q:VK}(f:Ful X (RV' X) i U H (t_ xs h) Q):iN X (RV' X) U H (t_ xs h) Q:=by
 unfold t_ at f ⊢
 split at f
 .rw[c_ (by assumption)];exact f
 .exact f.elim
def fF(m:Mx (VL)):Mx PV:=λZ h=>(m Z h).bind pr
def j4(m:Mx (VL)):Mx PV:=λZ h=>(m Z h).bind t_
def Aq(h:MA X es ms):ME X (.List es pos) (fF ms) :=
 PE.imp (Ig h) λZ H Q ⟨U,i,h,j,l,q⟩=>⟨U,i,h,j,l,Ful.bind q λz B x E F _ C f u r=>mw f u (Iy r)⟩
def Ao(h:MA X es ms):ME X (.Tuple es j pos) (j4 ms) :=
 PE.imp (AC h) λZ H Q ⟨U,i,h,l,r,q⟩=>⟨U,i,h,l,r,Ful.bind q λB C x F L _ E f z u=>wJ f z (Iz u)⟩
def SOut.then(o:SOut)(k:l_):SOut:=match o with
 |.nx Z h=>k Z h
 |o=>o
def aL(a b:l_):l_:=λZ h=>(a Z h).then b
def mm:l_:=λZ h=>.nx Z h
def cX:yf X [] mm:=PSs.imp Eh λD Z H ⟨U,j,h,f,i,q⟩=>q U H Z (Le.refl _ _) i f
def EG{st:Stmt}{m:l_}(h:MS X st m):yf X [st] m:=wF h
def bI.then{U:VS}{H:Hp}{o:SOut}{k:l_}{D:Ends}(q:bI X U H (o.then k) D):bI X U H o { D with nx:=λZ H=>PJ X k D Z H}:=by
 cases o with
 |nx f h=>exact λi u j l r s=>⟨i,f,h,s,r,bI.le l q⟩
 |_=>exact q
def B1{st:Stmt}{f:VF}{m u:l_}(j:MS X st m)(z:yf X f u):yf X (st::f) (aL m u) :=
 PSs.imp (A4 j z) λD Z H ⟨U,i,h,l,r,q⟩=>⟨U,i,h,l,r,bI.then q⟩
def b9(m:Mx PV):l_:=λZ h=>match m Z h with
 |.ok v f=>.rt v f
 |.exc x f=>.exc x Z f
 |.bad=>.bad
def IA(r:ME X e m):MS X (.Return (J e) pos) (b9 m) :=
 PS.imp (HR r) λD Z H ⟨U,f,h,j,l,q⟩=>⟨U,f,h,j,l,by
  unfold b9 at q
  cases e:m f h with
  |ok v i=>rw[e]at q;exact q
  |exc x i=>rw[e]at q;exact q
  |bad=>rw[e]at q;exact q⟩
def yi{α:Type}(m:Mx α)(k:α->l_):l_:=λZ h=>match m Z h with
 |.ok v f=>k v Z f
 |.exc x f=>.exc x Z f
 |.bad=>.bad
def bI.ex{α β:Type}{R:Rl α β}{m:Mx α}{k:α->l_}{U:VS}{H:Hp}{f:mh}{h:MH}{D:Ends}{Q:β->Hp->Prop}(q:bI X U H (yi m k f h) D)(w:∀j i v u B,Le U H j i->RH X.K X.mg j i B->R j i v u->bI X j i (k v f B) D->Q u i):Ful X R f U H (m f h) Q:=by
 unfold yi at q
 cases e:m f h with
 |ok v C=>rw[e]at q;exact λj i u l r z=>w j i v u C l r z (bI.le l q)
 |exc x C=>rw[e]at q;exact q
 |bad=>rw[e]at q;exact q
def km(m:Mx PV):l_:=yi m λ_=>mm
def qy{e:Expr}{m:Mx PV}{f:Pos}(F:ME X e m)(E:swapsWith e Y f.line X.env=pure T:=by rfl):MS X (.Expr e f) (km m) :=
 PS.imp (Ei F E) λD Z H ⟨U,i,h,j,B,q⟩=>⟨U,i,h,j,B,bI.ex q λu C v M L l r z w=>w u C Z (Le.refl _ _) r (j.le l)⟩
def CK(c:Mx Bool)(a b:l_):l_:=yi c λx=>if x=I then a else b
def eO{c:Expr}{a b:VF}{E:Mx Bool}{C mb:l_}{i:Pos}(O:MT X c E)(L:yf X a C)(M:yf X b mb):MS X (.If c a b i) (CK E C mb) :=
 PS.imp (Mo O L M) λD Z H ⟨U,f,h,j,F,q⟩=>⟨U,f,h,j,F,bI.ex q λu P v Q B l r z w=>by
  cases z
  cases v with
  |true=>exact⟨u,f,B,j.le l,r,w⟩
  |false=>exact⟨u,f,B,j.le l,r,w⟩⟩
def bG(i:Nat)(m:Mx PV):l_:=yi m λv Z h=>.nx (Z.set i (J v)) h
def om(g:Good X N W G k)(i:Nat){x:Str}{e:Expr}{m:Mx PV}{j f:Pos}(C:N[i]?=J x)(O:W[i]?=J x)(P:ME X e m)(M:swapsWith e (J (.Name x f)) j.line X.env=pure T:=by rfl):
  MS X (.Assign [.Name x f] e j) (bG i m):=by
 refine PS.imp (An (by rw[g.hN];exact g.nd) (g.x C) (g.loc x (au C)) P M (g.fn x (au O))) λD Z H ⟨U,u,h,B,F,q⟩=>?_;exact⟨U,u,h,B,F,bI.ex q λE L v Q R l r z w=>w E L _ (Le.refl _ _) r ((B.le l).set i z)⟩
end
section
variable{X:Cx}{N W G:VM}{k:Nat}
abbrev Mg:=PV->l_
def nP(X:Cx)(U:VS)(H:Hp)(o:SOut)(Q:L2.St->Hp->Prop):Prop:=match o with
 |.nx f l=>∀j i r,Le U H j i->RH X.K X.mg j i l->RS X.K j i f r->Q r i
 |.exc x f l=>XP X f U H x l
 |_=>False
def nP.le(l:Le U H U1 H1)(f:nP X U H o Q):nP X U1 H1 o Q:=by
 cases o with
 |nx i h=>exact λj u z r=>f j u z (l.trans r)
 |exc x i h=>exact XP.le l f
 |_=>exact f
inductive tG(X:Cx)(g:Mg)(v':V)(Z:L2.St)(H:Hp)(Q:L2.St->Hp->Prop):Prop
 |mk(U:VS)(σp:mh)(h:MH)(v:PV)(rs:RS X.K U H σp Z)(rh:RH X.K X.mg U H h)(rv:RP X.K U H v v')(q:nP X U H (g v σp h) Q):tG X g v' Z H Q
def MG(X:Cx)(f:Expr)(g:Mg):Prop:=PG X f (tG X g)
def PG.imp(h:PG X e t)(i:∀v Z H Q,t' v Z H Q->t v Z H Q):PG X e t':=λj s Z H v u Q f r q=>h j s Z H v u Q f r (i v Z H Q q)
def EH(i:Nat):Mg:=λv Z h=>.nx (Z.set i (J v)) h
def vS(g:Good X N W G k)(i:Nat)(f:N[i]?=J x)(l:W[i]?=J x):MG X (.Name x pos) (EH i) :=
 PG.imp (xf (by rw[g.hN];exact g.nd) (g.x f) (g.loc x (au f)) (g.fn x (au l))) λB Z H Q ⟨U,z,h,v,r,u,j,q⟩=>q U H _ (Le.refl _ _) u (r.set i j)
abbrev EI:=VL->l_
inductive Ub(X:Cx)(g:EI)(v':List V)(Z:L2.St)(H:Hp)(Q:L2.St->Hp->Prop):Prop
 |mk(U:VS)(σp:mh)(h:MH)(v:VL)(rs:RS X.K U H σp Z)(rh:RH X.K X.mg U H h)(rv:RPs X.K U H v v')(q:nP X U H (g v σp h) Q):Ub X g v' Z H Q
def M4(X:Cx)(f:VX)(g:EI):Prop:=PGs X f (Ub X g)
def PGs.imp(h:PGs X e t)(i:∀v Z H Q,t' v Z H Q->t v Z H Q):PGs X e t':=λj s Z H v u Q f r q=>h j s Z H v u Q f r (i v Z H Q q)
def RB:EI:=λf Z h=>match f with
 |[]=>.nx Z h
 |_=>.bad
def PL(a:Mg)(r:EI):EI:=λi Z h=>match i with
 |v::f=>(a v Z h).then (r f)
 |[]=>.bad
def EJ:M4 X [] RB:=PGs.imp Ej λr Z H Q ⟨U,l,h,v,i,j,f,q⟩=>by
 cases f with
 |nil=>exact⟨rfl,q U H Z (Le.refl _ _) j i⟩
 |cons _ _=>exact q.elim
def Bu(i:MG X e a)(F:M4 X es r)(z:(assignEach (e::es) X.env).map (·.2)=assign e X.env::(assignEach es X.env).map (·.2):=by rfl):M4 X (e::es) (PL a r) :=
 PGs.imp (Bc i F z) λv' Z H Q ⟨U,f,h,v,j,u,C,q⟩=>by
  cases C with
  |nil=>exact q.elim
  |@cons x y xs ys B P =>
   refine⟨_,_,rfl,U,f,h,x,j,u,B,?_⟩;dsimp only[PL]at q
   cases e:a x f h with
   |nx M i=>rw[e]at q;exact λE R S l L O=>⟨E,M,i,xs,O,L,P.le l,nP.le l q⟩
   |_=>rw[e]at q;exact q
def PM(r:EI)(n:Nat):Mg:=λv Z h=>match v with
 |.tup xs=>if xs.length=n then r xs Z h else .bad
 |_=>.bad
def IB(g:Good X N W G k){f:VX}{j:Nat}{r:EI}{n:Nat}{i:Pos}(h:M4 X f r)(L:(assignEach f X.env).length=n:=by rfl)(l:(assignEach f X.env).findIdx? (·.1)=Y:=by rfl):
  MG X (.Tuple f j i) (PM r n) :=
 PG.imp (HV g.calm h L l) λM Z H Q ⟨U,u,h,v,B,C,E,q⟩=>by
  cases E with
  |tup s z =>
   dsimp only[PM]at q
   split at q
   .rename_i F
    exact⟨_,_,rfl,s,by rw[<-z.length];exact F,U,u,h,_,B,C,z,q⟩
   .exact q.elim
  |_=>exact q.elim
def uh(m:Mx PV)(g:Mg):l_:=yi m λv Z h=>match g v Z h with
 |.nx f i=>.nx f i
 |.exc x f i=>.exc x f i
 |_=>.bad
def tI{i e:Expr}{m:Mx PV}{g:Mg}{j:Pos}(O:ME X e m)(L:MG X i g)(F:swapsWithSole [i] e j.line X.env=pure T:=by rfl)(M:swappedStores [i] e X.env=pure Y:=by rfl)(u:(assignEach [i] X.env).map (·.2)=[assign i X.env]:=by rfl):MS X (.Assign [i] e j) (uh m g) :=
 PS.imp (HW O L F M u) λD Z H ⟨U,f,h,B,E,q⟩=>⟨U,f,h,B,E,bI.ex q λC P v Q u l r z w=>⟨C,f,u,v,B.le l,r,z,by
  cases e:g v f u with
  |_=>rw[e]at w;exact w⟩⟩
def ug(o i v:PV)(h:MH):Option MH:=match o,i with
 |.loc n,.int j=>(match h[n]? with
  |some (.lst xs)=>(wk xs.length j).map λp=>h.set n (.lst (xs.set p v))
  |_=>Y)
 |_,_=>Y
def M5(mo f:Mx PV):Mg:=λv=>yi mo λo=>yi f λi Z h=>match ug o i v h with
 |some j=>.nx Z j
 |none=>.bad
def yX(ho:ME X o mo)(hi:ME X i mi)(ha:∀v,assign (.Subscript o i pos) X.env v=(do
   let r <-holding [v] (eval o X.env)
   let z <-holding [v,r] (eval i X.env)
   standAt pos
   holding [v,r,z] (setItem r z v)
   release [v,r,z] []):=by intro _;rfl):MG X (.Subscript o i pos) (M5 mo mi) :=
 PG.imp (zK ho hi Cp ha) λv' Z H Q ⟨U,f,h,v,C,rh,rv,q⟩=>by
  refine⟨U,f,h,C,rh,?_⟩;unfold M5 yi at q
  cases e:mo f h with
  |exc x M=>rw[e]at q;exact q
  |bad=>rw[e]at q;exact q
  |ok r M =>
   rw[e]at q;intro U1 H1 o' l E ro;refine⟨U1,f,M,C.le l,E,?_⟩;dsimp only at q
   cases e2:mi f M with
   |exc x h2=>rw[e2]at q;exact XP.le l q
   |bad=>rw[e2]at q;exact q
   |ok z h2 =>
    rw[e2]at q;intro U2 H2 i' B u ri;have O:=ro.le B;have P:=(rv.le l).le B;unfold ug at q
    cases O with
    |@loc n a en =>
     cases ri with
     |int j =>
      dsimp only at q;obtain⟨S,eo,F⟩:=u.obj en;rw[eo]at q
      cases S with
      |dic ab=>exact q.elim
      |exc x=>exact q.elim
      |lst xs =>
       obtain⟨ys,ey,R⟩:=F;dsimp only at q
       cases L:wk xs.length j with
       |none=>rw[L]at q;exact q.elim
       |some p =>
        rw[L]at q;refine⟨a,ys,j,p,rfl,rfl,ey,by rw[<-R.length];exact L,?_⟩;obtain⟨r3,l3⟩:=u.put en (o:=.lst (xs.set p v)) ⟨_,rfl,RPs.set P p R⟩;exact q U2 _ Z (l.trans (B.trans l3)) r3 (C.le (l.trans (B.trans l3)))
     |_=>exact q.elim
    |_=>exact q.elim
structure MIt where
 xs:VL
 gd:List (Nat×VL):=[]
def MIt.ok(f:MIt)(h:MH):Prop:=∀p∈f.gd,h[p.1]?=J (.lst p.2)
def uL(X:Cx):Rl MIt It:=λB z l f=>∀U H h (i:Nat),Le B z U H->RH X.K X.mg U H h->l.ok h ->
 (i<l.xs.length->f.go i H/\∀u j,f.yld i H u j->∃r x,Le U H r j/\RH X.K X.mg r j h/\l.xs[i]?=J x/\RP X.K r j x u)/\(l.xs.length<=i->f.stop i H)
def MI(X:Cx)(i f:Expr)(m:Mx MIt):Prop:=PI X i f (tM X (uL X) m)
def PI.imp(h:PI X tg e t)(i:∀Z H Q,t' Z H Q->t Z H Q):PI X tg e t':=λj s Z H Q f q=>h j s Z H Q f (i Z H Q q)
def CZ(j:MIt)(g:Mg)(b:l_):VL->l_
 |[]=>λZ h=>if j.ok h then .nx Z h else .bad
 |x::r=>λZ h=>if j.ok h then (match g x Z h with
   |.nx u l=>(match b u l with
    |.nx i f=>CZ j g b r i f
    |.ct i f=>CZ j g b r i f
    |.bk i f=>.nx i f
    |.rt v f=>.rt v f
    |.exc e i f=>.exc e i f
    |.rse e i f=>.rse e i f
    |.bad=>.bad)
   |.exc e u l=>.exc e u l
   |_=>.bad)else .bad
def ID(i:Mx MIt)(g:Mg)(b:l_):l_:=yi i λf=>CZ f g b f.xs
def IE(gd:Good X N W G k)(hi:MI X tg iter mi)(hg:MG X tg g)(hb:yf X body mb)(hs:∀x,foldedSetIterable iter X.env x=pure x:=by intro _;rfl):MS X (.For tg iter body [] pos) (ID mi g mb):=by
 refine PS.imp (HZ gd.po gd.calm hi hg hb hs) λD Z H ⟨U,r,h,rs,rh,q⟩=>⟨U,r,h,rs,rh,bI.ex q λR H1 l as h1 l1 ab jr w=>?_⟩;refine⟨λi m Z H=>m=l.xs.length-i/\i<=l.xs.length/\∃U r h,Le R H1 U H/\RS X.K U H r Z/\RH X.K X.mg U H h/\bI X U H (CZ l g mb (l.xs.drop i) r h) D,⟨_,rfl,ya _,R,r,h1,Le.refl _ _,rs.le l1,ab,w⟩,?_⟩;rintro i m Z2 H2 ⟨rfl,hi,U2,E,h2,l2,O,L,u⟩;by_cases B:i<l.xs.length
 .have ed:l.xs.drop i=l.xs[i]::l.xs.drop (i+1):=Hm B;rw[ed]at u;unfold CZ at u
  split at u
  .rename_i hok
   obtain⟨j1,j2⟩:=jr U2 H2 h2 i l2 L hok;obtain⟨go,yl⟩:=j1 B;refine .inr ⟨go,λZ3 Q=>∃S C h3,Le R H1 S Q/\RS X.K S Q C Z3/\RH X.K X.mg S Q h3/\bI X S Q (CZ l g mb (l.xs.drop (i+1)) C h3) D,λZ3 Q z=>⟨_,by omega,rfl,B,z⟩,λx' H' y=>?_⟩;obtain⟨U',x,l',ap,ex,rx⟩:=yl x' H' y;have an:x=l.xs[i]:=by rw[zb B]at ex;exact(Option.some.inj ex).symm
   subst an;refine⟨U',E,h2,_,O.le l',ap,rx,?_⟩;have j:=bI.le l' u
   cases eg:g l.xs[i] E h2 with
   |nx Z4 h4 =>
    rw[eg]at j;intro U5 H5 Z5 l5 r5 s5;refine⟨U5,Z4,h4,s5,r5,?_⟩;have f:=bI.le l5 j;have l6:Le R H1 U5 H5:=l2.trans (l'.trans l5);dsimp only at f
    cases em:mb Z4 h4 with
    |nx M F=>rw[em]at f;exact λU7 H7 Z7 P r7 s7=>⟨U7,M,F,l6.trans P,s7,r7,bI.le P f⟩
    |ct M F=>rw[em]at f;exact λU7 H7 Z7 P r7 s7=>⟨U7,M,F,l6.trans P,s7,r7,bI.le P f⟩
    |bk M F=>rw[em]at f;exact f
    |rt v F=>rw[em]at f;exact f
    |exc e M F=>rw[em]at f;exact f
    |rse e M F=>rw[em]at f;exact f
    |bad=>rw[em]at f;exact f
   |exc e Z4 h4=>rw[eg]at j;exact j
   |_=>rw[eg]at j;exact j.elim
  .exact u.elim
 .have e:i=l.xs.length:=by omega
  rw[e,Pq]at u;unfold CZ at u
  split at u
  .rename_i hok
   obtain⟨j1,j2⟩:=jr U2 H2 h2 i l2 L hok;exact .inl ⟨j2 (by omega),u U2 H2 Z2 (Le.refl _ _) L O⟩
  .exact u.elim
def GU(v:PV)(h:MH):Out MIt:=match v with
 |.loc n=>(match h[n]? with
  |some (.lst xs)=>.ok ⟨xs,[(n,xs)]⟩ h
  |_=>.bad)
 |.frl xs=>.ok ⟨xs,[]⟩ h
 |_=>.bad
def M6(m:Mx PV):Mx MIt:=λZ h=>(m Z h).bind GU
def v9(M:∀j f h,Le U H j f->RH X.K X.mg j f h->(⟨xs,gd⟩:MIt).ok h->∃ys,SqL X.K f a ys/\RPs X.K j f xs ys):uL X U H ⟨xs,gd⟩ (Rh X.K a):=by
 intro j f h i l B ok;obtain⟨ys,r,C⟩:=M j f h l B ok;refine⟨λu=>?_,λu=>⟨ys,r,by rw[<-C.length];exact u⟩⟩;have E:=zb u;obtain⟨y,F,L⟩:=C.get E;refine⟨⟨ys,y,r,F⟩,λO P ⟨e,z⟩=>?_⟩;subst e
 have:=z ys r
 rw[F]at this;cases this;exact⟨j,_,Le.refl _ _,B,E,L⟩
def EK(hl:ME X l m):MI X tg l (M6 m) :=
 PI.imp (Ek hl) λZ H Q ⟨U,u,h,O,P,q⟩=>⟨U,u,h,O,P,Ful.bind q λF L x x' h1 _ l1 f R i=>by
  cases R with
  |@loc n a e =>
   obtain⟨M,eo,z⟩:=f.obj e;dsimp only[GU]at i;rw[eo]at i
   cases M with
   |dic S=>exact i.elim
   |exc x=>exact i.elim
   |lst xs =>
    obtain⟨ys,ey,ry⟩:=z;refine⟨a,rfl,⟨ys,SqL.of ey⟩,i F L _ (Le.refl _ _) f (v9 λU' H' h' l j ok=>?_)⟩;obtain⟨E,B,C⟩:=j.at' n a _ (l.get e) (ok (n,xs) (by simp));exact⟨E,SqL.of B,C⟩
  |frl s r =>
   exact⟨_,rfl,⟨_,s.sq⟩,i F L _ (Le.refl _ _) f (v9 λU' H' h' l j ok=>⟨_,(l.sqf s).sq,r.le l⟩)⟩
  |_=>exact i.elim⟩
def M7(m:Mx PV):Mx MIt:=λZ h=>(m Z h).bind λv f=>match v with
 |.tup xs=>.ok ⟨xs,[]⟩ f
 |_=>.bad
def IF(hl:ME X l m):MI X tg l (M7 m) :=
 PI.imp (HY hl) λZ H Q ⟨U,u,h,O,P,q⟩=>⟨U,u,h,O,P,Ful.bind q λM R x x' h1 _ l1 j rx E=>by
  cases rx with
  |@tup xs a ys s r =>
   refine⟨_,rfl,⟨_,s⟩,E M R _ (Le.refl _ _) j ?_⟩;intro U' H' h' i l C ok;have f:=l.sqt s;have r':=r.le l;refine⟨λB=>?_,λB=>⟨ys,f,by rw[<-r.length];exact B⟩⟩;have F:=zb B;obtain⟨y,L,S⟩:=r'.get F;refine⟨⟨ys,y,f,L⟩,λx' H2 ⟨e,z⟩=>?_⟩;subst e
   have:=z ys f
   rw[L]at this;cases this;exact⟨U',_,Le.refl _ _,C,F,S⟩
  |_=>exact E.elim⟩
def ck(lo:Int)(n:Nat):VL:=(List.range n).map λ(i:Nat)=>PV.int (lo+(i:Int))
def yt(lo:Int)(n:Nat):(ck lo n).length=n:=by simp[ck]
def EL(lo:Int)(n:Nat):uL X U H ⟨ck lo n,[]⟩ (PD lo n):=by intro r C h i l u ok;have j:=yt lo n;refine⟨λf=>⟨by rw[j]at f;exact f,λz B ⟨e1,e2⟩=>?_⟩,λf=>by rw[j]at f;exact f⟩;subst e1;subst e2;rw[j]at f;exact⟨r,.int (lo+i),Le.refl _ _,u,by simp[ck,f],.int _⟩
def xS(m:Mx (VL)):Mx MIt:=λZ h=>(m Z h).bind λi f=>match i with
 |[.int j]=>if -(2^62)<=j/\j<2^62 then .ok ⟨ck 0 j.toNat,[]⟩ f else .bad
 |_=>.bad
def rP(O:Gl X "range")(P:X.mg "range"=Y)(L:MA X [a] m)(F:starEach [a] X.env=[(T,eval a X.env)]:=by rfl):MI X tg (.Call (.Name "range" p) [a] [] pos) (xS m):=by
 refine PI.imp (Am O P L F) λZ H Q ⟨U,l,h,B,C,q⟩=>⟨U,l,h,B,C,Ful.bind q λz E x x' h1 _ S i M f=>?_⟩
 cases M with
 |nil=>exact f.elim
 |cons u R =>
  cases R with
  |nil =>
   cases u with
   |int j =>
    dsimp only at f
    split at f
    .rename_i r
     exact⟨j,rfl,r.1,r.2,f z E _ (Le.refl _ _) i (EL 0 j.toNat)⟩
    .exact f.elim
   |_=>exact f.elim
  |cons r2 t2=>cases u<;>exact f.elim
def cV(c:Mx Bool)(b:l_):Nat->l_
 |0=>λ_ _=>.bad
 |n+1=>yi c λx=>if x=I then (λZ h=>match b Z h with
   |.nx i f=>cV c b n i f
   |.ct i f=>cV c b n i f
   |.bk i f=>.nx i f
   |.rt v f=>.rt v f
   |.exc e i f=>.exc e i f
   |.rse e i f=>.rse e i f
   |.bad=>.bad)else mm
def Lq(c:Mx Bool)(b:l_):l_:=λZ h=>if z:∃n,cV c b n Z h≠.bad then cV c b (Classical.choose z) Z h else .bad
def lv:∀{n:Nat}{Z:mh}{h:MH},cV c b n Z h≠.bad->cV c b (n+1) Z h=cV c b n Z h
 |n+1,Z,h,q=>by
  rw[cV]at q;rw[cV]
  conv=>rhs;rw[cV]
  unfold yi at q ⊢
  cases e:c Z h with
  |exc x f=>rfl
  |bad=>rfl
  |ok x f =>
   rw[e]at q
   cases x with
   |false=>rfl
   |true =>
    simp only[if_true]at q ⊢
    cases em:b Z f with
    |nx i j=>rw[em]at q;exact lv q
    |ct i j=>rw[em]at q;exact lv q
    |_=>rfl
def vQ(q:cV c b n Z h≠.bad)(l:n<=m):cV c b m Z h=cV c b n Z h:=by
 induction l with
 |refl=>rfl
 |step l f=>rw[lv (by rw[f];exact q),f]
def yV(q:cV c b n Z h≠.bad):Lq c b Z h=cV c b n Z h:=by
 have z:∃n,cV c b n Z h≠.bad:=⟨n,q⟩;unfold Lq;rw[dif_pos z];have f:=Classical.choose_spec z;rcases Nat.le_total n (Classical.choose z)with l|l
 .exact vQ q l
 .exact (vQ f l).symm
def BA(gd:Good X N W G k)(hc:MT X c mc)(hb:yf X body mb):MS X (.While c body [] pos) (Lq mc mb):=by
 refine PS.imp (Br gd.po hc hb) λD Z H ⟨U,f,h,rs,rh,q⟩=>?_;refine⟨λm Z H=>∃U f h,RS X.K U H f Z/\RH X.K X.mg U H h/\bI X U H (cV mc mb m f h) D,?_,?_⟩
 .unfold Lq at q
  split at q
  .exact⟨_,U,f,h,rs,rh,q⟩
  .exact q.elim
 .rintro m Z1 H1 ⟨S,i,h1,j,B,L⟩
  cases m with
  |zero=>exact L.elim
  |succ m =>
   refine⟨S,i,h1,j,B,bI.ex L λP H2 v v' M Q O z w=>?_⟩;cases z
   cases v with
   |false=>exact w P H2 Z1 (Le.refl _ _) O (j.le Q)
   |true =>
    rw[c_ rfl]at w ⊢;refine⟨λZ H=>∃U f h,RS X.K U H f Z/\RH X.K X.mg U H h/\bI X U H (cV mc mb m f h) D,λZ' H' z=>⟨m,Ma _,z⟩,P,i,M,j.le Q,O,?_⟩
    cases em:mb i M with
    |nx r l=>rw[em]at w;exact λC R Z7 E F u=>⟨C,r,l,u,F,bI.le E w⟩
    |ct r l=>rw[em]at w;exact λC R Z7 E F u=>⟨C,r,l,u,F,bI.le E w⟩
    |bk r l=>rw[em]at w;exact w
    |rt v l=>rw[em]at w;exact w
    |exc e r l=>rw[em]at w;exact w
    |rse e r l=>rw[em]at w;exact w
    |bad=>rw[em]at w;exact w
def cT(f:PV->Option PyData):VL->Option (List PyData)
 |[]=>J []
 |x::r=>match f x,cT f r with
  |some d,J i=>J (d::i)
  |_,_=>Y
def rd:Nat->MH->PV->Option PyData
 |0,_,v=>(match v with
  |.non=>J .none
  |.bl b=>J (.bool b)
  |.int i=>J (.int i)
  |.str x=>J (.str x)
  |_=>Y)
 |n+1,h,v=>(match v with
  |.non=>J .none
  |.bl b=>J (.bool b)
  |.int i=>J (.int i)
  |.str x=>J (.str x)
  |.tup xs=>(cT (rd n h) xs).map PyData.tuple
  |.frl xs=>(cT (rd n h) xs).map PyData.list
  |.loc m=>(match h[m]? with
   |some (.lst xs)=>(cT (rd n h) xs).map PyData.list
   |_=>Y))
def gv{z:Heap}{f:PV->Option PyData}{K:h8}{U:VS}{H:Hp}(hf:∀v B u d,RP K U H v B->aM B u->f v=J d->∃l,Reads z u d l):
  ∀{xs:VL}{ys:List V}{j:VT}{i:List PyData},RPs K U H xs ys->aw ys j->cT f xs=J i->∃l,ReadsAll z j i l:=by
 intro xs
 induction xs with
 |nil =>
  intro ys j i r v e;cases r;cases v;cases e;exact⟨_,.nil⟩
 |cons x xs E =>
  intro ys j i r v e;cases r with|cons r t=>cases v with|cons v w =>
  simp only[cT]at e
  split at e
  .rename_i d F e1 e2
   cases e;obtain⟨O,C⟩:=hf _ _ _ _ r v e1;obtain⟨M,L⟩:=E t w e2;exact⟨_,.cons C L⟩
  .cases e
def f9{S:VU}{Z:L2.St}{H:Hp}{s:Shared}{U:VS}{h:MH}(f:Inv X S Z H s)(Q:RH X.K X.mg U H h):
  ∀(n:Nat)(v:PV)(C:V)(u:Value)(d:PyData),RP X.K U H v C->aM C u->rd n h v=J d->∃B,Reads s.heap u d B:=by
 intro n
 induction n with
 |zero =>
  intro v C u d rp r e
  cases rp with
  |non=>cases e;cases r;exact⟨_,.none⟩
  |bl b=>cases e;cases r;exact⟨_,.bool b⟩
  |int i=>cases e;obtain⟨t,rfl⟩:=r;exact⟨_,.int i t⟩
  |str i=>cases e;obtain⟨t,rfl⟩:=r;exact⟨_,.str i t⟩
  |_=>cases e
 |succ n F =>
  intro v C u d rp r e
  cases rp with
  |non=>cases e;cases r;exact⟨_,.none⟩
  |bl b=>cases e;cases r;exact⟨_,.bool b⟩
  |int i=>cases e;obtain⟨t,rfl⟩:=r;exact⟨_,.int i t⟩
  |str i=>cases e;obtain⟨t,rfl⟩:=r;exact⟨_,.str i t⟩
  |@tup xs a ys s L =>
   cases r;simp only[rd]at e
   cases q:cT (rd n h) xs with
   |none=>rw[q]at e;cases e
   |some M =>
    rw[q]at e;cases e;obtain⟨z,l,⟨o,e1,e2,m,e3⟩,_⟩:=f.tuple s;obtain⟨B,j⟩:=gv (F) L l q;exact⟨_,.tuple e1 e2 e3 (by simpa using j)⟩
  |@frl xs a ys s L =>
   cases r;simp only[rd]at e
   cases q:cT (rd n h) xs with
   |none=>rw[q]at e;cases e
   |some M =>
    rw[q]at e;cases e;obtain⟨z,l,⟨o,m,e1,e2,_,e3⟩,_⟩:=f.list s.sq;obtain⟨B,j⟩:=gv (F) L l q;exact⟨_,.list e1 e2 e3 (by simpa using j)⟩
  |loc en =>
   cases r;simp only[rd]at e;obtain⟨O,eo,E⟩:=Q.obj en;rw[eo]at e
   cases O with
   |dic ks xs=>cases e
   |exc x=>cases e
   |lst xs =>
    obtain⟨ys,P,R⟩:=E;dsimp only at e
    cases q:cT (rd n h) xs with
    |none=>rw[q]at e;cases e
    |some M =>
     rw[q]at e;cases e;obtain⟨z,l,⟨o,m',e1,e2,_,e3⟩,_⟩:=f.list (SqL.of P);obtain⟨B,j⟩:=gv (F) R l q;exact⟨_,.list e1 e2 e3 (by simpa using j)⟩
def Ch(x y:PV)(h:MH):VZ:=match rd 60 h x,rd 60 h y with
 |some a,J b=>if SeqAt.shaped a=I/\SeqAt.shaped b=I then .ok (.bl (PyData.eqv a b)) h else .bad
 |_,_=>.bad
def Ci(x y:PV)(h:MH):VZ:=match rd 60 h x,rd 60 h y with
 |some a,J b=>if SeqAt.shaped a=I/\SeqAt.shaped b=I then .ok (.bl (!PyData.eqv a b)) h else .bad
 |_,_=>.bad
def GV(O:Room k X.A):wl X (compareOp .Eq) Ch:=by
 intro R s Z H F z u v Q f i l ⟨U,h,x,y,j,E,C,q⟩;unfold Ch at q
 split at q
 .rename_i a b L P
  split at q
  .rename_i r
   obtain⟨_,B⟩:=f9 f j 60 x F u a E i L;obtain⟨_,M⟩:=f9 f j 60 y z v b C l P;exact eq_dataH B M r.1 r.2 O.units ⟨.bl _,H,f,rfl,q U H _ (Le.refl _ _) j (.bl _)⟩
  .exact q.elim
 .exact q.elim
def sP(O:Room k X.A):wl X (compareOp .NotEq) Ci:=by
 intro R s Z H F z u v Q f i l ⟨U,h,x,y,j,E,C,q⟩;unfold Ci at q
 split at q
 .rename_i a b L P
  split at q
  .rename_i r
   obtain⟨_,B⟩:=f9 f j 60 x F u a E i L;obtain⟨_,M⟩:=f9 f j 60 y z v b C l P;exact ne_dataH B M r.1 r.2 O.units ⟨.bl _,H,f,rfl,q U H _ (Le.refl _ _) j (.bl _)⟩
  .exact q.elim
 .exact q.elim
def nS(f:Int->Int->PV):PV->PV->MH->VZ:=λx y h=>match x,y with
 |.int i,.int j=>.ok (f i j) h
 |_,_=>.bad
def oR(M:OpR X F (El f))(Qc:∀U H i j,RP X.K U H (g i j) (f i j)):wl X F (nS g):=by
 intro L s Z H P O u v Q z l r ⟨U,h,x,y,B,E,C,q⟩;unfold nS at q
 split at q
 .cases E;cases C;exact M L s Z H _ _ u v Q z l r ⟨_,_,rfl,rfl,q U H _ (Le.refl _ _) B (Qc U H _ _)⟩
 .exact q.elim
def Dx:=nS λi j=>.bl (decide (i<j))
def IG:=nS λi j=>.bl (decide (i<=j))
def Cj:=nS λi j=>.bl (decide (j<i))
def Dy:=nS λi j=>.bl (decide (j<=i))
def yF:wl X (compareOp .Lt) Dx:=oR Mz λ_ _ _ _=>.bl _
def M8:wl X (compareOp .LtE) IG:=oR MB λ_ _ _ _=>.bl _
def yz:wl X (compareOp .Gt) Cj:=oR MC λ_ _ _ _=>.bl _
def M9:wl X (compareOp .GtE) Dy:=oR MD λ_ _ _ _=>.bl _
def M_(f:Bool):PV->PV->MH->VZ:=λx y h=>match y with
 |.non=>(match x with
  |.non=>.ok (.bl (!f)) h
  |_=>.ok (.bl f) h)
 |.bl b=>(match x with
  |.bl c=>.ok (.bl (if f then !(c==b)else c==b)) h
  |.non=>.ok (.bl f) h
  |.int _=>.ok (.bl f) h
  |.str _=>.ok (.bl f) h
  |.tup _=>.ok (.bl f) h
  |_=>.bad)
 |_=>.bad
def j3(x y:PV)(h:MH):VZ:=match x,y with
 |.int i,.int j=>if IntMulOk i j then .ok (.int (i*j)) h else .bad
 |.loc n,.int j=>(match h[n]? with
  |some (.lst xs)=>if -(2^63)<=j/\j<2^63 then pr (List.flatten (List.replicate j.toNat xs)) h else .bad
  |_=>.bad)
 |_,_=>.bad
def C0(x y:PV)(h:MH):VZ:=match x,y with
 |.int i,.int j=>if j≠0/\Builtin.divisionGoesByPylong i j=T then .ok (.int (i.fdiv j)) h else .bad
 |_,_=>.bad
def mq(x y:PV)(h:MH):VZ:=match x,y with
 |.int i,.int j=>if j≠0 then .ok (.int (i.fmod j)) h else .bad
 |_,_=>.bad
def qd(x y:PV)(h:MH):VZ:=match x,y with
 |.int i,.int j=>if iM i j then .ok (.int (i^j.toNat)) h else .bad
 |_,_=>.bad
def j_(x y:PV)(h:MH):VZ:=match x,y with
 |.int i,.int j=>.ok (.int (i+j)) h
 |.str a,.str b=>if a.length+b.length<=sizeLine then .ok (.str (a++b)) h else .bad
 |.loc n,.loc m=>(match h[n]?,h[m]? with
  |some (.lst xs),J (.lst ys)=>pr (xs++ys) h
  |_,_=>.bad)
 |.tup xs,.tup ys=>if xs≠[]then t_ (xs++ys) h else .bad
 |_,_=>.bad
def C6:=nS λi j=>.int (i-j)
def Dz(x:PV)(h:MH):VZ:=match x with
 |.int i=>.ok (.int (-i)) h
 |_=>.bad
def AD:wl X (binaryOp .Sub) C6:=oR Ia λ_ _ _ _=>.int _
def IH:Ua X (unaryOp .USub) Dz:=by
 intro l s Z H B u Q j f ⟨U,h,x,z,r,q⟩
 cases r with
 |int i=>exact Ic l s Z H _ u Q j f ⟨i,rfl,q U H _ (Le.refl _ _) z (.int _)⟩
 |_=>exact q.elim
def yj:wl X (binaryOp .FloorDiv) C0:=by
 intro F s Z H E C u v Q j f i ⟨U,h,x,y,r,B,z,q⟩;unfold C0 at q
 split at q
 .cases B;cases z
  split at q
  .rename_i l
   obtain⟨t,rfl⟩:=f;obtain⟨L,rfl⟩:=i;exact floordiv_int l.1 ⟨.int _,H,j.tok _,⟨_,rfl⟩,q U H _ (Le.refl _ _) r (.int _)⟩ (.inl l.2)
  .exact q.elim
 .exact q.elim
def eT:wl X (binaryOp .Mod) mq:=by
 intro F s Z H E C u v Q j f i ⟨U,h,x,y,l,z,r,q⟩;unfold mq at q
 split at q
 .cases z;cases r
  split at q
  .rename_i B
   obtain⟨t,rfl⟩:=f;obtain⟨L,rfl⟩:=i;exact mod_int' B ⟨.int _,H,j.tok _,⟨_,rfl⟩,q U H _ (Le.refl _ _) l (.int _)⟩
  .exact q.elim
 .exact q.elim
def yS:wl X (binaryOp .Pow) qd:=by
 intro E s Z H M L u v Q r f l ⟨U,h,x,y,z,C,B,q⟩;unfold qd at q
 split at q
 .rename_i i j
  cases C;cases B
  split at q
  .rename_i F
   exact Ib E s Z H _ _ u v Q r f l ⟨i,j,rfl,rfl,F,q U H _ (Le.refl _ _) z (.int _)⟩
  .exact q.elim
 .exact q.elim
def du:wl X (binaryOp .Add) j_:=by
 intro F s Z H x' y' u v Q r f l ⟨U,h,x,y,B,rx,C,q⟩
 cases rx with
 |int i =>
  cases C with
  |int j=>exact H_ F s Z H _ _ u v Q r f l ⟨i,j,rfl,rfl,q U H _ (Le.refl _ _) B (.int _)⟩
  |_=>exact q.elim
 |str a =>
  cases C with
  |str b =>
   dsimp only[j_]at q
   split at q
   .rename_i hl
    exact yG F s Z H _ _ u v Q r f l ⟨a,b,rfl,rfl,hl,q U H _ (Le.refl _ _) B (.str _)⟩
   .exact q.elim
  |_=>exact q.elim
 |@loc n a e =>
  cases C with
  |@loc m b e2 =>
   dsimp only[j_]at q;obtain⟨o1,h1,E⟩:=B.obj e;obtain⟨o2,h2,L⟩:=B.obj e2;rw[h1,h2]at q
   cases o1 with
   |dic ks xs=>exact q.elim
   |exc x=>exact q.elim
   |lst xs =>
    cases o2 with
    |dic ks xs=>exact q.elim
    |exc x=>exact q.elim
    |lst ys =>
     obtain⟨an,ex,M⟩:=E;obtain⟨ab,ey,R⟩:=L;obtain⟨P,O⟩:=mw B (M.append R) q;exact Ip F s Z H _ _ u v Q r f l ⟨a,b,an,ab,rfl,rfl,ex,ey,by rw[<-xK];exact P,O⟩
  |_=>exact q.elim
 |tup s1 E =>
  cases C with
  |tup s2 L =>
   dsimp only[j_]at q
   split at q
   .rename_i S
    obtain⟨P,O⟩:=wJ B (E.append L) q;refine Ex F s Z H _ _ u v Q r f l ⟨_,_,_,_,rfl,rfl,s1,s2,?_,by rw[<-xK];exact P,λz=>?_,λ_=>O⟩
    .rintro rfl;cases E;exact S rfl
    .subst z;cases L;unfold t_ at q
     split at q
     .exact q U H _ (Le.refl _ _) B (by rw[GK];exact .tup s1 E)
     .exact q.elim
   .exact q.elim
  |_=>exact q.elim
 |_=>cases C<;>exact q.elim
def RPs.rep{K:h8}{U:VS}{H:Hp}{xs:VL}{ys:List V}(r:RPs K U H xs ys):∀n:Nat,RPs K U H (List.replicate n xs).flatten (List.replicate n ys).flatten
 |0=>.nil
 |n+1=>by exact r.append (RPs.rep r n)
def gQ:wl X (binaryOp .Mult) j3:=by
 intro R s Z H x' y' u v Q r f l ⟨U,h,x,y,B,O,C,q⟩
 cases O with
 |int i =>
  cases C with
  |int j =>
   dsimp only[j3]at q
   split at q
   .rename_i hc
    obtain⟨t,rfl⟩:=f;obtain⟨t',rfl⟩:=l;exact PyProof.Rows.mul_int ⟨.int _,H,r.tok _,⟨_,rfl⟩,q U H _ (Le.refl _ _) B (.int _)⟩ hc
   .exact q.elim
  |_=>exact q.elim
 |@loc n a e =>
  cases C with
  |int j =>
   dsimp only[j3]at q;obtain⟨M,S,r1⟩:=B.obj e;rw[S]at q
   cases M with
   |dic ks xs=>exact q.elim
   |exc x=>exact q.elim
   |lst xs =>
    dsimp only at q
    split at q
    .rename_i F
     obtain⟨E,ex,z⟩:=r1;obtain⟨L,P⟩:=mw B (z.rep j.toNat) q;refine Iq R s Z H _ _ u v Q r f l ⟨a,j,E,rfl,rfl,ex,F.1,F.2,?_,P⟩;rw[vJ]at L;rw[Nat.mul_comm];exact L
    .exact q.elim
  |_=>exact q.elim
 |_=>cases C<;>exact q.elim
def kU{i:VU}{Z:L2.St}{H:Hp}{s:Shared}{Q:VK}{x':V}{u:Value}{b c:Bool}(f:Inv X i Z H s)(r:aM x' u)(j:plainIs u (.bool b)=I)(l:(!(u == .bool b))=c)(q:Q (.bl c) H):
  wpAny (model X.prog X.w) X.A (compareOp .IsNot u (.bool b)) (EP X i Z Q) X.xe s:=by
 exact d_ (wpAny_isSame_plain j (ia (by rw[l];exact⟨.bl c,H,f,rfl,q⟩)))
def II:wl X (compareOp .IsNot) (M_ I):=by
 intro C s Z H F E u v Q j f r ⟨U,h,x,y,l,z,B,q⟩
 cases B with
 |non =>
  refine En C s Z H _ _ u v Q j f r ⟨rfl,?_⟩;cases z<;>exact q U H _ (Le.refl _ _) l (by first | exact .bl I | exact .bl T)
 |bl b =>
  cases r
  cases z with
  |non=>cases f;exact kU (x':=.non) j rfl (by cases b<;>rfl) (by cases b<;>rfl) (q U H _ (Le.refl _ _) l (.bl I))
  |bl c=>cases f;exact kU (x':=.bl c) j rfl (by cases b<;>cases c<;>rfl) (by cases b<;>cases c<;>rfl) (q U H _ (Le.refl _ _) l (.bl _))
  |int i=>obtain⟨t,rfl⟩:=f;exact kU (x':=.int i) j ⟨_,rfl⟩ (by cases b<;>rfl) (by cases b<;>rfl) (q U H _ (Le.refl _ _) l (.bl I))
  |str i=>obtain⟨t,rfl⟩:=f;exact kU (x':=.str i) j ⟨_,rfl⟩ (by cases b<;>rfl) (by cases b<;>rfl) (q U H _ (Le.refl _ _) l (.bl I))
  |tup M L=>cases f;exact kU (x':=.ref _) j rfl (by cases b<;>rfl) (by cases b<;>rfl) (q U H _ (Le.refl _ _) l (.bl I))
  |_=>exact q.elim
 |_=>exact q.elim
def bC(x y:PV)(h:MH):VZ:=match y with
 |.int i=>(match x with
  |.loc n=>(match h[n]? with
   |some (.lst xs)=>(match n5 xs i with
    |some v=>.ok v h
    |none=>.bad)
   |_=>.bad)
  |.tup xs=>(match n5 xs i with
   |some v=>.ok v h
   |none=>.bad)
  |.frl xs=>(match n5 xs i with
   |some v=>.ok v h
   |none=>.bad)
  |.str z=>(match n5 z.cps.toList i with
   |some c=>if z.length<=sizeLine then .ok (.str ⟨#[c]⟩) h else .bad
   |none=>.bad)
  |_=>.bad)
 |_=>.bad
def qi{K:h8}{U:VS}{H:Hp}{xs:VL}{ys:List V}{i:Int}{v:PV}(r:RPs K U H xs ys)(e:n5 xs i=J v):∃f,n5 ys i=J f/\RP K U H v f:=by
 unfold n5 at e ⊢;rw[<-r.length]
 cases q:wk xs.length i with
 |none=>rw[q]at e;cases e
 |some j =>
  rw[q]at e;exact r.get e
def GW{a b:Expr}{ma mb:Mx PV}{M:Pos}(ha:ME X a ma)(hb:ME X b mb)(hs:lT b):ME X (.Subscript a b M) (ar bC ma mb):=by
 refine PE.imp (MU Il ha hb hs) λZ H Q q=>?_;obtain⟨U,r,h,rs,rh,q⟩:=q;refine⟨U,r,h,rs,rh,Ful.bind q λU1 H1 x x' h1 _ l1 O rx q1=>⟨U1,r,h1,rs.le l1,O,Ful.bind q1 λF L y y' h2 _ l2 l ry f=>?_⟩⟩;have R:=rx.le l2
 cases ry with
 |int i =>
  cases R with
  |@loc n a e =>
   obtain⟨ob,eo,P⟩:=l.obj e;dsimp only[bC]at f;rw[eo]at f
   cases ob with
   |dic ks xs=>exact f.elim
   |exc x=>exact f.elim
   |lst xs =>
    obtain⟨ys,ey,C⟩:=P;dsimp only at f
    cases j:n5 xs i with
    |none=>rw[j]at f;exact f.elim
    |some v =>
     rw[j]at f;obtain⟨E,B,u⟩:=qi C j;exact .inl ⟨a,ys,i,E,rfl,rfl,SqL.of ey,B,f F L _ (Le.refl _ _) l u⟩
  |@tup xs a ys S C =>
   dsimp only[bC]at f
   cases j:n5 xs i with
   |none=>rw[j]at f;exact f.elim
   |some v =>
    rw[j]at f;obtain⟨E,B,u⟩:=qi C j;exact .inr (.inl ⟨_,_,i,E,rfl,rfl,S,B,f F L _ (Le.refl _ _) l u⟩)
  |@frl xs a ys S C =>
   dsimp only[bC]at f
   cases j:n5 xs i with
   |none=>rw[j]at f;exact f.elim
   |some v =>
    rw[j]at f;obtain⟨E,B,u⟩:=qi C j;exact .inl ⟨_,_,i,E,rfl,rfl,S.sq,B,f F L _ (Le.refl _ _) l u⟩
  |str z =>
   dsimp only[bC]at f
   cases j:n5 z.cps.toList i with
   |none=>rw[j]at f;exact f.elim
   |some c =>
    rw[j]at f;dsimp only at f
    split at f
    .rename_i hz
     exact .inr (.inr ⟨z,i,c,rfl,rfl,hz,j,f F L _ (Le.refl _ _) l (.str _)⟩)
    .exact f.elim
  |_=>exact f.elim
 |_=>exact f.elim
def w_(f:VL->MH->VZ)(m:Mx (VL)):Mx PV:=λZ h=>(m Z h).bind λxs i=>(f xs i).ne
section
variable{x:Str}{id T:String}{e:Expr}{es:VX}{f:VL->MH->VZ}{m:Mx (VL)}{p pos:Pos}
def GX{Z:L2.St}{H:Hp}{Q:VK}(q:tM X (RV' X) (w_ f m) Z H Q):Rr (cJ X f) (tM X (RVs' X) m) Z H Q:=by obtain⟨U,j,h,u,r,q⟩:=q;exact⟨U,j,h,u,r,Ful.bind q λl E x L C _ F i B z=>⟨l,C,x,i,B,z.zero⟩⟩
def uZ(g:Good X N W G k)(j:Nat)(l:G[j]?=J x)(B:dB X (.builtin id) f)(u:X.mg x=Y)(hv:bootBuiltins x=J (.builtin id))(r:MA X (e::es) m)(z:starEach (e::es) X.env=(false,eval e X.env)::starEach es X.env:=by rfl)(i:(backTo pos (starEach es X.env)).any (·.1)=false:=by rfl):ME X (.Call (.Name x p) (e::es) [] pos) (w_ f m) :=
 have d:=g.dbg x (oI _ (au l))
 PE.imp (gk B (g.gl x (au l)) u hv r d.2.2 d.1 z i) λ_ _ _ q=>GX q
def rB(g:Good X N W G k)(j:Nat)(l:G[j]?=J x)(B:dB X (.type T) f)(u:X.mg x=Y)(hv:bootBuiltins x=J (.type T))(r:MA X (e::es) m)(z:starEach (e::es) X.env=(false,eval e X.env)::starEach es X.env:=by rfl)(i:(backTo pos (starEach es X.env)).any (·.1)=false:=by rfl):ME X (.Call (.Name x p) (e::es) [] pos) (w_ f m) :=
 have d:=g.dbg x (oI _ (au l))
 PE.imp (gX B (g.gl x (au l)) u hv r d.2.2 d.1 z i) λ_ _ _ q=>GX q
end
def Cm(xs:VL)(h:MH):VZ:=match xs with
 |[.int i]=>.ok (.int (if i<0 then -i else i)) h
 |_=>.bad
def Cy(xs:VL)(h:MH):VZ:=match xs with
 |[.int i,.int j]=>.ok (.int (if j<i then j else i)) h
 |_=>.bad
def EM(xs:VL)(h:MH):VZ:=match xs with
 |[.int i,.int j]=>.ok (.int (if j>i then j else i)) h
 |_=>.bad
def q7(xs:VL)(h:MH):VZ:=match xs with
 |[.loc n]=>(match h[n]? with
  |some (.lst ys)=>.ok (.int ys.length) h
  |_=>.bad)
 |[.tup ys]=>.ok (.int ys.length) h
 |[.frl ys]=>.ok (.int ys.length) h
 |[.str z]=>if z.length<=sizeLine then .ok (.int z.length) h else .bad
 |_=>.bad
def yR:dB X (.builtin "abs") Cm:=by
 intro u s Z H xs B Q f r ⟨U,h,C,l,rp,q⟩
 cases rp with
 |nil=>exact q.elim
 |cons j z =>
  cases z with
  |cons _ _=>cases j<;>exact q.elim
  |nil =>
   cases j with
   |int i=>exact Cw u s Z H _ B Q f r ⟨i,rfl,q U H _ (Le.refl _ _) l (.int _)⟩
   |_=>exact q.elim
def tq{f:VL->MH->VZ}{F:Int->Int->Int}{r:List V->Hp->VK->Prop}{B:Value}(hf:∀i j h,f [.int i,.int j] h=.ok (.int (F i j)) h)(L:∀xs h,(∀i j,xs≠[.int i,.int j])->f xs h=.bad)(hc:cS X B (λxs H Q=>∃i j,xs=[.int i,.int j]/\Q (.int (F i j)) H)):dB X B f:=by
 intro E s Z H xs R Q l r ⟨U,h,u,C,rp,q⟩;by_cases z:∃i j,u=[.int i,.int j]
 .obtain⟨i,j,rfl⟩:=z
  cases rp with
  |cons P M=>cases M with
   |cons O S =>
    cases S;cases P;cases O;rw[hf]at q;exact hc E s Z H _ R Q l r ⟨i,j,rfl,q U H _ (Le.refl _ _) C (.int _)⟩
 .rw[L u h λi j e=>z ⟨i,j,e⟩]at q;exact q.elim
def tT(g:Good X N W G k):dB X (.builtin "min") Cy:=tq (r:=λ_ _ _=>True) (λ_ _ _=>rfl) (λxs h z=>by unfold Cy;split<;>first | rfl | exact absurd rfl (z _ _)) (rS g.calm)
def IJ(g:Good X N W G k):dB X (.builtin "max") EM:=tq (r:=λ_ _ _=>True) (λ_ _ _=>rfl) (λxs h z=>by unfold EM;split<;>first | rfl | exact absurd rfl (z _ _)) (rH g.calm)
def kX:dB X (.builtin "len") q7:=by
 intro l s Z H xs u Q f r ⟨U,h,R,i,rp,q⟩
 cases rp with
 |nil=>exact q.elim
 |cons E M =>
  cases M with
  |cons _ _=>cases E<;>exact q.elim
  |nil =>
   cases E with
   |@loc n a e =>
    obtain⟨F,L,B⟩:=i.obj e;dsimp only[q7]at q;rw[L]at q
    cases F with
    |dic S xs=>exact q.elim
    |exc x=>exact q.elim
    |lst xs =>
     obtain⟨ys,P,j⟩:=B;exact kF l s Z H _ u Q f r ⟨_,_,rfl,.inl ⟨ys,SqL.of P,rfl⟩,by rw[<-j.length];exact q U H _ (Le.refl _ _) i (.int _)⟩
   |tup C j=>exact kF l s Z H _ u Q f r ⟨_,_,rfl,.inr ⟨_,C,rfl⟩,by rw[<-j.length];exact q U H _ (Le.refl _ _) i (.int _)⟩
   |frl C j=>exact kF l s Z H _ u Q f r ⟨_,_,rfl,.inl ⟨_,C.sq,rfl⟩,by rw[<-j.length];exact q U H _ (Le.refl _ _) i (.int _)⟩
   |str z =>
    dsimp only[q7]at q
    split at q
    .rename_i O
     exact kF l s Z H _ u Q f r ⟨_,_,rfl,⟨O,rfl⟩,q U H _ (Le.refl _ _) i (.int _)⟩
    .exact q.elim
   |_=>exact q.elim
def C7(h:MH):PV->Option String
 |.non=>J "NoneType"
 |.bl _=>J "bool"
 |.int _=>J "int"
 |.str _=>J "str"
 |.tup _=>J "tuple"
 |.frl _=>J "list"
 |.loc n=>match h[n]? with
  |some (.lst _)=>J "list"
  |some (.dic _ _)=>J "dict"
  |_=>Y
def g7(t:String)(f:String):Bool:=t==f||(t == "bool" && f == "int")
def tZ(f:List String)(x:PV)(h:MH):VZ:=match C7 h x with
 |some t=>.ok (.bl (f.any (g7 t))) h
 |none=>.bad
def Na(f:String):Prop:=∀K:h8,∀t∈["NoneType","bool","int","str","tuple","list","dict"],PySem.W.kitOne K (.type t) (.type f)=J (g7 t f)
def Ai(r:∀K,PySem.W.kitOne K (.type "NoneType") (.type a)=J (g7 "NoneType" a))(z:∀K,PySem.W.kitOne K (.type "bool") (.type a)=J (g7 "bool" a))(i:∀K,PySem.W.kitOne K (.type "int") (.type a)=J (g7 "int" a))(u:∀K,PySem.W.kitOne K (.type "str") (.type a)=J (g7 "str" a))(l:∀K,PySem.W.kitOne K (.type "tuple") (.type a)=J (g7 "tuple" a))(j:∀K,PySem.W.kitOne K (.type "list") (.type a)=J (g7 "list" a))(B:∀K,PySem.W.kitOne K (.type "dict") (.type a)=J (g7 "dict" a)):Na a:=by
 intro K t f;simp only[lb,DM,or_false]at f;rcases f with rfl|rfl|rfl|rfl|rfl|rfl|rfl
 .exact r K
 .exact z K
 .exact i K
 .exact u K
 .exact l K
 .exact j K
 .exact B K
def EN:Na "int":=Ai (λ_=>rfl) (λ_=>rfl) (λ_=>rfl) (λ_=>rfl) (λ_=>rfl) (λ_=>rfl) (λ_=>rfl)
def Cf:Na "bool":=Ai (λ_=>rfl) (λ_=>rfl) (λ_=>rfl) (λ_=>rfl) (λ_=>rfl) (λ_=>rfl) (λ_=>rfl)
def qH{Q:VU}{Z:L2.St}{H:Hp}{s:Shared}{U:VS}{h:MH}{x:PV}{F:V}{u:Value}{t:String}(f:Inv X Q Z H s)(O:RH X.K X.mg U H h)(P:RP X.K U H x F)(j:aM F u)(e:C7 h x=J t):
  t∈["NoneType","bool","int","str","tuple","list","dict"]/\u≠.builtin "__main__.__loader__#opaque"/\∃E,PySem.W.KitX X.K u (.type t) E/\E s.heap:=by
 cases P with
 |non=>cases e;cases j;exact⟨by simp,(λz=>nomatch z),_,PySem.W.kitx_none,trivial⟩
 |bl b=>cases e;cases j;exact⟨by simp,(λz=>nomatch z),_,PySem.W.kitx_bool,trivial⟩
 |int i=>cases e;obtain⟨t,rfl⟩:=j;exact⟨by simp,(λz=>nomatch z),_,PySem.W.kitx_int,trivial⟩
 |str i=>cases e;obtain⟨t,rfl⟩:=j;exact⟨by simp,(λz=>nomatch z),_,PySem.W.kitx_str,trivial⟩
 |tup B r1 =>
  cases e;cases j;obtain⟨r,L,⟨o,e1,e2,_⟩,_⟩:=f.tuple B;exact⟨by simp,(λz=>nomatch z),_,PySem.W.kitx_tuple,⟨o,e1,e2⟩⟩
 |frl B r1 =>
  cases e;cases j;obtain⟨r,L,⟨o,m,e1,e2,_,e3⟩,_⟩:=f.list B.sq;exact⟨by simp,(λz=>nomatch z),_,PySem.W.kitx_list,⟨o,e1,e2⟩⟩
 |@loc n a en =>
  obtain⟨M,S,l⟩:=O.obj en;dsimp only[C7]at e;rw[S]at e;cases j
  cases M with
  |lst xs =>
   cases e;obtain⟨ys,C,_⟩:=l;obtain⟨r,L,⟨o,m,e1,e2,_,e3⟩,_⟩:=f.list (SqL.of C);exact⟨by simp,(λz=>nomatch z),_,PySem.W.kitx_list,⟨o,e1,e2⟩⟩
  |dic ks xs =>
   cases e;obtain⟨bs,_,_,_,_,_,C⟩:=l;obtain⟨⟨o,es,ep,R,h2,_⟩,_⟩:=(show ObjOk X.prog X.w H s.heap a (.ext (DT a bs))from f.hok a _ C);exact⟨by simp,(λz=>nomatch z),_,PySem.W.kitx_dict,⟨o,R,h2.1⟩⟩
  |exc x=>cases e
def IK(g:Good X N W G k){a:Expr}{m:Mx PV}{f:String}{c:Str}{i j:Nat}{p q z:Pos}(hi:G[i]?=J "isinstance")(hm:X.mg "isinstance"=Y)(S:G[j]?=J c)(hc:X.mg c=Y)(hv:bootBuiltins c=J (.type f))(hT:Na f)(ha:ME X a m)(he:starEach [a,.Name c q] X.env=(T,eval a X.env)::starEach [.Name c q] X.env:=by rfl)(P:starEach [.Name c q] X.env=[(T,eval (.Name c q) X.env)]:=by rfl)(M:(backTo z (starEach [.Name c q] X.env)).any (·.1)=T:=by rfl):
  ME X (.Call (.Name "isinstance" p) [a,.Name c q] [] z) (Dg (tZ [f]) m):=by
 have d1:=g.dbg _ (oI _ (au hi));have d:=g.dbg c (oI _ (au S));have l:cS X (.builtin "isinstance") (λxs H Q=>∃B,xs=[B,.ty f]/\uJ X (tZ [f]) B H Q):=by
  intro Nc s Z H xs us Q u r ⟨B,e,U,h,x,C,L,q⟩;subst e
  cases r with
  |cons r1 t1=>cases t1 with
   |cons r2 t2 =>
    cases t2;obtain rfl:=(r2);unfold tZ at q
    cases R:C7 h x with
    |none=>rw[R]at q;exact q.elim
    |some t =>
     rw[R]at q;obtain⟨ht,O,Hq,Za,hz⟩:=qH u C L r1 R
     exact PySem.W.kia_one Za u.kIn hz (hT X.K t ht) O λtk=>⟨.bl _,H,u.tok _,rfl,by
      have q':=q U H _ (Le.refl _ _) C (.bl _)
      simpa using q'⟩
 refine PE.imp (gk l (g.gl _ (au hi)) hm PyProof.Rows.Boot.«isinstance» (cA ha (cA (wd (v:=.ty f) (g.gl c (au S)) hc hv rfl d.2.2 d.1) eQ P) he) d1.2.2 d1.1 he M) λZ H Q ⟨U,E,h,rs,C,q⟩=>?_;exact⟨U,E,h,rs,C,Ful.bind q λU1 H1 x B h1 _ l1 F L q1=>⟨B,rfl,U1,h1,x,F,L,q1.zero⟩⟩
def IL(K:h8)(mg:Cd)(F:VL->MH->VZ):Sp:=λu H Q E=>∃U l h,RPs K U H l u/\RH K mg U H h/\match F l h with
 |.ok v j=>∀i f r,Le U H i f->RH K mg i f j->RP K i f v r->Q r f
 |.exc x j=>∀C i f,x.fs=[]->mg x.cls=J (.ref C)->Le U H i f->RH K mg i f j->E (.ref C) Y f
 |.bad=>False
def Lr(P:Program)(w:World):Dl:=λouter H s E e f=>∃j C i,e=.ref j/\f.os=s.os/\AllBare f.gens/\Un (wh outer) [] H i s.heap f.heap/\HOk P w i f.heap/\Rz outer i s.heap C j f.heap/\E (.ref C) Y i
structure Cal(X:Cx)(x:Str)(ps:VM)(F:VL->MH->VZ)(k:Nat):Prop where
 ex:∃f fd,X.mg x=J (.ref f)/\PySem.W.keepIn X.K (.ref f)=I/\o3 X.K fd ps []/\FnOk X.prog X.w X.K X.mg X.base (Lr X.prog X.w) k f fd ps (IL X.K X.mg F)
def Cal.to(c:Cal X x ps F i)(e1:g.prog=X.prog)(e2:g.w=X.w)(e3:g.K=X.K)(e4:g.mg=X.mg)(e5:g.base=X.base):Cal g x ps F i:=by obtain⟨f,fd,a,b,d,e⟩:=c.ex;refine⟨f,fd,by rw[e4];exact a,by rw[e3];exact b,by rw[e3];exact d,?_⟩;rw[e1,e2,e3,e4,e5];exact e
def bT(F:VL->MH->VZ)(m:Mx (VL)):Mx PV:=λZ h=>(m Z h).bind F
def qF(g:Good X N W G k){x:Str}{j:Nat}(hj:G[j]?=J x){ps:VM}{F:VL->MH->VZ}(C:Cal X x ps F k){e:Expr}{es:VX}{m:Mx (VL)}{p R:Pos}(ha:MA X (e::es) m)(he:starEach (e::es) X.env=(T,eval e X.env)::starEach es X.env:=by rfl)(ax:(backTo R (starEach es X.env)).any (·.1)=T:=by rfl):ME X (.Call (.Name x p) (e::es) [] R) (bT F m):=by
 obtain⟨f,fd,hm,hk,hb,F'⟩:=C.ex;have d:=g.dbg x (oI _ (au hj));intro Nc s Z H Q S ⟨U,an,h,rs,rh,q⟩;refine wpAny_Call_Name_kw (qM S (g.gl x (au hj)) hm ?_ d.1)
 refine PySem.W.callWith_K S.ok.mod.kin hk (ka (ha R Nc s Z H (λvs L=>∃B xs P,Le U H B L/\RH X.K X.mg B L P/\RPs X.K B L xs vs/\Ful X (RV' X) an B L (F xs P) Q) S
  ⟨U,an,h,rs,rh,Ful.bind q λB L xs vs P _ l1 M rx O=>⟨B,xs,P,l1,M,rx,O⟩⟩) λus s1 ⟨vs,L,I1,r,B,xs,P,l1,M,rx,O⟩=>⟨I1.kIn,?_⟩) he ax
 have run:∀E:XK,IL X.K X.mg F vs L Q E->(∀ea C i l,l.os=s1.os->AllBare l.gens->Un (wh X.stack) [] L i s1.heap l.heap->HOk X.prog X.w i l.heap->Rz X.stack i s1.heap C ea l.heap->E (.ref C) Y i->X.xe (.ref ea) l) ->
   wpAny (model X.prog X.w) X.A (call (.ref f) us) (EP X Nc Z Q) X.xe s1:=λE ap hE=>by
  have hl:(us++[]).length=ps.length:=by rw[GK,<-r.length];exact F'.len _ _ _ _ ap
  have ab:=hb s1 us I1.kIn hl;rw[GK]at ab;refine wpAny_call (codeAny_mono (F'.run X.A X.stack s1 L ⟨us,[]⟩ us vs Q E g.room I1.env0 ab r ap) λr l hq=>?_)
  cases r with
  |error e =>
   obtain⟨ea,C,i,rfl,a1,a2,a3,a4,a5,a6⟩:=hq;exact hE ea C i l a1 a2 a3 a4 a5 a6
  |ok fl =>
   cases fl with
   |ret u=>exact I1.after hq
   |next=>exact False.elim hq
   |brk=>exact False.elim hq
   |cont=>exact False.elim hq
 cases eF:F xs P with
 |bad=>rw[eF]at O;exact O.elim
 |ok v h' =>
  rw[eF]at O;exact run (λ_ _ _=>False) ⟨B,xs,P,rx,M,by rw[eF];exact O⟩ λ_ _ _ _ _ _ _ _ _ z=>z.elim
 |exc x' h' =>
  rw[eF]at O;refine run (λc _ i=>∃C U',c=.ref C/\x'.fs=[]/\X.mg x'.cls=J (.ref C)/\Le B L U' i/\RH X.K X.mg U' i h') ⟨B,xs,P,rx,M,by rw[eF];exact λC U' i a b c d=>⟨C,U',rfl,a,b,c,d⟩⟩ λea C i l a1 a2 a3 a4 a5 a6=>?_;obtain⟨C',U',eC,b1,b2,b3,b4⟩:=a6;cases eC;have IX:=I1.call' (s':=l) a1 a3 a4 a2 (λb z=>absurd z (by simp));have as:=Inv.unpinned (Nc:=[]) IX;exact O ea C U' i Z l s1.heap b1 b2 b3 b4 (rs.le (l1.trans b3)) as (Inv.bears I1) a5
def bH(n:Nat)(f:VL):mh:=f.map J++List.replicate (n-f.length) Y
def cC(n j:Nat)(m:l_):VL->MH->VZ:=λi h=>if i.length=j then (match m (bH n i) h with
 |.nx _ f=>.ok .non f
 |.rt v f=>.ok v f
 |.exc x _ f=>.exc x f
 |.rse x _ f=>.exc x f
 |_=>.bad)else .bad
def Bb{K:h8}{U:VS}{H:Hp}{N:VM}{f:VL}{l:List V}(r:RPs K U H f l):RS K U H (bH N.length f) (L2.start N l):=by
 have B:=r.length;refine⟨by simp[bH,L2.start,B],λi v e=>?_⟩;unfold bH at e;by_cases j:i<f.length
 .rw[sd (by simpa using j),vu]at e
  cases q:f[i]? with
  |none=>rw[q]at e;cases e
  |some x =>
   rw[q]at e;cases e;obtain⟨C,z,u⟩:=r.get q;refine⟨C,?_,u⟩;unfold L2.start;rw[sd (by simp;lia),vu,z];rfl
 .rw[C5 (by simpa using j),Hn]at e
  split at e<;>cases e
def uE{B h:Heap}(k:B.StaysIn h){b:Addr}{o f:Obj}(e1:B.get? b=J f)(e2:h.get? b=J o):f=o:=by
 have:=k b f e1
 rw[e2]at this;exact(Option.some.inj this).symm
def wY{X:Cx}{Z':L2.St}{O:Hp}{M:Shared}{F B:Heap}(f:Inv X [] Z' O M)(R:X.ex=[])(Z:B.StaysIn M.heap)(r:B.StaysIn F)(U:M.heap.UpToSlots F)(E:∀b o,X.s₀.heap.get? b=J o->b∉X.fs->∃i,B.get? b=J i)(H:∀b o,O b=J o->∃i,B.get? b=J i):Un X.fs [] X.H₀ O X.s₀.heap F/\HOk X.prog X.w O F:=by
 have j:∀b:Addr,b∉X.ex:=λb=>by rw[R];simp
 have kp:∀b o i,B.get? b=J i->M.heap.get? b=J o->F.get? b=J o:=λb o i e1 e2=>by
  have:=uE Z e1 e2
  subst this;exact r b i e1
 refine⟨⟨λb o e n hf _=>?_,λb o e n hf _=>?_,λb o e n _=>f.base.free b o e n (j b),λb o e _=>?_,f.base.tups,f.base.frzs,f.base.tbls⟩,λa o e=>?_⟩
 .obtain⟨i,l⟩:=E b o e hf;exact kp b o i l (f.base.keep b o e n hf (j b))
 .obtain⟨sl,e1⟩:=f.base.slot b o e n hf (j b);obtain⟨_,oF,L,P⟩:=f.ok.funs.mem hf;rw[e]at L;cases L;obtain⟨C,e2⟩:=U b _ e1 (λS z=>P S z);exact⟨C,e2⟩
 .by_cases hf:b∈X.fs
  .obtain⟨_,oF,L,P⟩:=f.ok.funs.mem hf;rw[e]at L;cases L;obtain⟨sl,e1⟩:=f.base.slot b o e (f.ok.frf b hf) hf (j b);obtain⟨C,e2⟩:=U b _ e1 (λS z=>P S z);exact⟨_,e2⟩
  .obtain⟨i,l⟩:=E b o e hf;exact⟨i,r b i l⟩
 .refine (f.hok a o e).stay (λb u Q z=>?_) (λ_ z=>z) λ_ _ z=>z;rcases Q with rfl|Q
  .obtain⟨i,l⟩:=H _ _ e;exact kp _ u i l z
  .obtain⟨i,l⟩:=H _ _ Q;exact kp _ u i l z
def _root_.L2.ObjOk.has(x:ObjOk P w H h a o):∃u,h.get? a=J u:=by
 cases o with
 |lst xs=>obtain⟨_,_,_,_,e⟩:=x;exact⟨_,e⟩
 |tup xs=>obtain⟨_,_,_,o,e,_⟩:=x;exact⟨o,e⟩
 |dK i=>obtain⟨_,_,_,_,o,_,_,e,_⟩:=x;exact⟨o,e⟩
 |dT i=>obtain⟨_,_,_,_,o,_,_,e,_⟩:=x;exact⟨o,e⟩
 |set S n=>obtain⟨o,_,_,_,e,_⟩:=x;exact⟨o,e⟩
 |ins C r fs=>obtain⟨_,_,_,e,_⟩:=x;exact⟨_,e⟩
 |own y=>obtain⟨o,e⟩:=x;exact⟨o,e⟩
 |xd fs=>obtain⟨_,⟨o,_,_,e,_⟩,_⟩:=x;exact⟨o,e⟩
 |rng lo z=>obtain⟨_,_,_,e⟩:=x;exact⟨_,e⟩
 |frz j u=>obtain⟨e,_⟩:=x;exact⟨_,e⟩
 |tbl l=>exact⟨_,(x)⟩
 |met f y=>exact⟨_,(x)⟩
 |ext φ=>obtain⟨_,⟨o,e⟩,_⟩:=x;exact⟨o,e⟩
structure ij(X:Cx):Prop where
 stk:X.stack=X.env::X.outer
 fr:X.env.frame=J X.env.locals
 ex:X.ex=[]
def RC{P:Program}{w:World}{K:h8}{mg:VC}{base:Heap}{x i:Str}{st:Stmt}{f:Addr}{fd:FuncData}{ps:VM}{m:l_}(Fu:Fun K x i st f fd)(S:pk N ps (ak st))(hl:∀y∈N,Loc (ak st) y)(a9:∀y∈G,(ak st).names.lookup y=J .globalImplicit)(dbg:∀x∈N++G,(x==("__debug__":Str))=T/\(x==("__classdict__":Str))=T/\x≠"__name__")(hb:∀X:Cx,X.prog=P->X.w=w->X.K=K->X.mg=mg->X.base=base->X.env.scope=ak st->Good X N N G k->ij X->yf X (aC st) m):
  FnOk P w K mg base (Lr P w) (k+1) f fd ps (IL K mg (cC N.length ps.length m)):=by
 have len:∀vs H Q E,IL K mg (cC N.length ps.length m) vs H Q E->vs.length=ps.length:=by
  rintro vs H Q E ⟨U,zs,h,r,rh,q⟩;rw[<-r.length];unfold cC at q;by_cases hp:zs.length=ps.length
  .exact hp
  .rw[f_ hp]at q;exact q.elim
 obtain⟨oc,od,kV,bj,pm,an,j,ct,bm,rfl,lk,a4⟩:=Fu.ex;refine MN lk a4 S len λA outer s H vs Q E hr a5=>?_;obtain⟨U,zs,h,r,rh,q⟩:=a5;refine⟨_,hb _ rfl rfl rfl rfl rfl rfl ⟨rfl,S.nd,hl,λ_ _=>.inl rfl,a9,dbg,rfl,hr,PassesOwn.leaving⟩ ⟨rfl,rfl,rfl⟩,U,bH N.length zs,h,Bb r,rh,?_⟩;unfold cC at q;by_cases hp:zs.length=ps.length
 .rw[c_ hp]at q
  cases e:m (bH N.length zs) h with
  |nx Z' h'=>rw[e]at q;exact λU' H' Z' l r' s'=>q U' H' .non l r' .non
  |rt v h'=>rw[e]at q;exact q
  |bk Z h'=>rw[e]at q;exact q.elim
  |ct Z h'=>rw[e]at q;exact q.elim
  |bad=>rw[e]at q;exact q.elim
  |exc x Z h' =>
   rw[e]at q;intro ea C U' H' Z' s' bi ab ax l ap ba L a8 a3;obtain⟨B,t,a1,R,az,as⟩:=a3;refine wpAny_leaves_onW (base:=B) (env:=envOfC i (ak st) s.heap.objs.size f j) (outer:=outer) L.ok.frames rfl a1 λa0 F sm=>?_;have M:∀b o,s.heap.get? b=J o->b∉wh outer->∃ob,B.get? b=J ob:=λb o eb hf=>by
    obtain⟨o',e'⟩:=a8.old b o eb (by show b∉([]:VS);simp);refine az b o' e' λhm=>?_;rcases lb.mp (L.stkSub b hm)with z|z
    .exact absurd (nr eb) (by rw[z];exact Ca _)
    .exact hf z
   obtain⟨un,ay⟩:=wY (B:=B) L rfl a1.1 F.1 sm M R;exact⟨ea,C,H',rfl,L.os,L.bare,un,ay,⟨B,t,F,R,M,as⟩,q C U' H' ab ax l ap⟩
  |rse x Z h' =>
   rw[e]at q;intro ea C U' H' Z' s' h0 be ab ax l ap ba L O;have a6:=L.stack;have a7:∀env∈(envOfC i (ak st) s.heap.objs.size f j::outer),∀b,env.frame=J b->b∈wh (envOfC i (ak st) s.heap.objs.size f j::outer):=λenv he b hb=>Dq.mpr ⟨env,he,hb⟩;refine wpAny_leaves_madeW (base:=PySem.W.hideAll h0 (wh (envOfC i (ak st) s.heap.objs.size f j::outer))) (h:=h0) (env:=envOfC i (ak st) s.heap.objs.size f j) (outer:=outer) L.ok.frames rfl (λb o z=>PySem.W.of_hideAll _ z)
    (PySem.W.funFrames_hide (base:=base) a6 a7) O λa0 t F _ _ sm=>?_
   have sub:∀b,b∈wh (envOfC i (ak st) s.heap.objs.size f j::outer)->b=s.heap.objs.size\/b∈wh outer:=λb hm=>lb.mp (L.stkSub b hm);have M:∀b o,s.heap.get? b=J o->b∉wh outer->∃ob,(PySem.W.hideAll h0 (wh (envOfC i (ak st) s.heap.objs.size f j::outer))).get? b=J ob:=λb o eb hf=>by
    obtain⟨o',e'⟩:=L.base.there b o eb (by show b∉([]:VS);simp);refine⟨o',PySem.W.hideAll_get _ e' λhm=>?_⟩;rcases sub b hm with z|z
    .exact absurd (nr eb) (by rw[z];exact Ca _)
    .exact hf z
   have R:∀b o,H' b=J o->∃ob,(PySem.W.hideAll h0 (wh (envOfC i (ak st) s.heap.objs.size f j::outer))).get? b=J ob:=λb o eb=>by
    obtain⟨u,eu⟩:∃u,h0.get? b=J u:=(L.hok b o eb).has;refine⟨u,PySem.W.hideAll_get _ eu λhm=>?_⟩
    have:=L.stkFree b hm
    rw[eb]at this;cases this
   have a2:h0.UpToSlots a0:=(Heap.UpToSlots.of_keeps O.keeps).trans sm;obtain⟨un,ay⟩:=wY (B:=PySem.W.hideAll h0 (wh (envOfC i (ak st) s.heap.objs.size f j::outer))) L rfl (λb o z=>PySem.W.of_hideAll _ z) F.1 a2 M R;have as:H' ea=Y:=by
    cases z:H' ea with
    |none=>rfl
    |some o =>
     obtain⟨u,eu⟩:=(L.hok ea o z).has;rw[O.new]at eu;cases eu
   exact⟨ea,C,H',rfl,L.os,L.bare,un,ay,⟨_,t,F,R,M,as⟩,q C U' H' ab ax l ap⟩
 .rw[f_ hp]at q;exact q.elim
def v1(v:PV)(h:MH):Out MIt:=match v with
 |.loc n=>(match h[n]? with
  |some (.lst xs)=>.ok ⟨xs,[(n,xs)]⟩ h
  |_=>.bad)
 |.frl xs=>.ok ⟨xs,[]⟩ h
 |.tup xs=>.ok ⟨xs,[]⟩ h
 |_=>.bad
def jz(m:Mx PV):Mx MIt:=λZ h=>(m Z h).bind v1
def uq(C:ME X l m):MI X tg l (jz m):=by
 intro B s Z H R j ⟨U,f,h,r,u,q⟩;by_cases z:∃xs i,m f h=.ok (.tup xs) i
 .obtain⟨xs,i,e⟩:=z;refine IF C B s Z H R j ⟨U,f,h,r,u,?_⟩;unfold jz at q;unfold M7;rw[e]at q ⊢;exact q
 .refine EK C B s Z H R j ⟨U,f,h,r,u,?_⟩;unfold jz at q;unfold M6
  cases e:m f h with
  |ok v i =>
   rw[e]at q
   cases v with
   |tup xs=>exact absurd ⟨xs,i,e⟩ z
   |_=>exact q
  |exc x i=>rw[e]at q;exact q
  |bad=>rw[e]at q;exact q
def Inv.bigM{i:VU}{Z:L2.St}{H:Hp}{s:Shared}(f:Inv X i Z H s):sysModules<s.heap.objs.size:=by have h:=(f.mod.glob.keeps f.bk).lt;exact Px (by decide) h
def IM:Mx PV:=λ_ h=>.ok (.loc h.length) (h++[.dic [] []])
def EO:ME X (.Dict [] [] pos) IM:=λu s Z H Q f ⟨U,l,h,B,i,q⟩=>by
 have hf:=f.hok.fresh (ii _);obtain⟨j,r⟩:=i.new hf (o:=.dic [] []) (ho:=.ext (DT s.heap.objs.size [])) ⟨[],[],rfl,(λ_ z=>nomatch z),.nil,.nil,rfl⟩;refine wpAny_Dict_empty ⟨.ref s.heap.objs.size,_,f.laid (t':=s.toks) (λ_ _ q=>n_ _ q) (ii _) ?_,rfl,q _ _ _ r j (.loc (by rw[<-i.len];simp))⟩;refine⟨⟨_,#[],0,tz _ rfl,⟨rfl,rfl,rfl⟩,rfl,rfl,Pu,beq_eq_false_iff_ne.mpr (Ne.symm (t4 (Inv.bigM f))),ya _⟩,⟨_,tz _ rfl⟩,qX⟩
structure FnAt(P:Program)(w:World)(K:h8)(mg:VC)(base:Heap)(x:Str)(ps:VM)(F:VL->MH->VZ)(k:Nat):Prop where
 ex:∃f fd,mg x=J (.ref f)/\PySem.W.keepIn K (.ref f)=I/\o3 K fd ps []/\FnOk P w K mg base (Lr P w) k f fd ps (IL K mg F)/\∃oc od osl,K.lookup f=J ⟨oc,od,.func fd,osl⟩
def FnAt.mono{P:Program}{w:World}{K:h8}{mg:VC}{base:Heap}{x:Str}{l:VM}{F:VL->MH->VZ}{i j:Nat}(c:FnAt P w K mg base x l F i)(h:i<=j):FnAt P w K mg base x l F j :=
 let⟨f,fd,a,b,d,e,z⟩:=c.ex;⟨f,fd,a,b,d,e.mono h,z⟩
def FnAt.cal{P:Program}{w:World}{K:h8}{mg:VC}{base:Heap}{x:Str}{j:VM}{F:VL->MH->VZ}{i:Nat}(c:FnAt P w K mg base x j F i){X:Cx}(e1:X.prog=P)(e2:X.w=w)(e3:X.K=K)(e4:X.mg=mg)(e5:X.base=base):Cal X x j F i:=by subst e1;subst e2;subst e3;subst e4;subst e5;obtain⟨f,fd,a,b,d,e,_⟩:=c.ex;exact⟨f,fd,a,b,d,e⟩
structure e_(K:h8)(x:Str)(st:Stmt):Prop where
 ex:∃f fd,PySem.W.nsIn K mainGlobals x=J (J (.ref f))/\Fun K x x st f fd
def DA{K:h8}{x:Str}{st:Stmt}{f:Addr}{r:Value}{z u:VG}{sl:Array (VV)}{kV j pm i ct:Value}(a:PySem.W.nsIn K mainGlobals x=J (J (.ref f)))(l:K.lookup f=J ⟨r,z,.func (PySem.W.fnOf x x (iI st) (aC st) (ak st) .none kV j pm u i ct),sl⟩)(c:PySem.W.codeIn K i x=I)(kp:PySem.W.keepIn K (.ref f)=I):e_ K x st :=
 ⟨f,_,a,Is l c kp⟩
def iJ(x:Str)(st:Stmt)(l:VM):Prop:=∀(kV i pm:Value)(r:VG)(j ct:Value)(f:VT),f.length=l.length->bindArgs (PySem.W.fnOf x x (iI st) (aC st) (ak st) .none kV i pm r j ct) ⟨f,[]⟩=pure (l.zip f)
def tW{P:Program}{w:World}{K:h8}{mg:VC}{base:Heap}{x:Str}{st:Stmt}{i:VM}{m:l_}(kin:K.In base)(ns:base.Ns mainGlobals mg)(D:e_ K x st)(S:pk N i (ak st))(B:iJ x st i)(C:∀y∈N,(ak st).names.lookup y=J .local\/(ak st).names.lookup y=J .cell)(l:∀y∈G,(ak st).names.lookup y=J .globalImplicit)(dbg:∀x∈N++G,(x==("__debug__":Str))=T/\(x==("__classdict__":Str))=T/\x≠"__name__")(E:∀X:Cx,X.prog=P->X.w=w->X.K=K->X.mg=mg->X.base=base->X.env.scope=ak st->Good X N N G k->ij X->yf X (aC st) m):
  FnAt P w K mg base x i (cC N.length i.length m) (k+1):=by
 obtain⟨f,fd,a,j⟩:=D.ex;have F:=j.ex;obtain⟨z,u,kV,H,pm,M,L,ct,r,e1,e2,_⟩:=F;exact⟨f,fd,PySem.W.mg_of kin ns a,j.kp,j.binds B,RC j S C l dbg E,z,u,r,e2⟩
def IN{P:Program}{w:World}{K:h8}{mg:VC}{h:Heap}{x y:Str}{st:Stmt}{F:VL->MH->VZ}{z:Addr}(D:e_ K x st)(B:iJ x st [y])(i:mg x=J (.ref z))(kin:K.In h)(ns:h.Ns mainGlobals mg)(H:∀base:Heap,K.In base->base.Ns mainGlobals mg->FnAt P w K mg base x [y] F k):
  ∃fd:FuncData,(∀(s:Shared)(u:Value),BindsTo s fd ⟨[u],[]⟩ [(y,u)])/\∀base:Heap,K.In base->base.Ns mainGlobals mg->FnOk P w K mg base (Lr P w) k z fd [y] (IL K mg F):=by
 obtain⟨f,fd,a,E⟩:=D.ex;have e:=i.symm.trans (PySem.W.mg_of kin ns a);obtain⟨oc,S,kV,j,pm,L,l,ct,M,e1,e2,e3⟩:=E.ex;refine⟨fd,λs u=>.of_eq ?_,λbase kb nb=>?_⟩
 .rw[e1];exact B kV j pm L l ct [u] rfl
 .obtain⟨f',C,g1,g2,R,U,O,Q,r,Z⟩:=(H base kb nb).ex
  grind
def Nb(K:h8):Sp:=λi H Q _=>∃(a:Addr)(ns:VN),i=[.ref a]/\SqF K H a (ns.map V.int)/\ns.length<=63/\∀f,Q (.bl I) f
def IQ{l:PySem.W.OpenLaw}{q:Program}{loose:VM}{XP:(Str->VV)->Heap->Prop}{O:World->Heap->Prop}{d:DefRec}{K:Params->h8}{x:Str}{F:VL->MH->VZ}(hn:l.most=J 63)(j:d.params.defaults=[])(hr:Room k callerA)(U:∀(w:World)(h:Heap),O w h->(K w.params).In h)(S:∀(w:World)(mg:VC)(i:Addr)(h:Heap),(K w.params).In h->h.Ns mainGlobals mg->mg d.name=J (.ref i) ->
   ∃fd:FuncData,(∀(s:Shared)(u:Value),BindsTo s fd ⟨[u],[]⟩ [(x,u)])/\∀base:Heap,(K w.params).In base->base.Ns mainGlobals mg->FnOk l.prog w (K w.params) mg base (Lr l.prog w) k i fd [x] (IL (K w.params) mg F))(Z:∀ns:VN,ns.length<=63->∃P,F [.frl (ns.map .int)] []=.ok (.bl I) P):
  PySem.W.WalkO q loose XP O l.row.toRowW d [] (λf R=>PySem.call f R):=by
 refine L2.EB (x:=x) (CX:=λw=>Lr l.prog w) (sp:=λw=>Nb (K w.params)) hn (by decide) j hr U (λw mg i h hK C M=>?_) (λw H a ns L hO hS=>?_) λw H s e s' z=>?_
 .obtain⟨fd,hb,hF⟩:=S w mg i h hK C M;refine⟨fd,hb,λbase kb nb=>(hF base kb nb).imp λR H Q E z=>?_⟩;obtain⟨a,ns,rfl,B,L,hq⟩:=z;obtain⟨P,e⟩:=Z ns L;refine⟨[],[.frl (ns.map .int)],[],.cons (.frl B (RPs.ints ns)) .nil,⟨rfl,Pu,λn a o z _=>by simp at z⟩,?_⟩;rw[e];intro U' H' v' _ _ r;cases r;exact hq H'
 .have B:SqF (K w.params) H a (ns.map V.int):=by
   rcases hS with(z|z)|z
   .rcases hO a with y|⟨o,xs,y⟩
    .rw[y]at z;cases z
    .rw[y]at z;cases z
   .exact .inl z
   .exact .inr z
  exact⟨a,ns,rfl,B,L,λ_=>rfl⟩
 .obtain⟨_,_,_,_,_,_,_,_,_,z⟩:=z;exact z
end
section
variable{α:Type}{Z:mh}{h:MH}
@[simp]theorem yM:mC v Z h=.ok v h:=rfl
@[simp]theorem RD{v:PV}{r:mh}:af 0 (J v::r) h=.ok v h:=rfl
@[simp]theorem RE{i:Nat}{o:Option PV}{r:mh}:af (i+1) (o::r) h=af i r h:=by simp[af]
@[simp]theorem qz:ar f a b Z h=(a Z h).bind λx h1=>(b Z h1).bind λy h2=>(f x y h2).ne:=rfl
@[simp]theorem IR:Dg f a Z h=(a Z h).bind λx h1=>(f x h1).ne:=rfl
@[simp]theorem RF:w_ f a Z h=(a Z h).bind λx h1=>(f x h1).ne:=rfl
@[simp]theorem kL:bT f a Z h=(a Z h).bind f:=rfl
@[simp]theorem jM:h_ Z h=.ok [] h:=rfl
@[simp]theorem dz:ai a r Z h=(a Z h).bind λx h1=>(r Z h1).bind λxs h2=>.ok (x::xs) h2:=rfl
@[simp]theorem PN:fF a Z h=(a Z h).bind pr:=rfl
@[simp]theorem PP:j4 a Z h=(a Z h).bind t_:=rfl
@[simp]theorem ER:IM Z h=.ok (.loc h.length) (h++[.dic [] []]):=rfl
@[simp]theorem GY:mB a Z h=(a Z h).bind λv h1=>match v with|.bl b=>.ok b h1|_=>.bad:=rfl
@[simp]theorem ES:uM a Z h=(a Z h).bind λb h1=>.ok (!b) h1:=rfl
@[simp]theorem PQ:Iv a b Z h=(a Z h).bind λx h1=>if x=I then b Z h1 else .ok T h1:=rfl
@[simp]theorem IS:PK a b Z h=(a Z h).bind λx h1=>if x=I then .ok I h1 else b Z h1:=rfl
@[simp]theorem Nd:xu a b Z h=(a Z h).bind λx h1=>match x with|.bl c=>if c=I then b Z h1 else .ok (.bl T) h1|_=>.bad:=rfl
@[simp]theorem AW:sU a Z h=(a Z h).bind λx h1=>match x with|.bl c=>.ok (.bl (!c)) h1|_=>.bad:=rfl
@[simp]theorem nz:mm Z h=.nx Z h:=rfl
@[simp]theorem cB:aL a b Z h=(a Z h).then b:=rfl
@[simp]theorem aq:(SOut.nx Z h).then k=k Z h:=rfl
@[simp]theorem then_rt:(SOut.rt v h).then k=.rt v h:=rfl
@[simp]theorem then_bk:(SOut.bk Z h).then k=.bk Z h:=rfl
@[simp]theorem then_ct:(SOut.ct Z h).then k=.ct Z h:=rfl
@[simp]theorem Bp:(SOut.rse x Z h).then k=.rse x Z h:=rfl
@[simp]theorem Cu:(SOut.exc x Z h).then k=.exc x Z h:=rfl
@[simp]theorem BH:SOut.bad.then k=.bad:=rfl
def Out.rt(o:VZ)(Z:mh):SOut:=match o with
 |.ok v f=>.rt v f
 |.exc x f=>.exc x Z f
 |.bad=>.bad
@[simp]theorem Uc:(Out.ok v h).rt Z=.rt v h:=rfl
@[simp]theorem RG:(Out.exc x h:VZ).rt Z=.exc x Z h:=rfl
@[simp]theorem RI:(Out.bad:VZ).rt Z=.bad:=rfl
@[simp]theorem qC:b9 m Z h=(m Z h).rt Z:=rfl
def Out.go{α:Type}(o:Out α)(Z:mh)(k:α->l_):SOut:=match o with
 |.ok v f=>k v Z f
 |.exc x f=>.exc x Z f
 |.bad=>.bad
@[simp]theorem aR:(Out.ok v h).go Z k=k v Z h:=rfl
@[simp]theorem go_exc:(Out.exc x h:Out α).go Z k=.exc x Z h:=rfl
@[simp]theorem go_bad:(Out.bad:Out α).go Z k=.bad:=rfl
@[simp]theorem IT:yi m k Z h=(m Z h).go Z k:=rfl
@[simp]theorem Cr:km m Z h=(m Z h).go Z λ_=>mm:=rfl
@[simp]theorem kT:CK c a b Z h=(c Z h).go Z λx=>if x=I then a else b:=rfl
@[simp]theorem jQ:bG i m Z h=(m Z h).go Z λv Z h=>.nx (Z.set i (J v)) h:=rfl
@[simp]theorem ET:uh m g Z h=(m Z h).go Z λv Z h=>match g v Z h with|.nx Z2 h2=>.nx Z2 h2|.exc x Z2 h2=>.exc x Z2 h2|_=>.bad:=rfl
@[simp]theorem RJ:EH i v Z h=.nx (Z.set i (J v)) h:=rfl
@[simp]theorem RK:RB [] Z h=.nx Z h:=rfl
@[simp]theorem RL:PL a r (v::vs) Z h=(a v Z h).then (r vs):=rfl
@[simp]theorem RM:PM r n (.tup xs) Z h=if xs.length=n then r xs Z h else .bad:=rfl
@[simp]theorem PX:ID mi g b Z h=(mi Z h).go Z λit=>CZ it g b it.xs:=rfl
@[simp]theorem PY:jz m Z h=(m Z h).bind v1:=rfl
@[simp]theorem Nf:xS m Z h=(m Z h).bind λvs h1=>match vs with
 |[.int j]=>if -(2^62)<=j/\j<2^62 then .ok ⟨ck 0 j.toNat,[]⟩ h1 else .bad
 |_=>.bad:=rfl
@[simp]theorem RN:M5 mo mi v Z h=(mo Z h).go Z λo=>yi mi λi Z h=>match ug o i v h with
 |some h2=>.nx Z h2
 |none=>.bad:=rfl
def SOut.fin(o:SOut):VZ:=match o with
 |.nx _ f=>.ok .non f
 |.rt v f=>.ok v f
 |.exc x _ f=>.exc x f
 |.rse x _ f=>.exc x f
 |_=>.bad
@[simp]theorem fin_exc:(SOut.exc x Z h).fin=.exc x h:=rfl
@[simp]theorem fin_rse:(SOut.rse x Z h).fin=.exc x h:=rfl
@[simp]theorem lz:(SOut.rt v h).fin=.ok v h:=rfl
@[simp]theorem fin_nx:(SOut.nx Z h).fin=.ok .non h:=rfl
theorem dM(e:ps.length=np):cC n np m ps h=(m (bH n ps) h).fin:=by unfold cC;rw[c_ e];rfl
end
section
variable{h:MH}{i j:Int}
@[simp]theorem Ng:j_ (.int i) (.int j) h=.ok (.int (i+j)) h:=rfl
@[simp]theorem Nh:C6 (.int i) (.int j) h=.ok (.int (i-j)) h:=rfl
@[simp]theorem PZ:Dz (.int i) h=.ok (.int (-i)) h:=rfl
@[simp]theorem P0:Dx (.int i) (.int j) h=.ok (.bl (decide (i<j))) h:=rfl
@[simp]theorem P1:IG (.int i) (.int j) h=.ok (.bl (decide (i<=j))) h:=rfl
@[simp]theorem P2:Cj (.int i) (.int j) h=.ok (.bl (decide (j<i))) h:=rfl
@[simp]theorem P4:Dy (.int i) (.int j) h=.ok (.bl (decide (j<=i))) h:=rfl
@[simp]theorem P5:Ch (.int i) (.int j) h=.ok (.bl (decide (i=j))) h:=rfl
@[simp]theorem P6:Ci (.int i) (.int j) h=.ok (.bl (!decide (i=j))) h:=rfl
@[simp]theorem P7:Ch (.bl a) (.bl b) h=.ok (.bl (a==b)) h:=by simp[Ch,rd,SeqAt.shaped,PyData.canLay0,PyData.depth,PyData.eqv]
@[simp]theorem P8:Ci (.bl a) (.bl b) h=.ok (.bl (!(a==b))) h:=by simp[Ci,rd,SeqAt.shaped,PyData.canLay0,PyData.depth,PyData.eqv]
theorem fV(f:j≠0):mq (.int i) (.int j) h=.ok (.int (i.fmod j)) h:=by simp[mq,f]
def vR(f:j≠0)(l:j.natAbs.log2<9000):C0 (.int i) (.int j) h=.ok (.int (i.fdiv j)) h:=by simp[C0,f,PyProof.noPylong_of_log2 l]
def iH(f:-(2^64)<i/\i<2^64):j3 (.int i) (.int j) h=.ok (.int (i*j)) h:=by simp[j3,IntMulOk.of_left (intBits_le_64 f.1 f.2)]
def EU(f:-(2^64)<j/\j<2^64):j3 (.int i) (.int j) h=.ok (.int (i*j)) h:=by simp[j3,IntMulOk.of_right (intBits_le_64 f.1 f.2)]
def uo(f:0<=j/\j<=1000000/\i.natAbs<2^64):qd (.int i) (.int j) h=.ok (.int (i^j.toNat)) h:=by simp[qd,iM,f]
@[simp]theorem RQ:Cm [.int i] h=.ok (.int (if i<0 then -i else i)) h:=rfl
@[simp]theorem P9:Cy [.int i,.int j] h=.ok (.int (if j<i then j else i)) h:=rfl
@[simp]theorem P_:EM [.int i,.int j] h=.ok (.int (if j>i then j else i)) h:=rfl
@[simp]theorem Ni:q7 [.frl xs] h=.ok (.int xs.length) h:=rfl
@[simp]theorem Nj:q7 [.tup xs] h=.ok (.int xs.length) h:=rfl
theorem oK(f:xs.length<=1000):pr xs h=.ok (.loc h.length) (h++[.lst xs]):=by unfold pr;rw[c_ (o0 f (by decide))]
def wO(f:m<n):wk n (m:Int)=J m:=by unfold wk;rw[c_ ⋯,c_ ⋯];simp
@[simp]theorem Ud:n5 (a::r) 0=J a:=iD (j:=0) rfl
@[simp]theorem Ue:n5 (a::b::r) 1=J b:=iD (j:=1) rfl
@[simp]theorem Uf:n5 (a::b::c::r) 2=J c:=iD (j:=2) rfl
@[simp]theorem Ug:n5 (a::b::c::d::r) 3=J d:=iD (j:=3) rfl
def Out.ofO(o:Option PV)(h:MH):VZ:=match o with
 |some v=>.ok v h
 |none=>.bad
@[simp]theorem Nk:Out.ofO (J v) h=.ok v h:=rfl
@[simp]theorem Nl:bC (.tup xs) (.int i) h=Out.ofO (n5 xs i) h:=rfl
@[simp]theorem Nm:bC (.frl xs) (.int i) h=Out.ofO (n5 xs i) h:=rfl
theorem jY(e:h[n]?=J (.lst xs)):bC (.loc n) (.int i) h=Out.ofO (n5 xs i) h:=by simp only[bC,e];rfl
def nI(e:h[n]?=J (.lst xs)):ug (.loc n) (.int i) v h=(wk xs.length i).map λp=>h.set n (.lst (xs.set p v)):=by simp only[ug,e]
@[simp]theorem Ls:v1 (.tup xs) h=.ok ⟨xs,[]⟩ h:=rfl
@[simp]theorem Lu:v1 (.frl xs) h=.ok ⟨xs,[]⟩ h:=rfl
@[simp]theorem Qa:(⟨xs,[]⟩:MIt).ok h↔True:=⟨λ_=>trivial,λ_ p hp=>nomatch hp⟩
@[simp]theorem Qb:(⟨xs,[(n,zs)]⟩:MIt).ok h↔h[n]?=J (.lst zs):=by
 constructor
 .intro q;exact q (n,zs) (by simp)
 .intro q p hp;have e:=CT.mp hp;subst e;exact q
end
theorem tw(f:Nat->Shared->Prop)(turn:∀n s,f n s->wpAny (model prog w) A (pyNext it) (λr u=>match r with
   |none=>R (.ok .next) u
   |some v=>wpAny (model prog w) A (letOwnedTupleGo target it v) (λ_ l=>wpAny (model prog w) A (assign target env v) (λ_ C =>
     wpAny (model prog w) A (forIn ifs I λc r=>if r=I then do let ok <-isTrue c env (eval c env);pure (ForInStep.yield ok)else pure (ForInStep.yield r)) (λok i =>
      if ok=I then wpAny (model prog w) A (eval elt env) (λx z =>
       wpAny (model prog w) A (call (.builtin "list.append") [acc,x]) (λ_ F=>∃m,m<n/\f m F) (λ_ _=>False) z) (λ_ _=>False) i
      else ∃m,m<n/\f m i) (λ_ _=>False) C) (λ_ _=>False) l) (λ_ _=>False) u) (λ_ _=>False) s)(n:Nat)(h:f n s):
  codeAny (model prog w) A (.compLoop (.ListComp elt [⟨target,iter,ifs,0⟩] scope pos) 0 it acc env) R s:=by
 refine codeAny_loop rfl f (λn s O=>?_) n h;refine wpAny_noted ?_;rw[compTurn_list];refine d_ (wpAny_standAt (d_ (wpAny_mono (turn n s O) (λr u B=>?_) λ_ _ j=>j.elim)))
 cases r with
 |none=>exact ia B
 |some v =>
  refine d_ (wpAny_mono B (λ_ l G=>?_) λ_ _ j=>j.elim);refine d_ (wpAny_mono G (λ_ C M=>d_ (wpAny_mono M (λok i E=>?_) λ_ _ j=>j.elim)) λ_ _ j=>j.elim)
  cases ok with
  |false=>exact ia ⟨rfl,E⟩
  |true =>
   exact d_ (d_ (wpAny_mono E (λx z L=>d_ (wpAny_mono L (λ_ F H=>ia (ia ⟨rfl,H⟩)) λ_ _ j=>j.elim)) λ_ _ j=>j.elim))
def kK(env:Env):List (Str×NameKind)->List (Str×Addr)->List (Str×Addr)
 |[],f=>f
 |(n,k)::r,f=>kK env r (if(k==NameKind.free)=I then(n,(env.cells.lookup n).getD 0)::f else f)
def su(h:∀y∈scope.names,y.2=.free->∃c,env.cells.lookup y.1=J c):closureFor scope env=pure (kK env scope.names []):=by
 have key:∀(l:List (Str×NameKind))(f:List (Str×Addr)),(∀y∈l,y.2=.free->∃c,env.cells.lookup y.1=J c) ->
   (forIn l f λ(x:Str×NameKind)(r:List (Str×Addr))=>if(x.2==NameKind.free)=I then(do let a <-cellOf env x.1;pure (ForInStep.yield ((x.1,a)::r)):Sem _)else pure (ForInStep.yield r))=(pure (kK env l f):Sem _):=by
  intro l
  induction l with
  |nil=>intro f _;rfl
  |cons y l B =>
   intro f u;obtain⟨n,k⟩:=y;rw[List.forIn_cons];have C:=λz F=>u z (m_ _ F);by_cases i:(k==NameKind.free)=I
   .obtain⟨c,E⟩:=u (n,k) t3 (by simpa using i);rw[c_ i];have j:cellOf env n=pure c:=by unfold cellOf;rw[E]
    rw[j];refine(B ((n,c)::f) C).trans ?_;simp only[kK,i,if_true,E,Option.getD_some]
   .rw[f_ i];refine(B f C).trans ?_;simp[kK,i]
 exact(congrArg (λz=>z >>= λr=>pure r) (key scope.names [] h)).trans rfl
def mR:∀(l:List (Str×NameKind))(f:List (Str×Addr)),(∀a,f.lookup x=J a->a=(env.cells.lookup x).getD 0)->(∀a,(kK env l f).lookup x=J a->a=(env.cells.lookup x).getD 0)/\((∃k,(x,k)∈l/\k=.free)\/(∃a,f.lookup x=J a)->∃a,(kK env l f).lookup x=J a):=by
 intro l
 induction l with
 |nil =>
  intro f h;refine⟨h,λz=>?_⟩;rcases z with⟨k,z,_⟩|z
  .cases z
  .exact z
 |cons y r C =>
  intro f h;obtain⟨n,k⟩:=y;have F:∀a,(if(k==NameKind.free)=I then(n,(env.cells.lookup n).getD 0)::f else f).lookup x=J a->a=(env.cells.lookup x).getD 0:=λa i=>by
   split at i
   .rw[Ea]at i
    split at i
    .rename_i e
     have:x=n:=by simpa using e
     subst this;exact(Option.some.inj i).symm
    .exact h a i
   .exact h a i
  obtain⟨B,E⟩:=C _ F;refine⟨B,λz=>E ?_⟩;rcases z with⟨u,z,j⟩|⟨a,z⟩
  .rcases lb.mp z with e|e
   .cases e;right;subst j;exact⟨(env.cells.lookup x).getD 0,by simp⟩
   .exact .inl ⟨u,e,j⟩
  .right;split
   .rw[Ea];split
    .exact⟨_,rfl⟩
    .exact⟨a,z⟩
   .exact⟨a,z⟩
def cO{env:Env}(u:env.scope.kind=.function):∀{names:List (Str×NameKind)}{x:Str}{k:NameKind},names.lookup x=J k ->
  (names.map λ(n,k)=>if(k==NameKind.free&&env.scope.kind == .function&&env.kindOf n==J .cell)then(n,NameKind.cell)else(n,k)).lookup x=J (if k=.free/\env.kindOf x=J .cell then .cell else k):=by
 intro names
 induction names with
 |nil=>intro x k h;simp at h
 |cons y r j =>
  intro x k h;obtain⟨n,i⟩:=y;have l:=@j x k;show List.lookup x ((if(i==NameKind.free&&env.scope.kind == .function&&env.kindOf n==J .cell)=I then(n,NameKind.cell)else(n,i))::_)=_
  cases f:x==n with
  |true =>
   have e:x=n:=by simpa using f
   subst e;simp only[Ea,f]at h;cases h;by_cases z:k=.free/\env.kindOf x=J .cell
   .rw[c_ (by simp[z.1,z.2,u]),c_ z];simp
   .rw[f_ (by simp[u];intro C E;exact z ⟨C,E⟩),f_ z];simp
  |false =>
   simp only[Ea,f]at h;by_cases B:(i==NameKind.free&&env.scope.kind == .function&&env.kindOf n==J .cell)=I
   .rw[c_ B];simp only[Ea,f];exact l h
   .rw[f_ B];simp only[Ea,f];exact l h
def dU(X:Cx)(f:Scope)(cl:List (Str×Addr))(i:Shared)(j:Hp)(r:VS)(l:VM):Cx :=
 { X with N:=l,s₀:=i,H₀:=j,env:=compEnvC f cl i.heap.objs.size X.env,outer:=X.stack,ex:=r,fn:=λx=>decide (f.names.lookup x=J .cell),pn:=[],xe:=λ_ _=>False}
structure xO(X:Cx)(N:VM)(scope:Scope)(vars frees:VM)(fm:VQ):Prop where
 kind:scope.kind=.function
 cell:∀y∈scope.names,y.2=.cell->scope.names.lookup y.1=J .cell
 names:∀y∈scope.names,y.2=.local->scope.names.lookup y.1=J .local
 hv:∀x∈vars,scope.names.lookup x=J .local\/scope.names.lookup x=J .cell
 hf:∀x∈frees,scope.names.lookup x=J .free
 all:∀y∈scope.names,y.2=.free->y.1∈frees
 fm:fm.map (λi=>N[i]?)=frees.map J
 cl:∀x∈frees,X.env.kindOf x=J .cell
def DB(f:Nat)(fm:VQ)(Z:mh):mh:=List.replicate f Y++fm.map λi=>(Z[i]?).getD Y
def z_(i:MIt)(n:Nat)(gt:Mg)(mt:Mx Bool)(j:Mx PV):VL->mh->MH->Out Unit
 |[],_,h=>if i.ok h then .ok () h else .bad
 |x::r,Z,h=>if i.ok h then (match gt x Z h with
  |.nx f z=>(mt f z).ne.bind λb l=>if b=I then (j f l).ne.bind λv u=>(match u[n]? with
    |some (.lst ys)=>if ys.length<sizeLine then z_ i n gt mt j r f (u.set n (.lst (ys++[v])))else .bad
    |_=>.bad)else z_ i n gt mt j r f l
  |_=>.bad)else .bad
def fJ(l:Nat)(fm:VQ)(u:Mx MIt)(gt:Mg)(mt:Mx Bool)(r:Mx PV):Mx PV:=λZ h =>
 (u Z h).bind λi f=>(z_ i f.length gt mt r i.xs (DB l fm Z) (f++[.lst []])).bind λ_ j=>.ok (.loc f.length) j
def IU(X:Cx)(f:VX)(m:Mx Bool):Prop :=
 ∀(i:VU)(s:Shared)(Z:L2.St)(H:Hp)(Q:Bool->Hp->Prop),Inv X i Z H s->tM X M1 m Z H Q ->
  wpAny (model X.prog X.w) X.A (forIn f I λc r=>if r=I then do let ok <-isTrue c X.env (eval c X.env);pure (ForInStep.yield ok)else pure (ForInStep.yield r)) (TP X i Z Q) X.xe s
def AQ:Mx Bool:=λ_ h=>.ok I h
def qA:IU X [] AQ:=λl s Z H Q f ⟨U,j,h,r,i,q⟩=>wpAny_tests_nil ⟨H,f,q U H I (Le.refl _ _) i rfl⟩
def xq(h:MT X c m):IU X [c] m:=λi s Z H Q f q=>wpAny_tests_one (h i s Z H Q f q)
inductive CS(X:Cx)(U:VS)(H:Hp)(σp:mh)(gt:Mg)(mt:Mx Bool)(me:Mx PV)(Z0:mh)(Q:VK)(J:It)(H1:Hp):Prop
 |mk(U1:VS)(it:MIt)(h1:MH)(l:Le U H U1 H1)(rh:RH X.K X.mg U1 H1 h1)(j:uL X U1 H1 it J)(q:Ful X (RV' X) σp U1 H1 ((z_ it h1.length gt mt me it.xs Z0 (h1++[.lst []])).bind λ_ h3=>.ok (.loc h1.length) h3) Q):CS X U H σp gt mt me Z0 Q J H1
inductive CI(X Y:Cx)(it:MIt)(tn:Nat->Heap->Prop)(fp U0:VS)(H0:Hp)(σp:mh)(n1:Nat)(gt:Mg)(mt:Mx Bool)(me:Mx PV)(Q:VK)(n:Nat)(s6:Shared):Prop
 |mk(i:Nat)(Z6:L2.St)(H6:Hp)(U6:VS)(σp6:mh)(h6:MH)(e:n=it.xs.length-i)(l:i<=it.xs.length)(v:Inv Y [] Z6 H6 s6)(t:tn i s6.heap)(f:∀b∈fp,H6 b=none)(le:Le U0 H0 U6 H6)(rs:RS X.K U6 H6 σp6 Z6)(rh:RH X.K X.mg U6 H6 h6)
   (q:Ful X (RV' X) σp U6 H6 ((z_ it n1 gt mt me (it.xs.drop i) σp6 h6).bind λ_ h3=>.ok (.loc n1) h3) Q):CI X Y it tn fp U0 H0 σp n1 gt mt me Q n s6
def sI(j:Q (newEnv scope s.heap.objs.size globals (cellsFrom (s.heap.objs.size+1) scope.names closure) qual Y .none (J env) builtinsNs) { s with heap:=pushCells (s.heap.push { cls:=.type "dict",data:=.dict #[]}) scope.names}):
  wpAny M A (newFunctionEnv scope globals closure [] qual Y .none (J env)) Q E s:=by
 simp only[newFunctionEnv,Option.isSome_some,if_true];refine d_ (wpAny_alloc ?_);refine d_ (wpAny_layCells _ (λi kind f=>by cases l:kind==NameKind.cell<;>simp) _ _ _ _ ?_);rw[show({ s with heap:=s.heap.push { cls:=.type "dict",data:=.dict #[]}}:Shared).heap.objs.size=s.heap.objs.size+1 from GL ..];exact d_ (ia (ia j))
def dG:∀(names:List (Str×NameKind))(n:Nat)(f:List (Str×Addr)),cellsFrom n names f=cellsFrom n names []++f
 |[],n,f=>rfl
 |(x,k)::r,n,f=>by
  unfold cellsFrom;split
  .rw[dG r (n+1) ((x,n)::f),dG r (n+1) [(x,n)]];simp
  .exact dG r n f
def fI:∀(names:List (Str×NameKind))(n:Nat)(x:Str),(∃c,(x,c)∈cellsFrom n names [])↔(x,NameKind.cell)∈names
 |[],n,x=>by simp[cellsFrom]
 |(y,k)::r,n,x=>by
  unfold cellsFrom;split
  .rename_i j
   have i:k=NameKind.cell:=by simpa using j
   subst i;rw[dG];constructor
   .rintro⟨c,f⟩;rcases nq.mp f with f|f
    .exact m_ _ ((fI r (n+1) x).mp ⟨c,f⟩)
    .have:x=y:=by simp at f;exact f.1
     rw[this];exact t3
   .intro h;rcases lb.mp h with e|h
    .have:x=y:=by simpa using e
     subst this;exact⟨n,oI _ (by simp)⟩
    .obtain⟨c,f⟩:=(fI r (n+1) x).mpr h;exact⟨c,s_ _ f⟩
  .rw[fI r n x];constructor
   .exact m_ _
   .intro h;rcases lb.mp h with e|h
    .exfalso
     grind
    .exact h
def m6{α:Type}:∀(a b:List (Str×α))(x:Str),(a++b).lookup x=(a.lookup x).or (b.lookup x):= by grind
def Cc{α:Type}:∀(a:List (Str×α))(x:Str),a.lookup x=Y->∀c,(x,c)∉a:= by grind
section
variable{X:Cx}{N W G:VM}{k:Nat}
def rm(g:Good X N W G k){tg ax cb:Expr}{b6:VX}{f:Scope}{cy:Pos}{B frees G':VM}{fm:VQ}{mi:Mx MIt}{gt:Mg}{mt:Mx Bool}{me:Mx PV}(C:xO X N f B frees fm)(nd:(B++frees).Nodup)(gy:∀x∈G',f.names.lookup x=J .globalImplicit)(dbg:∀x∈(B++frees)++G',(x==("__debug__":Str))=T/\(x==("__classdict__":Str))=T/\x≠"__name__")(hi:MI X tg ax mi)(hY:∀as:Cx,as.prog=X.prog->as.w=X.w->as.K=X.K->as.mg=X.mg->as.base=X.base->as.env.scope=relabel f X.env->Good as (B++frees) B G' k->MG as tg gt/\IU as b6 mt/\ME as cb me)(hs:∀x,foldedSetIterable ax X.env x=pure x){use:Option (Value->Sem Unit)}{Qv:VB}{pp:Pos}{Nc:VU}{s:Shared}{Z:L2.St}{H:Hp}{Q:VK}(c9:Inv X Nc Z H s)(tm:tM X (RV' X) (fJ B.length fm mi gt mt me) Z H Q)(fin:∀(ep C:Addr) (H6:Hp) (s7:Shared) (m7:VC),Inv X Nc Z H6 s7->H6 C=Y->s7.heap.Ns C m7->C≠X.env.locals->X.s₀.heap.objs.size<=C->C∉X.fs->(∀x c,X.env.cells.lookup x=J c->c≠C)->(∀p∈X.pn++Nc,p.1≠C)->Q (.ref ep) H6 ->
   compPost (model X.prog X.w) X.A X.xe use Qv (.ref ep) C (.ok .next) s7):
  wpAny (model X.prog X.w) X.A (comprehension (.ListComp cb [⟨tg,ax,b6,0⟩] f cy) f X.env pp (newList []) T (eval ax X.env) use) Qv X.xe s:=by
 obtain⟨U,an,h,rs,rh,q⟩:=tm;have bj:∀y∈f.names,y.2=.free->∃c,X.env.cells.lookup y.1=J c:=λy hy e=>c9.ok.has y.1 (.inl (C.cl _ (C.all y hy e)));refine wpAny_comprehension_free (use:=use) rfl hs (su bj) C.kind C.names ?_;generalize db:kK X.env f.names []=cl;have d4:∀x a,cl.lookup x=J a->X.env.cells.lookup x=J a\/((X.env.cells.lookup x)=Y/\a=0):=λx a e=>by
  rw[<-db]at e
  have:=(mR (env:=X.env) (x:=x) f.names [] (λa z=>by simp at z)).1 a e
  cases z:X.env.cells.lookup x with
  |none=>right;rw[z]at this;exact⟨rfl,this⟩
  |some c=>left;rw[z]at this;rw[this];rfl
 have ew:∀x∈frees,∃c,cl.lookup x=J c/\X.env.cells.lookup x=J c:=λx hx=>by
  obtain⟨c,hc⟩:=c9.ok.has x (.inl (C.cl x hx));have hm:(∃kk,(x,kk)∈f.names/\kk=.free):=⟨.free,PySem.mem_of_lookup (C.hf x hx),rfl⟩;obtain⟨a,ha⟩:=(mR (env:=X.env) (x:=x) f.names [] (λa z=>by simp at z)).2 (.inl hm);rw[db]at ha;rcases d4 x a ha with z|⟨z,_⟩
  .rw[hc]at z;cases z;exact⟨c,ha,hc⟩
  .rw[hc]at z;cases z
 have eh:∀x a,cl.lookup x=J a->X.env.cells.lookup x=J a/\x∈frees:=λx a e=>by
   have only:∀(l:List (Str×NameKind))(cs:List (Str×Addr))(x:Str)(a:Addr),(kK X.env l cs).lookup x=J a->(x,NameKind.free)∈l\/cs.lookup x=J a:=by
    intro l
    induction l with
    |nil=>intro cs x a e;exact .inr e
    |cons y l ih =>
     intro cs x a e;obtain⟨n,kk⟩:=y;rcases ih _ x a e with z|z
     .exact .inl (m_ _ z)
     .split at z
      .rename_i hk
       have gs:kk=NameKind.free:=by simpa using hk
       rw[Ea]at z
       split at z
       .rename_i e'
        have:x=n:=by simpa using e'
        subst this;subst gs;exact .inl t3
       .exact .inr z
      .exact .inr z
   have e':=e;rw[<-db]at e';rcases only _ _ x a e' with z'|z'
   .refine⟨?_,C.all _ z' rfl⟩;rcases d4 x a e with z|⟨z,_⟩
    .exact z
    .obtain⟨c,hc⟩:=bj _ z' rfl;rw[z]at hc;cases hc
   .simp at z'
 have start:=hi Nc s Z H (CS X U H an gt mt me (DB B.length fm an) Q) c9
  ⟨U,an,h,rs,rh,Ful.bind q λU1 H1 it fa h1 _ l1 b5 jr q1=>⟨U1,it,h1,l1,b5,jr,q1⟩⟩
 refine wpAny_mono start (λx gB dt=>wpAny_mono dt (λg4 F d2=>?_) λ_ _ e=>e) λ_ _ e=>e;obtain⟨ea,fp,tn,fa,H2,rfl,I2,R,eL,f2,U1,it,h1,l1,b5,jr,q1⟩:=d2;refine wpAny_newObj_type ?_;have f4:H2 F.heap.objs.size=Y:=I2.hok.fresh (ii _);have M:=I2.lnew (ys:=[]) (its:=[]) (t':=F.toks) .nil (ya _);obtain⟨dV,l3⟩:=b5.new f4 (o:=.lst []) (ho:=.lst []) ⟨[],rfl,.nil⟩;generalize gg:({ F with heap:=F.heap.push { cls:=.type "list",data:=.seq ([]:VT).toArray},toks:=F.toks}:Shared)=E at M;generalize ek:kx H2 F.heap.objs.size (.lst [])=L at M dV l3;have gV:L F.heap.objs.size=J (.lst []):=by rw[<-ek];exact bD
 have e0:E.heap=F.heap.push { cls:=.type "list",data:=.seq ([]:VT).toArray}:=by rw[<-gg]
 have ca:tn 0 E.heap:=R.keep _ _ _ eL λb _ o e=>by rw[e0];exact n_ _ e
 have bn:∀b∈fp,jx X Nc L b:=λb S=>by
  obtain⟨a0,a1⟩:=f2 b S;refine⟨?_,a1⟩;obtain⟨o,eo,_⟩:=R.obj _ _ eL b S;rw[<-ek,aN (t4 (nr eo))];exact a0
 have c2:wpAny (model X.prog X.w) X.A (newFunctionEnv f X.env.globals cl [] X.env.qual Y .none (J X.env)) (λwx ey =>
    codeAny (model X.prog X.w) X.A (.compStart (.ListComp cb [⟨tg,ax,b6,0⟩] f cy) 0 (.ref ea) (.ref F.heap.objs.size) { wx with scope:=relabel f X.env}) (compPost (model X.prog X.w) X.A X.xe use Qv (.ref F.heap.objs.size) wx.locals) ey) X.xe E:=by
  refine sI ?_;have O:∀b o,E.heap.get? b=J o->(pushCells (E.heap.push { cls:=.type "dict",data:=.dict #[]}) f.names).get? b=J o:=λb o e=>pushCells_keeps _ _ b o (n_ _ e);have el:=(Heap.Ns.new E.heap (.type "dict")).keeps (pushCells_keeps f.names _);have b3:=cellsFrom_ok f.names (E.heap.push { cls:=.type "dict",data:=.dict #[]}) (E.heap.objs.size+1) [] ⟨λ_ _ hm=>(nomatch hm),List.Pairwise.nil⟩ (by rw[GL];exact ii _);rw[GL]at b3;rw[dG];have cd:=fI f.names (E.heap.objs.size+1);generalize cellsFrom (E.heap.objs.size+1) f.names []=cn at b3 cd ⊢;generalize pushCells (E.heap.push { cls:=.type "dict",data:=.dict #[]}) f.names=h' at O el b3 ⊢;dsimp only[newEnv];have a8:∀x c,(cn++cl).lookup x=J c->((x,c)∈cn/\f.names.lookup x=J .cell/\E.heap.objs.size<c/\h'.IsCell c Y)\/(X.env.cells.lookup x=J c/\f.names.lookup x=J .free):=λx c e=>by
   rw[m6]at e
   cases z:cn.lookup x with
   |some c' =>
    rw[z]at e
    have:c'=c:=by simpa using e
    subst this;have m:=PySem.mem_of_lookup z;obtain⟨q1,q2⟩:=b3.empty x c' m;exact .inl ⟨m,C.cell _ ((cd x).mp ⟨c',m⟩) rfl,q2,q1⟩
   |none =>
    rw[z]at e;obtain⟨q1,q2⟩:=eh x c (by simpa using e);exact .inr ⟨q1,C.hf x q2⟩
  have ei:∀x c,x∈frees->cl.lookup x=J c->(cn++cl).lookup x=J c:=λx c hx e=>by
   rw[m6]
   cases z:cn.lookup x with
   |none=>simpa using e
   |some c' =>
    have:=C.cell _ ((cd x).mp ⟨c',PySem.mem_of_lookup z⟩) rfl
    rw[C.hf x hx]at this;cases this
  have old:∀x c,X.env.cells.lookup x=J c->c<E.heap.objs.size:=λx c e=>by
   obtain⟨v,qc⟩:=M.cell x c e;exact qc.lt
  have ok:(dU X f (cn++cl) E L fp (B++frees)).Ok:=by
   refine⟨M.ok.mod,C.kind,M.ok.glob,M.ok.blt,ii _,λx y c h1 h2=>?_,λx hx=>?_,λx c hx e=>?_,M.ok.hd,M.ok.frames,.inl rfl,
    λb S=>⟨?_,λx c e z=>?_⟩,M.bs,o0 M.ok.bsz M.sz,λb o e S=>?_,λb S z=>?_,M.stack,M.stkFree⟩
   .rcases a8 x c h1 with⟨a1,_,a2,_⟩|⟨a1,_⟩<;>rcases a8 y c h2 with⟨b1,_,b2,_⟩|⟨b1,_⟩
    .exact PySem.name_of_addr b3.apart a1 b1
    .exact absurd (Px a2 (old y c b1)) (Ca _)
    .exact absurd (Px b2 (old x c a1)) (Ca _)
    .exact M.ok.inj x y c a1 b1
   .
    have be:(relabel f X.env).names.lookup x=J .cell\/(relabel f X.env).names.lookup x=J .free:=hx
    cases e:f.names.lookup x with
    |none =>
     exfalso;have nn:∀(l:List (Str×NameKind)),l.lookup x=Y->(l.map λ(n,k)=>if(k==NameKind.free&&X.env.scope.kind == .function&&X.env.kindOf n==J .cell)then(n,NameKind.cell)else(n,k)).lookup x=Y:=by
      intro l
      induction l with
      |nil=>intro _;rfl
      |cons y l ih =>
       intro hl;obtain⟨n,kk⟩:=y;rw[Ea]at hl
       split at hl
       .cases hl
       .rename_i fl
        rw[qw];dsimp only
        split<;>(rw[Ea];simp only[fl];exact ih hl)
     have e2:=nn f.names e;rcases be with z|z
     .rw[show(relabel f X.env).names.lookup x=Y from e2]at z;cases z
     .rw[show(relabel f X.env).names.lookup x=Y from e2]at z;cases z
    |some kk =>
     have e2:=cO (env:=X.env) M.ok.kind e;have hk:kk=.free\/kk=.cell:=by
      rcases be with z|z
      .rw[show(relabel f X.env).names.lookup x=_ from e2]at z;have z':=Option.some.inj z;by_cases zz:kk=.free/\X.env.kindOf x=J .cell
       .exact .inl zz.1
       .rw[f_ zz]at z';exact .inr z'
      .rw[show(relabel f X.env).names.lookup x=_ from e2]at z;have z':=Option.some.inj z;by_cases zz:kk=.free/\X.env.kindOf x=J .cell
       .exact .inl zz.1
       .rw[f_ zz]at z';exact .inl z'
     rcases hk with hk|hk
     .subst hk;have hf:=C.all _ (PySem.mem_of_lookup e) rfl;obtain⟨c,h1,_⟩:=ew x hf;exact⟨c,ei x c hf h1⟩
     .subst hk;obtain⟨c,hc⟩:=(cd x).mpr (PySem.mem_of_lookup e);show ∃c,(cn++cl).lookup x=J c;rw[m6]
      cases z:cn.lookup x with
      |some c'=>exact⟨c',rfl⟩
      |none=>exact absurd hc (Cc cn x z c)
   .have be:=of_decide_eq_true hx;rcases a8 x c e with⟨_,_,q,_⟩|⟨_,q⟩
    .exact vv q
    .rw[q]at be;cases be
   .obtain⟨o,eo,_⟩:=R.obj _ _ ca b S;exact t4 (nr eo)
   .rcases a8 x c e with⟨_,_,q,_⟩|⟨q,_⟩
    .obtain⟨o,eo,_⟩:=R.obj _ _ ca b S;exact absurd (Px q (z▸nr eo)) (Ca _)
    .exact (bn b S).2.2.2.2.1 x c q z
   .obtain⟨_,_,_,h4,_⟩:=bn b S;rcases h4 with h4|h4
    .exact M.ok.noex b o e h4
    .exact absurd (pq (nr e) (o0 M.ok.bsz h4)) (Ca _)
   .obtain⟨_,h2,h3,_⟩:=bn b S;rcases lb.mp (M.stkSub b z)with e|e
    .exact h2 e
    .exact h3 e
  obtain⟨mX,g1,lX⟩:=M.loc;have f3:Le U H (U1++[F.heap.objs.size]) L:=l1.trans l3
  let az:L2.St:=List.replicate B.length Y++fm.map λi=>(Z[i]?).getD Y
  have ge:fm.length=frees.length:=by have:=congrArg List.length C.fm;simpa using this
  have d1:Inv (dU X f (cn++cl) E L fp (B++frees)) [] az L { E with heap:=h',toks:=E.toks}:=by
   refine⟨ok,rfl,M.bare,Un.kept O,⟨_,el,λi x v hN hv gA=>?_⟩,λx c e=>?_,?_,λx c e=>?_,λp hp=>absurd (show p∈([]:VU)from hp) (by simp),M.hok.kept O,?_⟩
   .have dc:(B++frees)[i]?=J x:=hN;have d5:B.length<=i:=by
     by_cases z:B.length<=i
     .exact z
     .exfalso;have ay:az[i]?=J (J v):=hv;rw[sd (by simp;ext),Hn]at ay
      split at ay<;>cases ay
    have ay:az[i]?=J (J v):=hv;rw[C5 (by simpa using d5),L4,vu]at ay;rw[C5 d5]at dc
    cases ej:fm[i-B.length]? with
    |none=>rw[ej]at ay;cases ay
    |some j =>
     rw[ej]at ay;have ef:=congrArg (λl=>l[i-B.length]?) C.fm;simp only[vu,ej,dc,Me]at ef;have eM:N[j]?=J x:=by simpa using ef
     have ev:Z[j]?=J (J v):=by
      have:(Z[j]?).getD Y=J v:=by simpa using ay
      cases z:Z[j]? with
      |none=>rw[z]at this;cases this
      |some o=>rw[z]at this;simp at this;rw[this]
     have hx:x∈frees:=Df dc;have e7:PC X.env.scope x:=.inr (.inl (C.cl x hx));obtain⟨u,ru,er⟩:=lX j x v (by rw[g.hN];exact eM) ev e7;refine⟨u,ru,.inr ⟨?_,?_⟩⟩
     .left;show(relabel f X.env).names.lookup x=J .cell
      have:=cO (env:=X.env) M.ok.kind (C.hf x hx)
      rw[c_ ⟨rfl,C.cl x hx⟩]at this;exact this
     .rcases er with⟨hk,_⟩|⟨_,c,hc,df⟩
      .rw[C.cl x hx]at hk;cases hk
      .obtain⟨c',h1,h2⟩:=ew x hx;rw[hc]at h2;cases h2;obtain⟨o,eo,ed⟩:=df;exact⟨c,ei x c hx h1,o,O _ _ eo,ed⟩
   .rcases a8 x c e with⟨_,_,_,q⟩|⟨q,_⟩
    .exact⟨Y,q⟩
    .obtain⟨v,o,eo,ed⟩:=M.cell x c q;exact⟨v,o,O _ _ eo,ed⟩
   .exact M.hok.fresh (ii _)
   .rcases a8 x c e with⟨_,_,q,_⟩|⟨q,_⟩
    .exact M.hok.fresh (vv q)
    .exact M.freeC x c q
   .show az.length=(B++frees).length;simp[az,ge]
  have gY:Good (dU X f (cn++cl) E L fp (B++frees)) (B++frees) B G' k:=by
   refine⟨rfl,nd,λx hx=>?_,λx hx=>?_,λx hx=>?_,dbg,g.calm,g.room,PassesOwn.never⟩
   .rcases nq.mp hx with z|z
    .rcases C.hv x z with z|z
     .left
      have:=cO (env:=X.env) M.ok.kind z
      rw[f_ (λq=>nomatch q.1)]at this;exact this
     .right
      have:=cO (env:=X.env) M.ok.kind z
      rw[f_ (λq=>nomatch q.1)]at this;exact this
    .right
     have:=cO (env:=X.env) M.ok.kind (C.hf x z)
     rw[c_ ⟨rfl,C.cl x z⟩]at this;exact this
   .rcases C.hv x hx with z|z
    .right
     have:=cO (env:=X.env) M.ok.kind z
     rw[f_ (λq=>nomatch q.1)]at this;exact this
    .exact .inl (decide_eq_true z)
   .have:=cO (env:=X.env) M.ok.kind (gy x hx)
    rw[f_ (λq=>nomatch q.1)]at this;exact this
  obtain⟨hg,ht,he⟩:=hY (dU X f (cn++cl) E L fp (B++frees)) rfl rfl rfl rfl rfl rfl gY;have f5:RS X.K (U1++[F.heap.objs.size]) L (DB B.length fm an) az:=by
   refine⟨by simp[az,DB],λi v e=>?_⟩;unfold DB at e;by_cases z:B.length<=i
   .rw[C5 (by simpa using z),L4,vu]at e
    cases ej:fm[i-B.length]? with
    |none=>rw[ej]at e;cases e
    |some j =>
     rw[ej]at e;have ev:an[j]?=J (J v):=by
      have:(an[j]?).getD Y=J v:=by simpa using e
      cases z:an[j]? with
      |none=>rw[z]at this;cases this
      |some o=>rw[z]at this;simp at this;rw[this]
     obtain⟨v',e',rv⟩:=rs.2 j v ev;refine⟨v',?_,rv.le f3⟩;show az[i]?=_;rw[C5 (by simpa using z),L4,vu,ej];simp[e']
   .rw[sd (by simp;ext),Hn]at e
    split at e<;>cases e
  have q3:Ful X (RV' X) an (U1++[F.heap.objs.size]) L ((z_ it h1.length gt mt me it.xs (DB B.length fm an) (h1++[.lst []])).bind λ_ h3=>.ok (.loc h1.length) h3) Q:=Ful.le l3 q1;have bx:(U1++[F.heap.objs.size])[h1.length]?=J F.heap.objs.size:=by rw[<-b5.len];simp
  have cv:∀b0:Shared,b0={ E with heap:=h',toks:=E.toks}->codeAny (model X.prog X.w) X.A (.compLoop (.ListComp cb [⟨tg,ax,b6,0⟩] f cy) 0 (.ref ea) (.ref F.heap.objs.size) (compEnvC f (cn++cl) E.heap.objs.size X.env))
    (compPost (model X.prog X.w) X.A X.xe use Qv (.ref F.heap.objs.size) E.heap.objs.size) b0:=by
   rintro b0 rfl;refine tw (CI X (dU X f (cn++cl) E L fp (B++frees)) it tn fp (U1++[F.heap.objs.size]) L an h1.length gt mt me Q) ?_ it.xs.length
    ⟨0,az,L,_,_,_,rfl,ya _,d1,R.keep _ _ _ ca (λb _ o e=>O b o e),λb S=>(bn b S).1,Le.refl _ _,f5,dV,by simpa using q3⟩
   rintro n s6 ⟨i,Z6,H6,U6,bt,h6,rfl,g2,I6,d0,dF,l6,gi,dd,q6⟩;have bi:∀{H':Hp},(∀b∈fp,H' b=Y)->∀b∈fp,jx (dU X f (cn++cl) E L fp (B++frees)) [] H' b:=λ{H'} hn b S =>
    ⟨hn b S,(ok.exf b S).1,ok.exfs b S,.inl S,(ok.exf b S).2,λp hp=>absurd (show p∈([]:VU)from hp) (by simp)⟩
   by_cases ba:i<it.xs.length
   .have ed:it.xs.drop i=it.xs[i]::it.xs.drop (i+1):=Hm ba;rw[ed]at q6;simp only[z_]at q6;by_cases hok:it.ok h6
    .rw[c_ hok]at q6;obtain⟨j1,_⟩:=jr U6 H6 h6 i (l3.trans l6) dd hok;obtain⟨go,yl⟩:=j1 ba;refine ka (R.item (dU X f (cn++cl) E L fp (B++frees)) rfl rfl rfl g.calm i [] s6 Z6 H6 (λ_ _=>False) I6 (bi dF) d0 go) λr s7 ⟨u,hr,h7⟩=>?_;subst hr;refine ka h7 λ_ s8 ⟨x8,H8,I8,r8,y8,c4,fi⟩=>?_;obtain⟨U8,x,l8,eN,ex,rx⟩:=yl x8 H8 y8;have e8:x=it.xs[i]:=by rw[zb ba]at ex;exact(Option.some.inj ex).symm
     subst e8;have e9:=I8.pinned (bi fi) (R.obj _ _ c4);have q8:=Ful.le l8 q6;have cp:∀{Z9:L2.St}{H9:Hp}{s9:Shared},Inv (dU X f (cn++cl) E L fp (B++frees)) ([]++kZ fp s8.heap) Z9 H9 s9->Inv (dU X f (cn++cl) E L fp (B++frees)) [] Z9 H9 s9/\tn (i+1) s9.heap/\∀b∈fp,H9 b=Y:=λ{Z9 H9 s9} I9=>by
      refine⟨I9.unpinned,R.keep _ _ _ c4 λb S o e=>(I9.pin (b,o) (oI _ (oI _ (iq S e)))).1,λb S=>?_⟩;obtain⟨o,e,d⟩:=R.obj _ _ c4 b S;exact(I9.pin (b,o) (oI _ (oI _ (iq S e)))).2.1
     cases eg:gt it.xs[i] bt h6 with
     |nx P h9 =>
      rw[eg]at q8;dsimp only at q8
      refine ka (hg _ s8 Z6 H8 x8 u (λZ' H'=>∃U',Le U8 H8 U' H'/\RH X.K X.mg U' H' h9/\RS X.K U' H' P Z') e9 r8 ⟨U8,bt,h6,_,gi.le l8,eN,rx,by
       show nP _ _ _ (gt it.xs[i] bt h6) _
       rw[eg];exact λU' H' Z' l r s=>⟨U',l,r,s⟩⟩) λ_ s9 ⟨Z9,H9,I9,U9,l9,gp,cc⟩=>?_
      have q9:=Ful.le l9 q8
      cases em:mt P h9 with
      |ok b a9 =>
       rw[em,Out.ne_ok]at q9;rw[Out.bind_ok]at q9
       refine ka (ht _ s9 Z9 H9 (λb' H'=>b'=b/\∃U',Le U9 H9 U' H'/\RH X.K X.mg U' H' a9) I9 ⟨U9,P,h9,cc,gp,by
        show Ful _ _ _ _ _ (mt P h9) _
        rw[em];exact λU' H' v' l r e=>⟨e.symm,U',l,r⟩⟩) λb' fv ⟨c0,ds,eb,dg,a7,cq⟩=>?_
       subst eb;have ab:=Ful.le a7 q9
       cases b' with
       |false =>
        rw[f_ GG]at ab ⊢;obtain⟨dn,eu,et⟩:=cp ds;exact⟨_,by ext,i+1,Z9,c0,dg,P,a9,rfl,ba,dn,eu,et,l6.trans (l8.trans (l9.trans a7)),cc.le a7,cq,ab⟩
       |true =>
        rw[c_ rfl]at ab ⊢
        cases ee:me P a9 with
        |ok v d6 =>
         rw[ee,Out.ne_ok]at ab;rw[Out.bind_ok]at ab
         refine ka (he _ fv Z9 c0 (λv' H'=>∃U',Le dg c0 U' H'/\RH X.K X.mg U' H' d6/\RP X.K U' H' v v') ds ⟨dg,P,a9,cc.le a7,cq,by
          show Ful _ _ _ _ _ (me P a9) _
          rw[ee];exact λU' H' v' l r e=>⟨U',l,r,e⟩⟩) λgx gn ⟨v',c3,f0,dx,eF,c8,cx,es⟩=>?_
         have a3:=Ful.le c8 ab;have bm:Le (U1++[F.heap.objs.size]) L eF c3:=l6.trans (l8.trans (l9.trans (a7.trans c8)));obtain⟨oa,f6,f1⟩:=cx.obj (bm.get bx);rw[f6]at a3
         cases oa with
         |dic ks xs=>exact a3.elim
         |exc x=>exact a3.elim
         |lst ys =>
          dsimp only at a3;by_cases b4:ys.length<sizeLine
          .rw[c_ b4]at a3;obtain⟨da,e6,ry⟩:=f1;obtain⟨d3,c1⟩:=cx.put (bm.get bx) (o:=.lst (ys++[v])) (ho:=.lst (da++[v'])) ⟨_,rfl,ry.append (.cons es .nil)⟩;have ap:=sg (X:=dU X f (cn++cl) E L fp (B++frees)) _ gn Z9 c3 (.ref F.heap.objs.size) [v'] (.ref F.heap.objs.size) [gx] (λ_ H'=>H'=kx c3 F.heap.objs.size (.lst (da++[v']))) f0 rfl (.cons dx .nil) ⟨F.heap.objs.size,da,v',rfl,rfl,e6,by rw[<-ry.length];exact b4,rfl⟩;refine ka ap λ_ g0 ⟨_,g3,f8,_,eH⟩=>?_;subst eH;obtain⟨ec,ez,eC⟩:=cp f8;exact⟨_,by ext,i+1,Z9,_,eF,P,_,rfl,ba,ec,ez,eC,bm.trans c1,(cc.le a7).le (c8.trans c1),d3,Ful.le c1 a3⟩
          .rw[f_ b4]at a3;exact a3.elim
        |exc x d6=>rw[ee]at ab;exact ab.elim
        |bad=>rw[ee]at ab;exact ab.elim
      |exc x a9=>rw[em]at q9;exact q9.elim
      |bad=>rw[em]at q9;exact q9.elim
     |_=>rw[eg]at q8;exact q8.elim
    .rw[f_ hok]at q6;exact q6.elim
   .have e:i=it.xs.length:=by ext
    rw[e,Pq]at q6;simp only[z_]at q6;by_cases hok:it.ok h6
    .rw[c_ hok]at q6;obtain⟨_,j2⟩:=jr U6 H6 h6 i (l3.trans l6) dd hok;refine ka (R.done (dU X f (cn++cl) E L fp (B++frees)) rfl rfl rfl g.calm i [] s6 Z6 H6 (λ_ _=>False) I6 (bi dF) d0 (j2 (by ext))) λr s7 ⟨hr,I7⟩=>?_;subst hr;obtain⟨m7,f7,_⟩:=I7.loc;have IX:=M.call' (s':=s7) (ch:=fp) I7.os I7.base I7.hok I7.bare λb S=>by
      obtain⟨_,a2,_,a4,a5,a6⟩:=bn b S;exact⟨a4,a2,a5,a6⟩
     exact fin _ _ H6 s7 m7 IX I7.free f7 (Ee M.lt) M.sz (M.nofs (ii _)) (λx c e z=>by
      obtain⟨v,qc⟩:=M.cell x c e
      exact absurd qc.lt (by rw[z];exact Ca _)) (λp hp z=>absurd (nr (M.pin p hp).1) (by rw[z];exact Ca _)) (q6 U6 H6 _ (Le.refl _ _) dd (.loc (l6.get bx)))
    .rw[f_ hok]at q6;exact q6.elim
  exact codeAny_compStart_list (cv _ rfl) (R.self X.A 0 _ _ _ (R.keep _ _ _ ca (λb _ o e=>O b o e)) (cv _ rfl))
 exact c2
def xp(g:Good X N W G k){E l r:Expr}{u:VX}{j:Scope}{B:Pos}{i frees z:VM}{fm:VQ}{R:Mx MIt}{gt:Mg}{mt:Mx Bool}{P:Mx PV}(C:xO X N j i frees fm)(nd:(i++frees).Nodup)(M:∀x∈z,j.names.lookup x=J .globalImplicit)(dbg:∀x∈(i++frees)++z,(x==("__debug__":Str))=T/\(x==("__classdict__":Str))=T/\x≠"__name__")(hi:MI X E l R)(hY:∀f:Cx,f.prog=X.prog->f.w=X.w->f.K=X.K->f.mg=X.mg->f.base=X.base->f.env.scope=relabel j X.env->Good f (i++frees) i z k->MG f E gt/\IU f u mt/\ME f r P)(hs:∀x,foldedSetIterable l X.env x=pure x:=by intro _;rfl):ME X (.ListComp r [⟨E,l,u,0⟩] j B) (fJ i.length fm R gt mt P):=by
 intro Nc s Z H Q F tm;refine rm g C nd M dbg hi hY hs F tm λL D H6 S m7 IX hC ns hL hz ab O hp q=>?_;refine⟨m7,ns,λU CM=>⟨.ref L,H6,?_,rfl,q⟩⟩;exact IX.turned (t':=S.toks) (λb o hb e=>CM.extBut b o hb e) hC hL (.inr hz) O hp
def EV(g:Good X N W G k)(i:Nat){y:Str}{py E:Pos}{Q B L:Expr}{F:VX}{f:Scope}{O:Pos}{u frees G':VM}{fm:VQ}{mi:Mx MIt}{gt:Mg}{mt:Mx Bool}{me:Mx PV}(P:N[i]?=J y)(hw:W[i]?=J y)(ay:swapsWith (.ListComp L [⟨Q,B,F,0⟩] f O) (J (.Name y py)) E.line X.env=pure I)(C:xO X N f u frees fm)(nd:(u++frees).Nodup)(ax:∀x∈G',f.names.lookup x=J .globalImplicit)(dbg:∀x∈(u++frees)++G',(x==("__debug__":Str))=T/\(x==("__classdict__":Str))=T/\x≠"__name__")(hi:MI X Q B mi)(hY:∀j:Cx,j.prog=X.prog->j.w=X.w->j.K=X.K->j.mg=X.mg->j.base=X.base->j.env.scope=relabel f X.env->Good j (u++frees) u G' k->MG j Q gt/\IU j F mt/\ME j L me)(hs:∀x,foldedSetIterable B X.env x=pure x:=by intro _;rfl):MS X (.Assign [.Name y py] (.ListComp L [⟨Q,B,F,0⟩] f O) E) (bG i (fJ u.length fm mi gt mt me)):=by
 intro Nc s Z H D an tm;obtain⟨U,S,h,rs,rh,q⟩:=tm;rw[exec_Assign_Name_used _ _ _ _ ay];refine d_ (wpAny_standAt (d_ ?_))
 refine d_ (wpAny_mono (rm g C nd ax dbg hi hY hs an
  ⟨U,S,h,rs,rh,bI.ex q λU1 H1 v v' h1 l r z w=>w U1 H1 _ (Le.refl _ _) r ((rs.le l).set i z)⟩ λM R H6 s7 m7 IX hC ns hL hz ab as hp q6=>?_) (λ_ s' hq=>ia (ia hq)) λ_ _ e=>e)
 .obtain⟨o,es,ep,ho,hd,hr⟩:=id ns;have IP:Inv X (Nc++[(R,o)]) Z H6 s7:=IX.pins_of λp ap=>(nq.mp ap).elim (λz=>IX.pin p (oI _ z)) λz=>by
   have e:p=(R,o):=by simpa using z
   subst e;exact⟨ho,hC,hL,ab,λv z=>by rw[hd]at z;cases z⟩
  have st:=xf (pos:=py) (by rw[g.hN];exact g.nd) (g.x P) (g.loc y (au P)) (g.fn y (au hw)) (Nc++[(R,o)]) s7 Z H6 (.ref M) (.ref M) (λZ' H'=>Z'=Z.set i (J (.ref M))/\H'=H6) IP rfl ⟨rfl,rfl⟩;refine ka st λ_ s8 ⟨Z8,H8,I8,e1,e2⟩=>?_;subst e1;subst e2;have pn:=I8.pin (R,o) (oI _ (oI _ (by simp)));refine⟨m7,⟨o,es,ep,pn.1,hd,hr⟩,λaz CM=>⟨_,_,?_,q6⟩⟩;exact(I8.unpinned).turned (t':=s8.toks) (λb o hb e=>CM.extBut b o hb e) hC hL (.inr hz) as hp
end
@[inline]abbrev IV:VT:=[.type "ValueError",.type "Exception",.type "BaseException",.type "object"]
structure EW(K:h8)(mg:Cd)(x:Str)(C:Addr):Prop where
 bd:mg x=J (.ref C)
 ok:PySem.W.excIn K C IV "ValueError.__new__"=I
abbrev qN(X:Cx)(x:Str)(C:Addr):Prop:=EW X.K X.mg x C
def qO{K:h8}{h:Heap}{C:Addr}{B:VT}{f:String}(M:K.In h)(q:PySem.W.excIn K C B f=I):
  ∃u N R q bs z S sub Q i U E H F L G Z,h.get? C=J (excClassObj R q C N bs u z S sub Q i U E H F L G f)/\h.Ns N Z/\Z "__init__"=Y/\OwnTail h B u/\∀base r,PySem.W.mroIn K C base=J r->(Value.ref C::u).contains base=r:=by
 unfold PySem.W.excIn at q
 split at q
 .rename_i U cd sl X
  split at q
  .rename_i C' u E H F L n G hm W
   simp only[Lj,beq_iff_eq,DK]at q;obtain⟨⟨⟨⟨⟨rfl,rfl⟩,j⟩,ht⟩,hok⟩,O⟩:=q;obtain⟨R,bs,an,ns,qn,hd,S,sub,Q,i,ap⟩:=cd;subst hm j;have P:sl=#[E,H,F,L,J (.builtin n),G]:=by obtain⟨l⟩:=sl;simp only at W;rw[W]
   subst P
   exact⟨u,ns,R,qn,bs,hd,S,sub,Q,i,U,E,H,F,L,G,_,M _ _ X,.of_isNs (PySem.W.isNs_of_in M hok),PySem.W.nsMap_none_of_in M hok O,PySem.W.tail_of_in M ht,λbase r e=>by
    unfold PySem.W.mroIn PySem.W.clsIn at e;rw[X]at e
    simpa using e⟩
  .cases q
 .cases q
section
variable{X:Cx}{N W G:VM}{k:Nat}
def o9(x:Str)(m:Mx (VL)):l_:=yi m λf Z h=>if f.length<=sizeLine then .rse ⟨x,[]⟩ Z h else .bad
def Ck(g:Good X N W G k){x:Str}{j:Nat}{C:Addr}(hj:G[j]?=J x)(EC:qN X x C){e:Expr}{E:VX}{m:Mx (VL)}{np f R:Pos}(ha:MA X (e::E) m)(he:starEach (e::E) X.env=(T,eval e X.env)::starEach E X.env:=by rfl)(ap:(backTo f (starEach E X.env)).any (·.1)=T:=by rfl):
  MS X (.Raise (J (.Call (.Name x np) (e::E) [] f)) Y R) (o9 x m):=by
 intro Nc s Z H D i ⟨U,F,h,rs,rh,q⟩;have d:=g.dbg x (oI _ (au hj));obtain⟨bm,Nn,nm,qn,bs,M,sn,sub,ab,an,dd,k0,k1,k2,k3,k5,mN,hC,hN,as,L,_⟩:=qO i.mod.kin EC.ok;refine wpAny_Raise_call_subT (nm:=nm) (q:=qn) (N:=Nn) (bs:=bs) (hdct:=M) (sn:=sn) (sub:=sub) (ab:=ab) (col:=an) (dd:=dd) (k0:=k0) (k1:=k1) (k2:=k2) (k3:=k3) (k5:=k5)
  PySem.F.excBase_ValueError (L.hasType PySem.F.excBase_ValueError.hasBase) (i.ok.hd g.calm) (by rw[he];show(T||(backTo f (starEach E X.env)).any (·.1))=T;rw[ap];rfl) as (qM i (g.gl x (au hj)) EC.bd ⟨rfl,?_⟩ d.1)
 have A:=ha f Nc s Z H (λvs B=>∃u xs P,Le U H u B/\RH X.K X.mg u B P/\RPs X.K u B xs vs/\bI X u B (if xs.length<=sizeLine then .rse ⟨x,[]⟩ F P else .bad) D) i
  ⟨U,F,h,rs,rh,bI.ex q λu B v v' P l r z w=>⟨u,v,P,l,r,z,w⟩⟩
 rw[he]at A ⊢;refine Calls.evalArgs_plain (wpAny_mono A (λus s2 ⟨vs,B,Q,rv,u,xs,P,l1,S,rx,w⟩=>?_) λ_ _ y=>y);by_cases hl:xs.length<=sizeLine
 .rw[c_ hl]at w;refine⟨rfl,by rw[<-rv.length,<-rx.length];exact hl,Q.bk _ _ hC,hN.keeps Q.bk,L.keeps Q.bk,λh' ea O=>?_⟩;have I0:=Inv.unpinned (Nc:=[]) Q;exact w ea C u B Z { s2 with heap:=h'} s2.heap us rfl EC.bd (Le.refl _ _) S (rs.le l1) I0 O
 .rw[f_ hl]at w;exact w.elim
def pW{M:Model}{A:Around}{E:VB}{h:Heap}{gn:Array GenState}{d:Drawn}{t:Nat}{os:OsState}{ea C D N1 N2:Addr}{oe:Obj}{ap q1 ab q2:Str}{P F S i:VT}{ax O:Bool}{H an:VM}{u B:VT}{U as:Bool}{j z:Option Bool}{R L:VG}{a0 a1 a2 a3 a5 b0 b1 b2 b3 b5:VV}{n1 n2:String}{Q:Bool->Shared->Prop}(hC:h.get? C=J (excClassObj ap q1 C N1 P F ax H u U j R a0 a1 a2 a3 a5 n1))(hD:h.get? D=J (excClassObj ab q2 D N2 S i O an B as z L b0 b1 b2 b3 b5 n2))(he:h.get? ea=J oe)(r:oe.cls=.ref C)(hB:i.contains (.type "BaseException")=I)(l:(Value.ref C::F).contains (.ref D)=I)(hq:Q I ⟨h,gn,d,t,os⟩):wpAny M A (excMatches (.ref ea) (.ref D)) Q E ⟨h,gn,d,t,os⟩:=by
 have Z:(Value.ref D::i).contains (.type "BaseException")=I:=by rw[List.contains_cons,hB,Bool.or_true]
 have f:=tc_notTuple
 repeat (first | (rw[r]) | with_reducible refine wpAny_loadPart_at hD ?_ | (with_reducible refine wpAny_isSubtype_exc hD ?_;rw[Z]) | (with_reducible refine wpAny_isSubtype_exc hC ?_;rw[l]) | wp_step)
 exact hq
end
section
variable{X:Cx}{N W G:VM}{k:Nat}{Z:L2.St}{H:Hp}{s:Shared}
abbrev pG(X:Cx)(Nc:VU)(E:VB):Cx:={ X with pn:=X.pn++Nc,xe:=E}
def IW(ok:X.Ok):(pG X Nc E).Ok :=
 ⟨ok.mod,ok.kind,ok.glob,ok.blt,ok.above,ok.inj,ok.has,ok.cab,ok.hd,ok.frames,ok.stk,ok.exf,ok.bs,ok.bsz,ok.noex,ok.exfs,ok.funs,ok.frf⟩
def Co(ok:(pG X Nc E).Ok):X.Ok :=
 ⟨ok.mod,ok.kind,ok.glob,ok.blt,ok.above,ok.inj,ok.has,ok.cab,ok.hd,ok.frames,ok.stk,ok.exf,ok.bs,ok.bsz,ok.noex,ok.exfs,ok.funs,ok.frf⟩
def Inv.toPin(f:Inv X Nc Z H s):Inv (pG X Nc E) [] Z H s :=
 ⟨IW f.ok,f.os,f.bare,f.base,f.loc,f.cell,f.free,f.freeC,λp i=>f.pin p (by simpa using i),f.hok,f.len⟩
def Inv.ofPin(f:Inv (pG X Nc E) [] Z H s):Inv X Nc Z H s :=
 ⟨Co f.ok,f.os,f.bare,f.base,f.loc,f.cell,f.free,f.freeC,λp i=>f.pin p (by simpa using i),f.hok,f.len⟩
def oY{h f:Heap}{c:Addr}{v:VV}(i:h.UpToSlots f)(q:h.IsCell c v):f.IsCell c v:=by obtain⟨o,e,d⟩:=q;obtain⟨sl,j⟩:=i c o e (λl z=>by rw[d]at z;cases z);exact⟨_,j,d⟩
def Inv.flown(f:Inv X [] Z H s){B h' U:Heap}(hB:B.StaysIn s.heap)(F:B.StaysIn h')(R:s.heap.UpToSlots h')(O:Dw X U)(P:T_ B (wh X.stack) U)(S:∀b o,H b=J o->∃j,B.get? b=J j):Inv X [] Z H { s with heap:=h'}:=by
 have kp:∀b o j,B.get? b=J j->s.heap.get? b=J o->h'.get? b=J o:=λb o j e1 e2=>by
  have:=uE hB e1 e2
  subst this;exact F b j e1
 have nl:∀b o,X.s₀.heap.get? b=J o->b≠X.env.locals:=λb o e z=>absurd (pq (nr e) f.ok.above) (by rw[z];exact Ca _);have E:∀b o,X.s₀.heap.get? b=J o->b∉X.fs->b∉X.ex->∃j,B.get? b=J j:=λb o e hf l=>by
  obtain⟨o',e'⟩:=O.old b o e l;refine P b o' e' λhm=>?_;rcases lb.mp (f.stkSub b hm)with z|z
  .exact nl b o e z
  .exact hf z
 obtain⟨m,hn,hl⟩:=f.loc;have M:∀b o,X.s₀.heap.get? b=J o->b∈X.fs->∀C,o.data≠.fields C:=λb o e hf C z=>by
  obtain⟨_,oF,eF,dF⟩:=f.ok.funs.mem hf;rw[e]at eF;cases eF;exact dF C z
 refine⟨f.ok,f.os,f.bare,⟨λb o e n hf l=>?_,λb o e n hf l=>?_,f.base.free,λb o e l=>?_,f.base.tups,f.base.frzs,f.base.tbls⟩,⟨m,R.ns hn,λi x v e1 e2 e3=>?_⟩,λx c e=>?_,f.free,f.freeC,λp hp=>?_,λa o e=>?_,f.len⟩
 .obtain⟨j,r⟩:=E b o e hf l;exact kp b o j r (f.base.keep b o e n hf l)
 .obtain⟨sl,e1⟩:=f.base.slot b o e n hf l;obtain⟨L,e2⟩:=R b _ e1 (λC z=>M b o e hf C z);exact⟨L,e2⟩
 .by_cases hf:b∈X.fs
  .obtain⟨sl,e1⟩:=f.base.slot b o e (f.ok.frf b hf) hf l;obtain⟨L,e2⟩:=R b _ e1 (λC z=>M b o e hf C z);exact⟨_,e2⟩
  .obtain⟨j,r⟩:=E b o e hf l;exact⟨j,F b j r⟩
 .obtain⟨u,ru,Q⟩:=hl i x v e1 e2 e3;refine⟨u,ru,?_⟩;rcases Q with z|⟨z1,c,z2,z3⟩
  .exact .inl z
  .exact .inr ⟨z1,c,z2,oY R z3⟩
 .obtain⟨v,q⟩:=f.cell x c e;exact⟨v,oY R q⟩
 .obtain⟨e,n,ne,nf,d⟩:=f.pin p hp;refine⟨?_,n,ne,nf,d⟩;have ab:p∈X.pn:=by simpa using hp
  obtain⟨o',e'⟩:=O.pin p ab;obtain⟨j,r⟩:=P p.1 o' e' λhm=>by
   rcases lb.mp (f.stkSub p.1 hm)with z|z
   .exact ne z
   .exact nf z
  exact kp p.1 p.2 j r e
 .refine (f.hok a o e).stay (λb u hb z=>?_) (λ_ z=>z) λ_ _ z=>z;rcases hb with rfl|hb
  .obtain⟨j,r⟩:=S _ _ e;exact kp _ u j r z
  .obtain⟨j,r⟩:=S _ _ hb;exact kp _ u j r z
def Inv.track(f:Inv X r Z H s)(F:H a=Y)(C:X.s₀.heap.get? a=Y)(hL:a≠X.env.locals)(S:∀x c,X.env.cells.lookup x=J c->c≠a)(R:∀p∈X.pn++r,p.1≠a)(l:ObjOk X.prog X.w (kx H a (.ext φ)) s.heap a (.ext φ)):Inv X r Z (kx H a (.ext φ)) s:=by
 have j:∀b o,X.s₀.heap.get? b=J o->b≠a:=λb o e z=>by rw[z,C]at e;cases e
 have t:∀b u,H b=J u->kx H a (.ext φ) b=J u:=λb u e=>by rw[aN (bK e F)];exact e
 refine⟨f.ok,f.os,f.bare,⟨f.base.keep,f.base.slot,λb o e n L=>by rw[aN (j b o e)];exact f.base.free b o e n L,f.base.there,λb xs e=>t b _ (f.base.tups b xs e),λb o u e=>t b _ (f.base.frzs b o u e),λb E e=>?_⟩,
  f.loc,f.cell,by rw[aN (Ne.symm hL)];exact f.free,λx c e=>by rw[aN (S x c e)];exact f.freeC x c e,λp i=>?_,λb u e=>?_,f.len⟩
 .obtain⟨more,M⟩:=f.base.tbls b E e;exact⟨more,t b _ M⟩
 .obtain⟨Q,P,O⟩:=f.pin p i;exact⟨Q,by rw[aN (R p i)];exact P,O⟩
 .by_cases B:b=a
  .subst B;rw[bD]at e;cases e;exact l
  .rw[aN B]at e;exact(f.hok b u e).stay (λc v _ q=>q) (λc q=>t c _ q) λc xs q=>t c _ q
def IY{h:Heap}{a:Addr}{m l:VC}(x:h.Ns a m)(y:h.Ns a l):m=l:=by obtain⟨o,E,C,e,d,_,f⟩:=x;obtain⟨F,r,B,i,j,_,u⟩:=y;rw[e]at i;cases i;rw[d]at j;cases j;funext z;rw[<-f z,<-u z]
def Inv.unbound(f:Inv X Nc Z H s)(hN:X.N.Nodup)(R:X.N[i]?=J n)(U:s.heap.Ns X.env.locals m)(F:h'.Ns X.env.locals (λx=>if x=n then v else m x))(r:Heap.SameBut X.env.locals s.heap h'):
  Inv X Nc (Z.set i Y) H { s with heap:=h',toks:=t'}:=by
 obtain⟨m0,L,Q⟩:=f.loc;have em:=IY U L;subst em;have lt:∀b o,X.s₀.heap.get? b=J o->b≠X.env.locals:=λb o e=>t4 (pq (nr e) f.ok.above);refine⟨f.ok,f.os,f.bare,⟨λb o e n l B=>?_,λb o e n l B=>?_,f.base.free,λb o e B=>?_,f.base.tups,f.base.frzs,f.base.tbls⟩,⟨_,F,λj y v' e1 e2 e3=>?_⟩,λy c e=>?_,f.free,f.freeC,λp hp=>?_,λa o e=>?_,by simpa using f.len⟩
 .exact (r.2 b (lt b o e)).trans (f.base.keep b o e n l B)
 .obtain⟨sl,e1⟩:=f.base.slot b o e n l B;exact⟨sl,(r.2 b (lt b o e)).trans e1⟩
 .obtain⟨o',e1⟩:=f.base.there b o e B;exact⟨o',(r.2 b (lt b o e)).trans e1⟩
 .by_cases E:j=i
  .subst E;by_cases C:j<Z.length
   .rw[yw C]at e2;cases e2
   .rw[Do (by simp;lia)]at e2;cases e2
  .rw[pc (Ne.symm E)]at e2;obtain⟨M,O,q⟩:=Q j y v' e1 e2 e3;refine⟨M,O,?_⟩;rcases q with⟨k,e⟩|⟨k,c,e,z⟩
   .refine .inl ⟨k,?_⟩
    have:y≠n:=λe=>E (nR hN e1 (e▸R))
    simp[this,e]
   .exact .inr ⟨k,c,e,z.sameBut r (f.cne y c e)⟩
 .obtain⟨P,z⟩:=f.cell y c e;exact⟨P,z.sameBut r (f.cne y c e)⟩
 .obtain⟨e,n,ne,S,d⟩:=f.pin p hp;exact⟨(r.2 p.1 ne).trans e,n,ne,S,d⟩
 .have na:a≠X.env.locals:=λz=>by rw[z,f.free]at e;cases e
  refine(f.hok a o e).stay (λb u l z=>(r.2 b ?_).trans z) (λ_ z=>z) λ_ _ z=>z;rcases l with rfl|l
  .exact na
  .intro z;rw[z,f.free]at l;cases l
def uQ(j:VM)(r f:Nat)(mb:l_):l_:=λZ h=>match mb Z h with
 |.exc x l i=>if x.fs=[]/\x.cls∈j then .nx (((l.set f (J (.loc i.length))).set r (J (.loc i.length))).set f Y) (i++[.exc x])else .bad
 |.rse _ _ _=>.bad
 |o=>o
def RS.unset{K:h8}{U:VS}{H:Hp}{f:mh}{Z:L2.St}(r:RS K U H f Z)(i:Nat):RS K U H (f.set i Y) (Z.set i Y):=by
 refine⟨by simp[r.1],λj u e=>?_⟩;by_cases B:j=i
 .subst B;by_cases l:j<f.length
  .rw[yw l]at e;cases e
  .rw[Do (by simp;lia)]at e;cases e
 .rw[pc (λz=>B z.symm)]at e ⊢;exact r.2 j u e
def IZ(g:Good X N W G k)(dc:ij X){c:Str}{j:Nat}{D:Addr}(hj:G[j]?=J c)(ED:qN X c D){cs:VM}(dx:∀x∈cs,∃C,qN X x C/\PySem.W.mroIn X.K C (.ref D)=J I)(iy Q:Nat){y n:Str}(c1:N[iy]?=J y)(ef:W[iy]?=J y)(ap:N[Q]?=J n)(ee:W[Q]?=J n)(cq:X.env.scope.names.lookup n=J .local){a6:VF}{mb:l_}{cp yp np sp hp da:Pos}(hb:∀R:Cx,R.prog=X.prog->R.w=X.w->R.K=X.K->R.mg=X.mg->R.base=X.base->R.env=X.env->Good R N W G k->ij R->yf R a6 mb)(eg:swapsWith (.Name n np) (J (.Name y yp)) sp.line X.env=pure T:=by rfl):
  MS X (.Try a6 [.ExceptHandler (J (.Name c cp)) (J n) [.Assign [.Name y yp] (.Name n np) sp] hp] [] [] da) (uQ cs iy Q mb):=by
 intro Nc s Z H Dd dF ⟨U,cb,h,rs,rh,q⟩;refine wpAny_Try_except ?_;have gY:∀E,PassesOwn (model X.prog X.w) X.A X.env E->Good (pG X Nc E) N W G k:=λE po=>⟨g.hN,g.nd,g.loc,g.fn,g.gl,g.dbg,g.calm,g.room,po⟩;have run:=hb (pG X Nc _) rfl rfl rfl rfl rfl rfl (gY _ (PassesOwn.looking (M:=model X.prog X.w) (A:=X.A) (env:=X.env) (K:=λe cn=>wpAny (model X.prog X.w) X.A (setFlight e Y) (λ_ b6=>wpAny (model X.prog X.w) X.A (handleBy e X.env [.ExceptHandler (J (.Name c cp)) (J n) [.Assign [.Name y yp] (.Name n np) sp] hp]) (SP X Nc Dd) X.xe b6) X.xe cn) (E₁:=X.xe))) ⟨dc.stk,dc.fr,dc.ex⟩;refine wpAny_mono (run [] s Z H Dd (Inv.toPin dF) ⟨U,cb,h,rs,rh,?_⟩) (λf eh z=>?_) λ_ _ z=>z
 .unfold uQ at q
  cases em:mb cb h with
  |nx Z1 h1=>rw[em]at q;exact q
  |rt v h1=>rw[em]at q;exact q
  |bk Z1 h1=>rw[em]at q;exact q
  |ct Z1 h1=>rw[em]at q;exact q
  |bad=>rw[em]at q;exact q.elim
  |rse x Z1 h1=>rw[em]at q;exact q.elim
  |exc x Z1 h1 =>
   rw[em]at q;dsimp only at q;by_cases hx:x.fs=[]/\x.cls∈cs
   .rw[c_ hx]at q;intro F C U' H' Z' s' fv eF c3 l cd d6 I' az dd;obtain⟨C',EC,a9⟩:=dx x.cls hx.2;have eC:C'=C:=by
     have:=EC.bd
     rw[show X.mg x.cls=J (.ref C)from c3]at this;cases this;rfl
    subst eC;obtain⟨B,t,ay,c4,ab,cy⟩:=dd;have bj:X.stack=X.env::X.outer:=dc.stk;have ay:Heap.FlyingW B (X.env::X.outer) F (.ref C') (.ref t) s'.heap:=by rw[<-bj];exact ay
    have b4:X.A.frames=J (X.env::X.outer):=by rw[<-bj];exact I'.ok.frames
    refine wpAny_looks_onW (base:=B) b4 dc.fr ay λer as be=>?_;refine wpAny_landsW as λek P bx=>?_;have ca:=be.trans bx;have I5:=Inv.flown I' ay.1 P.1 ca az ab c4;have an:=Inv.ofPin I5;refine wpAny_handleBy_cons (codeAny_handlers_test (Calls.Name_function_global an.ok.kind (g.gl c (au hj)) (Calls.loadGlobal_global (by rw[an.ok.glob];exact an.mod.glob.keeps an.bk) ED.bd ?_) (g.dbg c (oI _ (au hj))).1)) (by intro z;cases z);obtain⟨fp,N1,f3,q1,ez,e6,e7,ei,f0,el,eu,a0,a1,a2,a3,a5,eM,dt,_,_,_,cv⟩:=qO an.kIn EC.ok;obtain⟨eN,N2,fa,q2,f1,e8,ev,es,f6,ej,ey,b0,b1,b2,b3,b5,f2,d1,_,_,T2,_⟩:=qO an.kIn ED.ok;obtain⟨ob,d2,ch⟩:=P.there;obtain⟨et,g5,d5,t5,f5⟩:=s';refine pW dt d1 d2 ch (T2.hasType PySem.F.excBase_ValueError.hasBase) (cv _ _ a9) ?_;refine codeAny_handlers_suite_as ?_;refine lands_againW P λa4 S a7=>?_;have I6:=Inv.flown I5 P.1 S.1 a7 az ab c4;have bi:=Inv.ofPin I6;obtain⟨oe,vs,eH,oT,ts,ax,⟨bm,ew⟩,bn,_,_,_,_,_,_⟩:=S.2.2.2;have c2:B.get? F=Y:=S.2.1;have ba:F∉wh X.stack:=λhm=>by
     obtain⟨_,o,eo,dn⟩:=bi.stack.mem hm;rw[show a4.get? F=J oe from ax]at eo;cases eo;exact dn vs bn
    have eL:F≠X.env.locals:=λz=>ba (by rw[bj,z];exact Dq.mpr ⟨X.env,t3,dc.fr⟩);have e0:X.s₀.heap.get? F=Y:=by
     cases z:X.s₀.heap.get? F with
     |none=>rfl
     |some o =>
      obtain⟨o',e'⟩:=az.old F o z (by rw[dc.ex];simp);obtain⟨d3,eb⟩:=ab F o' e' ba;rw[c2]at eb;cases eb
    have ec:∀z cc,X.env.cells.lookup z=J cc->cc≠F:=λz cc e w=>by
     obtain⟨v,o,eo,ed⟩:=bi.cell z cc e;rw[w,show a4.get? F=J oe from ax]at eo;cases eo;rw[bn]at ed;cases ed
    have ep:∀p∈X.pn++Nc,p.1≠F:=λp dV w=>by
     obtain⟨o',e'⟩:=az.pin p dV;rw[w]at e';obtain⟨d3,eb⟩:=ab F o' e' ba;rw[c2]at eb;cases eb
    have I7:=Inv.track (φ:=ja F C') bi cy e0 eL ec ep ⟨⟨oe,vs,ax,bm,bn⟩,⟨oe,ax⟩,λh1 h2 ⟨o,ws,z1,z2,z3⟩ kk=>⟨o,ws,kk o z1,z2,z3⟩⟩;obtain⟨d0,l7⟩:=cd.new cy (o:=.exc x) (ho:=.ext (ja F C')) ⟨hx.1,C',c3,rfl⟩;have rv:RP X.K (U'++[F]) (kx H' F (.ext (ja F C'))) (.loc h1.length) (.ref F):=.loc (by rw[<-cd.len];simp);have d4:=RS.le l7 d6;have bt:X.N.Nodup:=by rw[g.hN];exact g.nd
    refine mZ I7 bt (g.x ap) (g.loc n (au ap)) (v:=.ref F) rfl (λs8 L=>?_) (g.fn n (au ee));have ds:=d4.set Q rv
    let X':Cx:={ X with A:=X.A.mark (J (.ref F)),calm:=T,xe:=λ_ _=>False}
    have c9:X'.Ok:=⟨L.ok.mod,L.ok.kind,L.ok.glob,L.ok.blt,L.ok.above,L.ok.inj,L.ok.has,L.ok.cab,(λz=>nomatch z),L.ok.frames,L.ok.stk,L.ok.exf,L.ok.bs,L.ok.bsz,L.ok.noex,L.ok.exfs,L.ok.funs,L.ok.frf⟩;have dg:Inv X' Nc _ _ s8:=⟨c9,L.os,L.bare,L.base,L.loc,L.cell,L.free,L.freeC,L.pin,L.hok,L.len⟩;have a8:Q<Z'.length:=by rw[I'.len];exact(qt.mp (g.x ap)).1
    have dn:=g.dbg n (s_ _ (au ap));have st:=wF (An (X:=X') (i:=iy) (pos:=sp) (pos':=yp) bt (g.x c1) (g.loc y (au c1)) (Ar (X:=X') (i:=Q) (pos:=np) (g.x ap) (.inl cq) dn.1 dn.2.1) eg (g.fn y (au ef))) Nc s8 _ _
     { nx:=λZ9 H9=>Z9=(Z'.set Q (J (.ref F))).set iy (J (.ref F))/\H9=kx H' F (.ext (ja F C')),rt:=λ_ _=>False} dg ⟨.ref F,by rw[yw a8],rfl,rfl⟩
    refine wpAny_mono st (λfl s9 z9=>?_) λ_ _ z=>z.elim
    cases fl with
    |ret u=>obtain⟨_,_,_,_,_,z⟩:=z9;exact z.elim
    |brk=>obtain⟨_,_,_,z⟩:=z9;exact z.elim
    |cont=>obtain⟨_,_,_,z⟩:=z9;exact z.elim
    |next =>
     obtain⟨Z9,H9,O,e9,df⟩:=z9;subst e9;subst df;have I9:Inv X Nc ((Z'.set Q (J (.ref F))).set iy (J (.ref F))) (kx H' F (.ext (ja F C'))) s9:=⟨L.ok,O.os,O.bare,O.base,O.loc,O.cell,O.free,O.freeC,O.pin,O.hok,O.len⟩;obtain⟨m9,c0,_⟩:=I9.loc;refine wpAny_nameGoes_keeps cq c0 (by rw[I9.ok.kind];rfl) λf4 fi cx c8=>?_;have db:=Inv.unbound I9 bt (g.x ap) c0 (t':=s9.toks+1) cx c8;refine⟨_,_,db,?_⟩;exact q (U'++[F]) _ _ (l.trans l7) d0 (RS.unset (ds.set iy rv) Q)
   .rw[f_ hx]at q;exact q.elim
 .cases f with
  |next =>
   obtain⟨Z',H',I',z⟩:=z;exact wpAny_execs_nil ⟨Z',H',Inv.ofPin I',z⟩
  |brk=>obtain⟨Z',H',I',z⟩:=z;exact⟨Z',H',Inv.ofPin I',z⟩
  |cont=>obtain⟨Z',H',I',z⟩:=z;exact⟨Z',H',Inv.ofPin I',z⟩
  |ret u=>obtain⟨v,Z',H',I',r,z⟩:=z;exact⟨v,Z',H',Inv.ofPin I',r,z⟩
end
structure Cz(K:h8)(C:Addr):Prop where
 ga:PySem.W.findIn K (.ref C) "__getattribute__"=J (J (.builtin "BaseException.__getattribute__"))
 cl:PySem.W.findIn K (.ref C) "__class__"=J (J (.builtin "object.__class__"))
 gt:PySem.W.findIn K (.ref C) "__getattr__"=J Y
 mo:PySem.W.mroIn K C (.type "object")=J I
 mb:PySem.W.mroIn K C (.type "BaseException")=J I
section
variable{prog:Program}{w:World}{A:Around}{E:VB}{h:Heap}{g:Array GenState}{d:Drawn}{t:Nat}{os:OsState}{a C:Addr}{o:Obj}{K:h8}
def No(B:K.In h)(q:Cz K C)(l:h.get? a=J o)(j:o.cls=.ref C)(G:R (.ok (.ret (.ref C))) ⟨h,g,d,t,os⟩):
  codeAny (model prog w) A (.call (.builtin "getset_descriptor.__get__") ⟨[.builtin "object.__class__",.ref a,.ref C],[]⟩) R ⟨h,g,d,t,os⟩:=by
 have f:(⟨h,g,d,t,os⟩:Shared).TypeIs (.builtin "object.__class__") "getset_descriptor":=PySem.F.typeOf_object_class;have F:∀{u:Around} {r:VB} {i:Bool->Shared->Prop},i I ⟨h,g,d,t,os⟩->wpAny (model prog w) u (isSubtype (.ref C) (.type (".".intercalate ("object.__class__".cutAt '.').dropLast))) i r ⟨h,g,d,t,os⟩:=λz=>by
  rw[PySem.F.owner_object_class];exact(PySem.W.looks_mroIn (M:=model prog w) B q.mo).at z
 refine codeAny_call_builtin PySem.F.slot_gs_get.plain PySem.F.entry_gs_get (PySem.F.slot_gs_get.check _ _ _ _ _ _ _ _ f (PySem.F.args_gs_get _ _ _) ?_)
 repeat (any_goals (first | assumption | (with_reducible refine wpAny_loadPart_at l ?_;rw[j]) | with_reducible refine F ?_ | wp_step))
 refine⟨Code.quiet_builtin _ (by decide +kernel),codeAny_builtin PySem.F.entry_object_class ?_⟩
 repeat (any_goals (first | assumption | (with_reducible refine wpAny_loadPart_at l ?_;rw[j]) | wp_step))
def EX(i:K.In h)(q:Cz K C)(l:h.get? a=J o)(j:o.cls=.ref C)(L:Q (.done (.ret (.ref C))) ⟨h,g,d,t,os⟩):
  wpAny (model prog w) A (Builtin.«object.__getattribute__» ⟨[.ref a,.str "__class__" tk],[]⟩) Q E ⟨h,g,d,t,os⟩:=by
 have r:∀{B:Around} {u:VB} {f:VV->Shared->Prop},f (J (.builtin "object.__class__")) ⟨h,g,d,t,os⟩->wpAny (model prog w) B (typeLookup (.ref C) "__class__") f u ⟨h,g,d,t,os⟩:=λz=>(PySem.W.looks_findIn (M:=model prog w) i q.cl).at z;have H:=PySem.F.typeOf_object_class;have G:=PySem.F.slot_gs_get.lookup;have F:=PySem.F.slot_gs_set.lookup
 repeat (any_goals (first | assumption | (with_reducible refine wpAny_loadPart_at l ?_;rw[j]) | with_reducible refine r ?_ | wp_step))
 refine No i q l j ?_
 repeat (any_goals (first | assumption | wp_step))
def I_(u:K.In h)(q:Cz K C)(F:h.get? a=J o)(B:o.cls=.ref C)(H:R (.ok (.ret (.ref C))) ⟨h,g,d,t,os⟩):
  codeAny (model prog w) A (.call (.builtin "BaseException.__getattribute__") ⟨[.ref a,.str "__class__" tk],[]⟩) R ⟨h,g,d,t,os⟩:=by
 have G:builtinKind "BaseException.__getattribute__"=J .slot:=by decide +kernel
 have f:splitId "BaseException.__getattribute__"=J ("BaseException","__getattribute__"):=by decide +kernel
 have O:=PySem.F.args_bexc_ga (.ref a) (.str "__class__" tk);have L:∀{r:Around} {l:VB} {i:Bool->Shared->Prop},i I ⟨h,g,d,t,os⟩->wpAny (model prog w) r (isSubtype (.ref C) (.type "BaseException")) i l ⟨h,g,d,t,os⟩:=λz=>(PySem.W.looks_mroIn (M:=model prog w) u q.mb).at z;have j:∀{r:Around} {l:VB} {i:Unit->Shared->Prop},i () ⟨h,g,d,t,os⟩->wpAny (model prog w) r (checkBuiltinCall "BaseException.__getattribute__" ⟨[.ref a,.str "__class__" tk],[]⟩) i l ⟨h,g,d,t,os⟩:=λz=>by
  simp only[checkBuiltinCall,G,f];refine d_ ?_
  .unfold isInstance
   repeat (first | (with_reducible refine wpAny_loadPart_at F ?_;rw[B]) | with_reducible refine L ?_ | wp_step)
   exact z
 exact codeAny_call_builtin PySem.F.excAttr_ValueError.ga.plain PySem.F.entry_bexc_ga (j (EX u q F B H))
def RT(r:K.In h)(q:Cz K C)(B:h.get? a=J o)(u:o.cls=.ref C)(O:Q (.ref C) ⟨h,g,d,t,os⟩):wpAny (model prog w) A (getAttrBy (.ref a) (.str "__class__" tk) T) Q E ⟨h,g,d,t,os⟩:=by
 have L:=PySem.F.excAttr_ValueError.ga.bind (.ref a);have i:(Value.builtin "BaseException.__getattribute__" == Value.builtin "object.__getattribute__")=T:=by decide +kernel
 have G:(onTheHeap (Value.ref C)&&Value.builtin "BaseException.__getattribute__" == Value.builtin "object.__getattribute__")=T:=by rw[i];rfl
 have F:∀{l:Around} {j:VB} {f:VV->Shared->Prop},f (J (.builtin "BaseException.__getattribute__")) ⟨h,g,d,t,os⟩->wpAny (model prog w) l (typeLookup (.ref C) "__getattribute__") f j ⟨h,g,d,t,os⟩:=λz=>(PySem.W.looks_findIn (M:=model prog w) r q.ga).at z;have H:∀{l:Around} {j:VB} {f:VV->Shared->Prop},f Y ⟨h,g,d,t,os⟩->wpAny (model prog w) l (typeLookup (.ref C) "__getattr__") f j ⟨h,g,d,t,os⟩:=λz=>(PySem.W.looks_findIn (M:=model prog w) r q.gt).at z
 repeat (any_goals (first | assumption | (with_reducible refine wpAny_loadPart_at B ?_;rw[u]) | with_reducible refine F ?_ | with_reducible refine H ?_ | wp_step))
 refine I_ r q B u ?_
 repeat (any_goals (first | assumption | wp_step))
def Ja(f:K.In h)(q:Cz K C)(j:h.get? a=J o)(i:o.cls=.ref C)(l:Q (J (.ref C)) ⟨h,g,d,t+1,os⟩):wpAny (model prog w) A (getAttr? (.ref a) "__class__") Q E ⟨h,g,d,t,os⟩:=by
 unfold getAttr? getAttrBy?
 repeat (any_goals (first | assumption | with_reducible apply RT f q j i | wp_step))
end
def uS{K:h8}{a C:Addr}(q:Cz K C)(B:∃F,PySem.W.clsIn K C=J F):PySem.W.KitX K (.ref a) (.ref C) (ja a C) where
 ty:=λM h _ ⟨o,O,e,c,_⟩=>c▸(PySem.W.Looks.ld e).andThen .now
 it:=λ_ _ X _=>by
  obtain⟨i,f⟩:=B;unfold PySem.W.clsIn at f
  split at f
  .rename_i G H u j r
   intro S U R P k q;exact d_ (wpAny_loadPart (k _ _ (X _ _ r)) (ia q))
  .cases f
 ne:=λh Z W L n sl X l=>by
  obtain⟨i,f⟩:=B;refine Bool.eq_false_iff.mpr λz=>?_;have e:=Value.ref.inj (beq_iff_eq.mp z);subst e;unfold PySem.W.clsIn at f
  split at f
  .rename_i G H u j r
   have z:=(X _ _ r).symm.trans l;cases z
  .cases f
 ca:=λ{prog w A E Q s} X ⟨o,O,e,c,_⟩ k=>by
  exact Ja X q e c k
def bR(i f:VM)(x:PV)(h:MH):VZ:=match x with
 |.loc n=>(match h[n]? with
  |some (.exc e)=>if i.contains e.cls=I then .ok (.bl (f.contains e.cls)) h else .bad
  |some _=>.ok (.bl T) h
  |none=>.bad)
 |_=>.ok (.bl T) h
structure wu(K:h8)(mg:Cd)(T:Value)(cs sup:VM):Prop where
 ty:∀t∈["NoneType","bool","int","str","tuple","list","dict"],PySem.W.kitOne K (.type t) T=J false
 ex:∀x∈cs,∃C,mg x=J (.ref C)/\Cz K C/\(∃cd,PySem.W.clsIn K C=J cd)/\PySem.W.kitOne K (.ref C) T=J (sup.contains x)
section
variable{X:Cx}{N W G:VM}{k:Nat}
def xn(R:wu X.K X.mg c cs sup)(hv:∀u,aM v u->u=c):cS X (.builtin "isinstance") (λxs H Q=>∃E,xs=[E,v]/\uJ X (bR cs sup) E H Q):=by
 intro Nc s Z H xs us Q f r ⟨E,e,U,h,x,B,P,q⟩;subst e
 cases r with
 |cons S t1=>cases t1 with
  |cons r2 t2 =>
   cases t2;obtain rfl:=hv _ r2;have plain:∀t,C7 h x=J t->bR cs sup x h=.ok (.bl T) h->wpAny (model X.prog X.w) X.A (call (.builtin "isinstance") [_,_]) (EP X Nc Z Q) X.xe s:=λt et ef=>by
    rw[ef]at q;obtain⟨ht,F,Hq,Za,M⟩:=qH f B P S et;exact PySem.W.kia_one Za f.kIn M (R.ty t ht) F λtk=>⟨.bl _,H,f.tok _,rfl,q U H _ (Le.refl _ _) B (.bl _)⟩
   cases x with
   |non=>exact plain _ rfl rfl
   |bl b=>exact plain _ rfl rfl
   |int i=>exact plain _ rfl rfl
   |str i=>exact plain _ rfl rfl
   |tup i=>exact plain _ rfl rfl
   |frl i=>exact plain _ rfl rfl
   |loc n =>
    cases en:h[n]? with
    |none=>simp only[bR,en]at q;exact q.elim
    |some o =>
     cases o with
     |lst xs=>exact plain "list" (by simp[C7,en]) (by simp[bR,en])
     |dic xs=>exact plain "dict" (by simp[C7,en]) (by simp[bR,en])
     |exc ex =>
      simp only[bR,en]at q;by_cases O:cs.contains ex.cls=I
      .rw[c_ O]at q;obtain⟨C,hm,EQ,L,hk⟩:=R.ex ex.cls (by simpa using O)
       cases P with
       |@loc n a e =>
        cases S;obtain⟨o',l,ro⟩:=B.obj e;rw[en]at l;cases l;obtain⟨_,C',j,hH⟩:=ro;rw[hm]at j;cases j;obtain⟨M,_,_⟩:=(f.hok a _ hH);exact PySem.W.kia_one (uS EQ L) f.kIn M hk (λz=>nomatch z) λtk=>⟨.bl _,H,f.tok _,rfl,q U H _ (Le.refl _ _) B (.bl _)⟩
      .rw[f_ O]at q;exact q.elim
def EY(g:Good X N W G k){a:Expr}{m:Mx PV}{c:Str}{D:Addr}{P l:VM}{i j:Nat}{p q f:Pos}(L:G[i]?=J "isinstance")(hm:X.mg "isinstance"=Y)(F:G[j]?=J c)(hc:X.mg c=J (.ref D))(IC:wu X.K X.mg (.ref D) P l)(ha:ME X a m)(O:starEach [a,.Name c q] X.env=(T,eval a X.env)::starEach [.Name c q] X.env:=by rfl)(E:starEach [.Name c q] X.env=[(T,eval (.Name c q) X.env)]:=by rfl)(C:(backTo f (starEach [.Name c q] X.env)).any (·.1)=T:=by rfl):
  ME X (.Call (.Name "isinstance" p) [a,.Name c q] [] f) (Dg (bR P l) m):=by
 have M:=g.dbg _ (oI _ (au L));have d:=g.dbg c (oI _ (au F));refine PE.imp (gk (xn IC (v:=.ref D) λu r=>(r)) (g.gl _ (au L)) hm PyProof.Rows.Boot.«isinstance» (cA ha (cA (qB (v:=.ref D) (g.gl c (au F)) hc rfl d.1) eQ E) O) M.2.2 M.1 O C) λZ H Q ⟨U,B,h,S,rh,q⟩=>?_;exact⟨U,B,h,S,rh,Ful.bind q λR H1 x x' h1 _ l1 z rx q1=>⟨x',rfl,R,h1,x,z,rx,q1.zero⟩⟩
def EZ(g:Good X N W G k){a:Expr}{m:Mx PV}{c:Str}{f:String}{R z:VM}{i j:Nat}{p q l:Pos}(M:G[i]?=J "isinstance")(hm:X.mg "isinstance"=Y)(L:G[j]?=J c)(hc:X.mg c=Y)(hv:bootBuiltins c=J (.type f))(IC:wu X.K X.mg (.type f) R z)(ha:ME X a m)(P:starEach [a,.Name c q] X.env=(T,eval a X.env)::starEach [.Name c q] X.env:=by rfl)(F:starEach [.Name c q] X.env=[(T,eval (.Name c q) X.env)]:=by rfl)(E:(backTo l (starEach [.Name c q] X.env)).any (·.1)=T:=by rfl):
  ME X (.Call (.Name "isinstance" p) [a,.Name c q] [] l) (Dg (bR R z) m):=by
 have O:=g.dbg _ (oI _ (au M));have d:=g.dbg c (oI _ (au L));refine PE.imp (gk (xn IC (v:=.ty f) λu r=>(r)) (g.gl _ (au M)) hm PyProof.Rows.Boot.«isinstance» (cA ha (cA (wd (v:=.ty f) (g.gl c (au L)) hc hv rfl d.2.2 d.1) eQ F) P) O.2.2 O.1 P E) λZ H Q ⟨U,C,h,rs,rh,q⟩=>?_;exact⟨U,C,h,rs,rh,Ful.bind q λS H1 x x' h1 _ l1 B rx q1=>⟨x',rfl,S,h1,x,B,rx,q1.zero⟩⟩
end
def mP(hf:∀v d,f v=J d->d.depth<=n/\d.hasDict=T):∀{xs:VL}{i:List PyData},cT f xs=J i->PyData.depthAll i<=n/\PyData.hasDictAll i=T
 |[],i,e=>by cases e;simp[PyData.depthAll,PyData.hasDictAll]
 |x::r,i,e=>by
  simp only[cT]at e
  split at e
  .rename_i d u e1 e2
   cases e;obtain⟨B,l⟩:=hf _ _ e1;obtain⟨z,j⟩:=mP hf e2;simp only[PyData.depthAll,PyData.hasDictAll,l,j];exact⟨⋯,rfl⟩
  .cases e
def tP:∀(n:Nat)(v:PV)(d:PyData),rd n h v=J d->d.depth<=n/\d.hasDict=T
 |0,v,d,e=>by
  cases v<;>simp only[rd]at e<;>cases e<;>simp[PyData.depth,PyData.hasDict]
 |n+1,v,d,e=>by
  have key:∀xs,(∀f,cT (rd n h) xs=J f->PyData.depthAll f<=n/\PyData.hasDictAll f=T):=λxs f=>mP (tP n)
  cases v with
  |non=>cases e;simp[PyData.depth,PyData.hasDict]
  |bl b=>cases e;simp[PyData.depth,PyData.hasDict]
  |int b=>cases e;simp[PyData.depth,PyData.hasDict]
  |str b=>cases e;simp[PyData.depth,PyData.hasDict]
  |tup xs =>
   simp only[rd,yJ]at e;obtain⟨f,e1,rfl⟩:=e;obtain⟨a,b⟩:=key xs f e1;exact⟨by simp only[PyData.depth];lia,by simp only[PyData.hasDict,b]⟩
  |frl xs =>
   simp only[rd,yJ]at e;obtain⟨f,e1,rfl⟩:=e;obtain⟨a,b⟩:=key xs f e1;exact⟨by simp only[PyData.depth];lia,by simp only[PyData.hasDict,b]⟩
  |loc m =>
   simp only[rd]at e
   split at e
   .rename_i xs _
    simp only[yJ]at e;obtain⟨f,e1,rfl⟩:=e;obtain⟨a,b⟩:=key xs f e1;exact⟨by simp only[PyData.depth];lia,by simp only[PyData.hasDict,b]⟩
   .cases e
section
variable{X:Cx}{N W G:VM}{k:Nat}
end
def zc{K:h8}{D:Addr}(h:PySem.W.kitOne K (.type "NoneType") (.ref D)=J T):∀t∈["NoneType","bool","int","str","tuple","list","dict"],PySem.W.kitOne K (.type t) (.ref D)=J T:=by
 have i:((PySem.W.clsIn K D).isSome&&PySem.W.typeIn K (.ref D)==J (.type "type"))=I:=by
  cases z:((PySem.W.clsIn K D).isSome&&PySem.W.typeIn K (.ref D)==J (.type "type")) with
  |true=>rfl
  |false =>
   have e:PySem.W.kitOne K (.type "NoneType") (.ref D)=PySem.W.kitCls K (.type "NoneType") (.ref D):=rfl;rw[e]at h;unfold PySem.W.kitCls at h
   simp_all
 have key:∀t,PySem.W.kitOne K (.type t) (.ref D)=(if((PySem.W.clsIn K D).isSome&&PySem.W.typeIn K (.ref D)==J (.type "type"))=I then PySem.W.subIn K (.type t) (.ref D)else Y):=λt=>rfl;intro t f;rw[key,c_ i];simp only[lb,DM,or_false]at f;rcases f with rfl|rfl|rfl|rfl|rfl|rfl|rfl<;>rfl
def Np:∀(K:h8),∀t∈["NoneType","bool","int","str","tuple","list","dict"],PySem.W.kitOne K (.type t) (.type "ValueError")=J T:=by intro K t f;simp only[lb,DM,or_false]at f;rcases f with rfl|rfl|rfl|rfl|rfl|rfl|rfl<;>rfl
def xL{K:h8}{C:Addr}{b:Value}{r:Bool}(h:PySem.W.mroIn K C b=J r):∃f,PySem.W.clsIn K C=J f:=by
 unfold PySem.W.mroIn at h
 cases z:PySem.W.clsIn K C with
 |none=>rw[z]at h;cases h
 |some f=>exact⟨f,rfl⟩
def pj{K:h8}{mg:Cd}{f:Value}{j i:VM}(ty:∀t∈["NoneType","bool","int","str","tuple","list","dict"],PySem.W.kitOne K (.type t) f=J T)(ex:∀x∈j,∃C,mg x=J (.ref C)/\Cz K C/\PySem.W.kitOne K (.ref C) f=J (i.contains x)):wu K mg f j i :=
 ⟨ty,λx l=>let⟨C,a,b,c⟩:=ex x l;⟨C,a,b,xL b.mo,c⟩⟩
def jG{p:Str->Prop}:∀x∈([]:VM),p x:=λ_ h=>nomatch h
def bU{p:Str->Prop}{a:Str}{l:VM}(h:p a)(t:∀x∈l,p x):∀x∈a::l,p x:=λx f=>by
 rcases lb.mp f with rfl|z
 .exact h
 .exact t x z
section
variable{X:Cx}{N W G:VM}{k:Nat}
def Ae(g:Good X N W G k){x:Str}{j:Nat}(F:G[j]?=J x)(z:∃C,qN X x C){e:Expr}{i:VX}{m:Mx (VL)}{u f l:Pos}(E:MA X (e::i) m)(B:starEach (e::i) X.env=(T,eval e X.env)::starEach i X.env:=by rfl)(r:(backTo f (starEach i X.env)).any (·.1)=T:=by rfl):
  MS X (.Raise (J (.Call (.Name x u) (e::i) [] f)) Y l) (o9 x m):=let⟨_,h⟩:=z;Ck g F h E B r
def E0(g:Good X N W G k)(dc:ij X){c:Str}{j:Nat}(S:G[j]?=J c){Q:VM}(Z:∃D,qN X c D/\∀x∈Q,∃C,qN X x C/\PySem.W.mroIn X.K C (.ref D)=J I)(r i:Nat){y n:Str}(L:N[r]?=J y)(F:W[r]?=J y)(z:N[i]?=J n)(E:W[i]?=J n)(B:X.env.scope.names.lookup n=J .local){l:VF}{mb:l_}{R O M P hp u:Pos}(U:∀f:Cx,f.prog=X.prog->f.w=X.w->f.K=X.K->f.mg=X.mg->f.base=X.base->f.env=X.env->Good f N W G k->ij f->yf f l mb)(H:swapsWith (.Name n M) (J (.Name y O)) P.line X.env=pure T:=by rfl):
  MS X (.Try l [.ExceptHandler (J (.Name c R)) (J n) [.Assign [.Name y O] (.Name n M) P] hp] [] [] u) (uQ Q r i mb):=let⟨_,h,h'⟩:=Z;IZ g dc S h h' r i L F z E B U H
def E1(g:Good X N W G k){a:Expr}{m:Mx PV}{c:Str}{z l:VM}{i j:Nat}{p q f:Pos}(E:G[i]?=J "isinstance")(H:X.mg "isinstance"=Y)(C:G[j]?=J c)(F:∃D,X.mg c=J (.ref D)/\wu X.K X.mg (.ref D) z l)(B:ME X a m)(L:starEach [a,.Name c q] X.env=(T,eval a X.env)::starEach [.Name c q] X.env:=by rfl)(u:starEach [.Name c q] X.env=[(T,eval (.Name c q) X.env)]:=by rfl)(r:(backTo f (starEach [.Name c q] X.env)).any (·.1)=T:=by rfl):
  ME X (.Call (.Name "isinstance" p) [a,.Name c q] [] f) (Dg (bR z l) m):=let⟨_,h,M⟩:=F;EY g E H C h M B L u r
def Cal.at(e1:a.prog=X.prog)(e2:a.w=X.w)(e3:a.K=X.K)(e4:a.mg=X.mg)(e5:a.base=X.base)(c:Cal X x ps F i):Cal a x ps F i:=c.to e1 e2 e3 e4 e5
end
def Jb(y3:X.env.scope=sc)(z:scope.kind=.function)(E:∀y∈scope.names,y.2=.cell->scope.names.lookup y.1=J .cell)(l:∀y∈scope.names,y.2=.local->scope.names.lookup y.1=J .local)(B:∀x∈f,scope.names.lookup x=J .local\/scope.names.lookup x=J .cell)(u:∀x∈frees,scope.names.lookup x=J .free)(r:∀y∈scope.names,y.2=.free->y.1∈frees)(C:fm.map (λi=>N[i]?)=frees.map J)(j:∀x∈frees,sc.names.lookup x=J .cell):xO X N scope f frees fm :=
 ⟨z,E,l,B,u,r,C,λx F=>by rw[<-y3]at j;exact j x F⟩
section
variable{Z:mh}{h:MH}
@[simp]theorem zX:o9 x m Z h=(m Z h).go Z λvs Z h=>if vs.length<=sizeLine then .rse ⟨x,[]⟩ Z h else .bad:=rfl
def SOut.caught(o:SOut)(j:VM)(r f:Nat):SOut:=match o with
 |.exc x l i=>if x.fs=[]/\x.cls∈j then .nx (((l.set f (J (.loc i.length))).set r (J (.loc i.length))).set f Y) (i++[.exc x])else .bad
 |.rse _ _ _=>.bad
 |o=>o
@[simp]theorem E2:uQ cs iy inn mb Z h=(mb Z h).caught cs iy inn:=rfl
@[simp]theorem Lv:(SOut.nx Z h).caught cs iy inn=.nx Z h:=rfl
@[simp]theorem Lw:(SOut.rt v h).caught cs iy inn=.rt v h:=rfl
theorem xN(f:c∈cs):(SOut.exc ⟨c,[]⟩ Z h).caught cs iy inn=.nx (((Z.set inn (J (.loc h.length))).set iy (J (.loc h.length))).set inn Y) (h++[.exc ⟨c,[]⟩]):=by unfold SOut.caught;dsimp only;rw[c_ ⟨rfl,f⟩]
@[simp]theorem B5{nv:Nat}{fm:VQ}{mi:Mx MIt}{gt:Mg}{mt:Mx Bool}{me:Mx PV}:fJ nv fm mi gt mt me Z h =
 (mi Z h).bind λit h1=>(z_ it h1.length gt mt me it.xs (DB nv fm Z) (h1++[.lst []])).bind λ_ h3=>.ok (.loc h1.length) h3:=rfl
def E3{f:MIt}{n:Nat}{gt:Mg}{mt:Mx Bool}{i:Mx PV}(e:f.ok h):z_ f n gt mt i [] Z h=.ok () h:=by rw[z_,c_ e]
def E8{l:MIt}{n:Nat}{gt:Mg}{mt:Mx Bool}{i:Mx PV}{x v:PV}{r ys:VL}{f:mh}{u z j:MH}(e:l.ok h)(G:gt x Z h=.nx f u)(F:mt f u=.ok I z)(C:i f z=.ok v j)(B:j[n]?=J (.lst ys))(E:ys.length<1000):
  z_ l n gt mt i (x::r) Z h=z_ l n gt mt i r f (j.set n (.lst (ys++[v]))):=by
 rw[z_,c_ e,G];simp only[F,Out.ne_ok,Out.bind_ok,if_true,C,B];rw[c_ (pq E (by decide))]
def yN(e:h[n]?=J (.exc x))(f:cs.contains x.cls=I):bR cs sup (.loc n) h=.ok (.bl (sup.contains x.cls)) h:=by simp only[bR,e];rw[c_ f]
def yC{o:MO}{g:MH}:(h++o::g)[h.length]?=J o:=by simp
end
def E9(f:Nat->VL->MH->VZ)(m:Mx PV)(j:Mx (VL)):Mx PV:=λZ h=>(m Z h).bind λo i=>match o with
 |.loc n=>(match i[n]? with
  |some (.lst _)=>(j Z i).bind λr l=>(f n r l).ne
  |_=>.bad)
 |_=>.bad
def lZ(n:Nat)(f:VL)(h:MH):VZ:=match f,h[n]? with
 |[v],J (.lst xs)=>if xs.length<sizeLine then .ok .non (h.set n (.lst (xs++[v])))else .bad
 |_,_=>.bad
def jK(n:Nat)(f:VL)(h:MH):VZ:=match f with
 |[.loc m]=>(match h[n]?,h[m]? with
  |some (.lst xs),J (.lst ys)=>if xs.length+ys.length<=sizeLine then .ok .non (h.set n (.lst (xs++ys)))else .bad
  |_,_=>.bad)
 |[.tup ys]=>(match h[n]? with
  |some (.lst xs)=>if xs.length+ys.length<=sizeLine then .ok .non (h.set n (.lst (xs++ys)))else .bad
  |_=>.bad)
 |_=>.bad
section
variable{X:Cx}{N W G:VM}{k:Nat}
def Jc(X:Cx)(f:Nat->VL->MH->VZ):V->List V->Hp->VK->Prop:=λx j H Q=>∃U h n a i,x=.ref a/\U[n]?=J a/\RH X.K X.mg U H h/\RPs X.K U H i j/\iN X (RV' X) U H (f n i h) Q
def zy:Ii X "list.append" (Jc X lZ):=by
 intro B s Z H x S v O Q i u z ⟨U,h,n,a,R,e,en,l,rp,q⟩;subst e;obtain⟨o,E,C⟩:=l.obj en;unfold lZ at q
 cases rp with
 |nil=>exact q.elim
 |cons L F =>
  cases F with
  |cons _ _=>exact q.elim
  |nil =>
   rw[E]at q
   cases o with
   |lst xs =>
    dsimp only at q;by_cases f:xs.length<sizeLine
    .rw[c_ f]at q;obtain⟨ys,P,r⟩:=C;obtain⟨j,M⟩:=l.put en (o:=.lst (xs++[_])) ⟨_,rfl,r.append (.cons L .nil)⟩;exact sg B s Z H _ _ v O Q i u z ⟨a,ys,_,rfl,rfl,P,by rw[<-r.length];exact f,q U _ .non M j .non⟩
    .rw[f_ f]at q;exact q.elim
   |_=>exact q.elim
def sw(l b:Addr)(i:Array Value)(n:Nat)(f:Array Value)(j:¬(!i.isEmpty&&Builtin.List.listTooLong (i.size+f.size))=I)(u:i.size<=sizeLine)(z:i.size+f.size<=sizeLine+1):
  Meets (Builtin.«list.extend» ⟨[.ref l,.ref b],[]⟩) (λ_ R s=>s.heap.get? l=J { cls:=.type "list",data:=.seq i n}/\IsTup s.heap b f/\R (.ok (.ret Value.none)) { s with heap:=s.heap.update l (Obj.mapSeq λx=>x++f),toks:=s.toks}):=by
 intro prog w A R s ⟨B,⟨o,C,F,H,hd⟩,h⟩;have r:(i++f).size<=sizeLine+1:=by rw[L8];exact z
 show wpAny _ A.in1 (Builtin.List.listExtendWith (.ref l) (.ref b) .none) _ _ s;refine d_ (wpAny_typeOf ⟨o,C,F⟩ ?_);have E:(Builtin.List.listSameRef (.ref l) (.ref b)||Value.type "tuple" == Value.type "list" || Value.type "tuple" == Value.type "tuple")=I:=by simp
 simp only[E];refine d_ ?_;refine d_ (wpAny_seqItems C hd (ia ?_));refine d_ ?_;refine d_ (wpAny_seqItems B rfl (ia ?_));simp only[j];refine d_ (wpAny_updateSeq B rfl ?_ (hz:=u) (_hz':=r));exact ia h
def AO:Ii X "list.extend" (Jc X jK):=by
 intro Nc s Z H x vs v us Q j rx rv ⟨U,h,n,a,ps,e,en,P,rp,q⟩;subst e;obtain⟨o,eo,ro⟩:=P.obj en;unfold jK at q
 cases rp with
 |nil=>exact q.elim
 |cons r1 t1 =>
  cases t1 with
  |cons _ _=>cases r1<;>exact q.elim
  |nil =>
   cases r1 with
   |@loc m b em =>
    obtain⟨o2,an,ab⟩:=P.obj em;dsimp only at q;rw[eo,an]at q
    cases o with
    |lst xs =>
     cases o2 with
     |lst O =>
      dsimp only at q;by_cases l:xs.length+O.length<=sizeLine
      .rw[c_ l]at q;obtain⟨ys,R,E⟩:=ro;obtain⟨L,ew,M⟩:=ab;obtain⟨B,l'⟩:=P.put en (o:=.lst (xs++O)) (ho:=.lst (ys++L)) ⟨_,rfl,E.append M⟩;exact zh Nc s Z H _ _ v us Q j rx rv ⟨a,b,ys,L,rfl,rfl,R,ew,by rw[<-E.length,<-M.length];exact l,q U _ .non l' B .non⟩
      .rw[f_ l]at q;exact q.elim
     |_=>exact q.elim
    |_=>exact q.elim
   |@tup O a2 L sq rr =>
    rw[eo]at q
    cases o with
    |lst xs =>
     dsimp only at q;by_cases l:xs.length+O.length<=sizeLine
     .rw[c_ l]at q;obtain⟨ys,R,E⟩:=ro;obtain⟨B,l'⟩:=P.put en (o:=.lst (xs++O)) (ho:=.lst (ys++L)) ⟨_,rfl,E.append rr⟩;cases rx;obtain⟨u,rfl,ru⟩:=rv.one;cases ru;obtain⟨z,i,n,r,ax,e⟩:=j.lstM R;obtain⟨f,r2,pl,ay⟩:=j.tuple sq;have ap:ys.length+L.length<=sizeLine:=by rw[<-E.length,<-rr.length];exact l
      have as:=r2.length;have S:i.toArray.size+f.toArray.size<=sizeLine:=by rw[rT,rT];lia
      have C:¬(!i.toArray.isEmpty&&Builtin.List.listTooLong (i.toArray.size+f.toArray.size))=I:=by rw[nc S,Q0];exact GG
      refine call_meets F.slot_list_extend ⟨_,e,rfl⟩ F.entry_list_extend (F.args_list_extend_2 _ _) (sw a _ i.toArray n f.toArray C (by rw[rT];lia) ⋯) ⟨e,pl,?_⟩;refine⟨.non,_,j.lset (its':=i++f) R e (by simp) (r.append r2) ?_,rfl,q U _ .non l' B .non⟩;rw[xK];lia
     .rw[f_ l]at q;exact q.elim
    |_=>exact q.elim
   |_=>exact q.elim
variable{o e:Expr}{es:VX}{name:Str}{apos cpos:Pos}{id:String}{f:Nat->VL->MH->VZ}{m:Mx PV}{ma:Mx (VL)}
def Nq{E:TA}(z:∀Z H Q,tM X (RVs' X) ma Z H Q->E Z H Q){Z:L2.St}{H:Hp}{Q:VK}(tm:tM X (RV' X) (E9 f m ma) Z H Q):tM X (RV' X) m Z H (λx r=>Ru X.K "list" x r/\E Z r λxs F=>Jc X f x xs F Q):=by
 obtain⟨U,j,h,C,O,q⟩:=tm;refine⟨U,j,h,C,O,?_⟩;refine Ful.bind q λM r x x' S _ P i R l=>?_
 cases R with
 |@loc n a en =>
  obtain⟨L,eo,ro⟩:=i.obj en;dsimp only at l;rw[eo]at l
  cases L with
  |lst xs =>
   obtain⟨ys,ey,ry⟩:=ro;refine⟨.inl ⟨rfl,ys,SqL.of ey⟩,z Z r _ ⟨M,j,S,C.le P,i,?_⟩⟩;exact Ful.bind l λU2 F vs ab h2 _ l2 u B q2=>⟨U2,h2,n,a,vs,rfl,l2.get en,u,B,q2.zero⟩
  |_=>exact l.elim
 |_=>exact l.elim
def Nr(slot:Slot "list" name id)(u:typeOf (.builtin id)=pure (.type "method_descriptor"))(C:Ii X id (Jc X f))(B:ME X o m)(F:MA X (e::es) ma)(j:attributeBase o name X.env (eval o X.env)=eval o X.env:=by rfl)(r:((backTo cpos (starEach (e::es) X.env)).all (λx=>!x.1)&&(backToKw cpos (keywordEach [] X.env)).all (λx=>x.1.isSome)
   && decide ((e::es).length+([]:List Keyword).length+(if([]:List Keyword).isEmpty then 0 else 1)<30))=I:=by rfl)(l:(apos.endLine==cpos.line)=I:=by rfl)(E:starEach (e::es) X.env=(T,eval e X.env)::starEach es X.env:=by rfl)(i:(backTo cpos (starEach es X.env)).any (·.1)=T:=by rfl):
  ME X (.Call (.Attribute o name apos) (e::es) [] cpos) (E9 f m ma) :=
 PE.imp (M0 PySem.F.plainAttrs_list slot u C B F j r l E i) λZ H Q q=>Nq (λ_ _ _ z=>z) q
@[simp]theorem RU:E9 f m ma Z h=(m Z h).bind λo h1=>match o with
 |.loc n=>(match h1[n]? with
  |some (.lst _)=>(ma Z h1).bind λvs h2=>(f n vs h2).ne
  |_=>.bad)
 |_=>.bad:=rfl
end
def cz(h:MH):PV->Option (VL)
 |.tup xs=>J xs
 |.frl xs=>J xs
 |.loc n=>(match h[n]? with
  |some (.lst xs)=>J xs
  |_=>Y)
 |_=>Y
section
variable{X:Cx}{N W G:VM}{k:Nat}
def jU(i:RH X.K X.mg U H h)(j:RP X.K U H x x')(e:cz h x=J xs):∃a ys,x'=.ref a/\(SqL X.K H a ys\/SqT X.K H a ys)/\RPs X.K U H xs ys:=by
 cases j with
 |tup s r=>cases e;exact⟨_,_,rfl,.inr s,r⟩
 |frl s r=>cases e;exact⟨_,_,rfl,.inl s.sq,r⟩
 |@loc n a en =>
  obtain⟨o,u,l⟩:=i.obj en;simp only[cz,u]at e
  cases o with
  |lst ys =>
   cases e;obtain⟨z,f,B⟩:=l;exact⟨a,z,rfl,.inl (SqL.of f),B⟩
  |_=>cases e
 |_=>cases e
def nU(f g:PV->PV->MH->VZ)(a b c:Mx PV):Mx PV:=λZ h=>(a Z h).bind λx j=>(b Z j).bind λy r=>(f x y r).ne.bind λz i=>match z with
 |.bl t=>if t=I then(c Z i).bind λw l=>(g y w l).ne else .ok (.bl T) i
 |_=>.bad
variable{a b c:Expr}{ma mb mc:Mx PV}{f g':PV->PV->MH->VZ}{op op':CmpOp}{pos:Pos}
def BF{Z:L2.St}{H:Hp}{Q:VK}(q:tM X (RV' X) (nU f g' ma mb mc) Z H Q):yY (rJ X f) (rJ X g') (tM X (RV' X) ma) (tM X (RV' X) mb) (tM X (RV' X) mc) Z H Q:=by
 obtain⟨U,i,h,r,rh,q⟩:=q;refine⟨U,i,h,r,rh,Ful.bind q λU1 H1 x x' h1 _ M u rx q1=>?_⟩;refine⟨U1,i,h1,r.le M,u,Ful.bind q1 λU2 H2 y y' S _ l2 E P q2=>?_⟩;refine⟨U2,S,x,y,E,rx.le l2,P,?_⟩;have key:Ful X (RV' X) i U2 H2 (f x y S).ne (λz l=>∃k,z=.bl k/\(if k=I then tM X (RV' X) mc Z l λR L=>rJ X g' y' R L Q else Q (.bl T) l)):=Ful.bind q2 λO l z z' h3 _ l3 j rz F=>by
  cases rz with
  |bl t =>
   refine⟨t,rfl,?_⟩
   cases t with
   |true =>
    exact⟨O,i,h3,r.le (M.trans (l2.trans l3)),j,Ful.bind F λU4 L w R h4 _ l4 C B q4=>⟨U4,h4,y,w,C,(P.le l3).le l4,B,q4.zero⟩⟩
   |false =>
    exact F O l _ (Le.refl _ _) j (.bl _)
  |_=>exact F.elim
 exact key.zero
def Ct(z:wl X (compareOp op) f)(i:wl X (compareOp op') g')(r:ME X a ma)(j:ME X b mb)(u:ME X c mc)(l:lastMarks [op,op'] [b,c]=T:=by with_unfolding_all rfl):ME X (.Compare a [op,op'] [b,c] pos) (nU f g' ma mb mc) :=
 PE.imp (AZ z i r j u l) λ_ _ _ q=>BF q
@[simp]theorem Lx:nU f g' ma mb mc Z h=(ma Z h).bind λx h1=>(mb Z h1).bind λy h2=>(f x y h2).ne.bind λz h3=>match z with
 |.bl t=>if t=I then(mc Z h3).bind λw h4=>(g' y w h4).ne else .ok (.bl T) h3
 |_=>.bad:=rfl
def E_(i:Bool)(x y:PV)(h:MH):VZ:=match cz h y with
 |some ys=>(match rd 60 h x,cT (rd 60 h) ys with
  |some d,J j=>if d.canLay0=I/\PyData.canLayAll0 j=I then .ok (.bl (if i then !j.any (λe=>PyData.eqv e d)else j.any (λe=>PyData.eqv e d))) h else .bad
  |_,_=>.bad)
 |none=>.bad
def o6:∀{i:List PyData},PyData.canLayAll0 i=I->∀d∈i,d.canLay0=I
 |e::i,h,d,hd=>by
  simp only[PyData.canLayAll0,Lj]at h;rcases lb.mp hd with rfl|hd
  .exact h.1
  .exact o6 h.2 d hd
def rf(hf:∀u d i,Reads hp u d i->fq u=PyData.eqv d dx):∀{j:VT}{l:List PyData}{i:VS},ReadsAll hp j l i->j.any fq=l.any λe=>PyData.eqv e dx
 |_,_,_,.nil=>rfl
 |_,_,_,.cons r t=>by rw[Pw,Pw,hf _ _ _ r,rf hf t]
def rL:∀{j:VT}{l:List PyData}{B:VS},ReadsAll hp j l B->∀u∈j,∃d i,d∈l/\Reads hp u d i
 |_,_,_,.nil,u,h=>nomatch h
 |_,_,_,.cons r t,u,h=>by
  rcases lb.mp h with rfl|h
  .exact⟨_,_,t3,r⟩
  .obtain⟨d,i,hd,z⟩:=rL t u h;exact⟨d,i,m_ _ hd,z⟩
def fq(i:Heap)(j:PyData)(u:Value):Bool:=if z:∃d l,Reads i u d l then PyData.eqv z.choose j else T
def GZ(r:Reads hp u d i):fq hp dx u=PyData.eqv d dx:=by have z:∃d i,Reads hp u d i:=⟨d,i,r⟩;unfold fq;rw[dif_pos z];obtain⟨l,j⟩:=z.choose_spec;rw[<-(Reads.unique r _ _ j).1]
def G0(hr:Room k X.A)(M:Bool):wl X (compareOp (if M then .NotIn else .In)) (E_ M):=by
 intro Nc s Z H x' y' u v Q j ab ap ⟨U,h,x,y,E,rx,ry,q⟩;unfold E_ at q
 cases es:cz h y with
 |none=>rw[es]at q;exact q.elim
 |some ys =>
  rw[es]at q;dsimp only at q;obtain⟨a,zs,rfl,S,an⟩:=jU E ry es
  cases ex:rd 60 h x with
  |none=>rw[ex]at q;exact q.elim
  |some l =>
   rw[ex]at q
   cases ed:cT (rd 60 h) ys with
   |none=>rw[ed]at q;exact q.elim
   |some ds =>
    rw[ed]at q;dsimp only at q;by_cases hl:l.canLay0=I/\PyData.canLayAll0 ds=I
    .rw[c_ hl]at q;cases ap;obtain⟨_,rX⟩:=f9 j E 60 x x' u l rx ab ex;have ay:=(tP 60 x l ex).1;have C:∀(i:VT),aw zs i->(∀w∈i,SeqAt.EqAt X.A.in1 s w u (fq s.heap l w))/\i.any (fq s.heap l)=ds.any λe=>PyData.eqv e l:=λi z=>by
      obtain⟨as,RA⟩:=gv (λv v' u d r1 r2 e=>f9 j E 60 v v' u d r1 r2 e) an z ed;refine⟨λw B=>?_,rf (λu d as r=>GZ r) RA⟩;obtain⟨d,ax,hd,R⟩:=rL RA w B;rw[GZ R];refine SeqAt.eqAt_reads d l X.A.in1 s w u _ _ R rX (o6 hl.2 d hd) hl.1 ?_
      have:=hr.un
      lia
     cases M with
     |false =>
      rcases S with P|P
      .obtain⟨i,z,F,hz⟩:=j.list P;obtain⟨L,O⟩:=C i z;refine SeqAt.in_listAt (fq s.heap l) F.isList (λw B=>L w (by simpa using B)) ⟨.bl _,H,j,rfl,?_⟩;rw[show i.toArray.any (fq s.heap l)=i.any (fq s.heap l) by simp,O];exact q U H _ (Le.refl _ _) E (.bl _)
      .obtain⟨i,z,F,hz⟩:=j.tuple P;obtain⟨L,O⟩:=C i z;refine SeqAt.in_tupleAt (fq s.heap l) F (λw B=>L w (by simpa using B)) ⟨.bl _,H,j,rfl,?_⟩;rw[show i.toArray.any (fq s.heap l)=i.any (fq s.heap l) by simp,O];exact q U H _ (Le.refl _ _) E (.bl _)
     |true =>
      rcases S with P|P
      .obtain⟨i,z,F,hz⟩:=j.list P;obtain⟨L,O⟩:=C i z;refine SeqAt.notIn_listAt (fq s.heap l) F.isList (λw B=>L w (by simpa using B)) ⟨.bl _,H,j,rfl,?_⟩;rw[show i.toArray.any (fq s.heap l)=i.any (fq s.heap l) by simp,O];exact q U H _ (Le.refl _ _) E (.bl _)
      .obtain⟨i,z,F,hz⟩:=j.tuple P;obtain⟨L,O⟩:=C i z;refine SeqAt.notIn_tupleAt (fq s.heap l) F (λw B=>L w (by simpa using B)) ⟨.bl _,H,j,rfl,?_⟩;rw[show i.toArray.any (fq s.heap l)=i.any (fq s.heap l) by simp,O];exact q U H _ (Le.refl _ _) E (.bl _)
    .rw[f_ hl]at q;exact q.elim
def C8(xs:VL)(h:MH):VZ:=match xs with
 |[x]=>(match cz h x with
  |some ys=>pr ys h
  |none=>.bad)
 |_=>.bad
def xP(xs:VL)(h:MH):VZ:=match xs with
 |[x]=>(match cz h x with
  |some ys=>.ok (.tup ys) h
  |none=>.bad)
 |_=>.bad
def Fa:dB X (.type "list") C8:=by
 intro C s Z H xs M Q l r ⟨U,h,O,z,rp,q⟩
 cases rp with
 |nil=>exact q.elim
 |cons L F =>
  cases F with
  |cons _ _=>exact q.elim
  |nil =>
   rename_i x y
   unfold C8 at q
   cases j:cz h x with
   |none=>simp only[j]at q;exact q.elim
   |some ys =>
    simp only[j]at q;obtain⟨a,E,rfl,u,i⟩:=jU z L j;obtain⟨_,B⟩:=mw z i q;exact u0 C s Z H _ M Q l r ⟨a,E,rfl,u,B⟩
def nQ:dB X (.type "tuple") xP:=by
 intro F s Z H xs M Q j r ⟨U,h,ps,z,rp,q⟩
 cases rp with
 |nil=>exact q.elim
 |cons S R =>
  cases R with
  |cons _ _=>exact q.elim
  |nil =>
   rename_i x y
   unfold xP at q
   cases B:cz h x with
   |none=>simp only[B]at q;exact q.elim
   |some ys =>
    simp only[B]at q;obtain⟨a,C,rfl,E,i⟩:=jU z S B;rcases E with u|u
    .refine kO F s Z H _ M Q j r ⟨a,C,rfl,.inl ⟨u,λl P=>?_⟩⟩;obtain⟨O,L⟩:=z.tup P C;exact q U _ _ L O (.tup (SqT.of bD) (i.le L))
    .exact kO F s Z H _ M Q j r ⟨a,C,rfl,.inr ⟨u,q U H _ (Le.refl _ _) z (.tup u i)⟩⟩
def fZ(xs:VL)(lo i:VW):VL:=(xs.drop (HT.ky xs.length 0 lo)).take (HT.ky xs.length xs.length i-HT.ky xs.length 0 lo)
def Jd(x:PV)(lo i:VW)(h:MH):VZ:=match x with
 |.tup xs=>if HT.ky xs.length 0 lo=0/\HT.ky xs.length xs.length i=xs.length then .bad else .ok (.tup (fZ xs lo i)) h
 |.frl xs=>.ok (.loc h.length) (h++[.lst (fZ xs lo i)])
 |.loc n=>(match h[n]? with
  |some (.lst xs)=>.ok (.loc h.length) (h++[.lst (fZ xs lo i)])
  |_=>.bad)
 |_=>.bad
def Vo(X:Cx)(f:PV->VW->VW->MH->VZ):V->VW->VW->Hp->VK->Prop:=λj lo i H Q=>∃U h x,RH X.K X.mg U H h/\RP X.K U H x j/\iN X (RV' X) U H (f x lo i h) Q
def pU{K:h8}{U:VS}{H:Hp}{xs:VL}{ys:List V}(r:RPs K U H xs ys)(lo i:VW):RPs K U H (fZ xs lo i) (nJ ys lo i):=by unfold fZ nJ;rw[r.length];exact(r.drop _).take _
def Nt:PH X (Vo X Jd):=by
 intro P s Z H x' v R E lo i sl Q j M F O L ⟨U,h,x,l,S,q⟩
 cases S with
 |tup s1 C =>
  unfold Jd at q;dsimp only at q
  rename_i xs a ys
  by_cases z:HT.ky xs.length 0 lo=0/\HT.ky xs.length xs.length i=xs.length
  .rw[c_ z]at q;exact q.elim
  .rw[f_ z]at q;refine Ih P s Z H _ v R E lo i sl Q j M F O L ⟨a,ys,rfl,s1,by rw[<-C.length];exact z,λp B=>?_⟩;obtain⟨u,r⟩:=l.tup B (nJ ys lo i);exact q U _ _ r u (.tup (SqT.of bD) ((pU C lo i).le r))
 |frl s1 C =>
  rename_i xs a ys
  refine wH P s Z H _ v R E lo i sl Q j M F O L ⟨a,ys,rfl,s1.sq,λp B=>?_⟩;obtain⟨u,r⟩:=l.new B (o:=.lst (fZ xs lo i)) ⟨_,rfl,pU C lo i⟩;exact q _ _ _ r u (.loc (by rw[<-l.len];simp))
 |@loc n a en =>
  obtain⟨o,eo,ro⟩:=l.obj en;unfold Jd at q;dsimp only at q;rw[eo]at q
  cases o with
  |lst xs =>
   obtain⟨ys,ey,ry⟩:=ro;refine wH P s Z H _ v R E lo i sl Q j M F O L ⟨a,ys,rfl,SqL.of ey,λp B=>?_⟩;obtain⟨u,r⟩:=l.new B (o:=.lst (fZ xs lo i)) ⟨_,rfl,pU ry lo i⟩;exact q _ _ _ r u (.loc (by rw[<-l.len];simp))
  |_=>exact q.elim
 |_=>exact q.elim
def MO'(X:Cx)(e:Option Expr)(m:Mx (VW)):Prop:=PO X e (tM X M1 m)
def Uh:Mx (VW):=λ_ h=>.ok Y h
def Ui(m:Mx PV):Mx (VW):=λZ h=>(m Z h).bind λv j=>match v with
 |.int i=>.ok (J i) j
 |_=>.bad
def Fb:MO' X Y Uh:=λj s Z H Q i ⟨U,r,h,u,l,q⟩=>Ev j s Z H Q i (q U H Y (Le.refl _ _) l rfl)
def Fc(h:ME X e m):MO' X (J e) (Ui m):=λM s Z H Q r ⟨U,l,F,B,C,q⟩=>Ew h M s Z H Q r ⟨U,l,F,B,C,Ful.bind q λz E v R P _ O j L u=>by
 cases L with
 |int i=>exact⟨i,rfl,u z E (J i) (Le.refl _ _) j rfl⟩
 |_=>exact u.elim⟩
def Uj(m:Mx PV)(j l:Mx (VW)):Mx PV:=λZ h=>(m Z h).bind λx r=>(j Z r).bind λlo u=>(l Z u).bind λz i=>(Jd x lo z i).ne
def Nu{e:Expr}{lo r:Option Expr}{m:Mx PV}{B C:Mx (VW)}{S:Pos}(he:ME X e m)(hl:MO' X lo B)(hu:MO' X r C):ME X (.Subscript e (.Slice lo r Y S) pos) (Uj m B C) :=
 PE.imp (AY Nt he hl hu) λZ H Q ⟨U,i,h,j,O,q⟩=>⟨U,i,h,j,O,Ful.bind q λM H1 x x' h1 _ E l rx R=>⟨M,i,h1,j.le E,l,Ful.bind R λU2 H2 lo ab h2 _ F z L q2=>by
  subst L
  exact⟨U2,i,h2,j.le (E.trans F),z,Ful.bind q2 λP H3 r an h3 _ l3 u eh q3=>by
   subst eh
   exact⟨P,h3,x,u,(rx.le F).le l3,q3.zero⟩⟩⟩⟩
end
section
variable{X:Cx}{N W G:VM}{k:Nat}
def nu{A:Around}{E:VB}{M:VU}{Z:L2.St}{H:Hp}{s:Shared}{a:Addr}{ys:List V}{Q:VB}(F:A.handled=Y)(r:Inv X M Z H s)(z:SqL X.K H a ys\/SqT X.K H a ys)(h:∀(f:VT)(B:Heap)(It:Addr)(St:Nat->Heap->Prop),aw ys f->Walks X.prog X.w A It [It,a] [It] f.toArray.size (λi v=>f.toArray[i]?=J v) St->St 0 B->(∀b∈[It,a],b<B.objs.size)->(∀b o,s.heap.get? b=J o->B.get? b=J o)->s.heap.objs.size=It->Q (.ref It) { s with heap:=B}):
  wpAny (model X.prog X.w) A (pyIter (.ref a)) Q E s:=by
 have sz:∀(o:Obj),a<s.heap.objs.size->∀b∈[s.heap.objs.size,a],b<(s.heap.push o).objs.size:=λo j b u=>by
  rw[GL];rcases lb.mp u with rfl|u
  .exact Ma _
  .rcases lb.mp u with rfl|u
   .exact L9 j
   .cases u
 rcases z with z|z
 .obtain⟨f,C,L,_⟩:=r.list z;have l:=L.isList;have j:a<s.heap.objs.size:=by obtain⟨_,e,_⟩:=l;exact nr e
  exact wpAny_pyIter_list l (h f _ _ _ C (Walks.list F _ a (t4 j) f.toArray) ⟨⟨_,tz _ rfl,rfl,rfl⟩,l.push _⟩ (sz _ j) (λb o e=>n_ _ e) rfl)
 .obtain⟨f,C,l,_⟩:=r.tuple z;have j:a<s.heap.objs.size:=by obtain⟨_,e,_⟩:=l;exact nr e
  exact wpAny_pyIter_tuple l (h f _ _ _ C (Walks.tuple F _ a (t4 j) f.toArray) ⟨⟨_,tz _ rfl,rfl,rfl⟩,l.push _⟩ (sz _ j) (λb o e=>n_ _ e) rfl)
def xR{s:Shared}{i f:Heap}{It:Addr}(r:∀b o,s.heap.get? b=J o->i.get? b=J o)(e:s.heap.objs.size=It)(j:∀b o,b∉[It]->i.get? b=J o->f.get? b=J o):∀b o,s.heap.get? b=J o->f.get? b=J o:=λb o q=>by
 refine j b o (λl=>?_) (r b o q)
 have:b=It:=by simpa using l
 exact absurd (nr q) (by rw[this,e];exact Ca _)
def gI:VL->Option (VN)
 |[]=>J []
 |.int i::r=>(gI r).map (i::·)
 |_=>Y
def tK{K:h8}{U:VS}{H:Hp}:∀{xs:VL}{ys:List V}{f:VN}{j:VT},RPs K U H xs ys->aw ys j->gI xs=J f->j.length=f.length/\∀(i:Nat)(u:Value),j[i]?=J u->∃t,u=.int (f.getD i 0) t:=by
 intro xs
 induction xs with
 |nil=>intro ys f j r v e;cases r;cases v;cases e;exact⟨rfl,λi u h=>by simp at h⟩
 |cons x xs C =>
  intro ys f j r v e
  cases r with
  |cons M L =>
   cases v with
   |cons B F =>
    cases M with
    |int b =>
     simp only[gI,yJ]at e;obtain⟨O,z,rfl⟩:=e;obtain⟨a,E⟩:=C L F z;obtain⟨l,rfl⟩:=B;refine⟨by simp[a],λi u h=>?_⟩
     cases i with
     |zero=>simp at h;exact⟨l,by rw[<-h];rfl⟩
     |succ i=>obtain⟨t,e⟩:=E i u (by simpa using h);exact⟨t,by rw[e];simp⟩
    |_=>cases e
def lM(b:Nat->Nat->Bool)(f:VN):Int:=f.getD (argBest b (f.length-1)) 0
def C9(xs:VL)(h:MH):VZ:=match xs with
 |[x]=>(match (cz h x).bind gI with
  |some f=>if 0<f.length then .ok (.int (lM (λi j=>decide (f.getD i 0>f.getD j 0)) f)) h else .bad
  |none=>.bad)
 |[.int i,.int j]=>.ok (.int (if j>i then j else i)) h
 |_=>.bad
def C_(xs:VL)(h:MH):VZ:=match xs with
 |[x]=>(match (cz h x).bind gI with
  |some f=>if 0<f.length then .ok (.int (lM (λi j=>decide (f.getD i 0<f.getD j 0)) f)) h else .bad
  |none=>.bad)
 |[.int i,.int j]=>.ok (.int (if j<i then j else i)) h
 |_=>.bad
def Fd(g:Good X N W G k):dB X (.builtin "max") C9:=by
 intro Nc s Z H xs us Q f r ⟨U,h,ps,u,rp,q⟩;unfold C9 at q
 split at q
 .rename_i x
  cases rp with
  |cons M F =>
  cases F
  cases E:(cz h x).bind gI with
  |none=>simp only[E]at q;exact q.elim
  |some C =>
   simp only[E]at q;by_cases L:0<C.length
   .rw[c_ L]at q;obtain⟨ys,e1,e2⟩:=DI.mp E;obtain⟨a,zs,rfl,O,z⟩:=jU u M e1
    cases r with
    |cons ru tu =>
     cases tu;cases ru;refine call_max_walk (nu g.room.hd f O λP h2 It St rv Wk st fp kp B=>?_);obtain⟨S,R⟩:=tK z rv e2;have l:P.toArray.size=C.length:=by exact S
     refine⟨It,_,_,_,_,St,_,rfl,Wk,st,fp,by rw[l];exact L,CmpOf.ints_gt (λi=>C.getD i 0) (λi v hv=>R i v (by simpa using hv)),λv h' tk hP kk=>?_⟩;have j:=hP;rw[l,L5]at j;obtain⟨t,rfl⟩:=R _ v j;exact⟨.int _,H,f.kept (xR kp B kk),⟨t,rfl⟩,q U H _ (Le.refl _ _) u (.int _)⟩
   .rw[f_ L]at q;exact q.elim
 .cases rp with
  |cons M F =>
   cases F with
   |cons r2 t2 =>
    cases t2;cases M;cases r2;exact rH g.calm Nc s Z H _ us Q f r ⟨_,_,rfl,q U H _ (Le.refl _ _) u (.int _)⟩
 .exact q.elim
def Fe(g:Good X N W G k):dB X (.builtin "min") C_:=by
 intro Nc s Z H xs us Q f r ⟨U,h,ps,u,rp,q⟩;unfold C_ at q
 split at q
 .rename_i x
  cases rp with
  |cons M F =>
  cases F
  cases E:(cz h x).bind gI with
  |none=>simp only[E]at q;exact q.elim
  |some C =>
   simp only[E]at q;by_cases L:0<C.length
   .rw[c_ L]at q;obtain⟨ys,e1,e2⟩:=DI.mp E;obtain⟨a,zs,rfl,O,z⟩:=jU u M e1
    cases r with
    |cons ru tu =>
     cases tu;cases ru;refine call_min_walk (nu g.room.hd f O λP h2 It St rv Wk st fp kp B=>?_);obtain⟨S,R⟩:=tK z rv e2;have l:P.toArray.size=C.length:=by exact S
     refine⟨It,_,_,_,_,St,_,rfl,Wk,st,fp,by rw[l];exact L,CmpOf.ints_lt (λi=>C.getD i 0) (λi v hv=>R i v (by simpa using hv)),λv h' tk hP kk=>?_⟩;have j:=hP;rw[l,L5]at j;obtain⟨t,rfl⟩:=R _ v j;exact⟨.int _,H,f.kept (xR kp B kk),⟨t,rfl⟩,q U H _ (Le.refl _ _) u (.int _)⟩
   .rw[f_ L]at q;exact q.elim
 .cases rp with
  |cons M F =>
   cases F with
   |cons r2 t2 =>
    cases t2;cases M;cases r2;exact rS g.calm Nc s Z H _ us Q f r ⟨_,_,rfl,q U H _ (Le.refl _ _) u (.int _)⟩
 .exact q.elim
end
def RH.loose{K:h8}{mg:Cd}{U:VS}{H:Hp}{h:MH}(r:RH K mg U H h){p:Addr}(j:H p=Y)(i:HO):RH K mg U (kx H p i) h/\Le U H U (kx H p i):=by
 have f:∀n a,U[n]?=J a->a≠p:=λn a e z=>by
  obtain⟨C,_,q⟩:=r.obj e;rw[z,j]at q;exact q.some rfl
 have l:Le U H U (kx H p i):=⟨⟨[],by simp⟩,λa xs e=>by rw[aN (bK e j)];exact e,λa B u e=>by rw[aN (bK e j)];exact e⟩;exact⟨⟨r.len,r.nd,λn a o e1 e2=>by rw[aN (f n a e1)];exact(r.at' n a o e1 e2).le l⟩,l⟩
section
variable{X:Cx}{N W G:VM}{k:Nat}
def kY(xs:VL)(i:Int)(v:PV):VL :=
 let k:=if i<0 then(i+(xs.length:Int)).toNat else min i.toNat xs.length
 xs.take k++v::xs.drop k
def lR(n:Nat)(f:VL)(h:MH):VZ:=match f with
 |[.int i,v]=>(match h[n]? with
  |some (.lst xs)=>if(-(2^63)<=i/\i<2^63)/\xs.length<sizeLine then .ok .non (h.set n (.lst (kY xs i v)))else .bad
  |_=>.bad)
 |_=>.bad
def zM:Ii X "list.insert" (Jc X lR):=by
 intro Nc s Z H x vs v us Q u rx rv ⟨U,h,n,a,ps,e,en,rh,rp,q⟩;subst e;obtain⟨o,eo,ro⟩:=rh.obj en;unfold lR at q
 split at q
 .rename_i i L
  cases rp with
  |cons r1 t1 =>
   cases t1 with
   |cons r2 t2 =>
    cases t2;cases r1;rw[eo]at q
    cases o with
    |lst xs =>
     dsimp only at q;by_cases C:(-(2^63)<=i/\i<2^63)/\xs.length<sizeLine
     .rw[c_ C]at q;obtain⟨ys,ey,E⟩:=ro;cases rx
      cases rv with
      |cons M P=>cases P with
       |cons S F =>
        cases F
        rename_i v' u1 u2
        obtain⟨t,rfl⟩:=M;obtain⟨z,f,nn,r,B,e⟩:=u.lstM ey
        let kk:=if i<0 then(i+(f.length:Int)).toNat else min i.toNat f.length
        have j:RPs X.K U H (kY xs i L) (ys.take kk++v'::ys.drop kk):=by
         have:(if i<0 then(i+(xs.length:Int)).toNat else min i.toNat xs.length)=kk:=by rw[E.length,B]
         unfold kY;rw[this];exact(E.take kk).append (.cons r2 (E.drop kk))
        obtain⟨O,l'⟩:=rh.put en (o:=.lst (kY xs i L)) ⟨_,rfl,j⟩;refine call_meets PySem.F.slot_list_insert ⟨_,e,rfl⟩ PySem.F.entry_list_insert (PySem.F.args_list_insert_3 _ _ _) (AutoListH.list_insert_list_int_val_1 a f.toArray nn i t u2 (by rw[fitsIndex_both C.1.1 C.1.2];simp) (by rw[rT];omega)) ⟨e,?_⟩;have l:=(r.take kk).append (.cons S (r.drop kk));have R:(ys.take kk++v'::ys.drop kk).length<=sizeLine:=by
         rw[<-j.length];have e1:(kY xs i L).length=xs.length+1:=by unfold kY;simp only[xK,DN,L_,Dt];omega
         omega
        refine⟨.non,_,u.lset (its':=f.take kk++u2::f.drop kk) ey e ?_ l R,rfl,q U _ .non l' O .non⟩;simp[kk,List.extract];refine LZ ?_;rw[Dt];exact ii _
     .rw[f_ C]at q;exact q.elim
    |_=>exact q.elim
 .exact q.elim
def Je(g:Good X N W G k){x:Str}{j:Nat}{i:Int}{f:Pos}(r:G[j]?=J x)(l:∃t,X.mg x=J (.int i t)):ME X (.Name x f) (mC (.int i)):=by obtain⟨t,l⟩:=l;have d:=g.dbg x (oI _ (au r));exact PE.imp (qB (v:=.int i) (g.gl x (au r)) l ⟨t,rfl⟩ d.1) λZ H Q ⟨U,z,h,B,u,q⟩=>q U H _ (Le.refl _ _) u (.int _)
def Nv(l:TA):TE:=λZ H Q=>l Z H λi f=>∃j:Int,i=[.int j] /\ -(2^62)<=j/\j<2^62/\∀p,f p=Y->Q (.ref p) (kx f p (.rng 0 j))
def sk(C:Gl X "range")(E:X.mg "range"=Y)(z:PA X [a] ta)(u:starEach [a] X.env=[(T,eval a X.env)]:=by rfl):PE X (.Call (.Name "range" p) [a] [] pos) (Nv ta):=by
 intro B s Z H R f h;refine Call_ (gT f C E boot_range (PyProof.Rows.callWith_type1 (ka (z pos B s Z H _ f h) λQ L ⟨S,O,l,F,i⟩=>?_) u rfl));obtain⟨j,e,i,P,q⟩:=i;subst e
 cases F with
 |cons r M =>
  cases M;obtain⟨t,rfl⟩:=r;refine call_range_1 ⟨.ref L.heap.objs.size,_,l.laid (λb o e=>n_ _ e) (ii _) ?_,rfl,q _ (l.hok.fresh (ii _))⟩;exact⟨_,_,_,tz _ rfl⟩
def ik:∀(n:Nat)(lo:Int)(f:VT),f.length=n->(∀(i:Nat)(v:Value),f[i]?=J v->∃t,v=.int (lo+i) t)->aw ((List.range n).map λi=>V.int (lo+(i:Nat))) f
 |0,lo,f,j,_=>by cases f with|nil=>exact .nil|cons _ _=>simp at j
 |n+1,lo,f,j,h=>by
  cases f with
  |nil=>simp at j
  |cons u f =>
   rw[TW,qw,wc];obtain⟨t,e⟩:=h 0 u rfl;refine .cons ⟨t,e⟩ ?_;have l:=ik n (lo+1) f (by simpa using j) λi v hv=>by
    obtain⟨t,e⟩:=h (i+1) v (by simpa using hv);exact⟨t,by rw[e];congr 1;push_cast;ext⟩
   have e2:((λi=>V.int (lo+((i:Nat):Int)))∘Nat.succ)=λi=>V.int (lo+1+((i:Nat):Int)):=by funext i;simp only[Function.comp];congr 1;push_cast;ext
   rw[e2];exact l
def sL(L:X.calm=I):cS X (.type "list") (λxs H Q=>∃r j,xs=[.ref r]/\H r=J (.rng 0 j) /\ -(2^62)<=j/\j<2^62/\j.toNat<=sizeLine/\∀l,H l=Y->Q (.ref l) (kx H l (.lst ((List.range j.toNat).map λi=>V.int (0+(i:Nat)))))):=by
 intro Nc s Z H xs us Q f r ⟨F,j,e,P,O,S,B,q⟩;subst e
 cases r with
 |cons r1 U =>
  cases U;cases r1;obtain⟨t,u,v,R⟩:=(f.hok F _ P);refine call_list_range (f.ok.hd L) R (small_one (by ext) (by ext) O S) (by rw[rangeSize_one];split<;>ext) B λh' tk z M kp e C=>?_;have E:=ik _ 0 _ (by exact C.1) λi v hv=>by
   obtain⟨t,e⟩:=C.2 i v (by rw[<-v_];exact hv)
   grind
  refine⟨.ref s.heap.objs.size,_,f.laid (o:=.lst _) kp (ii _) (⟨by simpa using B,z.toList,M,E,by simpa using e⟩),rfl,q _ (f.hok.fresh (ii _))⟩
def Vp(m:Mx (VL)):Mx PV:=λZ h=>(m Z h).bind λi f=>match i with
 |[.int j]=>if -(2^62)<=j/\j<2^62/\j.toNat<=sizeLine then .ok (.loc f.length) (f++[.lst (ck 0 j.toNat)])else .bad
 |_=>.bad
def jh{K:h8}{U:VS}{H:Hp}{lo:Int}:∀(l:VQ),RPs K U H (l.map λ(i:Nat)=>PV.int (lo+(i:Int))) (l.map λ(i:Nat)=>V.int (lo+(i:Int)))
 |[]=>.nil
 |i::l=>.cons (.int _) (jh l)
def Bg(g:Good X N W G k){a:Expr}{m:Mx (VL)}{i j:Nat}{p P E f:Pos}(R:G[i]?=J "list")(hm:X.mg "list"=Y)(hj:G[j]?=J "range")(F:X.mg "range"=Y)(ha:MA X [a] m)(hs:starEach [a] X.env=[(T,eval a X.env)]:=by rfl)(S:starEach [.Call (.Name "range" P) [a] [] f] X.env=[(T,eval (.Call (.Name "range" P) [a] [] f) X.env)]:=by rfl):ME X (.Call (.Name "list" p) [.Call (.Name "range" P) [a] [] f] [] E) (Vp m):=by
 have d:=g.dbg _ (oI _ (au R));refine PE.imp (gX (sL g.calm) (g.gl _ (au R)) hm PyProof.Rows.Boot.«list» (cA (sk (g.gl _ (au hj)) F ha hs) eQ S) d.2.2 d.1 S rfl) λZ H Q ⟨U,L,h,rs,rh,q⟩=>?_;refine⟨U,L,h,rs,rh,Ful.bind q λU1 H1 x x' h1 _ l1 C rx u=>?_⟩
 cases rx with
 |nil=>exact u.elim
 |cons r1 t1 =>
  cases t1 with
  |cons _ _=>cases r1<;>exact u.elim
  |nil =>
   cases r1 with
   |int B =>
    dsimp only at u;by_cases z:-(2^62)<=B/\B<2^62/\B.toNat<=sizeLine
    .rw[c_ z]at u;refine⟨B,rfl,z.1,z.2.1,λr hr=>?_⟩;obtain⟨O,l2⟩:=C.loose hr (.rng 0 B);refine⟨r,B,rfl,bD,z.1,z.2.1,z.2.2,λl hl=>?_⟩;obtain⟨M,l3⟩:=O.new hl (o:=.lst (ck 0 B.toNat)) ⟨_,rfl,jh _⟩;exact u _ _ _ (l2.trans l3) M (.loc (by rw[<-C.len];simp))
    .rw[f_ z]at u;exact u.elim
   |_=>exact u.elim
end
end MM
namespace SetT
open PySem.SetTable
def fw(xs:Array Nat):Prop:=∀a b u v:Nat,a<b->xs[a]?=J u->xs[b]?=J v->u<v
def Bl(xs:Array Nat)(j:Nat)(O:fw xs):∀l lo i:Nat,i-lo<=l->lo<=i->i<=xs.size ->
  (∀a v,xs[a]?=J v->a<lo->v<j)->(∀a v,xs[a]?=J v->i<=a->j<=v) ->
  below.go xs j l lo i<=xs.size/\(∀a v,xs[a]?=J v->a<below.go xs j l lo i->v<j) /\
   (∀a v,xs[a]?=J v->below.go xs j l lo i<=a->j<=v):=by
 intro l
 induction l with
 |zero =>
  intro lo i Q R G C E
  have:lo=i:=by lia
  subst this;exact⟨G,C,E⟩
 |succ f M =>
  intro lo i Q R G C E;unfold below.go;by_cases u:lo<i
  .simp only[u,if_true];have z:(lo+i)/2<xs.size:=by lia
   have B:xs[(lo+i)/2]?=J (xs[(lo+i)/2]'z):=LY z;have hd:xs.getD ((lo+i)/2) j=xs[(lo+i)/2]'z:=by simp[Array.getD,z]
   rw[hd];by_cases H:xs[(lo+i)/2]'z<j
   .simp only[H,if_true];apply M
    .lia
    .lia
    .lia
    .intro a v r L;by_cases F:a=(lo+i)/2
     .subst F;rw[B]at r;cases r;exact H
     .have:=O a ((lo+i)/2) v _ ⋯ r B;lia
    .exact E
   .simp only[H,if_false];apply M
    .lia
    .lia
    .lia
    .exact C
    .intro a v r P;by_cases F:a=(lo+i)/2
     .subst F;rw[B]at r;cases r;lia
     .have:=O ((lo+i)/2) a _ v ⋯ B r;lia
  .simp only[u,if_false]
   have:lo=i:=by lia
   subst this;exact⟨G,C,E⟩
def eK(xs:Array Nat)(j:Nat)(f:fw xs):
  below xs j<=xs.size/\(∀a v,xs[a]?=J v->a<below xs j->v<j)/\(∀a v,xs[a]?=J v->below xs j<=a->j<=v):=by
 apply Bl xs j f
 .lia
 .lia
 .lia
 .lia
 .intro a v i h
  simp_all
def iW(xs:Array Nat)(i j:Nat)(r:fw xs)(h:xs[i]?=J j):below xs j=i:=by
 obtain⟨_,C,u⟩:=eK xs j r;by_cases B:i<below xs j
 .have:=C i j h B;lia
 .by_cases z:below xs j=i
  .exact z
  .have f:below xs j<i:=by lia
   have E:i<xs.size:=by grind
   have l:xs[below xs j]?=J (xs[below xs j]'⋯):=LY ⋯;have G:=r _ i _ j f l h;have F:=u _ _ l (ii _);lia
def CD(f:Array Nat)(s:Nat):Prop:=∃i:Nat,f[i]?=J s
def wU(j:Nat):has (#[]:Array Nat) j=T:=by unfold has;simp
def qZ(t:SetTable)(f:fw t.place)(i s:Nat)(h:t.place[i]?=J s):t.slot s=.live i:=by unfold SetTable.slot;simp only[iW t.place i s f h,h];simp
def yy(t:SetTable)(hd:t.dummies=#[])(s:Nat)(h:¬CD t.place s):t.slot s=.empty:=by
 unfold SetTable.slot;simp only[hd,wU];split
 .rename_i f
  exact absurd ⟨_,by simpa using f⟩ h
 .simp
def cK(xs:Array α)(p:Nat)(x:α)(r:p<=xs.size)(i:Nat):
  (insertAt xs p x)[i]?=if i<p then xs[i]? else if i=p then J x else xs[i-1]?:=by
 unfold insertAt;have e1:(xs.extract 0 p).size=p:=by simp;lia
 rw[Array.getElem?_append];simp only[Ec,e1];split
 .rw[Array.getElem?_push];simp only[e1];split
  .rename_i f;subst f;simp
  .rw[L0];lia
 .have f:¬i<p:=by lia
  have l:¬i=p:=by lia
  rw[L0];have e2:p+(i-(p+1))=i-1:=by lia
  simp only[e2];split
  .rfl
  .rename_i j
   rw[TX];simp at j;lia
def dH(xs:Array α)(p:Nat)(x:α)(f:p<=xs.size):(insertAt xs p x).size=xs.size+1:=by unfold insertAt;simp;lia
def ve(f:α->β)(xs:Array α)(p:Nat)(x:α):(insertAt xs p x).map f=insertAt (xs.map f) p (f x):=by unfold insertAt;simp
def oj(x M:Nat):x % (M+1)<=M:=GH (Nat.mod_lt x (Nat.succ_pos M))
def C1(M:Nat)(p:Probe):Probe :=
 if p.more>0 then { p with j:=p.j+1,more:=p.more-1} else
 { p with j:=(leap M p.i p.perturb).1,more:=runEnd M (leap M p.i p.perturb).1-(leap M p.i p.perturb).1,i:=(leap M p.i p.perturb).1,perturb:=(leap M p.i p.perturb).2}
def yh(t:SetTable)(p:Probe):t.advance p=C1 t.mask p:=by unfold SetTable.advance C1;rfl
def Ff(M:Nat)(h:Int):Probe:={ j:=bits h % (M+1),more:=runEnd M (bits h % (M+1))-bits h % (M+1),i:=bits h % (M+1),perturb:=bits h,dummy:=Y}
def st(M:Nat)(h:Int):Nat->Probe
 |0=>Ff M h
 |n+1=>C1 M (st M h n)
def sl(M:Nat)(h:Int)(n:Nat):Nat:=(st M h n).j
def gU(M i:Nat)(h:i<=M):i<=runEnd M i/\runEnd M i<=M/\runEnd M i-i<=9:=by unfold runEnd;split<;>lia
def AI(M:Nat)(h:Int)(n:Nat):(st M h n).i<=M/\(st M h n).j+(st M h n).more=runEnd M (st M h n).i/\(st M h n).dummy=Y:=by
 induction n with
 |zero =>
  have f:bits h % (M+1)<=M:=oj _ _
  have:=gU M _ f
  refine⟨f,?_,rfl⟩;show bits h % (M+1)+(runEnd M (bits h % (M+1))-bits h % (M+1))=runEnd M (bits h % (M+1));lia
 |succ n l =>
  show(C1 M (st M h n)).i<=M/\(C1 M (st M h n)).j+(C1 M (st M h n)).more=runEnd M (C1 M (st M h n)).i/\(C1 M (st M h n)).dummy=Y;unfold C1;split
  .lia
  .have f:(leap M (st M h n).i (st M h n).perturb).1<=M:=oj _ _
   have:=gU M _ f
   grind
def G1(M:Nat)(h:Int)(n:Nat):sl M h n<=M:=by
 have:=AI M h n
 have f:=gU M _ this.1;unfold sl;lia
def base(M:Nat)(h:Int):Nat->Nat×Nat
 |0=>(bits h % (M+1),bits h)
 |b+1=>leap M (base M h b).1 (base M h b).2
def qq(M:Nat)(h:Int)(b:Nat):(base M h b).1<=M:=by
 cases b with
 |zero=>exact oj _ _
 |succ b =>
  exact oj _ _
def tb(M:Nat)(h:Int):Nat->Nat
 |0=>0
 |b+1=>tb M h b+(runEnd M (base M h b).1-(base M h b).1)+1
def Nw(M:Nat)(h:Int)(b:Nat):tb M h b<=10*b:=by
 induction b with
 |zero=>exact ii _
 |succ b f =>
  have:=gU M _ (qq M h b)
  show tb M h b+(runEnd M (base M h b).1-(base M h b).1)+1<=10*(b+1);lia
def Ny(M:Nat)(h:Int)(b k:Nat):Probe :=
 { j:=(base M h b).1+k,more:=runEnd M (base M h b).1-(base M h b).1-k,i:=(base M h b).1,perturb:=(base M h b).2,dummy:=Y}
def uW(M:Nat)(h:Int)(b:Nat):∀k,k<=runEnd M (base M h b).1-(base M h b).1->st M h (tb M h b+k)=Ny M h b k:=by
 induction b with
 |zero =>
  intro k
  induction k with
  |zero=>intro _;rfl
  |succ k f =>
   intro j;show C1 M (st M h (tb M h 0+k))=_;rw[f ⋯];unfold C1 Ny;lia
 |succ b i =>
  intro k
  induction k with
  |zero =>
   intro _;show C1 M (st M h (tb M h b+(runEnd M (base M h b).1-(base M h b).1)))=_;rw[i _ (ii _)];unfold C1 Ny;simp;exact⟨rfl,rfl,rfl,rfl⟩
  |succ k f =>
   intro j;show C1 M (st M h (tb M h (b+1)+k))=_;rw[f ⋯];unfold C1 Ny
   have:runEnd M (base M h (b+1)).1-(base M h (b+1)).1-k>0:=by lia
   lia
def Fg(h:Int):bits h<2^64:=by unfold bits;lia
def zE(M:Nat)(h:Int):∀b,(base M h b).2=bits h/32^b:=by
 intro b
 induction b with
 |zero=>simp[base]
 |succ b f =>
  show(base M h b).2/32=_;rw[f,Nat.div_div_eq_div_mul,Nat.pow_succ]
def yq(M:Nat)(h:Int)(b:Nat)(f:13<=b):(base M h b).2=0:=by rw[zE];apply Nat.div_eq_of_lt;have i:=Fg h;have j:32^13<=32^b:=Nat.pow_le_pow_right (by decide) f;lia
def C2(M:Nat):Nat->Nat->Nat
 |0,x=>x
 |n+1,x=>(C2 M n x*5+1) % (M+1)
def BD(M:Nat)(h:Int)(n:Nat):(base M h (13+n)).1=C2 M n (base M h 13).1:=by
 induction n with
 |zero=>rfl
 |succ n f =>
  show((base M h (13+n)).1*5+1+(base M h (13+n)).2/32) % (M+1)=(C2 M n (base M h 13).1*5+1) % (M+1);rw[f,yq M h (13+n) ⋯]
def lP(M:Nat)(a b x:Nat):C2 M (a+b) x=C2 M a (C2 M b x):=by
 induction a with
 |zero=>simp[C2]
 |succ a f=>rw[Nat.succ_add];show(C2 M (a+b) x*5+1) % (M+1)=(C2 M a (C2 M b x)*5+1) % (M+1);rw[f]
def Ly(M:Nat):Nat->Nat->VQ
 |0,_=>[]
 |n+1,x=>x::Ly M n ((x*5+1) % (M+1))
def BO(M n x:Nat):C2 M n ((x*5+1) % (M+1))=C2 M (n+1) x:=by
 have:=lP M n 1 x
 rw[this];rfl
def vL(M:Nat)(s:Nat):∀n x,s∈Ly M n x->∃m,m<n/\C2 M m x=s:=by
 intro n
 induction n with
 |zero=>intro x h;cases h
 |succ n f =>
  intro x h
  cases h with
  |head=>exact⟨0,⋯,rfl⟩
  |tail _ h =>
   obtain⟨m,i,e⟩:=f _ h;exact⟨m+1,⋯,by rw[<-e,BO]⟩
def gh(M:Nat):Prop:=C2 M (M+1) 0=0/\∀s,s<=M->s∈Ly M (M+1) 0
set_option maxRecDepth 100000 in
theorem Nz:gh 7:=⟨by decide,by
 have:∀s:Fin 8,(Ly 7 8 0).contains s.val=I:=by decide
 intro s f;have:=this ⟨s,⋯⟩;simpa using this⟩
set_option maxRecDepth 100000 in
theorem Jf:gh 31:=⟨by decide,by
 have:(List.range 32).all (λs=>(Ly 31 32 0).contains s)=I:=by decide
 intro s i;have f:=QT.mp this s (by simp;lia)
 simpa using f⟩
set_option maxRecDepth 100000 in
theorem Fh:gh 127:=⟨by decide,by
 have:(List.range 128).all (λs=>(Ly 127 128 0).contains s)=I:=by decide
 intro s i;have f:=QT.mp this s (by simp;lia)
 simpa using f⟩
def AN(M:Nat)(hf:gh M)(x s:Nat)(l:x<=M)(j:s<=M):∃m,m<=2*M+1/\m<=M/\C2 M m x=s:=by
 obtain⟨a,u,i⟩:=vL M x _ _ (hf.2 x l);obtain⟨b,r,f⟩:=vL M s _ _ (hf.2 s j);by_cases h:a<=b
 .refine⟨b-a,⋯,⋯,?_⟩;rw[<-i,<-lP,Hu h];exact f
 .refine⟨M+1-a+b,⋯,⋯,?_⟩;rw[<-i,<-lP]
  have:M+1-a+b+a=b+(M+1):=by lia
  rw[this,lP,hf.1];exact f
def oB(M:Nat)(hf:gh M)(h:Int)(s:Nat)(f:s<=M):∃b,b<=M+13/\(base M h b).1=s:=by obtain⟨m,_,i,e⟩:=AN M hf (base M h 13).1 s (qq M h 13) f;exact⟨13+m,⋯,by rw[BD];exact e⟩
def BX(M:Nat)(hf:gh M)(h:Int)(s:Nat)(f:s<=M):∃n,n<=10*(M+13)/\sl M h n=s:=by
 obtain⟨b,i,e⟩:=oB M hf h s f;refine⟨tb M h b,?_,?_⟩
 .have:=Nw M h b;lia
 .have:=uW M h b 0 ⋯
  unfold sl;rw[Nat.add_zero]at this;rw[this];show(base M h b).1+0=s;lia
structure WF(M:Nat)(pl:Array Nat)(hs:Array Int):Prop where
 rise:fw pl
 bound:∀i v:Nat,pl[i]?=J v->v<=M
 size:pl.size=hs.size
 reach:∀(i:Nat)(h:Int)(v:Nat),hs[i]?=J h->pl[i]?=J v->∃n,sl M h n=v/\∀m,m<n->CD pl (sl M h m)
def eS{α:Type}{xs:Array α}{i:Nat}{v:α}(h:xs[i]?=J v):i<xs.size:=by grind
def dY{α:Type}(xs:Array α)(i:Nat)(h:i<xs.size):∃v,xs[i]?=J v:=⟨_,LY h⟩
def zf(l:Array Nat)(u:fw l)(M:Nat)(h:∀s,s<=M->CD l s):∀s i:Nat,s<=M->l[i]?=J s->s<=i:=by
 intro s
 induction s with
 |zero=>lia
 |succ s z =>
  intro i E j;obtain⟨k,f⟩:=h s ⋯;have B:=z k ⋯ f;by_cases C:k<i
  .lia
  .by_cases r:k=i
   .subst r;rw[f]at j;cases j
   .have:=u i k (s+1) s ⋯ j f;lia
def Ah(j:Array Nat)(u:fw j)(M:Nat)(z:j.size<=M):∃s,s<=M/\¬CD j s:=by
 apply Classical.byContradiction;intro r;have f:∀s,s<=M->CD j s:=by
  intro s B
  simp_all
 obtain⟨i,l⟩:=f M (ii _)
 have:=zf j u M f M i (ii _) l
 have:=eS l
 lia
def NA(P:Nat->Prop):∀n,P n->∃m,m<=n/\P m/\∀k,k<m->¬P k:=by
 intro n
 induction n using Nat.strongRecOn with
 |_ n j =>
  intro l;by_cases h:∃k,k<n/\P k
  .obtain⟨k,f,i⟩:=h;obtain⟨m,u,r⟩:=j k f i;exact⟨m,⋯,r⟩
  .exact⟨n,ii _,l,λk f i=>h ⟨k,f,i⟩⟩
def x9(f:Array Nat)(u:fw f)(M:Nat)(hf:gh M)(j:f.size<=M)(h:Int):
  ∃n,n<=10*(M+13)/\¬CD f (sl M h n)/\∀m,m<n->CD f (sl M h m):=by
 obtain⟨s,z,i⟩:=Ah f u M j;obtain⟨n,E,e⟩:=BX M hf h s z;obtain⟨m,C,l,B⟩:=NA (λn=>¬CD f (sl M h n)) n (by rw[e];exact i);exact⟨m,⋯,l,λk r=>Classical.byContradiction (B k r)⟩
def B8(t:SetTable)(hd:t.dummies=#[])(L:fw t.place)(hashAt:Nat->Int)(h:Int)(z:Nat)(Q:¬CD t.place (sl t.mask h z))(F:∀m,m<z->CD t.place (sl t.mask h m)):
  ∀j n,n<=z->z-n<j ->
   (probe.go t hashAt h j (st t.mask h n)=J (.empty (sl t.mask h z) Y) /\
    ∀m i:Nat,n<=m->m<z->t.place[i]?=J (sl t.mask h m)->hashAt i≠h) \/
   (∃m i:Nat,n<=m/\m<z/\t.place[i]?=J (sl t.mask h m)/\hashAt i=h /\
    probe.go t hashAt h j (st t.mask h n)=J (.candidate (sl t.mask h m) i (st t.mask h (m+1))) /\
    ∀B l:Nat,n<=B->B<m->t.place[l]?=J (sl t.mask h B)->hashAt l≠h):=by
 intro j
 induction j with
 |zero=>intro n X h2;lia
 |succ f Z =>
  intro n X h2;by_cases he:n=z
  .subst he;left;refine⟨?_,λm i P E=>by lia⟩;unfold probe.go;have r:=yy t hd _ Q;unfold sl at r;simp only[r]
   have:=(AI t.mask h n).2.2
   rw[this];rfl
  .obtain⟨i,M⟩:=F n ⋯;have r:=qZ t L i _ M;have S:probe.go t hashAt h (f+1) (st t.mask h n)=if hashAt i==h then J (.candidate (sl t.mask h n) i (st t.mask h (n+1)))else probe.go t hashAt h f (st t.mask h (n+1)):=by
    conv=>lhs;unfold probe.go
    unfold sl at r;simp only[r,yh];rfl
   by_cases C:hashAt i=h
   .right;refine⟨n,i,ii _,⋯,M,C,?_,λB l P E=>by lia⟩;rw[S];simp[C]
   .have H:probe.go t hashAt h (f+1) (st t.mask h n)=probe.go t hashAt h f (st t.mask h (n+1)):=by
     rw[S];simp[C]
    rw[H];have u:∀l:Nat,t.place[l]?=J (sl t.mask h n)->l=i:=by intro l R;have a:=iW _ _ _ L M;have b:=iW _ _ _ L R;lia
    rcases Z (n+1) ⋯ ⋯with⟨r1,r2⟩|⟨m,i2,q1,q2,q3,W,U,q6⟩
    .left;refine⟨r1,?_⟩;intro m l P E G;by_cases O:m=n
     .subst O;rw[u l G];exact C
     .exact r2 m l ⋯ E G
    .right;refine⟨m,i2,⋯,q2,q3,W,U,?_⟩;intro B l P E G;by_cases O:B=n
     .subst O;rw[u l G];exact C
     .exact q6 B l ⋯ E G
def qf(f:Array Nat)(p s:Nat)(j:p<=f.size)(x:Nat)(h:CD f x):CD (insertAt f p s) x:=by
 obtain⟨i,l⟩:=h;by_cases r:i<p
 .exact⟨i,by rw[cK _ _ _ j];simp[r,l]⟩
 .refine⟨i+1,?_⟩;rw[cK _ _ _ j];have a:¬i+1<p:=by lia
  have b:¬i+1=p:=by lia
  simp[a,b,l]
def BG(j:Array Nat)(s:Nat)(r:fw j)(E:¬CD j s):fw (insertAt j (below j s) s):=by
 obtain⟨M,C,B⟩:=eK j s r;intro a b u v F l f;rw[cK _ _ _ M]at l f;have z:=λi H=>E ⟨i,H⟩
 split at l
 .rename_i G
  have L:=C a u l G
  split at f
  .exact r a b u v F l f
  .split at f
   .cases f;exact L
   .exact r a (b-1) u v ⋯ l f
 .split at l
  .have e1:¬b<below j s:=by lia
   have e2:¬b=below j s:=by lia
   simp only[e1,e2,if_false]at f
   have:=B (b-1) v f ⋯
   have O:v≠s:=λe=>z (b-1) (by rw[f,e]);lia
  .have e1:¬b<below j s:=by lia
   have e2:¬b=below j s:=by lia
   simp only[e1,e2]at f;exact r (a-1) (b-1) u v ⋯ l f
def Jg(M:Nat)(f:Array Nat)(E:Array Int)(w:WF M f E)(h:Int)(n:Nat)(H:¬CD f (sl M h n))(z:∀m,m<n->CD f (sl M h m)):
  WF M (insertAt f (below f (sl M h n)) (sl M h n)) (insertAt E (below f (sl M h n)) h):=by
 have u:=(eK f (sl M h n) w.rise).1;have B:below f (sl M h n)<=E.size:=by have:=w.size;lia
 refine⟨BG f _ w.rise H,?_,?_,?_⟩
 .intro i v l;rw[cK _ _ _ u]at l
  split at l
  .exact w.bound _ _ l
  .split at l
   .cases l;exact G1 M h n
   .exact w.bound _ _ l
 .rw[dH _ _ _ u,dH _ _ _ B,w.size]
 .intro i L v j hv;rw[cK _ _ _ u]at hv;rw[cK _ _ _ B]at j
  split at hv
  .rename_i F
   simp only[F]at j;obtain⟨k,e,r⟩:=w.reach i L v j hv;exact⟨k,e,λm C=>qf _ _ _ u _ (r m C)⟩
  .rename_i F
   split at hv
   .rename_i G
    simp only[G]at j;cases hv;simp at j;cases j;exact⟨n,rfl,λm C=>qf _ _ _ u _ (z m C)⟩
   .rename_i G
    simp only[F,G]at j;obtain⟨k,e,r⟩:=w.reach (i-1) L v j hv;exact⟨k,e,λm C=>qf _ _ _ u _ (r m C)⟩
def i6(ow:Array (VE))(s:Nat):Prop:=∃i:Nat,ow[s]?=J (J i)
structure LC(M:Nat)(ow:Array (VE))(k:Nat)(hs:Array Int):Prop where
 size:ow.size=M+1
 own:∀i,i<k->∃j:Nat,ow[j]?=J (J i)
 inj:∀i j j':Nat,ow[j]?=J (J i)->ow[j']?=J (J i)->j=j'
 lt:∀j i:Nat,ow[j]?=J (J i)->i<k
 reach:∀(j i:Nat)(h:Int),ow[j]?=J (J i)->hs[i]?=J h->∃n,sl M h n=j/\∀m,m<n->i6 ow (sl M h m)
def jV(ow:Array (VE))(s:Nat)(f:s<ow.size):(ow.getD s (J 0)).isNone=I↔¬i6 ow s:=by
 unfold i6
 have:=LY f
 simp only[Array.getD,f,this]
 cases h:ow[s]'f with
 |none=>simp[h]
 |some v=>simp[h]
def yP(M:Nat)(hf:gh M)(ow:Array (VE))(U:ow.size=M+1)(h:Int)(s:Nat)(X:s<=M)(L:¬i6 ow s):
  ∀r b,M+13<b+r->(∀m,m<tb M h b->i6 ow (sl M h m)) ->
   ∃n,layClean.free M ow r (base M h b).1 (base M h b).2=J (sl M h n)/\¬i6 ow (sl M h n)/\∀m,m<n->i6 ow (sl M h m):=by
 have u:∀b c,b<c->tb M h b<tb M h c:=by
  intro b c ab
  induction c with
  |zero=>lia
  |succ c H =>
   show tb M h b<tb M h c+(runEnd M (base M h c).1-(base M h c).1)+1;by_cases e:b=c
   .subst e;lia
   .have:=H ⋯;lia
 intro r
 induction r with
 |zero =>
  intro b hb i;obtain⟨F,Z,e⟩:=oB M hf h s X;have E:=u F b ⋯;have z:=i _ E;have B:=uW M h F 0 ⋯;rw[Nat.add_zero]at B;unfold sl at z;rw[B]at z
  have:(Ny M h F 0).j=s:=by show(base M h F).1+0=s;lia
  rw[this]at z;exact absurd z L
 |succ f H =>
  intro b hb i;have G:=qq M h b;have R:=gU M _ G;have l:∀k,k<=runEnd M (base M h b).1-(base M h b).1->sl M h (tb M h b+k)=(base M h b).1+k:=by intro k Q;unfold sl;rw[uW M h b k Q];rfl
  unfold layClean.free
  cases LA:(List.range (runEnd M (base M h b).1+1-(base M h b).1)).find? λk=>(ow.getD ((base M h b).1+k) (J 0)).isNone with
  |some k =>
   rw[List.find?_range_eq_some]at LA;obtain⟨p1,W,p3⟩:=LA;have Q:k<runEnd M (base M h b).1+1-(base M h b).1:=by simpa using W
   refine⟨tb M h b+k,?_,?_,?_⟩
   .rw[l k ⋯]
   .rw[l k ⋯];exact(jV ow _ ⋯).mp p1
   .intro m P;by_cases E:m<tb M h b
    .exact i m E
    .have e:m=tb M h b+(m-tb M h b):=by lia
     rw[e,l _ ⋯];have z:=p3 (m-tb M h b) ⋯;have B:=jV ow ((base M h b).1+(m-tb M h b)) ⋯;apply Classical.byContradiction;intro O;rw[B.mpr O]at z;simp at z
  |none =>
   rw[List.find?_range_eq_none]at LA;have C:∀m,m<tb M h (b+1)->i6 ow (sl M h m):=by
    intro m P;by_cases E:m<tb M h b
    .exact i m E
    .have S:m<tb M h b+(runEnd M (base M h b).1-(base M h b).1)+1:=P;have e:m=tb M h b+(m-tb M h b):=by lia
     rw[e,l _ ⋯];have z:=LA (m-tb M h b) ⋯;have B:=jV ow ((base M h b).1+(m-tb M h b)) ⋯;apply Classical.byContradiction;intro O;rw[B.mpr O]at z;simp at z
   exact H (b+1) ⋯ C
def Fi(M:Nat)(ow:Array (VE))(k:Nat)(j:Array Int)(c:LC M ow k j)(O:k<=M):∃s,s<=M/\¬i6 ow s:=by
 apply Classical.byContradiction;intro B;have l:=λs j=>Classical.byContradiction (λh=>B ⟨s,j,h⟩);have f:∀s,s<=M->ow[s]?=J (J ((ow.getD s Y).getD 0)):=by
  intro s j;obtain⟨i,L⟩:=l s j
  simp_all
 have z:((List.range (M+1)).map (λs=>(ow.getD s Y).getD 0)).Nodup:=by unfold List.Nodup;rw[DL];apply List.Pairwise.imp_of_mem _ Mb;intro a b F H C e;have u:=f a (by simp at F;lia);have E:=f b (by simp at H;lia);rw[<-e]at E;exact C (c.inj _ _ _ u E)
 have r:((List.range (M+1)).map (λs=>(ow.getD s Y).getD 0)) ⊆ List.range k:=by
  intro x G;obtain⟨s,j,e⟩:=ml.mp G;have u:=f s (by simp at j;lia)
  have:=c.lt _ _ u
  rw[e]at this;simpa using this
 have:=List.Nodup.length_le_of_subset z r
 simp at this;lia
def Fj(M:Nat)(hf:gh M)(ow:Array (VE))(k:Nat)(E:Array Int)(c:LC M ow k E)(U:k<=M)(h:Int)(Q:E[k]?=J h):
  ∃j,layClean.free M ow (turns M) (bits h % (M+1)) (bits h)=J j/\LC M (ow.setIfInBounds j (J k)) (k+1) E:=by
 obtain⟨s,H,G⟩:=Fi M ow k E c U;obtain⟨n,e,L,B⟩:=yP M hf ow c.size h s H G (turns M) 0 (by unfold turns;lia) (by intro m C;exact absurd C (QZ m));refine⟨sl M h n,e,?_⟩;have F:=G1 M h n;have O:sl M h n<ow.size:=by have:=c.size;lia
 have f:∀s:Nat,(ow.setIfInBounds (sl M h n) (J k))[s]?=if s=sl M h n then J (J k)else ow[s]?:=by
  intro s;by_cases e:sl M h n=s
  .subst e;simp[O]
  .have e2:¬s=sl M h n:=λx=>e x.symm;simp[e,e2]
 have u:∀s,i6 ow s->i6 (ow.setIfInBounds (sl M h n) (J k)) s:=by
  intro s ⟨i,P⟩;by_cases e:s=sl M h n
  .exact⟨k,by rw[f];simp[e]⟩
  .exact⟨i,by rw[f];simp[e,P]⟩
 refine⟨by simp[c.size],?_,?_,?_,?_⟩
 .intro i P;by_cases e:i=k
  .subst e;exact⟨sl M h n,by rw[f];simp⟩
  .obtain⟨j,F⟩:=c.own i ⋯;refine⟨j,?_⟩;rw[f]
   have:¬j=sl M h n:=λe=>L ⟨i,by rw[<-e];exact F⟩
   simp[this,F]
 .intro i j W l z;rw[f]at l z;by_cases e1:j=sl M h n<;>by_cases e2:W=sl M h n
  .rw[e1,e2]
  .simp[e1]at l;simp[e2]at z
   have:=c.lt _ _ z;lia
  .simp[e1]at l;simp[e2]at z
   have:=c.lt _ _ l;lia
  .simp[e1]at l;simp[e2]at z;exact c.inj _ _ _ l z
 .intro j i l;rw[f]at l;by_cases e1:j=sl M h n
  .simp[e1]at l;lia
  .simp[e1]at l;have:=c.lt _ _ l;lia
 .intro j i X l z;rw[f]at l;by_cases e1:j=sl M h n
  .simp[e1]at l;subst l;rw[Q]at z;cases z;exact⟨n,e1.symm,λm C=>u _ (B m C)⟩
  .simp[e1]at l;obtain⟨S,R,r⟩:=c.reach _ _ _ l z;exact⟨S,R,λm C=>u _ (r m C)⟩
def Jh(M:Nat)(r:Array Int):LC M (Array.replicate (M+1) Y) 0 r:=by
 have f:∀(s i:Nat),(Array.replicate (M+1) (Y:VE))[s]?≠J (J i):=by
  intro s i h;rw[Array.getElem?_replicate]at h
  split at h<;>cases h
 exact⟨by simp,λi z=>by lia,λi j u h=>absurd h (f _ _),λj i h=>absurd h (f _ _),λj i h l=>absurd l (f _ _)⟩
def sH(M:Nat)(hf:gh M)(f:Array Int)(F:f.size<=M):∀(l:VN)(ow:Array (VE))(k:Nat),
  LC M ow k f->(∀q:Nat,l[q]?=f[k+q]?)->k<=f.size ->
  ∃i,(l.foldl (init:=J (ow,k)) λz h=>do
   let(owner,k) <-z
   let j <-layClean.free M owner (turns M) (bits h % (M+1)) (bits h)
   pure (owner.setIfInBounds j (J k),k+1))=J (i,f.size)/\LC M i f.size f:=by
 intro l
 induction l with
 |nil =>
  intro ow k c r L
  have:=r 0
  simp at this;have u:k=f.size:=by lia
  subst u;exact⟨ow,rfl,c⟩
 |cons h l H =>
  intro ow k c r L;have B:=r 0;have E:=eS B.symm;obtain⟨j,e,G⟩:=Fj M hf ow k f c ⋯ h B.symm
  obtain⟨i,e2,C⟩:=H (ow.setIfInBounds j (J k)) (k+1) G (by
   intro q
   have:=r (q+1)
   simp at this
   lia) ⋯
  refine⟨i,?_,C⟩;rw[<-e2];simp[e]
def vF(M:Nat)(hf:gh M)(f:Array Int)(i:f.size<=M):∃ow,layClean M f=J ow/\LC M ow f.size f:=by
 obtain⟨ow,e,c⟩:=sH M hf f i f.toList _ 0 (Jh M f) (by simp) ⋯;refine⟨ow,?_,c⟩;unfold layClean
 simp_all
def Fk{L:VQ}(h:L.Pairwise (·<·)):fw L.toArray:=by intro a b u v f B z;simp at B z;obtain⟨i,j⟩:=qt.mp B;obtain⟨r,l⟩:=qt.mp z;rw[<-j,<-l];exact GD.mp h a b i r f
def ff{α β:Type}(f:α->Option β):∀(l:List α),(∀x,x∈l->∃v,f x=J v)->∀q:Nat,(l.filterMap f)[q]?=l[q]?.bind f:=by
 intro l
 induction l with
 |nil=>intro _ q;simp
 |cons x l j =>
  intro h q;obtain⟨v,hv⟩:=h x (by simp);rw[Pj,hv]
  cases q with
  |zero=>simp[hv]
  |succ q=>exact j (λy i=>h y (by simp[i])) q
def j7{α:Type}(f:Array α):(List.range f.size).filterMap (f[·]?)=f.toList:=by
 apply Lh;intro q;rw[ff _ _ (by intro x i;exact dY f x (by simpa using i))];by_cases h:q<f.size
 .rw[List.getElem?_range h];simp
 .rw[Do (by simp;lia)];simp;lia
def Fl{α:Type}(M:Nat)(hf:gh M)(E:α->Int)(z:Array α)(Z:z.size<=M)(fin mv:Nat)(led W:Bool):
  ∃pl B,laid M fin mv led W (z.map E)=J ({ mask:=M,place:=pl,dummies:=#[],finger:=fin,led:=led,moves:=mv,plain:=W},B) /\
   WF M pl ((B.filterMap (z[·]?)).map E)/\(B.filterMap (z[·]?)).size=z.size/\(B.filterMap (z[·]?)).toList.Perm z.toList /\
   B.toList.Perm (List.range z.size):=by
 obtain⟨ow,e,c⟩:=vF M hf (z.map E) (by simpa using Z);have hn:(z.map E).size=z.size:=by simp
 let f:Nat->Option (Nat×Nat):=λj=>(ow.getD j Y).map (j,·)
 let l:=(List.range (M+1)).filterMap f
 have H:∀j b,f j=J b↔(b.1=j/\ow[j]?=J (J b.2)):=by
  intro j b;show(ow.getD j Y).map (j,·)=J b↔_;by_cases F:j<ow.size
  .have:ow[j]?=J (ow[j]'F):=LY F
   simp only[Array.getD,F,dite_true,this]
   cases h:ow[j]'F with
   |none=>simp[h]
   |some v =>
    simp[h];constructor
    .intro e;subst e;simp
    .rintro⟨e1,e2⟩;cases b;simp_all
  .simp[Array.getD,F]
 have u:∀b:Nat×Nat,b∈l↔ow[b.1]?=J (J b.2):=by
  intro b;rw[Dq];constructor
  .rintro⟨j,_,F⟩;obtain⟨e1,e2⟩:=(H j b).mp F;rw[e1];exact e2
  .intro h;refine⟨b.1,?_,(H b.1 b).mpr ⟨rfl,h⟩⟩
   have:=eS h
   have:=c.size
   simp;lia
 have S:l.Pairwise (λa b=>a.1<b.1):=by show((List.range (M+1)).filterMap f).Pairwise _;rw[QM];apply List.Pairwise.imp _ (QN (n:=M+1));intro a b U x hx y hy;rw[((H _ _).mp hx).1,((H _ _).mp hy).1];exact U
 have ab:(l.map (·.2)).Nodup:=by
  unfold List.Nodup;rw[DL];apply List.Pairwise.imp_of_mem _ S;intro a b ha L U e;have P:=(u a).mp ha;have R:=(u b).mp L;have e':a.2=b.2:=e;rw[<-e']at R
  have:=c.inj _ _ _ P R
  lia
 have C:(l.map (·.2)).Perm (List.range z.size):=by
  rw[GC ab Mb];intro i;rw[ml];constructor
  .rintro⟨b,L,e⟩
   have:=c.lt _ _ ((u b).mp L)
   rw[e]at this;simpa using this
  .intro X;obtain⟨j,F⟩:=c.own i (by simpa using X);exact⟨(j,i),(u (j,i)).mpr F,rfl⟩
 have O:((l.map (·.2)).filterMap (z[·]?)).Perm z.toList:=by
  have:=C.filterMap (z[·]?)
  rw[j7]at this;exact this
 have G:((l.map (·.2)).toArray.filterMap (z[·]?)).toList=(l.map (·.2)).filterMap (z[·]?):=by simp
 have Q:∀x,x∈l.map (·.2)->∃v,z[x]?=J v:=by
  intro x hx
  have:=C.mem_iff.mp hx
  exact dY z x (by simpa using this)
 refine⟨(l.map (·.1)).toArray,(l.map (·.2)).toArray,?_,?_,?_,?_,?_⟩
 .unfold laid;rw[e];rfl
 .refine⟨Fk (by rw[DL];exact S),?_,?_,?_⟩
  .intro i v X;simp at X;obtain⟨b,L⟩:=X;have P:=(u _).mp (Df L);have R:=eS P
   have:=c.size
   have h3:v<ow.size:=R;lia
  .have P:=O.length_eq;have R:(((l.map (·.2)).toArray.filterMap (z[·]?)).map E).size=((l.map (·.2)).filterMap (z[·]?)).length:=by
    rw[Array.size_map,<-B6,G]
   rw[R,P]
   have:=C.length_eq
   simp at this ⊢;exact this
  .intro i h v hh hv;simp at hv;obtain⟨b,L⟩:=hv;have P:=(u _).mp (Df L);have h3:((l.map (·.2)).toArray.filterMap (z[·]?))[i]?=z[b]?:=by
    rw[<-v_,G,ff _ _ Q];simp[L]
   rw[Array.getElem?_map,h3]at hh;obtain⟨n,en,r⟩:=c.reach v b h P (by rw[Array.getElem?_map];exact hh);refine⟨n,en,?_⟩;intro m hm;obtain⟨i',an⟩:=r m hm;have h5:=(u (sl M h m,i')).mpr an;have h6:sl M h m∈l.map (·.1):=ml.mpr ⟨_,h5,rfl⟩;obtain⟨q,hq⟩:=Bs.mp h6;exact⟨q,by simpa using hq⟩
 .rw[<-B6,G,O.length_eq];simp
 .rw[G];exact O
 .exact C
section
variable{prog:Program}{w:World}{A:Around}{E:VB}{s:Shared}
abbrev TK(prog:Program)(w:World)(h:Heap)(k:VN)(a:Addr):Prop:=IsTupleKey (intKind prog w) h k a
abbrev TH(prog:Program)(w:World)(k:VN):Int:=tupleKeyHash (intKind prog w) k
def ItemsAre.ints(h:ItemsAre (intKind prog w) r j):∀v∈j,∃i t,v=.int i t:=by
 induction h with
 |nil=>intro v hv;cases hv
 |@cons k v r j l _ z =>
  intro u f
  cases f with
  |head =>
   cases v with
   |int i t=>exact⟨i,t,rfl⟩
   |_=>simp[intKind,Value.isInt]at l
  |tail _ f=>exact z u f
def jN(C:TK prog w s.heap ks a)(h:Q I s):wpAny (model prog w) A (hashByValue 8 (.ref a)) Q E s:=by
 have L:=C.typeIs;obtain⟨o,items,n,H,_,hd,G⟩:=C;refine d_ (wpAny_specialOf L F.slot_tuple_hash.lookup ?_);refine d_ (wpAny_seqItems H hd ?_);refine d_ ?_;rw[<-Array.forIn_toList];refine wpAny_forIn_list _ (λj r l=>r.1=Y/\l=s/\∀v∈j,∃i t,v=Value.int i t) _ ?_ ?_ _ _ ⟨rfl,rfl,ItemsAre.ints G⟩
 .rintro v j r l ⟨B,rfl,f⟩;obtain⟨i,t,rfl⟩:=f v t3;exact ia ⟨rfl,rfl,λu z=>f u (m_ _ z)⟩
 .rintro⟨O,M⟩ l ⟨B,rfl,_⟩;subst B;exact ia h
def gR(C:TK prog w s.heap ks a)(h:Q T s):wpAny (model prog w) A (ofAClassStatement 8 (.ref a)) Q E s:=by
 have H:=C.typeIs;obtain⟨o,items,n,G,_,hd,F⟩:=C;unfold ofAClassStatement;refine d_ (wpAny_typeOf H ?_);refine d_ ?_;refine ia ?_;refine d_ (wpAny_seqItems G hd ?_);refine d_ ?_;rw[<-Array.forIn_toList];refine wpAny_forIn_list _ (λj r l=>r.1=Y/\l=s/\∀v∈j,∃i t,v=Value.int i t) _ ?_ ?_ _ _ ⟨rfl,rfl,ItemsAre.ints F⟩
 .rintro v j r l ⟨B,rfl,f⟩;obtain⟨i,t,rfl⟩:=f v t3;exact ia ⟨rfl,rfl,λu z=>f u (m_ _ z)⟩
 .rintro⟨M,L⟩ l ⟨B,rfl,_⟩;subst B;exact ia h
def pN{k:VN}{a:Addr}{stored:VT}{Q:Bool->Shared->Prop}(H:TK prog w s.heap k a)(f:∀v∈stored,∃b z,v=.ref b/\TK prog w s.heap z b)(h:Q T s):wpAny (model prog w) A (searchCouldBeSeen (.ref a) stored) Q E s:=by
 refine d_ ?_;refine wpAny_forIn_list _ (λj r B=>r.1=Y/\B=s/\∀v∈j,∃b z,v=Value.ref b/\TK prog w s.heap z b) _ ?_ ?_ _ _ ⟨rfl,rfl,f⟩
 .rintro v j r B ⟨F,rfl,f⟩;obtain⟨b,z,rfl,G⟩:=f v t3;have i:=λu C=>f u (m_ _ C);by_cases l:(a==b||(carriedByValue (.ref a)&&carriedByValue (.ref b)))=I
  .rw[c_ l];exact ia ⟨rfl,rfl,i⟩
  .rw[f_ l];refine d_ (wpAny_eqIsQuiet_tuple H ?_);refine d_ (wpAny_eqIsQuiet_tuple G ?_);refine d_ (gR H ?_);refine d_ (gR G ?_);exact ia ⟨rfl,rfl,i⟩
 .rintro⟨M,L⟩ B ⟨F,rfl,_⟩;subst F;exact ia h
def hX(prog:Program)(w:World)(P:Addr->Prop)(h:Heap)(j:Array (Int×Value))(f:VP):Prop :=
 j.size=f.length/\∀(i:Nat)(e:Int×Value)(k:VN),j[i]?=J e->f[i]?=J k->∃a,e.2=.ref a/\TK prog w h k a/\e.1=TH prog w k/\P a
def hX.at'{P:Addr->Prop}{h:Heap}{j:Array (Int×Value)}{f:VP}(x:hX prog w P h j f){i:Nat}{e:Int×Value}(l:j[i]?=J e):
  ∃k a,f[i]?=J k/\e.2=.ref a/\TK prog w h k a/\e.1=TH prog w k:=by
 have z:=eS l
 have:i<f.length:=by rw[<-x.1];exact z
 obtain⟨a,r,u,B,_⟩:=x.2 i e f[i] l (by simp);exact⟨f[i],a,by simp,r,u,B⟩
def hX.key{P:Addr->Prop}{h:Heap}{f:Array (Int×Value)}{l:VP}(x:hX prog w P h f l){i:Nat}{k:VN}(j:l[i]?=J k):
  ∃e a,f[i]?=J e/\e.2=.ref a/\TK prog w h k a/\e.1=TH prog w k:=by
 have B:i<f.size:=by rw[x.1];exact(qt.mp j).1
 obtain⟨e,r⟩:=dY f i B;obtain⟨a,u,z,C,_⟩:=x.2 i e k r j;exact⟨e,a,r,u,z,C⟩
def zT{P:Addr->Prop}{S:Addr}{o:Obj}{r:Array (Int×Value)}{ep:Nat}{t:SetTable}{ks:VP}{k:VN}{a:Addr}{n1:Nat}{Q:SetFound->Shared->Prop}(hu:A.units<cLine)(ho:s.heap.get? S=J o)(hd:o.data=.set r ep t)(hf:t.fits r.size=I)(a9:t.dummies=#[])(ax:t.gaveWay=T)(W:WF t.mask t.place (r.map (·.1)))(u:hX prog w P s.heap r ks)(hk:TK prog w s.heap k a)(Z:¬CD t.place (sl t.mask (TH prog w k) n1))(an:∀m,m<n1->CD t.place (sl t.mask (TH prog w k) m))(be:n1<10*turns t.mask)(h1:k∈ks->Q (.there Y) s)(h2:k∉ks->Q (.free (sl t.mask (TH prog w k) n1) T) s):
  ∀(l n:Nat)(j:Option Probe),j.getD (t.probeStart (TH prog w k))=st t.mask (TH prog w k) n->n<=n1->n1-n<l ->
   (∀(m i:Nat),m<n->t.place[i]?=J (sl t.mask (TH prog w k) m)->ks[i]?≠J k) ->
   wpAny (model prog w) A (setSearchFrom S (.ref a) (TH prog w k) I l j) Q E s:=by
 intro l
 induction l with
 |zero=>intro n j _ _ h;lia
 |succ f ih =>
  intro n j a5 hn bi B;unfold setSearchFrom;refine d_ (wpAny_setState_of ho hd hf ?_);dsimp only;rw[ax];simp only[sf,if_false];rw[a5];have a4:=B8 t a9 W.rise (λi=>(r[i]?.map (·.1)).getD 0) (TH prog w k) n1 Z an (10*turns t.mask) n hn ⋯;have F:∀i:Nat,ks[i]?=J k->∃m,m<n1/\t.place[i]?=J (sl t.mask (TH prog w k) m):=by
   intro i hi;obtain⟨e,b,C,_,_,L⟩:=u.key hi;have hl:i<t.place.size:=by have:=W.size;simp at this;rw[this];exact eS C
   obtain⟨v,hv⟩:=dY t.place i hl;obtain⟨m,em,hm⟩:=W.reach i (TH prog w k) v (by simp[C,L]) hv;refine⟨m,?_,by rw[em];exact hv⟩;by_cases ay:m<n1
   .exact ay
   .exfalso;by_cases X:m=n1
    .subst X;exact Z ⟨i,by rw[em];exact hv⟩
    .exact Z (hm n1 ⋯)
  rcases a4 with⟨e1,e2⟩|⟨m,i,q1,q2,q3,q4,q5,q6⟩
  .have R:t.probe (λi=>(r[i]?.map (·.1)).getD 0) (TH prog w k) (st t.mask (TH prog w k) n)=J (.empty (sl t.mask (TH prog w k) n1) Y):=e1;erw [R];dsimp only;refine ia (h2 λab=>?_);obtain⟨i,hi⟩:=Bs.mp ab;obtain⟨m,hm,hp⟩:=F i hi;by_cases a7:m<n
   .exact B m i a7 hp hi
   .obtain⟨e,b,C,_,_,L⟩:=u.key hi;exact e2 m i ⋯ hm hp (by simp[C,L])
  .have R:t.probe (λi=>(r[i]?.map (·.1)).getD 0) (TH prog w k) (st t.mask (TH prog w k) n)=J (.candidate (sl t.mask (TH prog w k) m) i (st t.mask (TH prog w k) (m+1))):=q5;erw [R];dsimp only;have a3:i<r.size:=by
    have:=W.size;simp at this;rw[<-this];exact eS q3
   obtain⟨e,C⟩:=dY r i a3;obtain⟨k',b,as,eb,hb,L⟩:=u.at' C;obtain⟨eh,ev⟩:=e;simp only at eb L;subst eb
   have ap:wpAny (model prog w) A (do
     let J (_,y):=r[i]? | unsupported "internal:set-entry"
     let z <-holding [y] (eqBool y (.ref a))
     let(es',_,t') <-setState S
     if I&&z then return .there Y
     let J same:=t'.sameMemory t.moves t.mask|unsupported "set.changed-during-lookup:is-the-new-block-at-the-old-address"
     let O <-match(if same then t'.slot (sl t.mask (TH prog w k) m)else .empty) with
      |.live H=>match es'[H]? with
       |some (_,y')=>do pure (if <-isSame y' y then J H else Y)
       |none=>pure Y
      |_=>pure Y
     match O with
     |none=>rule "set.search.anew";setSearchFrom S (.ref a) (TH prog w k) I f Y
     |some H=>if z then return .there (J H)else setSearchFrom S (.ref a) (TH prog w k) I f (J (st t.mask (TH prog w k) (m+1)))) Q E s:=by
    rw[C];dsimp only;refine d_ (wpAny_holding (wpAny_eqBool_tuple hu hb hk ?_));refine d_ (wpAny_setState_of ho hd hf ?_);dsimp only;by_cases M:k'=k
    .subst M;simp only[decide_true,Bool.and_self,if_true];exact ia (h1 (Bs.mpr ⟨i,as⟩))
    .simp only[M,decide_false,Q0,sf,if_false];have a8:t.sameMemory t.moves t.mask=J I:=by unfold SetTable.sameMemory;simp
     rw[a8];simp only[if_true];rw[qZ t W.rise i _ q3];dsimp only;rw[C];dsimp only;refine d_ (wpAny_isSame_ref_self ?_);simp only[if_true];refine d_ (ia ?_);dsimp only;refine ih (m+1) _ rfl ⋯ ⋯ ?_;intro m' H bj U G;by_cases a6:m'<n
     .exact B m' H a6 U G
     .by_cases az:m'<m
      .obtain⟨e,b,C,_,_,L⟩:=u.key G;exact q6 m' H ⋯ az U (by simp[C,L])
      .have:m'=m:=by lia
       subst this;have a1:=iW _ _ _ W.rise q3;have a2:=iW _ _ _ W.rise U
       have:H=i:=by lia
       subst this;rw[as]at G;exact M (Option.some.inj G)
   cases ba:t.led with
   |true =>
    simp only[GN,sf,if_false];exact ap
   |false =>
    simp only[Mf,if_true];refine d_ (pN hk ?_ ?_)
    .intro v hv;obtain⟨e,a0,rfl⟩:=ml.mp hv;have X:e∈r.toList:=by
      have:e∈r.filter (λx=>x.1==TH prog w k):=Array.mem_toList_iff.mp a0
      exact Array.mem_toList_iff.mpr (Array.mem_filter.mp this).1
     obtain⟨q,hq⟩:=Bs.mp X;obtain⟨k2,b2,_,e2,h2,_⟩:=u.at' (i:=q) (e:=e) (by simpa using hq);exact⟨b2,k2,e2,h2⟩
    .simp only[sf,if_false];exact ap
structure TTab(prog:Program)(w:World)(P:Addr->Prop)(h:Heap)(S:Addr)(led:Bool)(o:Obj)(es:Array (Int×Value))(ep:Nat)(t:SetTable)(ks:VP):Prop where
 get:h.get? S=J o
 ex:o.ExactSet
 data:o.data=.set es ep t
 dm:t.dummies=#[]
 mask:t.mask=7\/t.mask=31\/t.mask=127
 plain:t.plain=I
 led':t.led=led
 wf:WF t.mask t.place (es.map (·.1))
 ents:hX prog w P h es ks
def lQ(t:SetTable)(n:Nat):Prop:=n*5<t.mask*3
def dC(prog:Program)(w:World)(P:Addr->Prop)(h:Heap)(S:Addr)(led:Bool)(i:VP):Prop :=
 ∃o j l t f,TTab prog w P h S led o j l t f/\lQ t j.size/\f.Perm i/\i.Nodup
def wm(h:M=7\/M=31\/M=127):gh M:=by
 rcases h with h|h | h<;>subst h
 .exact Nz
 .exact Jf
 .exact Fh
def TTab.size{P:Addr->Prop}{h:Heap}{S:Addr}{led:Bool}{o:Obj}{f:Array (Int×Value)}{i:Nat}{t:SetTable}{j:VP}(x:TTab prog w P h S led o f i t j):t.place.size=f.size:=by have:=x.wf.size;simpa using this
def TTab.fits{P:Addr->Prop}{h:Heap}{S:Addr}{led:Bool}{o:Obj}{f:Array (Int×Value)}{i:Nat}{t:SetTable}{j:VP}(x:TTab prog w P h S led o f i t j)(l:f.size<=t.mask):t.fits f.size=I:=by
 unfold SetTable.fits SetTable.fill
 have:=x.size
 simp[this,x.dm];exact l
def TTab.odd{P:Addr->Prop}{h:Heap}{S:Addr}{led:Bool}{o:Obj}{j:Array (Int×Value)}{f:Nat}{t:SetTable}{i:VP}(x:TTab prog w P h S led o j f t i):t.gaveWay=T:=by unfold SetTable.gaveWay;rcases x.mask with h|h | h<;>rw[h]<;>rfl
def Fm(r:Heap.SameBut S h h')(z:h.get? S=J o)(j:o.ExactSet)(x:TK prog w h k a):TK prog w h' k a:=by
 obtain⟨u,items,n,f,l,hd,B⟩:=x;have i:a≠S:=by rintro rfl;obtain rfl:=Option.some.inj (f.symm.trans z);rw[j.1]at l;exact absurd l (by simp)
 exact⟨u,items,n,(r.2 a i).trans f,l,hd,B⟩
def rK(r:Heap.SameBut S h h')(l:h.get? S=J o)(j:o.ExactSet)(x:hX prog w P h es ks):hX prog w P h' es ks :=
 ⟨x.1,λi e k a b=>let⟨c,d,f,g⟩:=x.2 i e k a b;⟨c,d,Fm r l j f,g⟩⟩
def rM{h:Heap}{S:Addr}{o:Obj}{l f:Array (Int×Value)}{j:Nat}{t i:SetTable}(r:h.get? S=J o)(hd:o.data=.set l j t):
  (h.update S (Obj.putSet f i)).get? S=J { o with data:=.set f (j+1) i}:=by
 have:=Ho (Obj.putSet f i) r (by rw[putSet_of f i hd];rfl)
 rw[putSet_of f i hd]at this;exact this
def Au(x:hX prog w P h es ks)(f:Array Nat)(z:f.toList.Perm (List.range es.size)):
  hX prog w P h (f.filterMap (es[·]?)) (f.toList.filterMap (ks[·]?))/\(f.toList.filterMap (ks[·]?)).Perm ks:=by
 have j:∀i,i∈f.toList->i<es.size:=λi l=>by simpa using z.mem_iff.mp l
 have F:=λi l=>dY es i (j i l);have G:∀i,i∈f.toList->∃v,ks[i]?=J v:=λi l=>⟨_,zb (by rw[<-x.1];exact j i l)⟩;have e1:(f.filterMap (es[·]?)).toList=f.toList.filterMap (es[·]?):=by simp
 have B:(f.toList.filterMap (ks[·]?)).Perm ks:=by
  have a:=z.filterMap (ks[·]?);have b:(List.range es.size).filterMap (ks[·]?)=ks:=by
   have:=j7 ks.toArray
   simp only[L5]at this;rw[x.1];exact this
  rw[b]at a;exact a
 have p1:(f.toList.filterMap (es[·]?)).Perm es.toList:=by have a:=z.filterMap (es[·]?);rw[j7]at a;exact a
 refine⟨⟨?_,?_⟩,B⟩
 .rw[<-B6,e1,p1.length_eq,B.length_eq,B6,x.1]
 .intro i e k r u;rw[<-v_,e1,ff _ _ F]at r;rw[ff _ _ G]at u
  cases C:f.toList[i]? with
  |none=>rw[C]at r;cases r
  |some q =>
   rw[C]at r u;exact x.2 q e k r u
def NB:SetTable.sizeAbove (SetTable.grown 5)=32:=by decide
def NC:SetTable.sizeAbove (SetTable.grown 19)=128:=by decide
def uC{P:Addr->Prop}{S:Addr}{led:Bool}{o:Obj}{r:Array (Int×Value)}{ep:Nat}{t:SetTable}{U:VP}{i M:Nat}{Q:Unit->Shared->Prop}(f:TTab prog w P s.heap S led o r ep t U)(C:r.size<=t.mask)(W:SetTable.sizeAbove i=M+1)(l:M=7\/M=31\/M=127)(u:r.size*5<M*3)(h:∀L o' z O X B,Heap.SameBut S s.heap L->TTab prog w P L S led o' z O X B->lQ X z.size->B.Perm U->Q () { s with heap:=L}):
  wpAny (model prog w) A (setRelay S i) Q E s:=by
 obtain⟨R,j,e1,w1,H,p1,Z⟩:=Fl M (wm l) (λe:Int×Value=>e.1) r ⋯ t.finger (t.movedTo M) t.led t.plain;have F:t.relaid (r.map (·.1)) i=J ({ mask:=M,place:=R,dummies:=#[],finger:=t.finger,led:=t.led,moves:=t.movedTo M,plain:=t.plain},j):=by unfold SetTable.relaid;rw[W];exact e1
 refine d_ (wpAny_setState_of f.get f.data (f.fits C) ?_);dsimp only;have G:¬SetTable.sizeAbove i>sizeLine:=by rw[W];rcases l with h|h | h<;>rw[h]<;>decide
 rw[f_ G,F];have hz:r.size<=sizeLine:=by rw[sizeLine_eq];rcases l with h|h | h<;>lia
 refine d_ (?_:wpAny _ _ (if((j.filterMap (r[·]?)).size != r.size)=I then _ else _) _ _ _);rw[f_ (by simp[H])];refine ia ?_;refine wpAny_storeSet_of f.get f.data ?_ (by rw[H];exact hz);have sb:=Heap.SameBut.update s.heap S (Obj.putSet (j.filterMap (r[·]?)) { mask:=M,place:=R,dummies:=#[],finger:=t.finger,led:=t.led,moves:=t.movedTo M,plain:=t.plain});obtain⟨n1,n2⟩:=Au f.ents j Z;refine h _ _ _ _ _ _ sb ⟨rM f.get f.data,f.ex,rfl,rfl,l,f.plain,f.led',w1,rK sb f.get f.ex n1⟩ ?_ n2;rw[H];exact u
def Cb(x:hX prog w P h es ks)(u:p<=es.size)(C:TK prog w h k a)(F:P a):
  hX prog w P h (insertAt es p (TH prog w k,.ref a)) (ks.take p++k::ks.drop p):=by
 have H:=x.1;refine⟨?_,?_⟩
 .rw[dH _ _ _ u];simp;lia
 .intro i e z j f;rw[cK _ _ _ u]at j;by_cases r:i<p
  .rw[c_ r]at j;rw[sd (by simp;lia),O9 r]at f;exact x.2 i e z j f
  .rw[f_ r]at j;rw[C5 (by simp;lia)]at f;have l:(ks.take p).length=p:=by simp;lia
   rw[l]at f;by_cases B:i=p
   .rw[c_ B]at j
    have:i-p=0:=by lia
    rw[this]at f;simp at f;cases j;subst f;exact⟨a,rfl,C,rfl,F⟩
   .rw[f_ B]at j;obtain⟨q,G⟩:∃q,i-p=q+1:=⟨i-p-1,⋯⟩;rw[G,List.getElem?_cons_succ,Po]at f
    have:p+q=i-1:=by lia
    rw[this]at f;exact x.2 (i-1) e z j f
def BY(p:Nat)(k:VN):(ks.take p++k::ks.drop p).Perm (ks++[k]):=by have f:(ks.take p++k::ks.drop p).Perm (k::(ks.take p++ks.drop p)):=Mc;rw[DZ]at f;exact f.trans (TQ k ks).symm
def Ji{P:Addr->Prop}{S a:Addr}{led:Bool}{F:VP}{k:VN}{Q:Bool->Shared->Prop}(hu:A.units<cLine)(f:dC prog w P s.heap S led F)(hk:TK prog w s.heap k a)(hP:P a)(a2:k∈F\/F.length<66)(h:∀b H,Heap.SameBut S s.heap H->dC prog w P H S led (if k∈F then F else F++[k])->Q b { s with heap:=H}):
  wpAny (model prog w) A (setAddHashed S (.ref a) (TH prog w k)) Q E s:=by
 obtain⟨o,z,ep,t,C,f,hr,O,az⟩:=f;unfold lQ at hr;have Z:z.size<=t.mask:=by rcases f.mask with e|e | e<;>rw[e]at hr ⊢<;>lia
 have hf:=f.fits Z;have a5:t.place.size<=t.mask:=by rw[f.size];exact Z
 obtain⟨l,a8,a0,X⟩:=x9 t.place f.wf.rise t.mask (wm f.mask) a5 (TH prog w k);have a3:t.mask<=127:=by rcases f.mask with e|e | e<;>lia
 have a6:z.size=F.length:=by rw[f.ents.1,O.length_eq]
 refine wpAny_holding ?_;refine d_ (wpAny_setState_of f.get f.data hf ?_);dsimp only;have a4:byScan (.ref a) z=T:=rfl;rw[a4];unfold setSearch;refine d_ (zT (n1:=l) (ks:=C) hu f.get f.data hf f.dm f.odd f.wf f.ents hk a0 X (by unfold turns;lia) ?_ ?_ 100000 0 Y rfl (ya _) ⋯ (λm i hm=>absurd hm (QZ m)))
 .intro R;have r:k∈F:=O.mem_iff.mp R;dsimp only;refine ia ?_
  have:=h T s.heap (Heap.SameBut.refl _ _)
  rw[c_ r]at this;exact this ⟨o,z,ep,t,C,f,hr,O,az⟩
 .intro R;have r:k∉F:=λx=>R (O.mem_iff.mpr x);have a7:F.length<66:=a2.resolve_left r;rw[f_ r]at h;dsimp only;refine d_ (wpAny_setState_of f.get f.data hf ?_);dsimp only;have a1:t.put (sl t.mask (TH prog w k) l)=({ t with place:=insertAt t.place (below t.place (sl t.mask (TH prog w k) l)) (sl t.mask (TH prog w k) l)},below t.place (sl t.mask (TH prog w k) l)):=by
   unfold SetTable.put;simp only[f.dm,wU,sf,if_false]
  rw[a1];dsimp only;rw[c_ f.plain];refine d_ (jN hk ?_);simp only[if_true];have hp:=(eK t.place (sl t.mask (TH prog w k) l) f.wf.rise).1;have ay:below t.place (sl t.mask (TH prog w k) l)<=z.size:=by rw[<-f.size];exact hp
  have G:=dH z (below t.place (sl t.mask (TH prog w k) l)) (TH prog w k,.ref a) ay;refine d_ (wpAny_storeSet_of f.get f.data ?_ (by rw[G,sizeLine_eq];lia))
  have sb:=Heap.SameBut.update s.heap S (Obj.putSet (insertAt z (below t.place (sl t.mask (TH prog w k) l)) (TH prog w k,.ref a))
   { t with place:=insertAt t.place (below t.place (sl t.mask (TH prog w k) l)) (sl t.mask (TH prog w k) l)})
  have T2:TTab prog w P (s.heap.update S (Obj.putSet (insertAt z (below t.place (sl t.mask (TH prog w k) l)) (TH prog w k,.ref a))
    { t with place:=insertAt t.place (below t.place (sl t.mask (TH prog w k) l)) (sl t.mask (TH prog w k) l)})) S led
    { o with data:=.set (insertAt z (below t.place (sl t.mask (TH prog w k) l)) (TH prog w k,.ref a)) (ep+1) { t with place:=insertAt t.place (below t.place (sl t.mask (TH prog w k) l)) (sl t.mask (TH prog w k) l)}}
    (insertAt z (below t.place (sl t.mask (TH prog w k) l)) (TH prog w k,.ref a)) (ep+1)
    { t with place:=insertAt t.place (below t.place (sl t.mask (TH prog w k) l)) (sl t.mask (TH prog w k) l)}
    (C.take (below t.place (sl t.mask (TH prog w k) l))++k::C.drop (below t.place (sl t.mask (TH prog w k) l))):=by
   refine⟨rM f.get f.data,f.ex,rfl,f.dm,f.mask,f.plain,f.led',?_,rK sb f.get f.ex (Cb f.ents ay hk hP)⟩;rw[ve];exact Jg t.mask t.place (z.map (·.1)) f.wf (TH prog w k) l a0 X
  have U:(C.take (below t.place (sl t.mask (TH prog w k) l))++k::C.drop (below t.place (sl t.mask (TH prog w k) l))).Perm (F++[k]):=(BY _ k).trans (O.append_right [k]);have L:(F++[k]).Nodup:=by
   rw[CJ];refine⟨az,by simp,λx hx y hy=>?_⟩
   have:y=k:=by simpa using hy
   subst this;rintro rfl;exact r hx
  have W:({ t with place:=insertAt t.place (below t.place (sl t.mask (TH prog w k) l)) (sl t.mask (TH prog w k) l)}:SetTable).fill=z.size+1:=by unfold SetTable.fill;rw[dH _ _ _ hp,f.size];simp[f.dm]
  by_cases j:({ t with place:=insertAt t.place (below t.place (sl t.mask (TH prog w k) l)) (sl t.mask (TH prog w k) l)}:SetTable).tooFull=I
  .have B:(z.size+1)*5>=t.mask*3:=by
    unfold SetTable.tooFull at j;rw[W]at j;simpa using j
   rw[c_ (by rw[j];rfl)];have an:(t.mask=7/\z.size=4)\/(t.mask=31/\z.size=18):=by rcases f.mask with e|e | e<;>rw[e]at hr B<;>lia
   refine d_ (wpAny_mono (Q:=λ_ s'=>∃H,s'={ s with heap:=H}/\Heap.SameBut S s.heap H/\dC prog w P H S led (F++[k])) ?_ (λu s' hq=>?_) λ_ _ x=>x)
   .rcases an with⟨c1,c2⟩|⟨c1,c2⟩
    .have e5:z.size+1=5:=by lia
     rw[e5];refine uC (M:=31) (s:={ s with heap:=_}) T2 (by rw[G];show z.size+1<=t.mask;lia) NB (.inr (.inl rfl)) (by rw[G];lia) λH o' ap ax t' ab as T3 r3 p3=>?_;exact⟨H,rfl,sb.trans as,o',ap,ax,t',ab,T3,r3,p3.trans U,L⟩
    .have e5:z.size+1=19:=by lia
     rw[e5];refine uC (M:=127) (s:={ s with heap:=_}) T2 (by rw[G];show z.size+1<=t.mask;lia) NC (.inr (.inr rfl)) (by rw[G];lia) λH o' ap ax t' ab as T3 r3 p3=>?_;exact⟨H,rfl,sb.trans as,o',ap,ax,t',ab,T3,r3,p3.trans U,L⟩
   .obtain⟨H,rfl,q1,q2⟩:=hq;exact ia (h I H q1 q2)
  .have B:(z.size+1)*5<t.mask*3:=by
    unfold SetTable.tooFull at j;rw[W]at j;simpa using j
   rw[f_ (by simpa using j)];refine ia (h I _ sb ⟨_,_,_,_,_,T2,?_,U,L⟩);unfold lQ;rw[G];exact B
end
end SetT
namespace SetT
open PySem.SetTable PyProof.Rows
def fh(f:VP)(k:VN):VP:=if k∈f then f else f++[k]
def k_(l:VP):VP:=l.foldl fh []
def A2(l:VP)(k:VN):k_ (l++[k])=fh (k_ l) k:=by unfold k_;rw[List.foldl_append];rfl
def zd(f:VP)(k:VN):f.length<=(fh f k).length:=by unfold fh;split<;>simp
def Ac(l:VP):∀f:VP,f.length<=(l.foldl fh f).length:=by
 induction l with
 |nil=>intro f;exact ii _
 |cons k l i=>intro f;exact o0 (zd f k) (i _)
def u8(l:VP)(i:Nat):(k_ (l.take i)).length<=(k_ l).length:=by
 have h:k_ l=(l.drop i).foldl fh (k_ (l.take i)):=by unfold k_;rw[<-List.foldl_append,DZ]
 rw[h];exact Ac _ _
def sG{l:VP}{i:Nat}{k:VN}(h:l[i]?=J k):k_ (l.take (i+1))=fh (k_ (l.take i)) k:=by rw[Mh,h];exact A2 _ _
def y9(x:VN)(l:VP):∀i:VP,x∈l.foldl fh i↔x∈i\/x∈l:=by
 induction l with
 |nil=>simp
 |cons k l r =>
  intro i;rw[QY,r];unfold fh;split
  .rename_i h
   constructor
   .rintro (f|f)
    .exact .inl f
    .exact .inr (m_ _ f)
   .rintro (f|f)
    .exact .inl f
    .rcases lb.mp f with rfl|j
     .exact .inl h
     .exact .inr j
  .constructor
   .rintro (f|f)
    .rcases nq.mp f with j|j
     .exact .inl j
     .simp_all
    .exact .inr (m_ _ f)
   .rintro (f|f)
    .exact .inl (s_ _ f)
    .rcases lb.mp f with rfl|j
     .exact .inl (oI _ (by simp))
     .exact .inr j
def eB(x:VN)(l:VP):x∈k_ l↔x∈l:=by unfold k_;rw[y9];simp
section
variable{prog:Program}{w:World}{A:Around}{E:VB}{s:Shared}
abbrev PB(H0:Heap)(R:Addr->Prop):Addr->Prop:=λa=>(∃o,H0.get? a=J o)/\R a
def CF(f h:Heap):Prop:=∀b o,f.get? b=J o->h.get? b=J o
def lC(x:CF H0 h)(t:TK prog w H0 k a):TK prog w h k a:=by obtain⟨o,items,n,f,r⟩:=t;exact⟨o,items,n,x a o f,r⟩
def xj{j h B:Heap}{G:Addr->Prop}{S:Addr}{led:Bool}{F:VP}(f:dC prog w (PB j G) h S led F)(Q:∀o,h.get? S=J o->B.get? S=J o)(x:CF j h)(L:CF j B):dC prog w (PB j G) B S led F:=by
 obtain⟨o,P,M,t,l,f,r,p,n⟩:=f;refine⟨o,P,M,t,l,⟨Q o f.get,f.ex,f.data,f.dm,f.mask,f.plain,f.led',f.wf,f.ents.1,λi e k a b=>?_⟩,r,p,n⟩;obtain⟨c,d,⟨u,C,m,R,q⟩,g,⟨H,z⟩,O⟩:=f.ents.2 i e k a b;have e1:=Option.some.inj (R.symm.trans (x c H z));subst e1;exact⟨c,d,⟨u,C,m,L c u z,q⟩,g,⟨u,z⟩,O⟩
def DP(prog:Program)(w:World)(j:Heap)(items:Array Value)(f:VP):Prop :=
 items.size=f.length/\∀(i:Nat)(v:Value)(k:VN),items[i]?=J v->f[i]?=J k->∃a,v=.ref a/\TK prog w j k a
def yB{h:Heap}{S:Addr}{led:Bool}{P:Addr->Prop}{o:Obj}(l:h.get? S=J o)(j:o.ExactSet)(hd:o.data=.set #[] 0 (.fresh 0 0 led)):dC prog w P h S led []:=by
 refine⟨o,#[],0,.fresh 0 0 led,[],⟨l,j,hd,rfl,.inl rfl,rfl,rfl,⟨?_,?_,by simp[SetTable.fresh],?_⟩,rfl,?_⟩,?_,List.Perm.nil,Pu⟩
 .intro a b u v _ f;simp[SetTable.fresh]at f
 .intro i v f;simp[SetTable.fresh]at f
 .intro i r v f;simp at f
 .intro i e k f;simp at f
 .show 0*5<7*3;decide
def vn{RR:Addr->Prop}{R:Result->Shared->Prop}{H:Addr}{fp B:VS}{G:Array GenState->Array GenState->Prop}{n:Nat}{P:Nat->Value->Prop}{St:Nat->Shared->Prop}(hu:A.units+1<cLine)(W:WalksS prog w A.in1 H fp B G n P St)(S:Addr)(as:S∉fp){H0:Heap}(a3:H0.get? S=Y)(a0:∀b∈B,H0.get? b=Y){led:Bool}(u:VP)(hn:u.length=n)(ab:∀i v k,P i v->u[i]?=J k->∃a,v=.ref a/\TK prog w H0 k a/\RR a)(a7:(k_ u).length<=66):
  ∀(c i:Nat)(s:Shared),n-i=c->i<=n->St i s->CF H0 s.heap->dC prog w (PB H0 RR) s.heap S led (k_ (u.take i)) ->
   (∀f,Moved (S::B) G s f->CF H0 f.heap->dC prog w (PB H0 RR) f.heap S led (k_ u)->R (.ok (.ret .none)) f) ->
   codeAny (model prog w) A (.builtin "set.update.loop" ⟨[.ref S,.ref H],[]⟩) R s:=by
 have Z:S∉B:=λh=>as (W.sub _ h);have z:∀b∈B,b∈S::B:=λb O=>m_ _ O;have j:∀{s f:Shared},Moved B G s f->CF H0 s.heap->CF H0 f.heap:=λ{s f} r x b o e =>
  r.heap b o (λO=>by rw[a0 b O]at e;cases e) (x b o e)
 intro c
 induction c with
 |zero =>
  intro i s hc hi C Q hT L;have e:i=n:=by lia
  subst e;refine codeAny_builtin F.entry_set_update_loop ?_;refine d_ (W.done s _ _ C λf r=>?_);rw[<-hn,Pr]at hT;exact ia (L f (r.mono z) (j r Q) (xj hT (λo e=>r.heap S o Z e) Q (j r Q)))
 |succ c ih =>
  intro i s hc hi C Q hT L;have X:i<n:=by lia
  refine codeAny_builtin F.entry_set_update_loop ?_;show wpAny _ A.in1 (pyNext (.ref H) >>= _) _ _ s;refine d_ (W.item i s _ _ X C λv f hP ax r=>?_);obtain⟨k,hk⟩:∃k,u[i]?=J k:=⟨_,zb ⋯⟩;obtain⟨a,rfl,ha,hR⟩:=ab i v k hP hk;have M:=j r Q;have az:=xj hT (λo e=>r.heap S o Z e) Q M;have ap:=lC M ha;show wpAny _ A.in1 (holding [Value.ref a] (setAdd S (.ref a)) >>= _) _ _ f;refine d_ (wpAny_holding ?_);unfold setAdd;refine wpAny_holding ?_;refine d_ (wpAny_pyHash_tuple (by show A.units+1<cLine;exact hu) ap ?_);have l:=sG hk;refine Ji (s:={ f with toks:=f.toks+(k.length+1)}) (by show A.units+1<cLine;exact hu) az ap ⟨let⟨o,_,_,ho,_⟩:=ha;⟨o,ho⟩,hR⟩ ?_ λb h' sb a2=>?_
  .have h1:=u8 u (i+1);rw[l]at h1;unfold fh at h1;by_cases U:k∈k_ (u.take i)
   .exact .inl U
   .rw[f_ U]at h1;simp at h1;exact .inr ⋯
  .have ay:CF H0 h':=λq o e=>by
    have hq:q≠S:=by rintro rfl;rw[a3]at e;cases e
    exact(sb.2 q hq).trans (M q o e)
   have a5:dC prog w (PB H0 RR) h' S led (k_ (u.take (i+1))):=by rw[l];exact a2
   refine ia ⟨plainId_quiet F.plain_set_update_loop _,ih (i+1) _ ⋯ X (W.frame _ f _ _ ax (Lk _ _) λb O o e=>?_) ay a5 λa4 an a6 a1=>?_⟩
   .exact (sb.2 b (λq:b=S=>as (by rw[<-q];exact O))).trans e
   .refine L a4 (Moved.trans W.gtrans ((r.mono z).then_heap (Lk _ _) λb o O e=>?_) an) a6 a1;exact(sb.2 b (λq:b=S=>O (by rw[q];exact t3))).trans e
abbrev hV(led:Bool):Obj:={ cls:=.type "set",dict:=Y,data:=.set #[] 0 (.fresh 0 0 led)}
abbrev ci(w:World):Bool:=!w.params.followText "set-order"
def Bk(a:Value)(h:Q₁ (.ref s.heap.objs.size) { s with heap:=s.heap.push (hV (ci w))}):
  codeAny (model prog w) A (.call (.builtin "set.__new__") ⟨[.type "set",a],[]⟩) (wants Q₁ E) s:=by
 refine codeAny_of_tree ?_;refine d_ (wpAny_of_eq (PySem.F.newCall_set_1 a) (ia ⟨plainId_quiet PySem.F.plain_set_new _,codeAny_builtin PySem.F.entry_set_new ?_⟩));unfold Builtin.«set.__new__» Builtin.Frozenset.newClass;have f:=sub_set_self
 wp_walk
 refine wpAny_askSetting (ia ?_);dsimp only;simp only[newObj];exact d_ (wpAny_alloc (ia (ia h)))
set_option maxHeartbeats 3200000 in
theorem sv(hh:A.handled=Y)(hu:A.units+16<cLine)(hl:s.heap.IsList l items)(hk:DP prog w s.heap items ks)(az:(k_ ks).length<=66)(h:∀(u:Heap)(M:Nat),dC prog w (PB s.heap λa=>Value.ref a∈items.toList) u s.heap.objs.size (ci w) (k_ ks)->CF s.heap u->s.toks<=M->Q (.ref s.heap.objs.size) { s with heap:=u,toks:=M}):
  wpAny (model prog w) A (call (.type "set") [.ref l]) Q E s:=by
 obtain⟨c,tl,a5⟩:=PySem.F.called_set.mro;have ay:=PySem.F.called_set.made;have a3:=PySem.F.called_set.sub;refine wpAny_call (codeAny_of_tree ?_);show wpAny _ _ (callAny (.type "set") _) _ _ _;refine ia ⟨Code.quiet_builtin _ (by decide +kernel),codeAny_builtin PySem.F.entry_type_call ?_⟩;rw[Around.under_plain (weight_type_call_type "set" [.ref l] []) rfl];have h1:=PySem.F.called_set.notType;have h2:=PySem.F.called_set.canCreate;have be:=PySem.F.typeCall_set_1 (.ref l)
 repeat (any_goals (first | assumption | wp_step))
 refine codeAny_mono (Bk (.ref l) (E:=E) (Q₁:=λobj B=>obj=.ref s.heap.objs.size/\B={ s with heap:=s.heap.push (hV (ci w))}) ⟨rfl,rfl⟩) λr B hr=>?_
 cases r with
 |error e=>exact hr
 |ok fl =>
  cases fl with
  |ret obj =>
   obtain⟨rfl,rfl⟩:=hr;have hS:(s.heap.push (hV (ci w))).get? s.heap.objs.size=J (hV (ci w)):=tz _ rfl;have hT:Shared.TypeIs { s with heap:=s.heap.push (hV (ci w))} (.ref s.heap.objs.size) "set":=⟨_,hS,rfl⟩;have a8:=PySem.F.called_set.init.lookup;have ba:=PySem.F.called_set.init.bind (.ref s.heap.objs.size)
   repeat (any_goals (first | assumption | wp_step))
   refine codeAny_mono (codeAny_call_builtin (R:=wants (λr C=>r=.none/\∃u M,C={ s with heap:=u,toks:=M} /\
     dC prog w (PB s.heap λa=>Value.ref a∈items.toList) u s.heap.objs.size (ci w) (k_ ks)/\CF s.heap u/\s.toks<=M) E) PySem.F.called_set.init.plain PySem.F.entry_set_init (check_set_init_1 hT ?_)) λW C f=>?_
   .have bi:=hl;obtain⟨ol,Z,ab,nl,S⟩:=hl;obtain⟨a4,F,a0,z⟩:=ol;simp only at ab S;subst ab;subst S;have an:(s.heap.push (hV (ci w))).get? l=J { cls:=.type "list",dict:=F,data:=.seq items nl,slots:=z}:=n_ _ Z;have a6:=PySem.F.sub_list_set;have a7:=PySem.F.sub_list_frozenset;have a9:(Value.type "list" == Value.type "dict")=T:=by decide
    have P:(s.heap.push (hV (ci w))).IsList l items:=⟨_,an,rfl,nl,rfl⟩;unfold Builtin.«set.__init__» noKeywords Builtin.Frozenset.updateFrom;generalize ap:pyIter=PI
    wp_walk
    subst ap;refine wpAny_pyIter_list P ?_;refine d_ (wpAny_runValue ?_);have O:l<s.heap.objs.size:=nr Z;have ax:A.in1.in1.in1.handled=Y:=by simp[hh]
    have L:(s.heap.push (hV (ci w))).objs.size=s.heap.objs.size+1:=by rw[GL]
    have U:l≠(s.heap.push (hV (ci w))).objs.size:=by rw[L];exact t4 (L9 O)
    have j:∀b,s.heap.objs.size<=b->s.heap.get? b=Y:=λb hb=>by
     cases e:s.heap.get? b with
     |none=>rfl
     |some o=>exact absurd (nr e) (Nat.not_lt.mpr hb)
    have a2:s.heap.objs.size∉[(s.heap.push (hV (ci w))).objs.size,l]:=by rw[L];simp only[lb,DM,or_false,not_or];exact⟨t4 (Ma _),Ee O⟩
    refine vn (RR:=λa=>Value.ref a∈items.toList) (H0:=s.heap) (led:=ci w) (by show A.units+1+1+1<cLine;lia) ((Walks.list ax _ l U items).toS) s.heap.objs.size a2 (j _ (ii _)) ?_ ks hk.1.symm
     (λi v k hv a1=>let⟨a,e,t⟩:=hk.2 i v k hv a1;⟨a,e,t,by rw[<-e];exact Bs.mpr ⟨i,by rw[v_];exact hv⟩⟩) az (items.size-0) 0 _ ⋯ (ya _) ⟨⟨_,tz _ rfl,rfl,rfl⟩,(P.push _)⟩ ?_ ?_ ?_
    .intro b hb
     have:b=(s.heap.push (hV (ci w))).objs.size:=by simpa using hb
     rw[this,L];exact j _ (Lo _)
    .intro b o e;exact n_ _ (n_ _ e)
    .exact yB (o:=hV (ci w)) (n_ _ hS) ⟨rfl,rfl,rfl⟩ rfl
    .intro s' hm hx H;obtain⟨u,g',d',X,as⟩:=s';have eg:g'=s.gens:=hm.gens;have ed:d'=s.drawn:=hm.drawn;have eo:as=s.os:=hm.os;have et:s.toks<=X:=hm.toks;subst eg;subst ed;subst eo;show wpAny _ _ _ _ _ _;refine ia ?_;show wpAny _ _ (ret Value.none) _ _ _;exact ia ⟨rfl,u,X,rfl,H,hx,et⟩
   .cases W with
    |error e=>exact f
    |ok G =>
     cases G with
     |ret r =>
      obtain⟨rfl,u,M,rfl,H,hx,et⟩:=f
      repeat (any_goals (first | assumption | wp_step))
      exact h _ _ H hx et
     |_=>exact f.elim
  |_=>exact hr.elim
end
def dv:Slot "set_iterator" "__next__" "set_iterator.__next__" :=
 .of (owner:="set_iterator") (n:="__next__") (by kernel_rfl) (by decide +kernel) (by decide +kernel) (by decide +kernel) (.inl (by decide +kernel)) (by kernel_rfl)
def k7:Slot "set_iterator" "__iter__" "set_iterator.__iter__" :=
 .of (owner:="set_iterator") (n:="__iter__") (by kernel_rfl) (by decide +kernel) (by decide +kernel) (by decide +kernel) (.inl (by decide +kernel)) (by kernel_rfl)
def kM:entryFor table "set_iterator.__next__"=J Builtin.«set_iterator.__next__»:=entryFor_of_fast (by kernel_rfl)
def sF:entryFor table "set_iterator.__iter__"=J Builtin.«dict_keyiterator.__iter__» :=
 entryFor_alias (id':="dict_keyiterator.__iter__") (by kernel_rfl) rfl (by decide +kernel) (by kernel_rfl)
def lB(a:Value):argsOk "set_iterator.__next__" ⟨[a],[]⟩:=by unfold argsOk;kernel_rfl
def uO(a:Value):argsOk "set_iterator.__iter__" ⟨[a],[]⟩:=by unfold argsOk;kernel_rfl
def uI:entryFor table "set.__iter__"=J Builtin.«frozenset.__iter__» :=
 entryFor_alias (id':="frozenset.__iter__") (by kernel_rfl) rfl (by decide +kernel) (by kernel_rfl)
def xw{α:Type}(l:List α)(i:Nat)(h:i<l.length):(l[i]::l.eraseIdx i).Perm l:=by
 rw[List.eraseIdx_eq_take_drop_succ];have e:l.take i++l[i]::l.drop (i+1)=l:=by rw[TY h,DZ]
 exact Mc.symm.trans (List.Perm.of_eq e)
def Fo(next:Nat->Nat):∀(i k:Nat)(left:List α)(j:Array α),left.length<=i->(pickOrder.go next i k left j).toList.Perm (j.toList++left):=by
 intro i
 induction i with
 |zero =>
  intro k left j h
  have:left=[]:=DX.mp ⋯
  subst this;unfold pickOrder.go;simp
 |succ f z =>
  intro k left j h;unfold pickOrder.go
  cases left with
  |nil=>simp
  |cons x l =>
   have r:next k % (x::l).length<(x::l).length:=Nat.mod_lt _ (by simp)
   have u:=zb r;rw[u];have B:((x::l).eraseIdx (next k % (x::l).length)).length<=f:=by rw[List.length_eraseIdx_of_lt r];lia
   refine(z (k+1) _ _ B).trans ?_;rw[D_,DJ];refine List.Perm.append_left _ ?_;have C:=(xw _ _ r).symm;exact C.symm
def zC(next:Nat->Nat)(xs:Array α):(pickOrder next xs).toList.Perm xs.toList:=by
 unfold pickOrder
 have:=Fo next xs.size 0 xs.toList #[] (by simp)
 simpa using this
def yr(xs:Array Nat)(f:fw xs):below xs 0=0:=by
 obtain⟨j,i,_⟩:=eK xs 0 f;by_cases h:below xs 0=0
 .exact h
 .obtain⟨v,hv⟩:=dY xs 0 ⋯
  have:=i 0 v hv ⋯
  lia
def yK(xs:Array Nat)(f:fw xs)(i j:Nat)(h:xs[i]?=J j):below xs (j+1)=i+1:=by
 obtain⟨B,z,l⟩:=eK xs (j+1) f;by_cases u:below xs (j+1)<=i
 .have:=l i j h u;lia
 .by_cases r:i+1<below xs (j+1)
  .obtain⟨v,hv⟩:=dY xs (i+1) ⋯;have a:=z (i+1) v hv r;have b:=f i (i+1) j v ⋯ h hv;lia
  .lia
section
variable{prog:Program}{w:World}{A:Around}{E:VB}{s:Shared}
def cE(w:World)(S:Addr)(i:Nat)(f:Array (Int×Value)):Array (Int×Value):=if w.params.followText "set-order" then pickOrder (w.params.setOrder S i) f else f
def jl(w:World)(S:Addr)(i:Nat)(f:Array (Int×Value)):(cE w S i f).toList.Perm f.toList:=by
 unfold cE;split
 .exact zC _ _
 .exact List.Perm.refl _
def ND(w:World)(j S:Addr)(o:Obj)(l:Array (Int×Value))(f:Nat)(t:SetTable)(i:Nat)(h:Heap):Prop :=
 h.get? S=J o/\∃slot:Nat,h.get? j=J { cls:=.type "set_iterator",dict:=Y,data:=.fields #[.int slot 0,.int i 0,.ref S,.int l.size 0,.int f 0],slots:=#[]} /\
  (w.params.followText "set-order"=T->below t.place slot=i)
end
section
variable{prog:Program}{w:World}{A:Around}{E:VB}{s:Shared}{S it:Addr}{o:Obj}{es:Array (Int × Value)}{ep:Nat}{t:SetTable}{ks:VP}
def pA(f:ND w it S o es ep t i s.heap):s.TypeIs (.ref it) "set_iterator":=let⟨_,_,h,_⟩:=f;⟨_,h,rfl⟩
def Wkd(prog:Program)(w:World)(S:Addr)(o:Obj)(es:Array (Int×Value))(ep:Nat)(t:SetTable):Prop :=
 o.ExactSet/\o.data=.set es ep t/\t.dummies=#[]/\t.plain=I/\t.led=ci w/\fw t.place/\t.place.size=es.size/\es.size<=t.mask
def wj{i:Nat}{h:Heap}{slot:Nat}{Q:Option (Value×Nat)->Shared->Prop}(C:Wkd prog w S o es ep t)(U:s.heap.get? S=J o)(H:w.params.followText "set-order"=T->below t.place slot=i)(r:∀(x:Int×Value) f,(cE w S ep es)[i]?=J x->(w.params.followText "set-order"=T->below t.place f=i+1)->Q (J (x.2,f)) s)(u:(cE w S ep es)[i]?=Y->Q Y s):
  wpAny (model prog w) A (setNext S slot i ep) Q E s:=by
 obtain⟨T1,R,T3,X,Z,T6,O,W⟩:=C;have hf:t.fits es.size=I:=by unfold SetTable.fits SetTable.fill;simp[O,T3];exact W
 refine d_ (wpAny_setState_of U R hf ?_);unfold cE at r u
 cases l:w.params.followText "set-order" with
 |true =>
  rw[l]at r u;show wpAny _ _ (if w.params.followText "set-order"=I then _ else _) _ _ _;rw[l];simp only[bne_self_eq_false];refine d_ (d_ (wpAny_setState_of U R hf ?_));show wpAny _ _ (if w.params.followText "set-order"=I then _ else _) _ _ _;rw[l];refine d_ (wpAny_askSetting (ia ?_));refine ia ?_;show Q (((pickOrder (w.params.setOrder S ep) es)[i]?).map λe=>(e.2,slot)) s
  cases P:(pickOrder (w.params.setOrder S ep) es)[i]? with
  |none=>exact u P
  |some x=>exact r x slot P (λz=>nomatch z)
 |false =>
  rw[l]at r u;show wpAny _ _ (if w.params.followText "set-order"=I then _ else _) _ _ _;rw[l];have G:¬((!t.plain&&decide (es.size>1))=I):=by rw[X];simp
  refine(?_:wpAny _ _ (if(!t.plain&&decide (es.size>1))=I then _ else _) _ _ _);rw[f_ G];have F:¬((!t.led && !es.isEmpty)=I):=by rw[Z];simp[l]
  refine d_ (?_:wpAny _ _ (if(!t.led && !es.isEmpty)=I then _ else _) _ _ _);rw[f_ F];refine ia ?_;refine ia ?_;have B:=H l;rw[B]
  cases L:es[i]? with
  |none=>exact u L
  |some x =>
   obtain⟨j,M⟩:=dY t.place i (by rw[O];exact eS L);rw[M];exact r x (j+1) L (λ_=>yK _ T6 i j M)
def Wkd.fits(f:Wkd prog w S o es ep t):t.fits es.size=I:=by obtain⟨u,z,T3,l,r,B,i,j⟩:=f;unfold SetTable.fits SetTable.fill;simp[i,T3];exact j
def vG{i:Nat}{x:Int×Value}{Q:VV->Shared->Prop}(f:Wkd prog w S o es ep t)(z:S≠it)(l:ND w it S o es ep t i s.heap)(G:(cE w S ep es)[i]?=J x)(M:∀F,ND w it S o es ep t (i+1) F->Heap.SameBut it s.heap F->Q (J x.2) { s with heap:=F}):wpAny (model prog w) A (pyNext (.ref it)) Q E s:=by
 have L:=pA l;obtain⟨C,slot,H,B⟩:=l;refine d_ (wpAny_attempt (wpAny_callSpecial?_slot L dv (wpAny_call_entry dv L kM ?_ (lB _))));refine d_ (ia ?_);refine d_ (wpAny_fieldsOf H rfl ?_);refine d_ (wpAny_setEntries_of C f.2.1 f.fits ?_);rw[f_ (by simp)];refine d_ ?_;rw[yT,yT,yT];refine wj (h:=s.heap) f C B (λU j e1 e2=>?_) (λe1=>by rw[G]at e1;cases e1);rw[G]at e1;cases e1;refine d_ (wpAny_setField_rec H (by simp) λW P r=>?_);refine d_ (wpAny_setField_rec P (by simp) λR O u=>?_);refine ia ⟨_,rfl,ia (M R ⟨?_,j,?_,e2⟩ (r.trans u))⟩
 .rw[(r.trans u).2 S z];exact C
 .exact O
def xA{i:Nat}{Q:VV->Shared->Prop}(G:A.handled=Y)(f:Wkd prog w S o es ep t)(j:ND w it S o es ep t i s.heap)(H:(cE w S ep es)[i]?=Y)(F:∀u,Heap.ExtBut it s.heap u->Q Y { s with heap:=u}):wpAny (model prog w) A (pyNext (.ref it)) Q E s:=by
 have z:=pA j;obtain⟨C,slot,B,r⟩:=j;refine d_ (wpAny_attempt (wpAny_callSpecial?_slot (name:=Str.ofString "__next__") z dv (wpAny_call_entry dv z kM ?_ (lB _))));refine d_ (m:=slotArgs "__next__" 0 _) (ia ?_);refine d_ (wpAny_fieldsOf B rfl ?_);refine d_ (wpAny_setEntries_of C f.2.1 f.fits ?_);rw[f_ (by simp)];refine d_ ?_;rw[yT,yT,yT];refine wj (h:=s.heap) f C r (λL l e1 e2=>by rw[H]at e1;cases e1) (λe1=>?_);refine d_ (wpAny_setField B rfl (by simp) ?_);refine d_ ?_;refine d_ (m:=firstArgMember _ _) (wpAny_of_eq (a:=Value.none) (by first | rfl | (simp only[firstArgMember])) ?_);refine wpAny_newObj_type ?_ (by size_fits);refine d_ (wpAny_handled ?_);rw[show A.in1.handled=Y from G];refine d_ (ia (wpAny_throw ?_));refine d_ (wpAny_isInstance (T:="StopIteration") (b:=I) ⟨_,tz _ rfl,rfl⟩ isSubtype_stop ?_);exact ia (F _ (((Heap.SameBut.update ..).extBut.push _).push _))
def zn(G:A.handled=Y)(r:S≠it)(j:Wkd prog w S o es ep t):
  Walks prog w A it [it,S] [it] es.size (λi v=>∃x,(cE w S ep es)[i]?=J x/\v=x.2) (λi h=>ND w it S o es ep t i h) where
 sub:=λb f=>by simp at f;simp[f]
 frame:=λ_ _ _ st F=>⟨F S (by simp) _ st.1,let⟨slot,a,b⟩:=st.2;⟨slot,F it (by simp) _ a,b⟩⟩
 item:=λi s Q E M st l=>by
  have H:(cE w S ep es).size=es.size:=by rw[<-B6,(jl w S ep es).length_eq,B6]
  obtain⟨x,C⟩:=dY (cE w S ep es) i ⋯;exact vG j r st C λz B sb=>l _ z s.toks ⟨x,C,rfl⟩ B λb o f e=>sb.extBut b o (λh=>f (by simp[h])) e
 done:=λs Q E st l=>by
  have H:(cE w S ep es).size=es.size:=by rw[<-B6,(jl w S ep es).length_eq,B6]
  exact xA G j st (TX ⋯) λz L=>l z s.toks λb o f e=>L b o (λh=>f (by simp[h])) e
 self:=λ_ s Q E st l=>by
  have u:=pA st;refine wpAny_pyIter_slot u k7 (wpAny_call_entry k7 u sF ?_ (uO _));exact ia ⟨_,rfl,"set_iterator",_,u,dv.lookup,l⟩
def xW(f:Wkd prog w S o es ep t)(i:s.heap.get? S=J o)(r:Q (.ref s.heap.objs.size) { s with heap:=s.heap.push { cls:=.type "set_iterator",data:=.fields #[.int 0 0,.int 0 0,.ref S,.int es.size 0,.int ep 0]}}):
  wpAny (model prog w) A (pyIter (.ref S)) Q E s:=by
 have l:s.TypeIs (.ref S) "set":=⟨o,i,f.1.1⟩;refine wpAny_pyIter_slot l PySem.F.slot_set_iter (wpAny_call_entry PySem.F.slot_set_iter l uI ?_ (PySem.F.args_set_iter_1 _));refine d_ (d_ (ia (ia ?_)));refine d_ (d_ (wpAny_setEntries_of i f.2.1 f.fits (ia ?_)));refine d_ (d_ (wpAny_setState_of i f.2.1 f.fits ?_));refine d_ (d_ (wpAny_askSetting (ia (ia ?_))));have j:(!w.params.followText "set-order" && (!t.plain&&decide (es.size>1)))=T:=by rw[f.2.2.2.1];simp
 refine(?_:wpAny _ _ (if(!w.params.followText "set-order" && (!t.plain&&decide (es.size>1)))=I then _ else _) _ _ _);rw[f_ (by rw[j];simp)];refine d_ (ia ?_);refine d_ (wpAny_setEpoch_of i f.2.1 f.fits ?_);exact d_ (wpAny_newObj_type (ia ⟨_,rfl,"set_iterator",_,⟨_,tz _ rfl,rfl⟩,dv.lookup,r⟩))
end
section
variable{prog:Program}{w:World}{A:Around}{E:VB}{s:Shared}{S:Addr}{o:Obj}{es:Array (Int × Value)}{ep:Nat}{t:SetTable}
def B4(f:s.TypeIs (.ref S) "set")(i:Q T s):wpAny (model prog w) A (Builtin.List.listLengthHint (.ref S)) Q E s:=by refine d_ (wpAny_specialOf f PySem.F.slot_set_len.lookup ?_);dsimp only;refine d_ (wpAny_isInstance f sub_set_self ?_);refine d_ (wpAny_typeOf f ?_);exact ia i
def ue(hh:A.handled=Y)(r:Wkd prog w S o es ep t)(ho:s.heap.get? S=J o)(hn:es.size<=sizeLine)(hQ:∀Z tk,CF s.heap Z->s.heap.objs.size<Z.objs.size->s.toks<=tk->Q ((cE w S ep es).toList.map (·.2)) { s with heap:=Z,toks:=tk}):
  wpAny (model prog w) A (collect (.ref S)) Q E s:=by
 have j:S<s.heap.objs.size:=nr ho;refine d_ (wpAny_runValue (codeAny_builtin PySem.F.entry_proto_collect ?_));refine d_ (wpAny_newObj_type ?_);refine ia ⟨plainId_quiet PySem.F.plain_list_iadd _,codeAny_builtin PySem.F.entry_list_iadd ?_⟩;generalize hL:({ cls:=.type "list",data:=.seq ([]:VT).toArray}:Obj)=f;have G:(s.heap.push f).get? S=J o:=n_ _ ho;have an:(s.heap.push f).get? s.heap.objs.size=J f:=tz _ (by rw[<-hL];rfl);have z:(s.heap.push f).objs.size=s.heap.objs.size+1:=by rw[GL]
 show wpAny _ A.in1 (Builtin.List.listExtendWith (.ref s.heap.objs.size) (.ref S) (.ref s.heap.objs.size)) _ _ { s with heap:=s.heap.push f};have az:Shared.TypeIs { s with heap:=s.heap.push f} (.ref S) "set":=⟨o,G,r.1.1⟩;refine d_ (wpAny_typeOf az ?_);have h1:Builtin.List.listSameRef (.ref s.heap.objs.size) (.ref S)=T:=by simp only[Builtin.List.listSameRef,beq_eq_false_iff_ne];exact Ee j
 have h2:(Value.type "set" == Value.type "list")=T:=by decide
 have h3:(Value.type "set" == Value.type "tuple")=T:=by decide
 simp only[h1,h2,h3,Bool.or_false,sf,if_false];refine d_ (xW (s:={ s with heap:=s.heap.push f}) r G ?_);generalize hI:({ cls:=.type "set_iterator",data:=.fields #[.int 0 0,.int 0 0,.ref S,.int es.size 0,.int ep 0]}:Obj)=B;have R:((s.heap.push f).push B).get? S=J o:=n_ _ G;have ab:((s.heap.push f).push B).get? s.heap.objs.size=J f:=n_ _ an;have ax:((s.heap.push f).push B).get? (s.heap.push f).objs.size=J B:=tz _ (by rw[<-hI];rfl);show wpAny _ A.in1 _ _ _ { s with heap:=(s.heap.push f).push B};have ap:Shared.TypeIs { s with heap:=(s.heap.push f).push B} (.ref S) "set":=⟨o,R,r.1.1⟩;refine d_ (wpAny_holding (B4 ap ?_));rw[c_ (by decide +kernel)];refine d_ (wpAny_rule ?_);refine d_ ?_;show wpAny _ A.in1 (updateSeq s.heap.objs.size (·.push .none) >>= λ_=>updateSeq s.heap.objs.size (·.pop)) _ _ _;subst hL;refine d_ (wpAny_updateSeq ab rfl ?_);have u:=Ho (Obj.mapSeq (·.push Value.none)) ab rfl;refine wpAny_updateSeq u rfl ?_;have H:=Ho (Obj.mapSeq (·.pop)) u rfl;have CH:∀b O,b≠s.heap.objs.size->((s.heap.push { cls:=.type "list",data:=.seq ([]:VT).toArray}).push B).get? b=J O ->
   ((((s.heap.push { cls:=.type "list",data:=.seq ([]:VT).toArray}).push B).update s.heap.objs.size (Obj.mapSeq (·.push Value.none))).update s.heap.objs.size (Obj.mapSeq (·.pop))).get? b=J O :=
  λb O M e=>(DY _ _ (Ne.symm M)).trans ((DY _ _ (Ne.symm M)).trans e)
 have F:s.heap.objs.size≠(s.heap.push { cls:=.type "list",data:=.seq ([]:VT).toArray}).objs.size:=by rw[z];exact t4 (Ma _)
 have P:S≠(s.heap.push { cls:=.type "list",data:=.seq ([]:VT).toArray}).objs.size:=by rw[z];exact t4 (L9 j)
 have hW:=(zn (A:=A.in1) (it:=(s.heap.push { cls:=.type "list",data:=.seq ([]:VT).toArray}).objs.size) hh P r).toS;have as:s.heap.objs.size∉[(s.heap.push { cls:=.type "list",data:=.seq ([]:VT).toArray}).objs.size,S]:=by simp only[lb,DM,or_false,not_or];exact⟨F,Ee j⟩
 refine ia ⟨plainId_quiet PySem.F.plain_extend_loop _,codeAny_extend_loopS hW hn _ as _ es.size 0 _ _ _ rfl (ya _) ?_ H (ItemsOf.nil _) λs' C c' W X l=>?_⟩
 .refine⟨CH S _ (t4 j) R,0,?_,λ_=>yr _ r.2.2.2.2.2.1⟩;subst hI;exact CH _ _ (Ne.symm F) ax
 .show wpAny _ A (load s.heap.objs.size >>= _) _ _ s';refine d_ (wpAny_load X ?_);refine ia ?_;have L:C.toList=(cE w S ep es).toList.map (·.2):=by
   have hl:(cE w S ep es).size=es.size:=by rw[<-B6,(jl w S ep es).length_eq,B6]
   apply Lh;intro i;by_cases hi:i<es.size
   .obtain⟨v,hv⟩:=dY C i (by rw[l.1];exact hi);obtain⟨x,hx,e⟩:=l.2 i v hv;rw[v_,hv,vu,v_,hx,e];rfl
   .rw[Do (by rw[B6,l.1];lia),Do (by rw[BL,B6,hl];lia)]
  rw[L];obtain⟨Z,g',d',U,ay⟩:=s';have eg:g'=s.gens:=W.gens;have ed:d'=s.drawn:=W.drawn;have eo:ay=s.os:=W.os;have et:s.toks<=U:=W.toks;subst eg;subst ed;subst eo;refine hQ Z U (λb O e=>?_) (nr X) et;have M:b<s.heap.objs.size:=nr e;refine W.heap b O ?_ (CH b O (t4 M) (n_ _ (n_ _ e)));simp only[lb,DM,or_false,not_or];exact⟨t4 M,by rw[z];exact t4 (L9 M)⟩
def vC(hh:A.handled=Y)(f:dC prog w (PB H0 R) s.heap S (ci w) ks)(hx:CF H0 s.heap)(hQ:∀M O vs F,CF s.heap M->s.heap.objs.size<M.objs.size->s.toks<=O->DP prog w H0 (List.toArray vs) F->(∀v∈vs,∃a,v=.ref a/\R a)->F.Perm ks->Q vs { s with heap:=M,toks:=O}):
  wpAny (model prog w) A (collect (.ref S)) Q E s:=by
 obtain⟨o,es,ep,t,r,f,hr,U,ap⟩:=f;unfold lQ at hr;have L:es.size<=t.mask:=by rcases f.mask with e|e | e<;>rw[e]at hr ⊢<;>lia
 have an:t.mask<=127:=by rcases f.mask with e|e | e<;>lia
 refine ue hh ⟨f.ex,f.data,f.dm,f.plain,f.led',f.wf.rise,f.size,L⟩ f.get (by rw[sizeLine_eq];lia) λM O e1 e3 e2=>?_;have hp:=jl w S ep es;have l:∀e∈es.toList,∃k a,e.2=.ref a/\TK prog w H0 k a/\R a:=by intro e z;obtain⟨i,j⟩:=Bs.mp z;rw[v_]at j;obtain⟨k,u⟩:∃k,r[i]?=J k:=⟨_,zb (by rw[<-f.ents.1];exact eS j)⟩;obtain⟨c,d,⟨oc,ab,m,Z,q⟩,g,⟨P,W⟩,hR⟩:=f.ents.2 i e k j u;have e3:oc=P:=Option.some.inj (Z.symm.trans (hx c P W));subst e3;exact⟨k,c,d,⟨oc,ab,m,W,q⟩,hR⟩
 let G:Int×Value->VN:=λe=>Classical.epsilon λk=>∃a,e.2=.ref a/\TK prog w H0 k a
 have C:∀e∈es.toList,∃a,e.2=.ref a/\TK prog w H0 (G e) a:=by intro e z;obtain⟨k,a,B,X,_⟩:=l e z;exact Classical.epsilon_spec (p:=λk=>∃a,e.2=.ref a/\TK prog w H0 k a) ⟨k,a,B,X⟩
 have H:es.toList.map G=r:=by
  apply Lh;intro i;rw[vu,v_]
  cases j:es[i]? with
  |none =>
   have:r.length<=i:=by
    rw[<-f.ents.1]
    have:=QH.mp j
    lia
   rw[Do this];rfl
  |some e =>
   obtain⟨k,u⟩:∃k,r[i]?=J k:=⟨_,zb (by rw[<-f.ents.1];exact eS j)⟩;obtain⟨c,d,Z,g,⟨P,W⟩,_⟩:=f.ents.2 i e k j u;have z:e∈es.toList:=Bs.mpr ⟨i,by rw[v_];exact j⟩;obtain⟨a,B,X⟩:=C e z;rw[d]at B;cases B;have h3:=lC hx X;rw[u];show J (G e)=J k;rw[IsTupleKey.inj h3 Z]
 refine hQ M O _ ((cE w S ep es).toList.map G) e1 e3 e2 ⟨by simp,?_⟩ ?_ ?_
 .intro i v k hv u;rw[L5,vu]at hv;rw[vu]at u
  cases j:(cE w S ep es).toList[i]? with
  |none=>rw[j]at hv;cases hv
  |some e =>
   rw[j]at hv u;cases hv;cases u;exact C e (hp.mem_iff.mp (Df j))
 .intro v hv;obtain⟨e,z,rfl⟩:=ml.mp hv;obtain⟨k,a,B,_,h3⟩:=l e (hp.mem_iff.mp z);exact⟨a,B,h3⟩
 .have:=hp.map G
  rw[H]at this;exact this.trans U
end
end SetT
namespace SortT
open PyProof.Rows
structure vb(prog:Program)(w:World)(A:Around)(E:VB)(s:Shared)(kd:SortKind)(O:KeyOrd) where
 key:Keyed->O.α
 dflt:O.α
 good:Keyed->Prop
 ask:∀(x y:Keyed)(st:SortSt)(Q:Option Bool->SortSt->Prop),good x->good y->kindOf st=kd->Q (J (O.blt (key x) (key y))) st->wpS (model prog w) A E s (lt' x y) Q st
section
variable{prog:Program}{w:World}{A:Around}{E:VB}{s:Shared}{kd:SortKind}{O:KeyOrd}(C:vb prog w A E s kd O)
def kk(xs:Array Keyed)(i:Nat):O.α:=match xs[i]? with
 |some p=>C.key p
 |none=>C.dflt
def r_(xs:Array Keyed)(lo f:Nat):Prop:=∀i j,lo<=i->i<=j->j<f->O.kle (kk C xs i) (kk C xs j)
def Lz(xs:Array Keyed)(lo f:Nat):Prop:=∀i j,lo<=i->i<=j->j<f->O.kle (kk C xs j) (kk C xs i)
def dh(xs:Array Keyed):Prop:=∀p,p∈xs.toList->C.good p
structure SB(kd:SortKind)(a₀:Array Keyed)(st:SortSt):Prop where
 perm:(arrOf st).Perm a₀
 kind:kindOf st=kd
 failed:failedOf st=Y
def dq(lo:Nat)(xs ys:Array Keyed):Prop:=∀i,i<lo->ys[i]?=xs[i]?
def dq.rfl'{lo:Nat}{xs:Array Keyed}:dq lo xs xs:=λ_ _=>rfl
def dq.trans{lo:Nat}{xs ys f:Array Keyed}(h:dq lo xs ys)(g:dq lo ys f):dq lo xs f:=λi j=>(g i j).trans (h i j)
variable{C}{a₀:Array Keyed}{st:SortSt}
def SB.size(h:SB kd a₀ st):(arrOf st).size=a₀.size:=h.perm.size_eq
def SB.arr(h:SB kd a₀ st)(f:xs.Perm (arrOf st)):SB kd a₀ (setArr st xs):=⟨f.trans h.perm,h.kind,h.failed⟩
def SB.good(h:SB kd a₀ st)(f:dh C a₀):dh C (arrOf st):=λp i=>f p ((QI.mp h.perm).mem_iff.mp i)
def ft(h:xs[i]?=ys[j]?):kk C xs i=kk C ys j:=by unfold kk;rw[h]
def aQ(h:xs[i]?=J p):kk C xs i=C.key p:=by unfold kk;rw[h]
def bE{xs:Array Keyed}(g:dh C xs){i:Nat}{p:Keyed}(h:xs[i]?=J p):C.good p:=by refine g p (Bs.mpr ⟨i,?_⟩);rw[v_];exact h
def aS(f:i<xs.size)(h:∀p,xs[i]?=J p->Q p st):wpS (model prog w) A E s (elem' xs i) Q st:=by rw[elem'_eq];have e:=getElem?_pos xs i f;rw[e];exact wpS_pure (h _ e)
def lF{i j:Nat}{Q:Option Bool->SortSt->Prop}(f:SB kd a₀ st)(l:dh C a₀)(B:i<a₀.size)(z:j<a₀.size)(h:Q (J (O.blt (kk C (arrOf st) i) (kk C (arrOf st) j))) st):wpS (model prog w) A E s (ltAt' i j) Q st:=by
 refine wpS_bind (wpS_get ?_);refine wpS_bind (aS (by rw[f.size];exact B) λx r=>wpS_bind (aS (by rw[f.size];exact z) λy u=>?_));rw[aQ r,aQ u]at h;exact C.ask x y st Q (bE (f.good l) r) (bE (f.good l) u) f.kind h
def rY(l:src<xs.size)(hd:d<=src)(i:Nat):
  kk C (bubble xs src d) i=if i=src-d then kk C xs src else if src-d<i/\i<=src then kk C xs (i-1)else kk C xs i:=by
 have e:=getElem?_bubble l d hd i;split
 .next f=>rw[c_ f]at e;exact ft e
 .next f =>
  rw[f_ f]at e;split
  .next j=>rw[c_ j]at e;exact ft e
  .next j=>rw[f_ j]at e;exact ft e
def lD(l:j<=xs.size)(q:Nat):
  kk C (mirror xs i j ((j-i)/2)) q=if i<=q/\q<j then kk C xs (i+j-1-q)else kk C xs q:=by
 have e:=getElem?_mirror_all (i:=i) l q;split
 .next f=>rw[c_ f]at e;exact ft e
 .next f=>rw[f_ f]at e;exact ft e
def d7(l:j<=xs.size)(f:∀q,i<=q->q<j->kk C xs q=kk C xs (j-1))(q:Nat):
  kk C (mirror xs i j ((j-i)/2)) q=kk C xs q:=by
 rw[lD l];split
 .next h=>rw[f (i+j-1-q) ⋯ ⋯,f q h.1 h.2]
 .rfl
def gF{xs:Array Keyed}{lo i j:Nat}(f:j<=xs.size)(h:lo<=i):dq lo xs (mirror xs i j ((j-i)/2)):=λq l=>by
 rw[getElem?_mirror_all f,f_ ⋯]
def vE{xs:Array Keyed}{lo f d:Nat}(i:f<xs.size)(hd:d<=f)(h:lo<=f-d):dq lo xs (bubble xs f d):=λq j=>by
 rw[getElem?_bubble i d hd,f_ ⋯,f_ ⋯]
abbrev AS:=Option (VE)×Nat
abbrev DS:=Option (VE)×Nat×Nat
def lh(p a f:Nat):StateT SortSt Sem AS :=
 forIn [a:f] ((Y,a):AS) λ_ c=>do
  let q <-ltAt' (p+c.2) (p+c.2-1)
  match q with
  |some z=>if z=I then pure (ForInStep.done (Y,c.2))else pure (ForInStep.yield (Y,c.2+1))
  |_=>pure (ForInStep.done (J Y,c.2))
def Jj(p n f:Nat):StateT SortSt Sem (VE):=do
 reverseSlice' p (p+n)
 let c <-lh p n f
 match c.1 with
 |some r=>pure r
 |none=>pure (J c.2)
def Fp(p n f:Nat):StateT SortSt Sem DS :=
 forIn [n:f] ((Y,n,0):DS) λ_ c=>do
  let q <-ltAt' (p+c.2.1) (p+c.2.1-1)
  match q with
  |some z =>
   if z=I then
    if c.2.2>0 then do
     reverseSlice' (p+c.2.1-(c.2.2+1)) (p+c.2.1)
     pure (ForInStep.yield (Y,c.2.1+1,0))
    else pure (ForInStep.yield (Y,c.2.1+1,0))
   else do
    let q <-ltAt' (p+c.2.1-1) (p+c.2.1)
    match q with
    |some z=>if z=I then pure (ForInStep.done (Y,c.2.1,c.2.2))else pure (ForInStep.yield (Y,c.2.1+1,c.2.2+1))
    |_=>pure (ForInStep.done (J Y,c.2.1,c.2.2))
  |_=>pure (ForInStep.done (J Y,c.2.1,c.2.2))
def Jk(p n f:Nat):StateT SortSt Sem (VE):=do
 liftM (rule "list.sort.descending-run")
 let c <-Fp p (n+1) f
 match c.1 with
 |some r=>pure r
 |none =>
  if c.2.2>0 then do
   reverseSlice' (p+c.2.1-(c.2.2+1)) (p+c.2.1)
   Jj p c.2.1 f
  else Jj p c.2.1 f
def Jl(p f:Nat):countRun' p f=(do
  let c <-lh p 1 f
  match c.1 with
  |some r=>pure r
  |none =>
   if(c.2==f)=I then pure (J c.2)
   else if c.2>1 then do
    let q <-ltAt' p (p+c.2-1)
    match q with
    |some z=>if z=I then pure (J c.2)else do
      reverseSlice' p (p+c.2)
      Jk p c.2 f
    |_=>pure Y
   else Jk p c.2 f):=by
 refine congrArg (λg=>lh p 1 f >>= g) (funext λc=>?_);obtain⟨r,n⟩:=c
 cases r with
 |some r=>rfl
 |none =>
  dsimp only;split
  .rfl
  .split
   .congr 1;funext x
    cases x with
    |none=>rfl
    |some z =>
     dsimp only;split
     .rfl
     .refine congrArg _ (funext λ_=>?_);refine congrArg _ (funext λ_=>?_);refine congrArg (λg=>Fp p (n+1) f >>= g) (funext λB=>?_);obtain⟨u,l,G⟩:=B
      cases u with
      |some u=>rfl
      |none =>
       dsimp only;split
       .refine congrArg _ (funext λ_=>?_);refine congrArg _ (funext λ_=>?_);refine congrArg (λg=>lh p l f >>= g) (funext λi=>?_);obtain⟨j,F⟩:=i;cases j<;>rfl
       .refine congrArg _ (funext λ_=>?_);refine congrArg (λg=>lh p l f >>= g) (funext λi=>?_);obtain⟨j,F⟩:=i;cases j<;>rfl
   .refine congrArg _ (funext λ_=>?_);refine congrArg (λg=>Fp p (n+1) f >>= g) (funext λB=>?_);obtain⟨u,l,G⟩:=B
    cases u with
    |some u=>rfl
    |none =>
     dsimp only;split
     .refine congrArg _ (funext λ_=>?_);refine congrArg _ (funext λ_=>?_);refine congrArg (λg=>lh p l f >>= g) (funext λi=>?_);obtain⟨j,F⟩:=i;cases j<;>rfl
     .refine congrArg _ (funext λ_=>?_);refine congrArg (λg=>lh p l f >>= g) (funext λi=>?_);obtain⟨j,F⟩:=i;cases j<;>rfl
def wA(G:dh C a₀)(W:p+nrem<=a₀.size)(R:1<=a)(P:a<=nrem)(M:SB kd a₀ st)(H:r_ C (arrOf st) p (p+a))(h:∀n,a<=n->n<=nrem->r_ C (arrOf st) p (p+n)->(n=nrem\/O.klt (kk C (arrOf st) (p+n)) (kk C (arrOf st) (p+n-1)))->Q (Y,n) st):
  wpS (model prog w) A E s (lh p a nrem) Q st:=by
 refine wpS_forRange (I:=λx c f=>f=st/\c=(Y,x)/\r_ C (arrOf st) p (p+x)) ?_ ?_ ⟨rfl,rfl,H⟩
 .rintro x c f L U ⟨rfl,rfl,u⟩;refine wpS_bind (lF M G ⋯ ⋯ ?_)
  cases F:O.blt (kk C (arrOf f) (p+x)) (kk C (arrOf f) (p+x-1)) with
  |true=>exact wpS_pure (h x L ⋯ u (.inr F))
  |false =>
   refine wpS_pure ⟨rfl,rfl,λi j B l S=>?_⟩;by_cases r:j<p+x
   .exact u i j B l r
   .have e:j=p+x:=by lia
    subst e;by_cases z:i=p+x
    .subst z;exact KeyOrd.kle_refl _
    .exact KeyOrd.kle_trans (u i (p+x-1) B ⋯ ⋯) F
 .simp_all
def lI(h:Q () (setArr st (mirror (arrOf st) i j ((j-i)/2)))):wpS (model prog w) A E s (reverseSlice' i j) Q st:=by exact wpS_modify h
def vI(B:dh C a₀)(P:p+nrem<=a₀.size)(H:1<=n)(u:n<=nrem)(z:SB kd a₀ st)(F:Lz C (arrOf st) p (p+n))(h:∀m f,SB kd a₀ f->dq p (arrOf st) (arrOf f)->pendingOf f=pendingOf st->1<=m->m<=nrem->r_ C (arrOf f) p (p+m)->Q (J m) f):
  wpS (model prog w) A E s (Jj p n nrem) Q st:=by
 have l:p+n<=(arrOf st).size:=by rw[z.size];lia
 refine wpS_bind (lI ?_);have r:=z.arr (mirror_perm (arrOf st) p (p+n) ((p+n-p)/2));refine wpS_bind (wA B P H u r (λi j S G R=>?_) λm U M L _=>wpS_pure (h m _ r (gF l (ii _)) rfl ⋯ M L));rw[lD l,lD l,c_ ⋯,c_ ⋯];exact F _ _ ⋯ ⋯ ⋯
def Fq{p n l:Nat}{Q:DS->SortSt->Prop}(h0:dh C a₀)(hn:p+l<=a₀.size)(h1:1<=n)(X:n<=l)(hB:SB kd a₀ st)(hs:Lz C (arrOf st) p (p+n))(h:∀m q f,SB kd a₀ f->dq p (arrOf st) (arrOf f)->pendingOf f=pendingOf st->n<=m->m<=l->Lz C (arrOf f) p (p+m)->q+1<=m ->
   (∀i,p+m-(q+1)<=i->i<p+m->kk C (arrOf f) i=kk C (arrOf f) (p+m-1))->Q (Y,m,q) f):
  wpS (model prog w) A E s (Fp p n l) Q st:=by
 refine wpS_forRange (I:=λx c f=>∃q,c=(Y,x,q)/\SB kd a₀ f/\dq p (arrOf st) (arrOf f)/\pendingOf f=pendingOf st/\Lz C (arrOf f) p (p+x)/\q+1<=x /\
   ∀i,p+x-(q+1)<=i->i<p+x->kk C (arrOf f) i=kk C (arrOf f) (p+x-1)) ?_ ?_ ⟨0,rfl,hB,dq.rfl',rfl,hs,⋯,λi a b=>by congr 1;lia⟩
 .rintro x c f U ab ⟨q,rfl,r,u,z,hf,L,B⟩;have F:p+x<=(arrOf f).size:=by rw[r.size];lia
  have grow:∀xs:Array Keyed,(∀i,kk C xs i=kk C (arrOf f) i)->O.kle (kk C (arrOf f) (p+x)) (kk C (arrOf f) (p+x-1))->Lz C xs p (p+(x+1)):=by
   intro xs hk R i j hi M hj;rw[hk,hk];by_cases P:j<p+x
   .exact hf i j hi M P
   .have e:j=p+x:=by lia
    subst e;by_cases Z:i=p+x
    .subst Z;exact KeyOrd.kle_refl _
    .exact KeyOrd.kle_trans R (hf i (p+x-1) hi ⋯ ⋯)
  dsimp only;refine wpS_bind (lF r h0 ⋯ ⋯ ?_)
  cases hz:O.blt (kk C (arrOf f) (p+x)) (kk C (arrOf f) (p+x-1)) with
  |true =>
   dsimp only;rw[c_ rfl];by_cases G:q>0
   .rw[c_ G];refine wpS_bind (lI (wpS_pure ⟨0,rfl,r.arr (mirror_perm _ _ _ _),u.trans (gF F ⋯),z,grow _ (d7 F B) (KeyOrd.kle_of_klt hz),⋯,λi a b=>by congr 1;lia⟩))
   .rw[f_ G];exact wpS_pure ⟨0,rfl,r,u,z,grow _ (λ_=>rfl) (KeyOrd.kle_of_klt hz),⋯,λi a b=>by congr 1;lia⟩
  |false =>
   dsimp only;rw[f_ (by simp)];refine wpS_bind (lF r h0 ⋯ ⋯ ?_)
   cases H:O.blt (kk C (arrOf f) (p+x-1)) (kk C (arrOf f) (p+x)) with
   |true =>
    dsimp only;rw[c_ rfl];exact wpS_pure (h x q f r u z U ⋯ hf L B)
   |false =>
    dsimp only;rw[f_ (by simp)];have S:kk C (arrOf f) (p+x)=kk C (arrOf f) (p+x-1):=KeyOrd.kle_antisymm H hz;refine wpS_pure ⟨q+1,rfl,r,u,z,grow _ (λ_=>rfl) H,⋯,λi a b=>?_⟩;have e1:p+(x+1)-1=p+x:=by lia
    rw[e1];by_cases W:i=p+x
    .subst W;rfl
    .rw[S];exact B i ⋯ ⋯
 .rintro c f ⟨q,rfl,r,u,z,hf,L,B⟩;have e:max n l=l:=by lia
  rw[e]at hf L B ⊢;exact h l q f r u z X (ii _) hf L B
def um{p n l:Nat}{Q:VE->SortSt->Prop}(L:dh C a₀)(X:p+l<=a₀.size)(U:n+1<=l)(hB:SB kd a₀ st)(hs:Lz C (arrOf st) p (p+(n+1)))(h:∀m f,SB kd a₀ f->dq p (arrOf st) (arrOf f)->pendingOf f=pendingOf st->1<=m->m<=l->r_ C (arrOf f) p (p+m)->Q (J m) f):
  wpS (model prog w) A E s (Jk p n l) Q st:=by
 refine wpS_bind (wpS_lift (wpAny_rule ⟨rfl,?_⟩));refine wpS_bind (Fq L X ⋯ U hB hs λm q f r B G ab F hf hq Z=>?_);dsimp only;have u:p+m<=(arrOf f).size:=by rw[r.size];lia
 by_cases H:q>0
 .rw[c_ H];refine wpS_bind (lI (vI L X ⋯ F (r.arr (mirror_perm _ _ _ _)) ?_ λM z S W R=>h M z S ((B.trans (gF u ⋯)).trans W) (R.trans G)));intro i j hi P hj;rw[d7 u Z,d7 u Z];exact hf i j hi P hj
 .rw[f_ H];exact vI L X ⋯ F r hf λM z S W R=>h M z S (B.trans W) (R.trans G)
def wM(M:dh C a₀)(X:p+nrem<=a₀.size)(h1:1<=nrem)(B:SB kd a₀ st)(h:∀m l,SB kd a₀ l->dq p (arrOf st) (arrOf l)->pendingOf l=pendingOf st->1<=m->m<=nrem->r_ C (arrOf l) p (p+m)->Q (J m) l):
  wpS (model prog w) A E s (countRun' p nrem) Q st:=by
 rw[Jl];refine wpS_bind (wA M X (ii 1) h1 B (λi j P H hj=>by have e:i=j:=⋯;subst e;exact KeyOrd.kle_refl _) λn a1 a2 r S=>?_);by_cases z:n=nrem
 .rw[c_ (by simpa using z)];exact wpS_pure (h n st B dq.rfl' rfl a1 a2 r)
 .rw[f_ (by simpa using z)];have G:=S.resolve_left z;by_cases L:n>1
  .rw[c_ L];refine wpS_bind (lF B M ⋯ ⋯ ?_)
   cases hz:O.blt (kk C (arrOf st) p) (kk C (arrOf st) (p+n-1)) with
   |true =>
    dsimp only;exact wpS_pure (h n st B dq.rfl' rfl a1 a2 r)
   |false =>
    dsimp only;have u:p+n<=(arrOf st).size:=by rw[B.size];lia
    have f:∀q,p<=q->q<p+n->kk C (arrOf st) q=kk C (arrOf st) (p+n-1):=λq R U =>
     KeyOrd.kle_antisymm (r q (p+n-1) R ⋯ ⋯) (KeyOrd.kle_trans hz (r p q (ii _) R U))
    refine wpS_bind (lI (um M X ⋯ (B.arr (mirror_perm _ _ _ _)) ?_ λm2 W R U b3=>h m2 W R ((gF u (ii _)).trans U) b3));intro i j P H hj;rw[d7 u f,d7 u f];by_cases Z:j<p+n
    .rw[f i P ⋯,f j ⋯ Z];exact KeyOrd.kle_refl _
    .have e:j=p+n:=by lia
     subst e;by_cases F:i=p+n
     .subst F;exact KeyOrd.kle_refl _
     .rw[f i P ⋯];exact KeyOrd.kle_of_klt G
  .rw[f_ L];have e:n=1:=by lia
   subst e;refine um M X ⋯ B ?_ h;intro i j P H hj;by_cases F:i=j
   .subst F;exact KeyOrd.kle_refl _
   .have e1:i=p:=by lia
    have e2:j=p+1:=by lia
    subst e1;subst e2;exact KeyOrd.kle_of_klt G
end
section
variable{prog:Program}{w:World}{A:Around}{E:VB}{s:Shared}{kd:SortKind}{O:KeyOrd}{C:vb prog w A E s kd O}{a₀:Array Keyed}{st:SortSt}
def Uk{l m r k x:Nat}(a:l<=m)(b:m<r)(h:r-l<=k-x):m-l<=k-(x+1):=by rw[Q1];exact L6 (pq (Nat.sub_lt_sub_right a b) h)
def Ul{l m r k x:Nat}(a:l<=m)(h:r-l<=k-x):r-(m+1)<=k-(x+1):=by rw[Q1,Q1];exact Nat.sub_le_sub_right (o0 (Pk a r) h) 1
def Um{l r k:Nat}(a:l<=r)(h:r-l<=k-max 0 k):l=r:=Nat.le_antisymm a (TZ.1 (Nat.le_zero.1 (Nat.sub_eq_zero_of_le (Nat.le_max_right 0 k)▸h)))
def Vq{l r:Nat}(h:¬l>=r):l<=(l+r)/2/\(l+r)/2<r:=by lia
def Jm{l r:Nat}(h:¬l>=r):l<=l+(r-l)/2/\l+(r-l)/2<r:=by lia
def wQ(h0:dh C a₀)(hn:p+n<=a₀.size)(hok:ok<=n)(hB:SB kd a₀ st)(hs:r_ C (arrOf st) p (p+ok))(h:∀f,SB kd a₀ f->dq p (arrOf st) (arrOf f)->pendingOf f=pendingOf st->r_ C (arrOf f) p (p+n)->Q I f):wpS (model prog w) A E s (binarySort' p n ok) Q st:=by
 rw[binarySort'_eq]
 refine wpS_bind (wpS_mono (wpS_forRange (I:=λk c f=>c=(Y,())/\SB kd a₀ f/\dq p (arrOf st) (arrOf f)/\pendingOf f=pendingOf st/\r_ C (arrOf f) p (p+min k n))
  (Q:=λc f=>c=(Y,())/\SB kd a₀ f/\dq p (arrOf st) (arrOf f)/\pendingOf f=pendingOf st/\r_ C (arrOf f) p (p+n)) ?_ ?_ ?_) ?_)
 .rintro k c f ap an ⟨rfl,B,H,M,z⟩;have ek:min k n=k:=by lia
  rw[ek]at z
  refine wpS_bind (wpS_mono (wpS_forRange (I:=λx c u=>u=f/\∃l r,c=(Y,l,r)/\l<=r/\r<=k/\r-l<=k-x /\
    (∀i,p<=i->i<p+l->O.kle (kk C (arrOf f) i) (kk C (arrOf f) (p+k)))/\∀i,p+r<=i->i<p+k->O.klt (kk C (arrOf f) (p+k)) (kk C (arrOf f) i))
   (Q:=λc u=>u=f/\∃l r,c=(Y,l,r)/\l<=k /\
    (∀i,p<=i->i<p+l->O.kle (kk C (arrOf f) i) (kk C (arrOf f) (p+k)))/\∀i,p+l<=i->i<p+k->O.klt (kk C (arrOf f) (p+k)) (kk C (arrOf f) i)) ?_ ?_ ?_) ?_)
  .rintro x c u _ hx ⟨rfl,l,r,rfl,U,L,W,G,F⟩;by_cases R:l>=r
   .rw[c_ R];have e:l=r:=by lia
    subst e;exact wpS_pure ⟨rfl,l,l,rfl,L,G,F⟩
   .rw[f_ R];have⟨Z,X⟩:=Vq R;have m3:=pq X L;dsimp only;generalize (l+r)/2=m at *;refine wpS_bind (lF B h0 ⋯ ⋯ ?_)
    cases hz:O.blt (kk C (arrOf u) (p+k)) (kk C (arrOf u) (p+m)) with
    |true =>
     simp only[if_true];exact wpS_pure ⟨rfl,l,m,rfl,Z,vv m3,Uk Z X W,G,λi a b=>KeyOrd.klt_of_klt_of_kle hz (z _ _ (Lk ..) a b)⟩
    |false =>
     simp only[sf,if_false];exact wpS_pure ⟨rfl,m+1,r,rfl,X,L,Ul Z W,λi a b=>KeyOrd.kle_trans (z i (p+m) a (GH b) (Pm m3 p)) hz,F⟩
  .rintro c u ⟨rfl,l,r,rfl,U,L,W,G,F⟩;have e:=Um U W;subst e;exact⟨rfl,l,l,rfl,L,G,F⟩
  .exact⟨rfl,0,k,rfl,⋯,⋯,⋯,λi a b=>by lia,λi a b=>by lia⟩
  .rintro c u ⟨rfl,l,r,rfl,ab,G,F⟩;dsimp only;rw[moveDown'_eq];have P:p+k<(arrOf u).size:=by rw[B.size];lia
   have ed:p+k-(p+l)=k-l:=Nat.add_sub_add_left _ _ _;have kl:k-l<=p+k:=o0 (DO _ _) (Nat.le_add_left _ _);have e2:p+k-(k-l)=p+l:=by rw[Nat.add_sub_assoc (DO _ _),Md ab]
   rw[ed];refine wpS_bind (wpS_modify (wpS_pure ⟨rfl,B.arr (bubble_perm _ _ _),H.trans (vE P kl (e2▸Lk _ _)),M,?_⟩));have e1:min (k+1) n=k+1:=by lia
   rw[e1];intro i j hi S hj;show O.kle (kk C (bubble (arrOf u) (p+k) (k-l)) i) (kk C (bubble (arrOf u) (p+k) (k-l)) j);rw[rY P kl,rY P kl,e2]
   repeat' split
   all_goals first
    |(exfalso;lia)
    |exact KeyOrd.kle_refl _
    |exact G _ ⋯ ⋯
    |exact KeyOrd.kle_of_klt (F _ ⋯ ⋯)
    |exact z _ _ ⋯ ⋯ ⋯
 .rintro c f ⟨hc,B,H,M,z⟩;refine⟨hc,B,H,M,?_⟩;have e:min (max (max ok 1) n) n=n:=QU (Nat.le_max_right ..)
  rwa [e]at z
 .refine⟨rfl,hB,dq.rfl',rfl,λi j hi S hj=>?_⟩;by_cases h1:ok=0
  .have e:i=j:=by lia
   subst e;exact KeyOrd.kle_refl _
  .exact hs i j hi S ⋯
 .rintro c f ⟨rfl,B,H,M,z⟩;exact wpS_pure (h f B H M z)
def gallop':Bool->Keyed->Array Keyed->Nat->Nat->Nat->StateT SortSt Sem (VE):=sortPriv% PySem.Builtin.gallop
def pI(left:Bool)(key:Keyed)(arr:Array Keyed)(base i:Nat):StateT SortSt Sem (Option Bool):=do
 let x <-elem' arr (base+i)
 if left then lt' x key else return (<-lt' key x).map (!·)
def yg(left:Bool)(key:Keyed)(arr:Array Keyed)(base n f:Nat):gallop' left key arr base n f=(do
  let mut la:=0
  let mut of:=1
  let mut lo:=0
  let mut hi:=0
  let J rt <-pI left key arr base f|return Y
  if rt then
   let i:=n-f
   for _ in [0:n] do
    if of>=i then break
    let J q <-pI left key arr base (f+of)|return Y
    if !q then break
    la:=of
    of:=2*of+1
   lo:=f+la+1
   hi:=f+min of i
  else
   let i:=f+1
   for _ in [0:n] do
    if of>=i then break
    let J q <-pI left key arr base (f-of)|return Y
    if q then break
    la:=of
    of:=2*of+1
   lo:=f+1-min of i
   hi:=f-la
  for _ in [0:n] do
   if lo>=hi then break
   let m:=lo+(hi-lo)/2
   let J q <-pI left key arr base m|return Y
   if q then lo:=m+1 else hi:=m
  return J hi):=rfl
def ib(C:vb prog w A E s kd O)(left:Bool)(key:Keyed)(arr:Array Keyed)(i:Nat):Bool:=if left then O.blt (kk C arr i) (C.key key)else !O.blt (C.key key) (kk C arr i)
def mf(l:kindOf st=kd)(r:dh C arr)(f:C.good key)(u:base+i<arr.size)(h:Q (J (ib C left key arr (base+i))) st):wpS (model prog w) A E s (pI left key arr base i) Q st:=by
 refine wpS_bind (aS u λx j=>?_);unfold ib at h;rw[aQ j]at h
 cases left with
 |true =>
  exact C.ask x key st Q (bE r j) f l h
 |false =>
  exact wpS_bind (C.ask key x st _ f (bE r j) l (wpS_pure h))
def NE(left:Bool)(key:Keyed)(arr:Array Keyed)(base n lo f:Nat):StateT SortSt Sem DS :=
 forIn [:n] ((Y,lo,f):DS) λ_ c =>
  if c.2.1>=c.2.2 then pure (ForInStep.done (Y,c.2.1,c.2.2))
  else do
   let q <-pI left key arr base (c.2.1+(c.2.2-c.2.1)/2)
   match q with
   |some q=>if q=I then pure (ForInStep.yield (Y,c.2.1+(c.2.2-c.2.1)/2+1,c.2.2))else pure (ForInStep.yield (Y,c.2.1,c.2.1+(c.2.2-c.2.1)/2))
   |_=>pure (ForInStep.done (J Y,c.2.1,c.2.2))
section
variable{left:Bool}{key:Keyed}{arr:Array Keyed}{base n:Nat}
def ir(u:base+n<=arr.size)(l:r_ C arr base (base+n)):∀i j,i<=j->j<n->ib C left key arr (base+j)=I->ib C left key arr (base+i)=I:=by
 intro i j r z;have f:=l (base+i) (base+j) ⋯ ⋯ ⋯;unfold ib
 cases left with
 |true=>exact λq=>KeyOrd.klt_of_kle_of_klt f q
 |false =>
  simp only[sf,if_false,DK];exact λq=>KeyOrd.kle_trans f q
def kf(z:base+n<=arr.size)(u:r_ C arr base (base+n)):∀i j,i<=j->j<n->ib C left key arr (base+i)=T->ib C left key arr (base+j)=T:=by
 intro i j l B r
 cases f:ib C left key arr (base+j) with
 |false=>rfl
 |true=>rw[ir z u i j l B f]at r;cases r
def uj{lo hi:Nat}{Q:DS->SortSt->Prop}(hk:kindOf st=kd)(hg:dh C arr)(B:C.good key)(S:base+n<=arr.size)(W:r_ C arr base (base+n))(L:lo<=hi)(U:hi<=n)(Z:∀i,i<lo->ib C left key arr (base+i)=I)(h2:∀i,hi<=i->i<n->ib C left key arr (base+i)=T)(h:∀k,k<=n->(∀i,i<k->ib C left key arr (base+i)=I)->(∀i,k<=i->i<n->ib C left key arr (base+i)=T)->Q (Y,k,k) st):
  wpS (model prog w) A E s (NE left key arr base n lo hi) Q st:=by
 refine wpS_forRange (I:=λx c u=>u=st/\∃l r,c=(Y,l,r)/\l<=r/\r<=n/\r-l<=n-x/\(∀i,i<l->ib C left key arr (base+i)=I)/\∀i,r<=i->i<n->ib C left key arr (base+i)=T)
  ?_ ?_ ⟨rfl,lo,hi,rfl,L,U,⋯,Z,h2⟩
 .rintro x c u _ hx ⟨rfl,l,r,rfl,z,f,H,F,G⟩;by_cases j:l>=r
  .rw[c_ j];have e:l=r:=by lia
   subst e;exact wpS_pure (h l f F G)
  .rw[f_ j];have⟨R,P⟩:=Jm j;have M:=pq P f;dsimp only;generalize l+(r-l)/2=m at *;refine wpS_bind (mf hk hg B (pq (Pm M _) S) ?_)
   cases X:ib C left key arr (base+m) with
   |true =>
    simp only[if_true];exact wpS_pure ⟨rfl,_,_,rfl,P,f,Ul R H,λi hi=>ir S W i m (GH hi) M X,G⟩
   |false =>
    simp only[sf,if_false];exact wpS_pure ⟨rfl,_,_,rfl,R,vv M,Uk R P H,F,λi a b=>kf S W m i a b X⟩
 .rintro c u ⟨rfl,l,r,rfl,z,f,H,F,G⟩;have e:=Um z H;subst e;exact h l f F G
def Qc{x of:Nat}(h:x+1<=of):of<2*of+1/\x+1+1<=2*of+1:=by lia
def Uo{f of h n:Nat}(a:f<of)(b:h+f<n):h+f+1<=h+min of (n-h)/\h+min of (n-h)<=n :=
 ⟨Nat.add_le_add_left (Nat.le_min.2 ⟨a,T4 b⟩) h,o0 (Nat.add_le_add_left (Nat.min_le_right ..) h) (Q2 (GF (vv (Lg (Lk ..) b))))⟩
def LA{f of h:Nat}(a:f<of)(b:f<=h):h+1-min of (h+1)<=h-f :=
 Nat.add_sub_add_right h 1 f▸Pk (Nat.le_min.2 ⟨a,Hw b⟩) (h+1)
def eE{f:Nat}{Q:VE->SortSt->Prop}(X:kindOf st=kd)(S:dh C arr)(u:C.good key)(H:base+n<=arr.size)(R:f<n)(M:r_ C arr base (base+n))(h:∀k,k<=n->(∀i,i<k->ib C left key arr (base+i)=I)->(∀i,k<=i->i<n->ib C left key arr (base+i)=T)->Q (J k) st):
  wpS (model prog w) A E s (gallop' left key arr base n f) Q st:=by
 rw[yg];refine wpS_bind (mf X S u ⋯ ?_)
 cases hz:ib C left key arr (base+f) with
 |true =>
  refine wpS_bind (wpS_mono (wpS_forRange (I:=λx c l=>l=st/\∃j of,c=(Y,j,of)/\j<of/\x+1<=of/\f+j<n/\ib C left key arr (base+(f+j))=I)
   (Q:=λc l=>l=st/\∃j of,c=(Y,j,of)/\j<of/\f+j<n/\ib C left key arr (base+(f+j))=I/\(n-f<=of\/of<n-f/\ib C left key arr (base+(f+of))=T)) ?_ ?_
    ⟨rfl,0,1,rfl,⋯,⋯,R,hz⟩) ?_)
  .rintro x c l _ hx ⟨rfl,j,of,rfl,B,L,z,F⟩;dsimp only;by_cases r:of>=n-f
   .rw[c_ r];exact wpS_pure ⟨rfl,j,of,rfl,B,z,F,.inl r⟩
   .rw[f_ r];have W:=Nat.add_lt_of_lt_sub' (QV r);have⟨Z,o2⟩:=Qc L;refine wpS_bind (mf X S u (pq (Pm W _) H) ?_)
    cases U:ib C left key arr (base+(f+of)) with
    |true =>
     simp only[GN,sf,if_false];exact wpS_pure ⟨rfl,_,_,rfl,Z,o2,W,U⟩
    |false =>
     simp only[Mf,if_true];exact wpS_pure ⟨rfl,j,of,rfl,B,z,F,.inr ⟨QV r,U⟩⟩
  .rintro c l ⟨rfl,j,of,rfl,B,L,z,F⟩;exact⟨rfl,j,of,rfl,B,z,F,.inl (o0 (DO ..) (Li L))⟩
  .rintro c l ⟨rfl,j,of,rfl,B,z,F,G⟩;dsimp only;refine wpS_bind (uj (lo:=f+j+1) (hi:=f+min of (n-f)) X S u H M (Uo B z).1 (Uo B z).2 (λi P=>ir H M i (f+j) (GH P) z F) (λi a b=>?_) λk a b c=>wpS_pure (h k a b c));rcases G with G|⟨G,h6⟩
   .rw[QU G]at a;lia
   .rw[Lm (vv G)]at a;exact kf H M (f+of) i a b h6
 |false =>
  simp only[sf,if_false]
  refine wpS_bind (wpS_mono (wpS_forRange (I:=λx c l=>l=st/\∃j of,c=(Y,j,of)/\j<of/\x+1<=of/\j<=f/\ib C left key arr (base+(f-j))=T)
   (Q:=λc l=>l=st/\∃j of,c=(Y,j,of)/\j<of/\j<=f/\ib C left key arr (base+(f-j))=T/\(f+1<=of\/of<f+1/\ib C left key arr (base+(f-of))=I)) ?_ ?_
    ⟨rfl,0,1,rfl,⋯,⋯,⋯,hz⟩) ?_)
  .rintro x c l _ hx ⟨rfl,j,of,rfl,B,L,z,F⟩;dsimp only;by_cases r:of>=f+1
   .rw[c_ r];exact wpS_pure ⟨rfl,j,of,rfl,B,z,F,.inl r⟩
   .rw[f_ r];have⟨Z,o2⟩:=Qc L;have W:=QV r;refine wpS_bind (mf X S u (pq (Pm (Lg (DO ..) R) _) H) ?_)
    cases U:ib C left key arr (base+(f-of)) with
    |true =>
     simp only[if_true];exact wpS_pure ⟨rfl,j,of,rfl,B,z,F,.inr ⟨W,U⟩⟩
    |false =>
     simp only[sf,if_false];exact wpS_pure ⟨rfl,_,_,rfl,Z,o2,GH W,U⟩
  .rintro c l ⟨rfl,j,of,rfl,B,L,z,F⟩;exact⟨rfl,j,of,rfl,B,z,F,.inl (o0 (Hw (vv R)) L)⟩
  .rintro c l ⟨rfl,j,of,rfl,B,z,F,G⟩;dsimp only;refine wpS_bind (uj (lo:=f+1-min of (f+1)) (hi:=f-j) X S u H M (LA B z) (o0 (DO ..) (vv R)) (λi P=>?_) (λi a b=>kf H M (f-j) i a b F) λk a b c=>wpS_pure (h k a b c));rcases G with G|⟨G,h6⟩
   .rw[QU G,Nat.sub_self]at P
    nomatch P
   .rw[Lm (vv G),Nat.succ_sub (GH G)]at P;exact ir H M i (f-of) (GH P) (Lg (DO ..) R) h6
end
end
def nG:Array Keyed->Array Keyed->StateT SortSt Sem (Array Keyed):=sortPriv% PySem.Builtin.mergeLo
def Fs:Nat->StateT SortSt Sem Unit:=sortPriv% PySem.Builtin.setMinGallop
section
variable{prog:Program}{w:World}{A:Around}{E:VB}{s:Shared}{kd:SortKind}{O:KeyOrd}(C:vb prog w A E s kd O)
def LS(l:List Keyed):Prop:=l.Pairwise λx y=>O.kle (C.key x) (C.key y)
def LB(l m:List Keyed):Prop:=∀x∈l,∀y∈m,O.kle (C.key x) (C.key y)
variable{C}
def cG(j:LS C l)(f:LS C m)(i:LB C l m):LS C (l++m):=by unfold LS;rw[QO];exact⟨j,f,i⟩
def oq{xs:Array Keyed}{lo hi:Nat}(r:hi<=xs.size)(h:r_ C xs lo hi):LS C (xs.extract lo hi).toList:=by
 unfold LS;rw[GD];intro i j l f z;have u:(xs.extract lo hi).size=hi-lo:=by simp;lia
 have B:j<(xs.extract lo hi).size:=by exact f
 have e1:(xs.extract lo hi).toList[i]=xs[lo+i]'⋯:=by simp
 have e2:(xs.extract lo hi).toList[j]=xs[lo+j]'⋯:=by simp
 rw[e1,e2]
 have:=h (lo+i) (lo+j) ⋯ ⋯ ⋯
 rw[aQ (getElem?_pos xs (lo+i) ⋯),aQ (getElem?_pos xs (lo+j) ⋯)]at this;exact this
def k6(h:LS C xs.toList):r_ C xs 0 xs.size:=by
 intro i j _ l f;rw[aQ (getElem?_pos xs i ⋯),aQ (getElem?_pos xs j f)];by_cases e:i=j
 .subst e;exact KeyOrd.kle_refl _
 .unfold LS at h;rw[GD]at h
  have:=h i j (by simp;lia) (by simpa using f) ⋯
  simpa using this
structure MI(C:vb prog w A E s kd O)(a b ou:Array Keyed)(i j:Nat):Prop where
 perm:(ou.toList++(a.toList.drop i++b.toList.drop j)).Perm (a.toList++b.toList)
 srt:LS C ou.toList
 low:LB C ou.toList (a.toList.drop i++b.toList.drop j)
variable{a b ou:Array Keyed}{i j:Nat}
def MI.size(m:MI C a b ou i j)(l:i<=a.size)(f:j<=b.size):ou.size+(a.size-i)+(b.size-j)=a.size+b.size:=by
 have:=m.perm.length_eq
 simp at this;lia
def jD{xs:Array Keyed}{i:Nat}{p:Keyed}(h:xs[i]?=J p):xs.toList.drop i=p::xs.toList.drop (i+1):=by
 have f:i<xs.toList.length:=by
  have:=(LX.mp h).1
  simpa using this
 have e:xs.toList[i]=p:=by
  have:=(LX.mp h).2
  simpa using this
 rw[<-e,TY f]
def jB{xs:Array Keyed}(h:LS C xs.toList)(i:Nat):LS C (xs.toList.drop i):=h.sublist (List.drop_sublist i _)
def jH{xs:Array Keyed}(h:LS C xs.toList){i:Nat}{p:Keyed}(r:xs[i]?=J p):∀y∈xs.toList.drop i,O.kle (C.key p) (C.key y):=by
 have f:=jB h i;rw[jD r]at f ⊢;unfold LS at f;rw[Hv]at f;intro y l;rcases lb.mp l with rfl|l
 .exact KeyOrd.kle_refl _
 .exact f.1 y l
def MI.pushA(m:MI C a b ou i j)(F:LS C a.toList)(G:LS C b.toList){p:Keyed}(B:a[i]?=J p)(H:∀q,b[j]?=J q->O.kle (C.key p) (C.key q)):MI C a b (ou.push p) (i+1) j:=by
 have hd:=jD B;have z:∀y∈a.toList.drop i++b.toList.drop j,O.kle (C.key p) (C.key y):=by
  intro y f;rcases nq.mp f with f|f
  .exact jH F B y f
  .cases r:b[j]? with
   |none =>
    have:b.toList.drop j=[]:=L3 (by have:=QH.mp r;simpa using this)
    rw[this]at f;cases f
   |some q=>exact KeyOrd.kle_trans (H q r) (jH G r y f)
 refine⟨?_,?_,?_⟩
 .have:=m.perm
  rw[hd]at this;rw[D_,DJ];exact this
 .rw[D_];refine cG m.srt (by unfold LS;simp) λx l y f=>?_
  have:y=p:=by simpa using f
  subst this;exact m.low x l y (s_ _ (by rw[hd];exact t3))
 .intro x l y f;rw[D_]at l;have u:y∈a.toList.drop i++b.toList.drop j:=by
   simp_all
  rcases nq.mp l with l|l
  .exact m.low x l y u
  .have:x=p:=by simpa using l
   subst this;exact z y u
def MI.pushB(m:MI C a b ou i j)(F:LS C a.toList)(G:LS C b.toList){p:Keyed}(B:b[j]?=J p)(H:∀q,a[i]?=J q->O.kle (C.key p) (C.key q)):MI C a b (ou.push p) i (j+1):=by
 have hd:=jD B;have z:∀y∈a.toList.drop i++b.toList.drop j,O.kle (C.key p) (C.key y):=by
  intro y f;rcases nq.mp f with f|f
  .cases r:a[i]? with
   |none =>
    have:a.toList.drop i=[]:=L3 (by have:=QH.mp r;simpa using this)
    rw[this]at f;cases f
   |some q=>exact KeyOrd.kle_trans (H q r) (jH F r y f)
  .exact jH G B y f
 refine⟨?_,?_,?_⟩
 .have:=m.perm
  rw[hd]at this;rw[D_,DJ];refine List.Perm.trans (List.Perm.append_left _ ?_) this;show(p::(a.toList.drop i++b.toList.drop (j+1))).Perm _;exact Mc.symm
 .rw[D_];refine cG m.srt (by unfold LS;simp) λx l y f=>?_
  have:y=p:=by simpa using f
  subst this;exact m.low x l y (oI _ (by rw[hd];exact t3))
 .intro x l y f;rw[D_]at l;have u:y∈a.toList.drop i++b.toList.drop j:=by
   rcases nq.mp f with f|f
   .exact s_ _ f
   .exact oI _ (by rw[hd];exact m_ _ f)
  rcases nq.mp l with l|l
  .exact m.low x l y u
  .have:x=p:=by simpa using l
   subst this;exact z y u
def lj{xs:Array Keyed}{i k:Nat}{p:Keyed}(h:xs[i+k]?=J p):xs.extract i (i+(k+1))=(xs.extract i (i+k)).push p:=by
 apply GJ.mp;simp only[Pc,D_,QK];have e1:i+(k+1)-i=k+1:=by lia
 have e2:i+k-i=k:=by lia
 rw[e1,e2,Mh,Po,v_,h];rfl
def MI.moveA(m:MI C a b ou i j)(G:LS C a.toList)(B:LS C b.toList):∀k,i+k<=a.size->(∀r p q,r<k->a[i+r]?=J p->b[j]?=J q->O.kle (C.key p) (C.key q))->MI C a b (ou++a.extract i (i+k)) (i+k) j:=by
 intro k
 induction k with
 |zero =>
  intro _ _;have e:ou++a.extract i (i+0)=ou:=by apply GJ.mp;simp
  rw[e];exact m
 |succ k F =>
  intro H u;have f:=getElem?_pos a (i+k) ⋯;have z:=(F ⋯ λr p q L=>u r p q ⋯).pushA G B f (λq l=>u k _ q ⋯ f l);have e:ou++(a.extract i (i+k)).push (a[i+k]'⋯)=(ou++a.extract i (i+k)).push (a[i+k]'⋯):=by simp
  rw[lj f,e];exact z
def MI.moveB(m:MI C a b ou i j)(G:LS C a.toList)(B:LS C b.toList):∀k,j+k<=b.size->(∀r p q,r<k->b[j+r]?=J p->a[i]?=J q->O.kle (C.key p) (C.key q))->MI C a b (ou++b.extract j (j+k)) i (j+k):=by
 intro k
 induction k with
 |zero =>
  intro _ _;have e:ou++b.extract j (j+0)=ou:=by apply GJ.mp;simp
  rw[e];exact m
 |succ k F =>
  intro H u;have f:=getElem?_pos b (j+k) ⋯;have z:=(F ⋯ λr p q L=>u r p q ⋯).pushB G B f (λq l=>u k _ q ⋯ f l);have e:ou++(b.extract j (j+k)).push (b[j+k]'⋯)=(ou++b.extract j (j+k)).push (b[j+k]'⋯):=by simp
  rw[lj f,e];exact z
def MR(C:vb prog w A E s kd O)(a b f:Array Keyed):Prop:=f.toList.Perm (a.toList++b.toList)/\LS C f.toList
def i5{xs:Array Keyed}{i:Nat}:(xs.extract i xs.size).toList=xs.toList.drop i:=by rw[Pc];exact LZ (by simp)
def MI.all(m:MI C a b ou i j)(l:LS C a.toList)(f:LS C b.toList)(h:a.size<=i\/b.size<=j):MR C a b (ou++a.extract i a.size++b.extract j b.size):=by
 have e:(ou++a.extract i a.size++b.extract j b.size).toList=ou.toList++(a.toList.drop i++b.toList.drop j):=by rw[Hs,Hs,i5,i5,DJ]
 unfold MR;rw[e];refine⟨m.perm,cG m.srt ?_ m.low⟩;rcases h with h|h
 .have:a.toList.drop i=[]:=L3 (by simpa using h)
  rw[this];exact jB f j
 .have:b.toList.drop j=[]:=L3 (by simpa using h)
  rw[this,GK];exact jB l i
def MI.one(m:MI C a b ou i j)(B:LS C a.toList)(z:LS C b.toList)(h:i+1=a.size)(F:∀x q,x∈b.toList->a[i]?=J q->O.kle (C.key x) (C.key q)):MR C a b (ou++b.extract j b.size++a.extract i a.size):=by
 have e:(ou++b.extract j b.size++a.extract i a.size).toList=ou.toList++(b.toList.drop j++a.toList.drop i):=by rw[Hs,Hs,i5,i5,DJ]
 unfold MR;rw[e];have u:=getElem?_pos a i ⋯;have hd:=jD u;have f:a.toList.drop (i+1)=[]:=L3 (by simp;lia);rw[f]at hd;refine⟨(List.Perm.append_left _ Pa).trans m.perm,cG m.srt (cG (jB z j) (jB B i) ?_) ?_⟩
 .intro x r y l;rw[hd]at l
  have:y=a[i]'⋯:=by simpa using l
  subst this;exact F x _ (Ph r) u
 .intro x r y l;exact m.low x r y (nq.mpr (nq.mp l).symm)
end
structure Eqv(st st':SortSt):Prop where
 kind:kindOf st'=kindOf st
 arr:arrOf st'=arrOf st
 pend:pendingOf st'=pendingOf st
 failed:failedOf st'=failedOf st
def Eqv.rfl'{st:SortSt}:Eqv st st:=⟨rfl,rfl,rfl,rfl⟩
def Eqv.trans{st f i:SortSt}(x:Eqv st f)(y:Eqv f i):Eqv st i:=⟨y.kind.trans x.kind,y.arr.trans x.arr,y.pend.trans x.pend,y.failed.trans x.failed⟩
abbrev GS:=Option (Array Keyed)×Array Keyed×Nat×Nat×Nat×Nat×Nat
def Jn(a b f:Array Keyed)(i j g na nb:Nat):StateT SortSt Sem (ForInStep GS):=do
 let x <-elem' a i
 if(i+1+1==a.size)=I then pure (ForInStep.done (J (f.push x++b.extract j b.size++a.extract (i+1) a.size),f.push x,i+1,j,g,na,nb))
 else if(decide (na<7)&&decide (nb<7))=I then pure (ForInStep.done (Y,f.push x,i+1,j,g,na,nb))
 else pure (ForInStep.yield (Y,f.push x,i+1,j,g,na,nb))
def Jo(a b f:Array Keyed)(i j g na nb:Nat):StateT SortSt Sem (ForInStep GS):=do
 let x <-elem' b j
 if(j+1==b.size)=I then pure (ForInStep.done (J (f.push x++a.extract i a.size++b.extract (j+1) b.size),f.push x,i,j+1,g,na,nb))
 else do
  let y <-elem' a i
  let q <-gallop' I y b (j+1) (b.size-(j+1)) 0
  match q with
  |some k =>
   if k>0 then
    if(j+1+k==b.size)=I then
     pure (ForInStep.done (J (f.push x++b.extract (j+1) (j+1+k)++a.extract i a.size++b.extract (j+1+k) b.size),f.push x++b.extract (j+1) (j+1+k),i,j+1+k,g,na,k))
    else Jn a b (f.push x++b.extract (j+1) (j+1+k)) i (j+1+k) g na k
   else Jn a b (f.push x) i (j+1) g na k
  |_=>pure (ForInStep.done (J (f.push x++a.extract i a.size++b.extract (j+1) b.size),f.push x,i,j+1,g,na,nb))
def Ft(a b f:Array Keyed)(i j g na nb:Nat):StateT SortSt Sem (ForInStep GS):=do
 Fs g
 let x <-elem' b j
 let q <-gallop' T x a i (a.size-i) 0
 match q with
 |some k =>
  if k>0 then
   if(i+k+1==a.size)=I then
    pure (ForInStep.done (J (f++a.extract i (i+k)++b.extract j b.size++a.extract (i+k) a.size),f++a.extract i (i+k),i+k,j,g,k,nb))
   else if(i+k==a.size)=I then
    pure (ForInStep.done (J (f++a.extract i (i+k)++a.extract (i+k) a.size++b.extract j b.size),f++a.extract i (i+k),i+k,j,g,k,nb))
   else Jo a b (f++a.extract i (i+k)) (i+k) j g k nb
  else Jo a b f i j g k nb
 |_=>pure (ForInStep.done (J (f++a.extract i a.size++b.extract j b.size),f,i,j,g,na,nb))
abbrev LD:=Option (Array Keyed)×Array Keyed×Nat×Nat×Nat×Nat
abbrev LCt:=Option (Array Keyed)×Array Keyed×Nat×Nat×Nat
def RV(a b:Array Keyed)(g:Nat)(c:LD):StateT SortSt Sem (ForInStep LD):=do
 let x <-elem' b c.2.2.2.1
 let y <-elem' a c.2.2.1
 let q <-lt' x y
 match q with
 |some q =>
  if q=I then do
   let z <-elem' b c.2.2.2.1
   if(c.2.2.2.1+1==b.size)=I then pure (ForInStep.done (J (c.2.1.push z++a.extract c.2.2.1 a.size++b.extract (c.2.2.2.1+1) b.size),c.2.1.push z,c.2.2.1,c.2.2.2.1+1,0,c.2.2.2.2.2+1))
   else if c.2.2.2.2.2+1>=g then pure (ForInStep.done (Y,c.2.1.push z,c.2.2.1,c.2.2.2.1+1,0,c.2.2.2.2.2+1))
   else pure (ForInStep.yield (Y,c.2.1.push z,c.2.2.1,c.2.2.2.1+1,0,c.2.2.2.2.2+1))
  else do
   let z <-elem' a c.2.2.1
   if(c.2.2.1+1+1==a.size)=I then pure (ForInStep.done (J (c.2.1.push z++b.extract c.2.2.2.1 b.size++a.extract (c.2.2.1+1) a.size),c.2.1.push z,c.2.2.1+1,c.2.2.2.1,c.2.2.2.2.1+1,0))
   else if c.2.2.2.2.1+1>=g then pure (ForInStep.done (Y,c.2.1.push z,c.2.2.1+1,c.2.2.2.1,c.2.2.2.2.1+1,0))
   else pure (ForInStep.yield (Y,c.2.1.push z,c.2.2.1+1,c.2.2.2.1,c.2.2.2.2.1+1,0))
 |_=>pure (ForInStep.done (J (c.2.1++a.extract c.2.2.1 a.size++b.extract c.2.2.2.1 b.size),c.2.1,c.2.2.1,c.2.2.2.1,c.2.2.2.2.1,c.2.2.2.2.2))
def RW(a b:Array Keyed)(c:GS):StateT SortSt Sem (ForInStep GS) :=
 if c.2.2.2.2.1>1 then Ft a b c.2.1 c.2.2.1 c.2.2.2.1 (c.2.2.2.2.1-1) c.2.2.2.2.2.1 c.2.2.2.2.2.2
 else Ft a b c.2.1 c.2.2.1 c.2.2.2.1 c.2.2.2.2.1 c.2.2.2.2.2.1 c.2.2.2.2.2.2
def Uq(c:GS):StateT SortSt Sem (ForInStep LCt) :=
 match c.1 with
 |some r=>pure (ForInStep.done (J r,c.2.1,c.2.2.1,c.2.2.2.1,c.2.2.2.2.1))
 |none=>do
  Fs (c.2.2.2.2.1+1)
  pure (ForInStep.yield (Y,c.2.1,c.2.2.1,c.2.2.2.1,c.2.2.2.2.1+1))
def Ur(a b:Array Keyed)(g:Nat)(c:LD):StateT SortSt Sem (ForInStep LCt) :=
 match c.1 with
 |some r=>pure (ForInStep.done (J r,c.2.1,c.2.2.1,c.2.2.2.1,g))
 |none=>do
  liftM (rule "list.sort.gallop")
  let e <-forIn [:a.size+b.size] ((Y,c.2.1,c.2.2.1,c.2.2.2.1,g+1,c.2.2.2.2.1,c.2.2.2.2.2):GS) λ_ e=>RW a b e
  Uq e
def Us(a b:Array Keyed)(c:LCt):StateT SortSt Sem (ForInStep LCt):=do
 let d <-forIn [:a.size+b.size] ((Y,c.2.1,c.2.2.1,c.2.2.2.1,0,0):LD) λ_ d=>RV a b c.2.2.2.2 d
 Ur a b c.2.2.2.2 d
def Ut(a b:Array Keyed)(x:Keyed):StateT SortSt Sem (Array Keyed):=do
 let g <-get
 let r <-forIn [:a.size+b.size] ((Y,#[x],0,1,gallopOf g):LCt) λ_ c=>Us a b c
 match r.1 with
 |some r=>pure r
 |none=>liftM (unsupported "internal:list.sort.merge-bound":Sem (Array Keyed))
def RX(a b:Array Keyed):nG a b=(do
 liftM (rule "list.sort.merge-lo")
 let x <-elem' b 0
 if(1==b.size)=I then pure (#[x]++a.extract 0 a.size++b.extract 1 b.size)
 else if(0+1==a.size)=I then pure (#[x]++b.extract 1 b.size++a.extract 0 a.size)
 else Ut a b x):=by
 refine congrArg (Bind.bind _) (funext λ_=>congrArg (Bind.bind _) (funext λx=>congrArg (λz=>ite _ _ (ite _ _ z)) ?_));have e:∀{α β:Type}{x y:StateT SortSt Sem α}{f h:α->StateT SortSt Sem β},x=y->(∀a,f a=h a)->(x >>= f)=(y >>= h):=λe f=>by rw[e,funext f]
 refine congrArg (Bind.bind _) (funext λg=>e (congrArg (forIn _ _) (funext λ_=>funext λc=>?_)) λ⟨r,_⟩=>by cases r<;>rfl);refine e rfl λd=>?_;obtain⟨i,j⟩:=d
 cases i with
 |some r=>rfl
 |none=>exact congrArg (Bind.bind _) (funext λ_=>e rfl λ⟨r,_⟩=>by cases r<;>rfl)
section
variable{prog:Program}{w:World}{A:Around}{E:VB}{s:Shared}{kd:SortKind}{O:KeyOrd}{C:vb prog w A E s kd O}{st:SortSt}{a b:Array Keyed}
structure A9(C:vb prog w A E s kd O)(a b:Array Keyed):Prop where
 ga:dh C a
 gb:dh C b
 sa:LS C a.toList
 sb:LS C b.toList
 na:1<=a.size
 nb:1<=b.size
 fst:∀p q,b[0]?=J p->a[0]?=J q->O.kle (C.key p) (C.key q)
 lst:∀x q,x∈b.toList->a[a.size-1]?=J q->O.kle (C.key x) (C.key q)
def LI(C:vb prog w A E s kd O)(a b:Array Keyed)(N:Nat)(c:GS):Prop:=c.1=Y/\MI C a b c.2.1 c.2.2.1 c.2.2.2.1/\c.2.2.1+1<a.size/\c.2.2.2.1<b.size/\N<=c.2.1.size
def k8(C:vb prog w A E s kd O)(a b:Array Keyed)(N:Nat)(st:SortSt)(r:ForInStep GS)(f:SortSt):Prop:=Eqv st f/\match r with
 |.done c=>(∃x,c.1=J x/\MR C a b x)\/LI C a b N c
 |.yield c=>LI C a b N c
def vV(f:A9 C a b)(m:MI C a b ou i j)(M:i+1<a.size)(H:j<b.size)(hN:N<=ou.size)(r:∀p q,a[i]?=J p->b[j]?=J q->O.kle (C.key p) (C.key q)):
  wpS (model prog w) A E s (Jn a b ou i j g na nb) (k8 C a b N st) st:=by
 refine wpS_bind (aS ⋯ λx F=>?_);have z:=m.pushA f.sa f.sb F (λq u=>r x q F u);have G:(ou.push x).size=ou.size+1:=Ec ..;by_cases l:i+1+1=a.size
 .rw[c_ (by simpa using l)];exact wpS_pure ⟨Eqv.rfl',.inl ⟨_,rfl,z.one f.sa f.sb l λy q L u=>f.lst y q L (by rw[<-l];exact u)⟩⟩
 .rw[f_ (by simpa using l)];have B:LI C a b N (Y,ou.push x,i+1,j,g,na,nb):=⟨rfl,z,⋯,H,⋯⟩;split
  .exact wpS_pure ⟨Eqv.rfl',.inr B⟩
  .exact wpS_pure ⟨Eqv.rfl',B⟩
def wW(f:A9 C a b)(hk:kindOf st=kd)(m:MI C a b ou i j)(W:i+1<a.size)(hj:j<b.size)(hN:N<=ou.size)(H:∀p q,b[j]?=J p->a[i]?=J q->O.kle (C.key p) (C.key q)):
  wpS (model prog w) A E s (Jo a b ou i j g na nb) (k8 C a b N st) st:=by
 refine wpS_bind (aS hj λx S=>?_);have M:=m.pushB f.sa f.sb S (λq u=>H x q S u);have ab:(ou.push x).size=ou.size+1:=Ec ..;by_cases U:j+1=b.size
 .rw[c_ (by simpa using U)];exact wpS_pure ⟨Eqv.rfl',.inl ⟨_,rfl,M.all f.sa f.sb (.inr ⋯)⟩⟩
 .rw[f_ (by simpa using U)];refine wpS_bind (aS ⋯ λy L=>?_);refine wpS_bind (eE (C:=C) hk f.gb (bE f.ga L) ⋯ ⋯ ?_ λk an Q P=>?_)
  .intro p q z G u;exact k6 f.sb p q (ya _) G ⋯
  .have B:∀r p q,r<k->b[j+1+r]?=J p->a[i]?=J q->O.kle (C.key p) (C.key q):=λr p q hr z u=>by
    have:=Q r hr
    unfold ib at this;rw[aQ z]at this;rw[L]at u;cases u;exact KeyOrd.kle_of_klt this
   have l:∀p q,a[i]?=J p->b[j+1+k]?=J q->O.kle (C.key p) (C.key q):=λp q z u=>by
    have Z:=(LX.mp u).1
    have:=P k (ii _) ⋯
    unfold ib at this;rw[aQ u]at this;rw[L]at z;cases z;exact this
   dsimp only;by_cases F:k>0
   .rw[c_ F];have R:=M.moveB f.sa f.sb k ⋯ B;by_cases X:j+1+k=b.size
    .rw[c_ (by simpa using X)];exact wpS_pure ⟨Eqv.rfl',.inl ⟨_,rfl,R.all f.sa f.sb (.inr ⋯)⟩⟩
    .rw[f_ (by simpa using X)];exact vV f R W ⋯ (by rw[L8];lia) l
   .rw[f_ F];have e:k=0:=by lia
    subst e;exact vV f M W ⋯ ⋯ l
def vK(f:A9 C a b)(hk:kindOf st=kd)(m:MI C a b ou i j)(hi:i+1<a.size)(P:j<b.size)(hN:N<=ou.size):
  wpS (model prog w) A E s (Ft a b ou i j g na nb) (k8 C a b N st) st:=by
 unfold Ft;refine wpS_bind (wpS_modify ?_);have ev:Eqv st (SortSt.mk' (kindOf st) (arrOf st) (pendingOf st) g (failedOf st)):=⟨rfl,rfl,rfl,rfl⟩;refine wpS_mono (Q:=k8 C a b N (SortSt.mk' (kindOf st) (arrOf st) (pendingOf st) g (failedOf st))) ?_ λr ab h=>⟨ev.trans h.1,h.2⟩;have z:kindOf (SortSt.mk' (kindOf st) (arrOf st) (pendingOf st) g (failedOf st))=kd:=hk;refine wpS_bind (aS P λx R=>?_);refine wpS_bind (eE (C:=C) z f.ga (bE f.gb R) ⋯ ⋯ ?_ λk an U S=>?_)
 .intro p q B L u;exact k6 f.sa p q (ya _) L ⋯
 .have F:∀r p q,r<k->a[i+r]?=J p->b[j]?=J q->O.kle (C.key p) (C.key q):=λr p q Z B u=>by
   have:=U r Z
   unfold ib at this;rw[aQ B]at this;rw[R]at u;cases u;simp only[sf,if_false,DK]at this;exact this
  have l:∀p q,b[j]?=J p->a[i+k]?=J q->O.kle (C.key p) (C.key q):=λp q B u=>by
   have X:=(LX.mp u).1
   have:=S k (ii _) ⋯
   unfold ib at this;rw[aQ u]at this;rw[R]at B;cases B;simp only[sf,if_false,QR]at this;exact KeyOrd.kle_of_klt this
  dsimp only;by_cases G:k>0
  .rw[c_ G];have M:=m.moveA f.sa f.sb k ⋯ F;by_cases H:i+k+1=a.size
   .rw[c_ (by simpa using H)];exact wpS_pure ⟨Eqv.rfl',.inl ⟨_,rfl,M.one f.sa f.sb H λy q hy u=>f.lst y q hy (by rw[<-H];exact u)⟩⟩
   .rw[f_ (by simpa using H)];by_cases W:i+k=a.size
    .rw[c_ (by simpa using W)];exact wpS_pure ⟨Eqv.rfl',.inl ⟨_,rfl,M.all f.sa f.sb (.inl ⋯)⟩⟩
    .rw[f_ (by simpa using W)];exact wW f z M ⋯ P (by rw[L8];lia) l
  .rw[f_ G];have e:k=0:=by lia
   subst e;exact wW f z m hi P hN l
def NF(C:vb prog w A E s kd O)(a b:Array Keyed)(N:Nat)(c:LD):Prop:=c.1=Y/\MI C a b c.2.1 c.2.2.1 c.2.2.2.1/\c.2.2.1+1<a.size/\c.2.2.2.1<b.size/\N<=c.2.1.size
def RY(C:vb prog w A E s kd O)(a b:Array Keyed)(N:Nat)(c:LCt):Prop:=c.1=Y/\MI C a b c.2.1 c.2.2.1 c.2.2.2.1/\c.2.2.1+1<a.size/\c.2.2.2.1<b.size/\N<=c.2.1.size
def RZ(C:vb prog w A E s kd O)(a b:Array Keyed)(N:Nat)(st:SortSt)(r:ForInStep LD)(f:SortSt):Prop:=match r with
 |.done c=>f=st/\((∃x,c.1=J x/\MR C a b x)\/NF C a b N c)
 |.yield c=>f=st/\NF C a b N c
def Jp(C:vb prog w A E s kd O)(a b:Array Keyed)(N:Nat)(st:SortSt)(r:ForInStep LCt)(f:SortSt):Prop:=match r with
 |.done c=>Eqv st f/\∃x,c.1=J x/\MR C a b x
 |.yield c=>Eqv st f/\RY C a b N c
def Jq(f:A9 C a b)(H:kindOf st=kd)(L:MI C a b ou' i' j')(F:i'+1<a.size)(r:j'<b.size)(hN:N<=ou'.size):
  wpS (model prog w) A E s (RV a b g (Y,ou',i',j',na,nb)) (RZ C a b (N+1) st) st:=by
 unfold RV;dsimp only;refine wpS_bind (aS r λp G=>wpS_bind (aS ⋯ λq B=>?_));refine wpS_bind (C.ask p q st _ (bE f.gb G) (bE f.ga B) H ?_)
 cases M:O.blt (C.key p) (C.key q) with
 |true =>
  dsimp only;refine wpS_bind (aS r λR i=>?_);rw[G]at i;cases i;have u:=L.pushB f.sa f.sb G (λP j=>by rw[B]at j;cases j;exact KeyOrd.kle_of_klt M);have l:(ou'.push p).size=ou'.size+1:=Ec ..;by_cases z:j'+1=b.size
  .rw[c_ (by simpa using z)];exact wpS_pure ⟨rfl,.inl ⟨_,rfl,u.all f.sa f.sb (.inr ⋯)⟩⟩
  .rw[f_ (by simpa using z)];split
   .exact wpS_pure ⟨rfl,.inr ⟨rfl,u,F,⋯,by rw[l];lia⟩⟩
   .exact wpS_pure ⟨rfl,rfl,u,F,⋯,by rw[l];lia⟩
 |false =>
  dsimp only;refine wpS_bind (aS ⋯ λP j=>?_);rw[B]at j;cases j;have u:=L.pushA f.sa f.sb B (λR i=>by rw[G]at i;cases i;exact M);have l:(ou'.push q).size=ou'.size+1:=Ec ..;by_cases z:i'+1+1=a.size
  .rw[c_ (by simpa using z)];exact wpS_pure ⟨rfl,.inl ⟨_,rfl,u.one f.sa f.sb z λy q Q B=>f.lst y q Q (by rw[<-z];exact B)⟩⟩
  .rw[f_ (by simpa using z)];split
   .exact wpS_pure ⟨rfl,.inr ⟨rfl,u,⋯,r,by rw[l];lia⟩⟩
   .exact wpS_pure ⟨rfl,rfl,u,⋯,r,by rw[l];lia⟩
def Jr(j:Eqv Ff st)(i:(∃x,c.1=J x/\MR C a b x)\/LI C a b N c):wpS (model prog w) A E s (Uq c) (Jp C a b N Ff) st:=by
 obtain⟨G,z,F,H,L,l,u⟩:=c;rcases i with⟨r,f,B⟩|⟨i,f⟩
 .cases f;exact wpS_pure ⟨j,r,rfl,B⟩
 .cases i;exact wpS_bind (wpS_modify (wpS_pure ⟨j.trans ⟨rfl,rfl,rfl,rfl⟩,rfl,f⟩))
def Js(i:A9 C a b)(r:kindOf st=kd)(h:LI C a b N c):wpS (model prog w) A E s (RW a b c) (k8 C a b N st) st:=by
 obtain⟨_,u,f,l,j⟩:=h;unfold RW;split
 .exact vK i r u f l j
 .exact vK i r u f l j
def Jt(z:A9 C a b)(M:kindOf st=kd)(B:Eqv Ff st)(l:(∃x,c.1=J x/\MR C a b x)\/NF C a b N c):wpS (model prog w) A E s (Ur a b g c) (Jp C a b N Ff) st:=by
 obtain⟨R,P,U,W,na,nb⟩:=c;rcases l with⟨r,j,H⟩|⟨l,j⟩
 .cases j;exact wpS_pure ⟨B,r,rfl,H⟩
 .cases l;refine wpS_bind (wpS_lift (wpAny_rule ⟨rfl,?_⟩));refine wpS_bind (wpS_mono (wpS_forRange (I:=λy c i=>Eqv st i/\LI C a b N c) (Q:=λc i=>Eqv st i/\((∃x,c.1=J x/\MR C a b x)\/LI C a b N c)) ?_ ?_ ⟨Eqv.rfl',rfl,j⟩) ?_)
  .rintro y c i _ S ⟨f,L⟩;refine wpS_mono (Js z (f.kind.trans M) L) λr F j=>?_
   cases r with
   |done G=>exact⟨f.trans j.1,j.2⟩
   |yield G=>exact⟨f.trans j.1,j.2⟩
  .rintro c i ⟨f,u⟩;exact⟨f,.inr u⟩
  .rintro c i ⟨f,l⟩;exact Jr (B.trans f) l
def Ju(i:A9 C a b)(F:kindOf st=kd)(h:RY C a b N c):wpS (model prog w) A E s (Us a b c) (Jp C a b (N+1) st) st:=by
 obtain⟨B,P⟩:=h
 refine wpS_bind (wpS_mono (wpS_forRange (I:=λy c f=>f=st/\NF C a b (N+y) c)
  (Q:=λc f=>f=st/\((∃x,c.1=J x/\MR C a b x)\/NF C a b (N+1) c)) ?_ ?_ ⟨rfl,rfl,P⟩) ?_)
 .rintro y c f _ R ⟨rfl,L⟩;obtain⟨B,M,z,l,j⟩:=L;refine wpS_mono (Jq i F M z l j) λr G u=>?_
  cases r with
  |done H=>exact⟨u.1,u.2.imp_right λh=>⟨h.1,h.2.1,h.2.2.1,h.2.2.2.1,o0 ⋯ h.2.2.2.2⟩⟩
  |yield H=>exact u
 .rintro c f ⟨rfl,h⟩;exact⟨rfl,.inr ⟨h.1,h.2.1,h.2.2.1,h.2.2.2.1,o0 ⋯ h.2.2.2.2⟩⟩
 .rintro c f ⟨rfl,B⟩;exact Jt i F Eqv.rfl' B
def Jv(u:A9 C a b)(M:kindOf st=kd)(z:MI C a b #[x0] 0 1)(B:0+1<a.size)(H:1<b.size)(h:∀x f,Eqv st f->MR C a b x->Q x f):wpS (model prog w) A E s (Ut a b x0) Q st:=by
 refine wpS_bind (wpS_get ?_)
 refine wpS_bind (wpS_mono (wpS_forRange (I:=λx c f=>Eqv st f/\RY C a b (x+1) c)
  (Q:=λc f=>Eqv st f/\∃x,c.1=J x/\MR C a b x) ?_ ?_ ⟨Eqv.rfl',rfl,z,B,H,ii _⟩) ?_)
 .rintro x c f _ R ⟨l,i⟩;refine wpS_mono (Ju u (l.kind.trans M) i) λr F j=>?_
  cases r with
  |done G=>exact⟨l.trans j.1,j.2⟩
  |yield G=>exact⟨l.trans j.1,j.2⟩
 .rintro c f ⟨l,i⟩;exfalso;have z:=i.2.2.1;have U:=i.2.2.2.1
  have:=i.2.1.size ⋯ ⋯
  have:=i.2.2.2.2
  lia
 .rintro c f ⟨l,r,j,L⟩;obtain⟨S,P⟩:=c;cases j;exact wpS_pure (h r f l L)
def Jw(f:A9 C a b)(F:kindOf st=kd)(h:∀x j,Eqv st j->MR C a b x->Q x j):wpS (model prog w) A E s (nG a b) Q st:=by
 rw[RX];refine wpS_bind (wpS_lift (wpAny_rule ⟨rfl,?_⟩));have G:=f.na;have L:=f.nb;refine wpS_bind (aS ⋯ λB i=>?_);have H:MI C a b #[] 0 0:=⟨by simp,by unfold LS;simp,λx M=>by simp at M⟩;have r:MI C a b #[B] 0 1:=by
  have:=H.pushB f.sa f.sb i (λq u=>f.fst B q i u)
  simpa using this
 by_cases z:1=b.size
 .rw[c_ (by simpa using z)]
  have:=r.all f.sa f.sb (.inr ⋯)
  exact wpS_pure (h _ st Eqv.rfl' (by simpa using this))
 .rw[f_ (by simpa using z)];by_cases l:0+1=a.size
  .rw[c_ (by simpa using l)]
   have:=r.one f.sa f.sb l λy q P u=>f.lst y q P (by rw[<-l];exact u)
   exact wpS_pure (h _ st Eqv.rfl' (by simpa using this))
  .rw[f_ (by simpa using l)];exact Jv f F r ⋯ ⋯ h
end
def CM{m k:Nat}(a:1<=m)(b:m<=k):m-1<k:=pq (GO a Hy) b
def y3{m k:Nat}(h:k<m):m-k=m-(k+1)+1:=(Nat.succ_pred_eq_of_pos (Nat.sub_pos_of_lt h)).symm
def Qd{m k s:Nat}(h:k<m)(b:m<=s):m-(k+1)<s:=pq (GO (Nat.zero_lt_of_lt h) (Nat.succ_pos k)) b
def nK:Array Keyed->Array Keyed->StateT SortSt Sem (Array Keyed):=sortPriv% PySem.Builtin.mergeHi
section
variable{prog:Program}{w:World}{A:Around}{E:VB}{s:Shared}{kd:SortKind}{O:KeyOrd}{C:vb prog w A E s kd O}{a b ou:Array Keyed}{m n:Nat}{st:SortSt}
structure HI(C:vb prog w A E s kd O)(a b ou:Array Keyed)(m n:Nat):Prop where
 perm:(a.toList.take m++b.toList.take n++ou.toList.reverse).Perm (a.toList++b.toList)
 srt:LS C ou.toList.reverse
 hgh:LB C (a.toList.take m++b.toList.take n) ou.toList.reverse
def HI.size(h:HI C a b ou m n)(f:m<=a.size)(i:n<=b.size):ou.size+m+n=a.size+b.size:=by
 have:=h.perm.length_eq
 simp at this;lia
def mG{xs:Array Keyed}{i:Nat}{p:Keyed}(h:xs[i]?=J p):xs.toList.take (i+1)=xs.toList.take i++[p]:=by rw[Mh,v_,h];rfl
def jE{xs:Array Keyed}(h:LS C xs.toList)(i:Nat):LS C (xs.toList.take i):=h.sublist (List.take_sublist i _)
def lS{xs:Array Keyed}(h:LS C xs.toList){i:Nat}{p:Keyed}(l:xs[i]?=J p):∀y∈xs.toList.take (i+1),O.kle (C.key y) (C.key p):=by
 have j:=jE h (i+1);rw[mG l]at j ⊢;unfold LS at j;rw[QO]at j;intro y f;rcases nq.mp f with f|f
 .exact j.2.2 y f p (by simp)
 .have:y=p:=by simpa using f
  subst this;exact KeyOrd.kle_refl _
def iY(p:Keyed):(ou.push p).toList.reverse=p::ou.toList.reverse:=by simp
def HI.pushA(h:HI C a b ou (m+1) n)(B:LS C a.toList)(F:LS C b.toList){p:Keyed}(z:a[m]?=J p)(u:1<=n)(r:n<=b.size)(G:∀q,b[n-1]?=J q->O.kle (C.key q) (C.key p)):HI C a b (ou.push p) m n:=by
 have hd:=mG z;obtain⟨q,j⟩:∃q,b[n-1]?=J q:=⟨_,getElem?_pos b (n-1) (CM u r)⟩;have l:∀y∈a.toList.take m++b.toList.take n,O.kle (C.key y) (C.key p):=by
  intro y f;rcases nq.mp f with f|f
  .exact lS B z y (by rw[hd];exact s_ _ f)
  .refine KeyOrd.kle_trans (lS F j y ?_) (G q j);rw[Hu u];exact f
 refine⟨?_,?_,?_⟩
 .have:=h.perm
  rw[hd]at this;rw[iY];refine List.Perm.trans ?_ this;have e1:(a.toList.take m++b.toList.take n++p::ou.toList.reverse).Perm (p::(a.toList.take m++b.toList.take n++ou.toList.reverse)):=Mc;have e2:(a.toList.take m++[p]++b.toList.take n++ou.toList.reverse).Perm (p::(a.toList.take m++b.toList.take n++ou.toList.reverse)):=by simp_all
  exact e1.trans e2.symm
 .rw[iY];unfold LS;rw[Hv];refine⟨λy f=>h.hgh p (s_ _ (by rw[hd];simp)) y f,h.srt⟩
 .rw[iY];intro x i y f;rcases lb.mp f with rfl|f
  .exact l x i
  .refine h.hgh x ?_ y f;rcases nq.mp i with i|i
   .exact s_ _ (by rw[hd];exact s_ _ i)
   .exact oI _ i
def HI.pushB(h:HI C a b ou m (n+1))(B:LS C a.toList)(F:LS C b.toList){p:Keyed}(z:b[n]?=J p)(u:1<=m)(l:m<=a.size)(G:∀q,a[m-1]?=J q->O.kle (C.key q) (C.key p)):HI C a b (ou.push p) m n:=by
 have hd:=mG z;obtain⟨q,j⟩:∃q,a[m-1]?=J q:=⟨_,getElem?_pos a (m-1) (CM u l)⟩;have r:∀y∈a.toList.take m++b.toList.take n,O.kle (C.key y) (C.key p):=by
  intro y f;rcases nq.mp f with f|f
  .refine KeyOrd.kle_trans (lS B j y ?_) (G q j);rw[Hu u];exact f
  .exact lS F z y (by rw[hd];exact s_ _ f)
 refine⟨?_,?_,?_⟩
 .have:=h.perm
  simp_all
 .rw[iY];unfold LS;rw[Hv];refine⟨λy f=>h.hgh p (oI _ (by rw[hd];simp)) y f,h.srt⟩
 .rw[iY];intro x i y f;rcases lb.mp f with rfl|f
  .exact r x i
  .refine h.hgh x ?_ y f;rcases nq.mp i with i|i
   .exact s_ _ i
   .exact oI _ (by rw[hd];exact s_ _ i)
def tE{xs:Array Keyed}{m k:Nat}{p:Keyed}(f:k<m)(i:m<=xs.size)(h:xs[m-(k+1)]?=J p):ou++(xs.extract (m-(k+1)) m).reverse=(ou++(xs.extract (m-k) m).reverse).push p:=by apply GJ.mp;simp only[Hs,Array.toList_reverse,D_,Pc,QK];rw[Md f,Md (vv f),jD h,<-y3 f];simp
def HI.moveA(h:HI C a b ou m n)(H:LS C a.toList)(M:LS C b.toList)(B:m<=a.size)(P:1<=n)(u:n<=b.size):∀k,k<=m->(∀r p q,m-k<=r->r<m->a[r]?=J p->b[n-1]?=J q->O.kle (C.key q) (C.key p)) ->
  HI C a b (ou++(a.extract (m-k) m).reverse) (m-k) n:=by
 intro k
 induction k with
 |zero =>
  intro _ _;have e:ou++(a.extract (m-0) m).reverse=ou:=by apply GJ.mp;simp
  rw[e];exact h
 |succ k L =>
  intro f G;have l:=getElem?_pos a (m-(k+1)) (Qd f B);have z:=L (vv f) λr p q i=>G r p q (o0 (Pk (Lo k) _) i);have e:=y3 f;rw[tE f B l];rw[e]at z;have F:=z.pushA H M l P u (λq j=>G _ _ q (ii _) (Qd f (ii _)) l j);rw[<-e]at F;exact F
def HI.moveB(h:HI C a b ou m n)(H:LS C a.toList)(M:LS C b.toList)(G:n<=b.size)(P:1<=m)(i:m<=a.size):∀k,k<=n->(∀r p q,n-k<=r->r<n->b[r]?=J p->a[m-1]?=J q->O.kle (C.key q) (C.key p)) ->
  HI C a b (ou++(b.extract (n-k) n).reverse) m (n-k):=by
 intro k
 induction k with
 |zero =>
  intro _ _;have e:ou++(b.extract (n-0) n).reverse=ou:=by apply GJ.mp;simp
  rw[e];exact h
 |succ k L =>
  intro f F;have u:=getElem?_pos b (n-(k+1)) (Qd f G);have z:=L (vv f) λr p q j=>F r p q (o0 (Pk (Lo k) _) j);have e:=y3 f;rw[tE f G u];rw[e]at z;have B:=z.pushB H M u P i (λq l=>F _ _ q (ii _) (Qd f (ii _)) u l);rw[<-e]at B;exact B
def nE{xs:Array Keyed}{i:Nat}:(xs.extract 0 i).toList=xs.toList.take i:=by rw[Pc,QK];simp
def HI.all(h:HI C a b ou m n)(j:LS C a.toList)(f:LS C b.toList)(i:m=0\/n=0):MR C a b (a.extract 0 m++b.extract 0 n++ou.reverse):=by
 have e:(a.extract 0 m++b.extract 0 n++ou.reverse).toList=a.toList.take m++b.toList.take n++ou.toList.reverse:=by simp_all
 unfold MR;rw[e];refine⟨h.perm,cG ?_ h.srt h.hgh⟩;rcases i with rfl|rfl
 .simpa using jE f n
 .simpa using jE j m
def HI.one(h:HI C a b ou m n)(f:A9 C a b)(B:n=1):MR C a b (b.extract 0 n++a.extract 0 m++ou.reverse):=by
 subst B;have e:(b.extract 0 1++a.extract 0 m++ou.reverse).toList=b.toList.take 1++a.toList.take m++ou.toList.reverse:=by rw[Hs,Hs,nE,nE,Array.toList_reverse]
 unfold MR;rw[e];have F:=f.nb;have z:=f.na;have r:=getElem?_pos b 0 ⋯;have u:=getElem?_pos a 0 ⋯;have hd:=mG r;refine⟨(List.Perm.append_right _ Pa).trans h.perm,cG (cG (jE f.sb 1) (jE f.sa m) ?_) h.srt ?_⟩
 .intro x j y l;have i:x=b[0]'⋯:=by
   have:=j
   rw[hd]at this;simpa using this
  subst i;refine KeyOrd.kle_trans (f.fst _ _ r u) (jH f.sa u y ?_);exact List.mem_of_mem_take l
 .intro x j y l;exact h.hgh x (nq.mpr (nq.mp j).symm) y l
end
abbrev HS:=Option (Array Keyed)×Nat×Nat×Array Keyed×Nat×Nat×Nat
def Jx(a b j:Array Keyed)(m n g f i:Nat):StateT SortSt Sem (ForInStep HS):=do
 let x <-elem' a (m-1)
 if(m-1==0)=I then pure (ForInStep.done (J (a.extract 0 (m-1)++b.extract 0 n++(j.push x).reverse),m-1,n,j.push x,g,f,i))
 else if(decide (f<7)&&decide (i<7))=I then pure (ForInStep.done (Y,m-1,n,j.push x,g,f,i))
 else pure (ForInStep.yield (Y,m-1,n,j.push x,g,f,i))
def Jy(a b f:Array Keyed)(m n g i j:Nat):StateT SortSt Sem (ForInStep HS):=do
 let x <-elem' b (n-1)
 if(n-1==1)=I then pure (ForInStep.done (J (b.extract 0 (n-1)++a.extract 0 m++(f.push x).reverse),m,n-1,f.push x,g,i,j))
 else do
  let y <-elem' a (m-1)
  let q <-gallop' I y b 0 (n-1) (n-1-1)
  match q with
  |some z =>
   if n-1-z>0 then
    if(z==1)=I then
     pure (ForInStep.done (J (b.extract 0 z++a.extract 0 m++(f.push x++(b.extract z (n-1)).reverse).reverse),m,z,f.push x++(b.extract z (n-1)).reverse,g,i,n-1-z))
    else if(z==0)=I then
     pure (ForInStep.done (J (a.extract 0 m++b.extract 0 z++(f.push x++(b.extract z (n-1)).reverse).reverse),m,z,f.push x++(b.extract z (n-1)).reverse,g,i,n-1-z))
    else Jx a b (f.push x++(b.extract z (n-1)).reverse) m z g i (n-1-z)
   else Jx a b (f.push x) m (n-1) g i (n-1-z)
  |_=>pure (ForInStep.done (J (a.extract 0 m++b.extract 0 (n-1)++(f.push x).reverse),m,n-1,f.push x,g,i,j))
def Fv(a b f:Array Keyed)(m n g j i:Nat):StateT SortSt Sem (ForInStep HS):=do
 Fs g
 let x <-elem' b (n-1)
 let q <-gallop' T x a 0 m (m-1)
 match q with
 |some z =>
  if m-z>0 then
   if(z==0)=I then
    pure (ForInStep.done (J (a.extract 0 z++b.extract 0 n++(f++(a.extract z m).reverse).reverse),z,n,f++(a.extract z m).reverse,g,m-z,i))
   else Jy a b (f++(a.extract z m).reverse) z n g (m-z) i
  else Jy a b f m n g (m-z) i
 |_=>pure (ForInStep.done (J (a.extract 0 m++b.extract 0 n++f.reverse),m,n,f,g,j,i))
abbrev HB:=Option (Array Keyed)×Nat×Nat×Array Keyed×Nat×Nat
abbrev HC:=Option (Array Keyed)×Nat×Nat×Array Keyed×Nat
def R0(a b:Array Keyed)(g:Nat)(c:HB):StateT SortSt Sem (ForInStep HB):=do
 let x <-elem' b (c.2.2.1-1)
 let y <-elem' a (c.2.1-1)
 let q <-lt' x y
 match q with
 |some q =>
  if q=I then do
   let z <-elem' a (c.2.1-1)
   if(c.2.1-1==0)=I then pure (ForInStep.done (J (a.extract 0 (c.2.1-1)++b.extract 0 c.2.2.1++(c.2.2.2.1.push z).reverse),c.2.1-1,c.2.2.1,c.2.2.2.1.push z,c.2.2.2.2.1+1,0))
   else if c.2.2.2.2.1+1>=g then pure (ForInStep.done (Y,c.2.1-1,c.2.2.1,c.2.2.2.1.push z,c.2.2.2.2.1+1,0))
   else pure (ForInStep.yield (Y,c.2.1-1,c.2.2.1,c.2.2.2.1.push z,c.2.2.2.2.1+1,0))
  else do
   let z <-elem' b (c.2.2.1-1)
   if(c.2.2.1-1==1)=I then pure (ForInStep.done (J (b.extract 0 (c.2.2.1-1)++a.extract 0 c.2.1++(c.2.2.2.1.push z).reverse),c.2.1,c.2.2.1-1,c.2.2.2.1.push z,0,c.2.2.2.2.2+1))
   else if c.2.2.2.2.2+1>=g then pure (ForInStep.done (Y,c.2.1,c.2.2.1-1,c.2.2.2.1.push z,0,c.2.2.2.2.2+1))
   else pure (ForInStep.yield (Y,c.2.1,c.2.2.1-1,c.2.2.2.1.push z,0,c.2.2.2.2.2+1))
 |_=>pure (ForInStep.done (J (a.extract 0 c.2.1++b.extract 0 c.2.2.1++c.2.2.2.1.reverse),c.2.1,c.2.2.1,c.2.2.2.1,c.2.2.2.2.1,c.2.2.2.2.2))
def R1(a b:Array Keyed)(c:HS):StateT SortSt Sem (ForInStep HS) :=
 if c.2.2.2.2.1>1 then Fv a b c.2.2.2.1 c.2.1 c.2.2.1 (c.2.2.2.2.1-1) c.2.2.2.2.2.1 c.2.2.2.2.2.2
 else Fv a b c.2.2.2.1 c.2.1 c.2.2.1 c.2.2.2.2.1 c.2.2.2.2.2.1 c.2.2.2.2.2.2
def Uu(c:HS):StateT SortSt Sem (ForInStep HC) :=
 match c.1 with
 |some r=>pure (ForInStep.done (J r,c.2.1,c.2.2.1,c.2.2.2.1,c.2.2.2.2.1))
 |none=>do
  Fs (c.2.2.2.2.1+1)
  pure (ForInStep.yield (Y,c.2.1,c.2.2.1,c.2.2.2.1,c.2.2.2.2.1+1))
def Uv(a b:Array Keyed)(g:Nat)(c:HB):StateT SortSt Sem (ForInStep HC) :=
 match c.1 with
 |some r=>pure (ForInStep.done (J r,c.2.1,c.2.2.1,c.2.2.2.1,g))
 |none=>do
  liftM (rule "list.sort.gallop")
  let e <-forIn [:a.size+b.size] ((Y,c.2.1,c.2.2.1,c.2.2.2.1,g+1,c.2.2.2.2.1,c.2.2.2.2.2):HS) λ_ e=>R1 a b e
  Uu e
def Uw(a b:Array Keyed)(c:HC):StateT SortSt Sem (ForInStep HC):=do
 let d <-forIn [:a.size+b.size] ((Y,c.2.1,c.2.2.1,c.2.2.2.1,0,0):HB) λ_ d=>R0 a b c.2.2.2.2 d
 Uv a b c.2.2.2.2 d
def Ux(a b:Array Keyed)(x:Keyed):StateT SortSt Sem (Array Keyed):=do
 let g <-get
 let r <-forIn [:a.size+b.size] ((Y,a.size-1,b.size,#[x],gallopOf g):HC) λ_ c=>Uw a b c
 match r.1 with
 |some r=>pure r
 |none=>liftM (unsupported "internal:list.sort.merge-bound":Sem (Array Keyed))
def R3(a b:Array Keyed):nK a b=(do
 liftM (rule "list.sort.merge-hi")
 let x <-elem' a (a.size-1)
 if(a.size-1==0)=I then pure (a.extract 0 (a.size-1)++b.extract++#[x].reverse)
 else if(b.size==1)=I then pure (b.extract++a.extract 0 (a.size-1)++#[x].reverse)
 else Ux a b x):=by
 refine congrArg (Bind.bind _) (funext λ_=>congrArg (Bind.bind _) (funext λx=>congrArg (λz=>ite _ _ (ite _ _ z)) ?_));have e:∀{α β:Type}{x y:StateT SortSt Sem α}{f h:α->StateT SortSt Sem β},x=y->(∀a,f a=h a)->(x >>= f)=(y >>= h):=λe f=>by rw[e,funext f]
 refine congrArg (Bind.bind _) (funext λg=>e (congrArg (forIn _ _) (funext λ_=>funext λc=>?_)) λ⟨r,_⟩=>by cases r<;>rfl);refine e rfl λd=>?_;obtain⟨i,j⟩:=d
 cases i with
 |some r=>rfl
 |none=>exact congrArg (Bind.bind _) (funext λ_=>e rfl λ⟨r,_⟩=>by cases r<;>rfl)
section
variable{prog:Program}{w:World}{A:Around}{E:VB}{s:Shared}{kd:SortKind}{O:KeyOrd}{C:vb prog w A E s kd O}{st:SortSt}{a b:Array Keyed}
def Jz(C:vb prog w A E s kd O)(a b:Array Keyed)(N:Nat)(c:HS):Prop :=
 c.1=Y/\HI C a b c.2.2.2.1 c.2.1 c.2.2.1/\1<=c.2.1/\c.2.1<=a.size/\2<=c.2.2.1/\c.2.2.1<=b.size/\N<=c.2.2.2.1.size
def o8(C:vb prog w A E s kd O)(a b:Array Keyed)(N:Nat)(st:SortSt)(r:ForInStep HS)(f:SortSt):Prop:=Eqv st f/\match r with
 |.done c=>(∃x,c.1=J x/\MR C a b x)\/Jz C a b N c
 |.yield c=>Jz C a b N c
def wn(f:A9 C a b)(h:HI C a b ou m n)(z:1<=m)(i:m<=a.size)(H:2<=n)(j:n<=b.size)(hN:N<=ou.size)(u:∀p q,b[n-1]?=J p->a[m-1]?=J q->O.kle (C.key p) (C.key q)):wpS (model prog w) A E s (Jx a b ou m n g ca cb) (o8 C a b N st) st:=by
 refine wpS_bind (aS (CM z i) λx F=>?_);have e:=(Hu z).symm;have G:HI C a b (ou.push x) (m-1) n:=by have L:=h;rw[e]at L;exact L.pushA f.sa f.sb F (Li H) j (λq M=>u q x M F)
 have r:(ou.push x).size=ou.size+1:=Ec ..;by_cases l:m-1=0
 .rw[c_ (by simpa using l)];exact wpS_pure ⟨Eqv.rfl',.inl ⟨_,rfl,G.all f.sa f.sb (.inl l)⟩⟩
 .rw[f_ (by simpa using l)];have B:Jz C a b N (Y,m-1,n,ou.push x,g,ca,cb):=⟨rfl,G,L7 l,vv (CM z i),H,j,r▸QS hN⟩;split
  .exact wpS_pure ⟨Eqv.rfl',.inr B⟩
  .exact wpS_pure ⟨Eqv.rfl',B⟩
def wz(f:A9 C a b)(hk:kindOf st=kd)(h:HI C a b ou m n)(P:1<=m)(j:m<=a.size)(hn:2<=n)(ap:n<=b.size)(hN:N<=ou.size)(Z:∀p q,a[m-1]?=J p->b[n-1]?=J q->O.kle (C.key p) (C.key q)):wpS (model prog w) A E s (Jy a b ou m n g ca cb) (o8 C a b N st) st:=by
 have L:=Li hn;have H:=CM L ap;refine wpS_bind (aS H λx hx=>?_);have e:=(Hu L).symm;have h1:HI C a b (ou.push x) m (n-1):=by have h':=h;rw[e]at h';exact h'.pushB f.sa f.sb hx P j (λq i=>Z q x i hx)
 have U:(ou.push x).size=ou.size+1:=Ec ..;by_cases X:n-1=1
 .rw[c_ (by simpa using X)];exact wpS_pure ⟨Eqv.rfl',.inl ⟨_,rfl,h1.one f X⟩⟩
 .rw[f_ (by simpa using X)];refine wpS_bind (aS (CM P j) λy hy=>?_);refine wpS_bind (eE (C:=C) hk f.gb (bE f.ga hy) ⋯ (GO (L6 hn) Hy) ?_ λz hz an ab=>?_)
  .intro p q l S i;exact k6 f.sb p q (ya _) S ⋯
  .have u:∀r p q,r<z->b[r]?=J p->a[m-1]?=J q->O.kle (C.key p) (C.key q):=λr p q hr l i=>by
    have:=an r hr
    unfold ib at this;rw[vw,aQ l]at this;rw[hy]at i;cases i;exact KeyOrd.kle_of_klt this
   have M:∀r p q,z<=r->r<n-1->b[r]?=J p->a[m-1]?=J q->O.kle (C.key q) (C.key p):=λr p q B F l i=>by
    have:=ab r B F
    unfold ib at this;rw[vw,aQ l]at this;rw[hy]at i;cases i;exact this
   dsimp only;by_cases G:n-1-z>0
   .rw[c_ G];have ez:=Md hz;have R:=h1.moveB f.sa f.sb (vv H) P j (n-1-z) (DO ..) (λr p q B F=>M r p q (ez▸B) F);rw[ez]at R;by_cases W:z=1
    .rw[c_ (by simpa using W)];exact wpS_pure ⟨Eqv.rfl',.inl ⟨_,rfl,R.one f W⟩⟩
    .rw[f_ (by simpa using W)];by_cases Q:z=0
     .rw[c_ (by simpa using Q)];exact wpS_pure ⟨Eqv.rfl',.inl ⟨_,rfl,R.all f.sa f.sb (.inr Q)⟩⟩
     .rw[f_ (by simpa using Q)];exact wn f R P j ⋯ ⋯ (by rw[L8];lia) (λp q l i=>u (z-1) p q (Nat.sub_one_lt Q) l i)
   .rw[f_ G];exact wn f h1 P j ⋯ (vv H) (U▸QS hN) (λp q l i=>u (n-1-1) p q (pq (GO (L6 hn) Hy) (T5 (T0 G))) l i)
def wI(f:A9 C a b)(hk:kindOf st=kd)(h:HI C a b ou m n)(Z:1<=m)(B:m<=a.size)(R:2<=n)(j:n<=b.size)(hN:N<=ou.size):
  wpS (model prog w) A E s (Fv a b ou m n g ca cb) (o8 C a b N st) st:=by
 unfold Fv;refine wpS_bind (wpS_modify ?_);have ev:Eqv st (SortSt.mk' (kindOf st) (arrOf st) (pendingOf st) g (failedOf st)):=⟨rfl,rfl,rfl,rfl⟩;refine wpS_mono (Q:=o8 C a b N (SortSt.mk' (kindOf st) (arrOf st) (pendingOf st) g (failedOf st))) ?_ λr ab h=>⟨ev.trans h.1,h.2⟩;have G:kindOf (SortSt.mk' (kindOf st) (arrOf st) (pendingOf st) g (failedOf st))=kd:=hk;refine wpS_bind (aS (CM (Li R) j) λx U=>?_);refine wpS_bind (eE (C:=C) G f.ga (bE f.gb U) ⋯ (GO Z Hy) ?_ λz hz X W=>?_)
 .intro p q l S i;exact k6 f.sa p q (ya _) S ⋯
 .have u:∀r p q,r<z->a[r]?=J p->b[n-1]?=J q->O.kle (C.key p) (C.key q):=λr p q hr l i=>by
   have:=X r hr
   unfold ib at this;rw[vw,aQ l]at this;rw[U]at i;cases i;simp only[sf,if_false,DK]at this;exact this
  have P:∀r p q,z<=r->r<m->a[r]?=J p->b[n-1]?=J q->O.kle (C.key q) (C.key p):=λr p q F H l i=>by
   have:=W r F H
   unfold ib at this;rw[vw,aQ l]at this;rw[U]at i;cases i;simp only[sf,if_false,QR]at this;exact KeyOrd.kle_of_klt this
  dsimp only;by_cases L:m-z>0
  .rw[c_ L];have ez:=Md hz;have h2:=h.moveA f.sa f.sb B (Li R) j (m-z) (DO ..) (λr p q F H=>P r p q (ez▸F) H);rw[ez]at h2;by_cases M:z=0
   .rw[c_ (by simpa using M)];exact wpS_pure ⟨Eqv.rfl',.inl ⟨_,rfl,h2.all f.sa f.sb (.inl M)⟩⟩
   .rw[f_ (by simpa using M)];exact wz f G h2 (L7 M) (o0 hz B) R j (by rw[L8];lia) (λp q l i=>u (z-1) p q (Nat.sub_one_lt M) l i)
  .rw[f_ L];exact wz f G h Z B R j hN (λp q l i=>u (m-1) p q (CM Z (T5 (T0 L))) l i)
def NG(C:vb prog w A E s kd O)(a b:Array Keyed)(N:Nat)(c:HB):Prop :=
 c.1=Y/\HI C a b c.2.2.2.1 c.2.1 c.2.2.1/\1<=c.2.1/\c.2.1<=a.size/\2<=c.2.2.1/\c.2.2.1<=b.size/\N<=c.2.2.2.1.size
def R4(C:vb prog w A E s kd O)(a b:Array Keyed)(N:Nat)(c:HC):Prop :=
 c.1=Y/\HI C a b c.2.2.2.1 c.2.1 c.2.2.1/\1<=c.2.1/\c.2.1<=a.size/\2<=c.2.2.1/\c.2.2.1<=b.size/\N<=c.2.2.2.1.size
def NH(C:vb prog w A E s kd O)(a b:Array Keyed)(N:Nat)(st:SortSt)(r:ForInStep HB)(f:SortSt):Prop:=match r with
 |.done c=>f=st/\((∃x,c.1=J x/\MR C a b x)\/NG C a b N c)
 |.yield c=>f=st/\NG C a b N c
def yc(C:vb prog w A E s kd O)(a b:Array Keyed)(N:Nat)(st:SortSt)(r:ForInStep HC)(f:SortSt):Prop:=match r with
 |.done c=>Eqv st f/\∃x,c.1=J x/\MR C a b x
 |.yield c=>Eqv st f/\R4 C a b N c
def JA(f:A9 C a b)(R:kindOf st=kd)(M:HI C a b ou' m' n')(r:1<=m')(j:m'<=a.size)(F:2<=n')(i:n'<=b.size)(hN:N<=ou'.size):
  wpS (model prog w) A E s (R0 a b g (Y,m',n',ou',ca,cb)) (NH C a b (N+1) st) st:=by
 unfold R0;dsimp only;have G:=Li F;have na:=CM r j;have nb:=CM G i;refine wpS_bind (aS nb λp Q=>wpS_bind (aS na λq P=>?_));refine wpS_bind (C.ask p q st _ (bE f.gb Q) (bE f.ga P) R ?_)
 cases S:O.blt (C.key p) (C.key q) with
 |true =>
  dsimp only;refine wpS_bind (aS na λU u=>?_);rw[P]at u;cases u;have em:=(Hu r).symm;have H:HI C a b (ou'.push q) (m'-1) n':=by have L:=M;rw[em]at L;exact L.pushA f.sa f.sb P G i (λW l=>by rw[Q]at l;cases l;exact KeyOrd.kle_of_klt S)
  have z:(ou'.push q).size=ou'.size+1:=Ec ..;by_cases B:m'-1=0
  .rw[c_ (by simpa using B)];exact wpS_pure ⟨rfl,.inl ⟨_,rfl,H.all f.sa f.sb (.inl B)⟩⟩
  .rw[f_ (by simpa using B)];split
   .exact wpS_pure ⟨rfl,.inr ⟨rfl,H,L7 B,vv na,F,i,z▸Hw hN⟩⟩
   .exact wpS_pure ⟨rfl,rfl,H,L7 B,vv na,F,i,z▸Hw hN⟩
 |false =>
  dsimp only;rw[f_ (by simp)];refine wpS_bind (aS nb λW l=>?_);rw[Q]at l;cases l;have en:=(Hu G).symm;have H:HI C a b (ou'.push p) m' (n'-1):=by have L:=M;rw[en]at L;exact L.pushB f.sa f.sb Q r j (λU u=>by rw[P]at u;cases u;exact S)
  have z:(ou'.push p).size=ou'.size+1:=Ec ..;by_cases B:n'-1=1
  .rw[c_ (by simpa using B)];exact wpS_pure ⟨rfl,.inl ⟨_,rfl,H.one f B⟩⟩
  .rw[f_ (by simpa using B)];split
   .exact wpS_pure ⟨rfl,.inr ⟨rfl,H,r,j,⋯,vv nb,z▸Hw hN⟩⟩
   .exact wpS_pure ⟨rfl,rfl,H,r,j,⋯,vv nb,z▸Hw hN⟩
def JB(j:Eqv Ff st)(i:(∃x,c.1=J x/\MR C a b x)\/Jz C a b N c):wpS (model prog w) A E s (Uu c) (yc C a b N Ff) st:=by
 obtain⟨H,F,G,z,L,u,l⟩:=c;rcases i with⟨r,f,B⟩|⟨i,f⟩
 .cases f;exact wpS_pure ⟨j,r,rfl,B⟩
 .cases i;exact wpS_bind (wpS_modify (wpS_pure ⟨j.trans ⟨rfl,rfl,rfl,rfl⟩,rfl,f⟩))
def JC(j:A9 C a b)(z:kindOf st=kd)(h:Jz C a b N c):wpS (model prog w) A E s (R1 a b c) (o8 C a b N st) st:=by
 obtain⟨_,B,r,f,u,i,l⟩:=h;unfold R1;split
 .exact wI j z B r f u i l
 .exact wI j z B r f u i l
def JD(z:A9 C a b)(M:kindOf st=kd)(B:Eqv Ff st)(l:(∃x,c.1=J x/\MR C a b x)\/NG C a b N c):wpS (model prog w) A E s (Uv a b g c) (yc C a b N Ff) st:=by
 obtain⟨S,U,X,P,Z,R⟩:=c;rcases l with⟨r,j,H⟩|⟨l,j⟩
 .cases j;exact wpS_pure ⟨B,r,rfl,H⟩
 .cases l;refine wpS_bind (wpS_lift (wpAny_rule ⟨rfl,?_⟩));refine wpS_bind (wpS_mono (wpS_forRange (I:=λy c i=>Eqv st i/\Jz C a b N c) (Q:=λc i=>Eqv st i/\((∃x,c.1=J x/\MR C a b x)\/Jz C a b N c)) ?_ ?_ ⟨Eqv.rfl',rfl,j⟩) ?_)
  .rintro y c i _ W ⟨f,L⟩;refine wpS_mono (JC z (f.kind.trans M) L) λr F j=>?_
   cases r with
   |done G=>exact⟨f.trans j.1,j.2⟩
   |yield G=>exact⟨f.trans j.1,j.2⟩
  .rintro c i ⟨f,u⟩;exact⟨f,.inr u⟩
  .rintro c i ⟨f,l⟩;exact JB (B.trans f) l
def JE(l:A9 C a b)(R:kindOf st=kd)(h:R4 C a b N c):wpS (model prog w) A E s (Uw a b c) (yc C a b (N+1) st) st:=by
 obtain⟨P,X,Z,G,hn,z,F⟩:=h
 refine wpS_bind (wpS_mono (wpS_forRange (I:=λy c f=>f=st/\NG C a b (N+y) c)
  (Q:=λc f=>f=st/\((∃x,c.1=J x/\MR C a b x)\/NG C a b (N+1) c)) ?_ ?_ ⟨rfl,rfl,X,Z,G,hn,z,F⟩) ?_)
 .rintro y c f _ hy ⟨rfl,W⟩;obtain⟨P,M,B,j,H,i,u⟩:=W;refine wpS_mono (JA l R M B j H i u) λr S L=>?_
  cases r with
  |done U=>exact⟨L.1,L.2.imp_right λh=>⟨h.1,h.2.1,h.2.2.1,h.2.2.2.1,h.2.2.2.2.1,h.2.2.2.2.2.1,o0 ⋯ h.2.2.2.2.2.2⟩⟩
  |yield U=>exact L
 .rintro c f ⟨rfl,h⟩;exact⟨rfl,.inr ⟨h.1,h.2.1,h.2.2.1,h.2.2.2.1,h.2.2.2.2.1,h.2.2.2.2.2.1,o0 ⋯ h.2.2.2.2.2.2⟩⟩
 .rintro c f ⟨rfl,P⟩;exact JD l R Eqv.rfl' P
def JF(u:A9 C a b)(M:kindOf st=kd)(F:HI C a b #[x0] (a.size-1) b.size)(G:1<=a.size-1)(L:2<=b.size)(h:∀x f,Eqv st f->MR C a b x->Q x f):wpS (model prog w) A E s (Ux a b x0) Q st:=by
 refine wpS_bind (wpS_get ?_)
 refine wpS_bind (wpS_mono (wpS_forRange (I:=λx c f=>Eqv st f/\R4 C a b (x+1) c)
  (Q:=λc f=>Eqv st f/\∃x,c.1=J x/\MR C a b x) ?_ ?_ ⟨Eqv.rfl',rfl,F,G,DO _ _,L,ii _,ii _⟩) ?_)
 .rintro x c f _ R ⟨l,i⟩;refine wpS_mono (JE u (l.kind.trans M) i) λr z j=>?_
  cases r with
  |done B=>exact⟨l.trans j.1,j.2⟩
  |yield B=>exact⟨l.trans j.1,j.2⟩
 .rintro c f ⟨l,i⟩;exfalso
  have:=i.2.1.size i.2.2.2.1 i.2.2.2.2.2.1
  have:=i.2.2.2.2.2.2
  lia
 .rintro c f ⟨l,r,j,H⟩;obtain⟨S,P⟩:=c;cases j;exact wpS_pure (h r f l H)
def JG(f:A9 C a b)(M:kindOf st=kd)(h:∀x j,Eqv st j->MR C a b x->Q x j):wpS (model prog w) A E s (nK a b) Q st:=by
 rw[R3];refine wpS_bind (wpS_lift (wpAny_rule ⟨rfl,?_⟩));have P:=f.na;have z:=f.nb;refine wpS_bind (aS ⋯ λB i=>?_)
 have F:HI C a b #[] a.size b.size:=⟨by
   have e1:a.toList.take a.size=a.toList:=LZ (by simp);have e2:b.toList.take b.size=b.toList:=LZ (by simp)
   rw[e1,e2];simp,by unfold LS;simp,λx _ y G=>by simp at G⟩
 have u:HI C a b #[B] (a.size-1) b.size:=by
  have e:a.size=a.size-1+1:=by lia
  have L:HI C a b #[] (a.size-1+1) b.size:=by rw[<-e];exact F
  have:=L.pushA f.sa f.sb i z (ii _) (λq H=>f.lst q B (Bs.mpr ⟨_,by rw[v_];exact H⟩) i)
  simpa using this
 by_cases r:a.size-1=0
 .rw[c_ (by simpa using r)];exact wpS_pure (h _ st Eqv.rfl' (u.all f.sa f.sb (.inl r)))
 .rw[f_ (by simpa using r)];by_cases l:b.size=1
  .rw[c_ (by simpa using l)];exact wpS_pure (h _ st Eqv.rfl' (u.one f l))
  .rw[f_ (by simpa using l)];exact JF f M u ⋯ ⋯ h
end
def vo(i:Nat):mergeAt' i=(do
 let c <-get
 let(J (sa,na,pw),J (sb,nb,_)):=((pendingOf c)[i]?,(pendingOf c)[i+1]?)|unsupported "internal:list.sort.pending"
 set (setPending c (((pendingOf c).setIfInBounds i (sa,na+nb,pw)).eraseIdxIfInBounds (i+1)))
 let J k <-gallop' T (<-elem' (arrOf c) sb) (arrOf c) sa na 0|return T
 let(sa,na):=(sa+k,na-k)
 if na==0 then return I
 let J nb <-gallop' I (<-elem' (arrOf c) (sa+na-1)) (arrOf c) sb nb (nb-1)|return T
 if nb==0 then return I
 let x:=(arrOf c).extract sa sb
 let y:=(arrOf c).extract sb (sb+nb)
 let f <-if na<=nb then nG x y else nK x y
 modify λc=>setArr c (f.toList.zipIdx.foldl (λa (p,j)=>a.setIfInBounds (sa+j) p) (arrOf c))
 return (failedOf (<-get)).isNone):=rfl
def Fw(f:Nat):∀(l:List Keyed)(q:Nat)(xs:Array Keyed)(i:Nat),((l.zipIdx q).foldl (λa (p:Keyed×Nat)=>a.setIfInBounds (f+p.2) p.1) xs)[i]? =
  if f+q<=i/\i<f+q+l.length/\i<xs.size then l[i-(f+q)]? else xs[i]?:=by
 intro l
 induction l with
 |nil=>intro q xs i;rw[f_ (by simp;lia)];rfl
 |cons p l j =>
  intro q xs i;rw[List.zipIdx_cons,QY,j];simp only[Array.size_setIfInBounds]
  grind
def A3{xs ou:Array Keyed}{off:Nat}(h:off+ou.size<=xs.size):
  (ou.toList.zipIdx.foldl (λa (p:Keyed×Nat)=>a.setIfInBounds (off+p.2) p.1) xs).toList=xs.toList.take off++(ou.toList++xs.toList.drop (off+ou.size)):=by
 apply Lh;intro i;rw[v_,Fw];have l:(xs.toList.take off).length=off:=by simp;lia
 by_cases f:i<off
 .rw[f_ ⋯,sd ⋯,O9 f,v_]
 .rw[C5 ⋯,l];by_cases j:i<off+ou.size
  .rw[c_ ⟨⋯,by simpa using j,⋯⟩,sd (by simp;lia)];congr 1
  .rw[f_ (by simp;lia),C5 (by simp;lia),Po,v_];congr 1;simp;lia
section
variable{prog:Program}{w:World}{A:Around}{E:VB}{s:Shared}{kd:SortKind}{O:KeyOrd}{C:vb prog w A E s kd O}{a₀:Array Keyed}{st:SortSt}
def iO{xs:Array Keyed}{lo r i j:Nat}(h:r_ C xs lo r)(f:lo<=i)(l:i<=j)(B:j<r){p q:Keyed}(u:xs[i]?=J p)(z:xs[j]?=J q):O.kle (C.key p) (C.key q):=by
 have:=h i j f l B
 rw[aQ u,aQ z]at this;exact this
def wq{xs:Array Keyed}{lo j:Nat}{p:Keyed}(l:j<=xs.size)(h:p∈(xs.extract lo j).toList):∃i,lo<=i/\i<j/\xs[i]?=J p:=by
 obtain⟨q,f⟩:=Bs.mp h;rw[v_,L0]at f
 split at f
 .exact⟨lo+q,⋯,⋯,f⟩
 .cases f
def JH{xs:Array Keyed}{i j k:Nat}(f:i<=j)(z:j<=k)(u:k<=xs.size):xs.toList=xs.toList.take i++((xs.extract i j).toList++(xs.extract j k).toList++xs.toList.drop k):=by
 have e1:(xs.extract i j).toList=(xs.toList.drop i).take (j-i):=by simp
 have e2:(xs.extract j k).toList=(xs.toList.drop j).take (k-j):=by simp
 rw[e1,e2];have r:(xs.toList.drop j).take (k-j)++xs.toList.drop k=xs.toList.drop j:=by
  have:=DZ (k-j) (xs.toList.drop j)
  simp_all
 have l:(xs.toList.drop i).take (j-i)++xs.toList.drop j=xs.toList.drop i:=by
  have:=DZ (j-i) (xs.toList.drop i)
  rw[List.drop_drop]at this;rw[GF f]at this;exact this
 rw[DJ,r,l,DZ]
def vp{n1 pw:Nat}{Q:Bool->SortSt->Prop}(h0:dh C a₀)(hB:SB kd a₀ st)(h1:1<=n1)(h2:n1<a₀.size)(hp:pendingOf st=#[(0,n1,pw),(n1,a₀.size-n1,0)])(G:r_ C (arrOf st) 0 n1)(F:r_ C (arrOf st) n1 a₀.size)(h:∀as,SB kd a₀ as->(pendingOf as).size=1->r_ C (arrOf as) 0 a₀.size->Q I as):wpS (model prog w) A E s (mergeAt' 0) Q st:=by
 have ay:=hB.size;have hg:=hB.good h0;have ax:=vv h2;rw[vo];refine wpS_bind (wpS_get ?_);rw[hp];have e0:(#[(0,n1,pw),(n1,a₀.size-n1,0)]:Array (Nat×Nat×Nat))[0]?=J (0,n1,pw):=rfl;have e1:(#[(0,n1,pw),(n1,a₀.size-n1,0)]:Array (Nat×Nat×Nat))[0+1]?=J (n1,a₀.size-n1,0):=rfl;rw[e0,e1];dsimp only;refine wpS_bind ?_;have bj:∀(c:SortSt)(Q':PUnit->SortSt->Prop),Q' ⟨⟩ c->wpS (model prog w) A E s (set c:StateT SortSt Sem PUnit) Q' st:=λc Q' hq=>by
  unfold wpS;rw[StateT.run_set];exact ia ⟨rfl,hq⟩
 refine bj _ _ ?_;obtain⟨L,H⟩:∃c,c=setPending st (((#[(0,n1,pw),(n1,a₀.size-n1,0)]:Array (Nat×Nat×Nat)).setIfInBounds 0 (0,n1+(a₀.size-n1),pw)).eraseIdxIfInBounds (0+1)):=⟨_,rfl⟩;rw[<-H];have B:SB kd a₀ L:=by rw[H];exact⟨hB.perm,hB.kind,hB.failed⟩
 have a2:(pendingOf L).size=1:=by rw[H];simp[pendingOf]
 have a7:arrOf L=arrOf st:=by rw[H]
 clear H;have an:r_ C (arrOf st) 0 n1->r_ C (arrOf st) n1 a₀.size->(∀i j,i<n1->n1<=j->j<a₀.size->O.kle (kk C (arrOf st) i) (kk C (arrOf st) j))->r_ C (arrOf L) 0 a₀.size:=by
  intro g1 g2 g3 i j _ bi Z;rw[a7];by_cases c1:j<n1
  .exact g1 i j (ya _) bi c1
  .by_cases c2:i<n1
   .exact g3 i j c2 ⋯ Z
   .exact g2 i j ⋯ bi Z
 refine wpS_bind (aS ⋯ λb0 W=>?_);refine wpS_bind (eE (C:=C) B.kind hg (bE hg W) ⋯ ⋯ (by rw[vw];exact G) λk hk bx bt=>?_);have ap:∀r p,r<k->(arrOf st)[r]?=J p->O.kle (C.key p) (C.key b0):=λr p hr f=>by
  have:=bx r hr
  unfold ib at this;rw[vw,aQ f]at this;simp only[sf,if_false,DK]at this;exact this
 have a8:∀r p,k<=r->r<n1->(arrOf st)[r]?=J p->O.kle (C.key b0) (C.key p):=λr p M X f=>by
  have:=bt r M X
  unfold ib at this;rw[vw,aQ f]at this;simp only[sf,if_false,QR]at this;exact KeyOrd.kle_of_klt this
 dsimp only;rw[vw];have R:∀i,i<a₀.size->∃p,(arrOf st)[i]?=J p:=λi u=>⟨_,getElem?_pos _ i ⋯⟩;by_cases z1:n1-k=0
 .rw[c_ (by simpa using z1)];refine wpS_pure (h L B a2 (an G F λi j u a6 U=>?_));obtain⟨p,f⟩:=R i ⋯;obtain⟨q,z⟩:=R j U;rw[aQ f,aQ z];exact KeyOrd.kle_trans (ap i p (pq u (TZ.1 z1)) f) (iO F (ii _) a6 U W z)
 .rw[f_ (by simpa using z1)];have ez:k+(n1-k)-1=n1-1:=by rw[GF hk]
  rw[ez];refine wpS_bind (aS (ay▸Lg (DO ..) h2) λal az=>?_);refine wpS_bind (eE (C:=C) B.kind hg (bE hg az) (Q2 ((GF ax).trans ay.symm)) (GO (Nat.sub_pos_of_lt h2) Hy) (by rw[GF ax];exact F) λm hm ba a4=>?_);have a1:∀r p,n1<=r->r<n1+m->(arrOf st)[r]?=J p->O.kle (C.key p) (C.key al):=λr p M X f=>by
   have:=ba (r-n1) (Nat.sub_lt_left_of_lt_add M X)
   unfold ib at this;rw[GF M,aQ f]at this;exact KeyOrd.kle_of_klt this
  have S:∀r p,n1+m<=r->r<a₀.size->(arrOf st)[r]?=J p->O.kle (C.key al) (C.key p):=λr p M X f=>by
   have a9:=Nat.le_of_add_right_le M
   have:=a4 (r-n1) (T4 M) (Nat.sub_lt_sub_right a9 X)
   unfold ib at this;rw[GF a9,aQ f]at this;exact this
  dsimp only;by_cases z2:m=0
  .rw[c_ (by simpa using z2)];refine wpS_pure (h L B a2 (an G F λi j u a6 U=>?_));obtain⟨p,f⟩:=R i ⋯;obtain⟨q,z⟩:=R j U;rw[aQ f,aQ z];exact KeyOrd.kle_trans (iO G (ya _) (L6 u) (GO h1 Hy) f az) (S j q ⋯ U z)
  .rw[f_ (by simpa using z2)];have mx:=Lm (ay.symm▸ax:n1<=(arrOf st).size);have mg:n1+m<=(arrOf st).size:=ay.symm▸Nat.add_le_of_le_sub' ax hm;have my:=Lm mg;have sx:((arrOf st).extract k n1).size=n1-k:=by rw[Array.size_extract,mx]
   have sy:((arrOf st).extract n1 (n1+m)).size=m:=by rw[Array.size_extract,my,TV]
   have gx:∀r,r<n1-k->((arrOf st).extract k n1)[r]?=(arrOf st)[k+r]?:=λr hr=>by rw[L0,mx,c_ hr]
   have gy:∀r,r<m->((arrOf st).extract n1 (n1+m))[r]?=(arrOf st)[n1+r]?:=λr hr=>by rw[L0,my,TV,c_ hr]
   have a0:∀p,p∈((arrOf st).extract k n1).toList->∃i,k<=i/\i<n1/\(arrOf st)[i]?=J p:=λp f=>wq ⋯ f;have ab:∀p,p∈((arrOf st).extract n1 (n1+m)).toList->∃i,n1<=i/\i<n1+m/\(arrOf st)[i]?=J p:=λp f=>wq mg f;have a5:A9 C ((arrOf st).extract k n1) ((arrOf st).extract n1 (n1+m)):=by
    refine⟨λp f=>?_,λp f=>?_,oq ⋯ λi j a b c=>G i j (ya _) b c,oq ⋯ λi j a b c=>F i j a b ⋯,⋯,⋯,?_,?_⟩
    .obtain⟨i,_,_,u⟩:=a0 p f;exact bE hg u
    .obtain⟨i,_,_,u⟩:=ab p f;exact bE hg u
    .intro p q f z;rw[gy 0 ⋯]at f;rw[gx 0 ⋯]at z;have e:(arrOf st)[n1+0]?=J b0:=W;rw[e]at f;cases f;exact a8 (k+0) q ⋯ ⋯ z
    .intro x q hx z;obtain⟨i,i1,i2,u⟩:=ab x hx;rw[sx,gx _ ⋯]at z;rw[<-Nat.add_sub_assoc (L7 z1),ez,az]at z;cases z;exact a1 i x i1 i2 u
   have fin:∀P l,Eqv L l->MR C ((arrOf st).extract k n1) ((arrOf st).extract n1 (n1+m)) P ->
     wpS (model prog w) A E s (do
      modify λc=>setArr c (P.toList.zipIdx.foldl (λa (p:Keyed×Nat)=>a.setIfInBounds (k+p.2) p.1) (arrOf c))
      return (failedOf (<-get)).isNone) Q l:=by
    intro P l ev mr;refine wpS_bind (wpS_modify ?_);refine wpS_bind (wpS_get (wpS_pure ?_));have ea:arrOf l=arrOf st:=ev.arr.trans a7;have so:P.size=n1-k+m:=by
     have:=mr.1.length_eq
     rw[B6,xK,B6,B6,sx,sy]at this;exact this
    have eo:k+P.size=n1+m:=by rw[so,<-Nat.add_assoc,GF hk]
    have hl:=A3 (xs:=arrOf l) (ou:=P) (off:=k) (by rw[ea,eo];exact mg);rw[eo,ea]at hl;have bn:=JH (xs:=arrOf st) (i:=k) (j:=n1) (k:=n1+m) hk (Lk ..) mg;have Jm:(failedOf (setArr l (P.toList.zipIdx.foldl (λa (p:Keyed×Nat)=>a.setIfInBounds (k+p.2) p.1) (arrOf l)))).isNone=I:=by show(failedOf l).isNone=I;rw[ev.failed,B.failed];rfl
    rw[Jm];have bm:LS C (P.toList.zipIdx.foldl (λa (p:Keyed×Nat)=>a.setIfInBounds (k+p.2) p.1) (arrOf l)).toList:=by
     rw[ea,hl];have mo:∀p,p∈P.toList->(∃i,k<=i/\i<n1/\(arrOf st)[i]?=J p)\/(∃i,n1<=i/\i<n1+m/\(arrOf st)[i]?=J p):=λp f =>
      (nq.mp (mr.1.mem_iff.mp f)).imp (a0 p) (ab p)
     have mt:∀p,p∈(arrOf st).toList.take k->∃i,i<k/\(arrOf st)[i]?=J p:=λp f=>by
      obtain⟨i,u⟩:=Bs.mp f;by_cases c:i<k
      .rw[O9 c,v_]at u;exact⟨i,c,u⟩
      .rw[Do (by simp;lia)]at u;cases u
     have md:∀p,p∈(arrOf st).toList.drop (n1+m)->∃i,n1+m<=i/\i<a₀.size/\(arrOf st)[i]?=J p:=λp f=>by
      obtain⟨i,u⟩:=Bs.mp f;rw[Po,v_]at u
      have:=(LX.mp u).1
      exact⟨n1+m+i,⋯,⋯,u⟩
     refine cG ?_ (cG mr.2 ?_ ?_) ?_
     .have:=oq (C:=C) (xs:=arrOf st) (lo:=0) (hi:=k) ⋯ λi j a b c=>G i j a b ⋯
      rw[nE]at this;exact this
     .have:=oq (C:=C) (xs:=arrOf st) (lo:=n1+m) (hi:=(arrOf st).size) (ii _) λi j a b c=>F i j ⋯ b ⋯
      rw[i5]at this;exact this
     .intro x hx y hy;obtain⟨j,j1,j2,Z⟩:=md y hy;rcases mo x hx with⟨i,i1,i2,u⟩|⟨i,i1,i2,u⟩
      .exact KeyOrd.kle_trans (iO G (ya _) (L6 i2) (GO h1 Hy) u az) (S j y j1 j2 Z)
      .exact iO F i1 ⋯ j2 u Z
     .intro x hx y hy;obtain⟨i,i1,u⟩:=mt x hx;rcases nq.mp hy with hy|hy
      .rcases mo y hy with⟨j,j1,j2,Z⟩|⟨j,j1,j2,Z⟩
       .exact iO G (ya _) ⋯ j2 u Z
       .exact KeyOrd.kle_trans (ap i x i1 u) (iO F (ii _) j1 ⋯ W Z)
      .obtain⟨j,j1,j2,Z⟩:=md y hy;exact KeyOrd.kle_trans (ap i x i1 u) (iO F (ii _) ⋯ j2 W Z)
    have be:(P.toList.zipIdx.foldl (λa (p:Keyed×Nat)=>a.setIfInBounds (k+p.2) p.1) (arrOf l)).Perm (arrOf st):=by rw[QI,ea,hl];refine List.Perm.trans ?_ (List.Perm.of_eq bn.symm);exact List.Perm.append_left _ (List.Perm.append_right _ mr.1)
    refine h _ ⟨be.trans hB.perm,ev.kind.trans B.kind,ev.failed.trans B.failed⟩ ?_ ?_
    .show (pendingOf l).size=1;rw[ev.pend];exact a2
    .have:=k6 bm
     have e2:(P.toList.zipIdx.foldl (λa (p:Keyed×Nat)=>a.setIfInBounds (k+p.2) p.1) (arrOf l)).size=a₀.size:=(be.trans hB.perm).size_eq;rw[e2]at this;exact this
   by_cases a3:n1-k<=m
   .rw[c_ a3];refine wpS_bind (Jw a5 B.kind λP l ev mr=>?_);exact fin P l ev mr
   .rw[f_ a3];refine wpS_bind (JG a5 B.kind λP l ev mr=>?_);exact fin P l ev mr
end
def tQ(i:2<=n)(h:n<64):minRun' n n 0=n:=by
 obtain⟨f,hf⟩:∃f,n=f+1:=⟨n-1,⋯⟩
 have:minRun' (f+1) n 0=n+0:=by rw[minRun'_succ,c_ h]
 rw[<-hf]at this;exact this
def zH(f:2<=n)(h:n<=66):1<=minRun' n n 0/\minRun' n n 0<=n/\n<=2*minRun' n n 0:=by
 by_cases c:n<64
 .rw[tQ f c];lia
 .have:n=64\/n=65\/n=66:=by lia
  rcases this with e|e | e<;>subst e
  .have:minRun' 64 64 0=32:=by decide
   rw[this];lia
  .have:minRun' 65 65 0=33:=by decide
   rw[this];lia
  .have:minRun' 66 66 0=33:=by decide
   rw[this];lia
section
variable{prog:Program}{w:World}{A:Around}{E:VB}{s:Shared}{kd:SortKind}{O:KeyOrd}{C:vb prog w A E s kd O}{a₀:Array Keyed}{st:SortSt}
def One(C:vb prog w A E s kd O)(a₀:Array Keyed)(i f:Nat)(st:SortSt):Prop:=SB kd a₀ st/\pendingOf st=#[(0,f,0)]/\i<=f/\f<=a₀.size/\r_ C (arrOf st) 0 f
def NI(C:vb prog w A E s kd O)(a₀:Array Keyed)(f:Nat)(st:SortSt):Prop :=
 SB kd a₀ st/\1<=f/\f<a₀.size/\(∃i,pendingOf st=#[(0,f,i),(f,a₀.size-f,0)])/\r_ C (arrOf st) 0 f/\r_ C (arrOf st) f a₀.size
def sZ{xs ys:Array Keyed}{p lo r:Nat}(h:dq p xs ys)(u:r<=p)(g:r_ C xs lo r):r_ C ys lo r:=by intro i j f l z;rw[ft (h i ⋯),ft (h j ⋯)];exact g i j f l z
def CC(h0:dh C a₀)(hB:SB kd a₀ st)(a1:pendingOf st=#[])(h2:2<=a₀.size)(a5:a₀.size<=66)(h:∀j,(arrOf j).Perm a₀->failedOf j=Y->r_ C (arrOf j) 0 a₀.size->Q () j):wpS (model prog w) A E s sortRuns' Q st:=by
 obtain⟨m1,m2,m3⟩:=zH h2 a5;rw[sortRuns'_eq];refine wpS_bind (wpS_get ?_);dsimp only;rw[hB.size];generalize minRun' a₀.size a₀.size 0=mr at m1 m2 m3 ⊢
 refine wpS_bind (wpS_mono (wpS_forRange
  (I:=λx c j=>(x=0/\c=(Y,0)/\SB kd a₀ j/\pendingOf j=#[])\/(x=1/\∃i,c=(Y,i)/\One C a₀ mr i j)\/(2<=x/\c=(Y,a₀.size)/\∃i,NI C a₀ i j))
  (Q:=λc j=>c=(Y,a₀.size)/\(One C a₀ mr a₀.size j\/∃i,NI C a₀ i j)) ?_ ?_ (.inl ⟨rfl,rfl,hB,a1⟩)) ?_)
 .rintro x c j _ hx (⟨rfl,rfl,z,l⟩|⟨rfl,i,rfl,z,l,ax,a3,U⟩|⟨a6,rfl,i,S⟩)
  .rw[f_ ⋯];simp only[Nat.sub_zero,vw];refine wpS_bind (wM (p:=0) h0 ⋯ ⋯ z λm G u _ F a0 ay L=>?_);rw[vw]at L;dsimp only;by_cases R:m<mr
   .rw[c_ R];refine wpS_bind (wpS_lift (wpAny_rule ⟨rfl,?_⟩));refine wpS_bind (wQ (p:=0) h0 ⋯ ⋯ u (by rw[vw];exact L) λB H _ M P=>?_);simp only[GN,sf,if_false];refine wpS_bind (wpS_get ?_);have S:(pendingOf B).back?=Y:=by rw[M,F,l];rfl
    rw[S];dsimp only;refine wpS_bind (wpS_modify (wpS_pure (.inr (.inl ⟨trivial,_,rfl,⟨H.perm,H.kind,H.failed⟩,?_,⋯,⋯,?_⟩))))
    .show (pendingOf B).push _=_;rw[M,F,l];rfl
    .rw[vw]at P;exact P
   .rw[f_ R];refine wpS_bind (wpS_get ?_);have S:(pendingOf G).back?=Y:=by rw[F,l];rfl
    rw[S];dsimp only;refine wpS_bind (wpS_modify (wpS_pure (.inr (.inl ⟨trivial,_,rfl,⟨u.perm,u.kind,u.failed⟩,?_,⋯,⋯,L⟩))));show(pendingOf G).push _=_;rw[F,l];rfl
  .dsimp only;by_cases W:i>=a₀.size
   .rw[c_ W];have e:i=a₀.size:=by lia
    subst e;exact wpS_pure ⟨rfl,.inl ⟨z,l,ax,a3,U⟩⟩
   .rw[f_ W];have a2:a₀.size-i<=mr:=by lia
    refine wpS_bind (wM (p:=i) h0 ⋯ ⋯ z λm G u an F a0 ay L=>?_);dsimp only;by_cases R:m<mr
    .rw[c_ R];refine wpS_bind (wpS_lift (wpAny_rule ⟨rfl,?_⟩));have em:min (a₀.size-i) mr=a₀.size-i:=by lia
     rw[em];refine wpS_bind (wQ (p:=i) h0 ⋯ ⋯ u L λB H ap M P=>?_);simp only[GN,sf,if_false];refine wpS_bind (wpS_get ?_);have Z:pendingOf B=#[(0,i,0)]:=by rw[M,F,l]
     have S:(pendingOf B).back?=J (0,i,0):=by rw[Z];rfl
     rw[S];dsimp only;refine wpS_bind (wpS_mono (wpS_forRange (I:=λ_ c r=>c=(Y,())/\r=B) (Q:=λc r=>c=(Y,())/\r=B) ?_ (λ_ _ hh=>hh) ⟨rfl,rfl⟩) ?_)
     .rintro y c r _ _ ⟨rfl,rfl⟩;refine wpS_bind (wpS_get ?_);rw[Z];exact wpS_pure ⟨rfl,rfl⟩
     .rintro c r ⟨rfl,rfl⟩;dsimp only;refine wpS_bind (wpS_modify (wpS_bind (wpS_modify (wpS_pure (.inr (.inr ⟨⋯,?_,i,⟨H.perm,H.kind,H.failed⟩,⋯,⋯,⟨power' a₀.size (2*0+i) (2*0+i+i+(a₀.size-i)) a₀.size,?_⟩,(sZ (an.trans ap) (ii _) U),(by have e:i+(a₀.size-i)=a₀.size:=⋯;rw[e]at P;exact P)⟩))))))
      .have e:i+(a₀.size-i)=a₀.size:=by lia
       rw[e]
      .show ((pendingOf r).modify _ _).push _=_;rw[Z];simp
    .rw[f_ R];have em:m=a₀.size-i:=by lia
     subst em;refine wpS_bind (wpS_get ?_);have ab:pendingOf G=#[(0,i,0)]:=by rw[F,l]
     have S:(pendingOf G).back?=J (0,i,0):=by rw[ab];rfl
     rw[S];dsimp only;refine wpS_bind (wpS_mono (wpS_forRange (I:=λ_ c r=>c=(Y,())/\r=G) (Q:=λc r=>c=(Y,())/\r=G) ?_ (λ_ _ hh=>hh) ⟨rfl,rfl⟩) ?_)
     .rintro y c r _ _ ⟨rfl,rfl⟩;refine wpS_bind (wpS_get ?_);rw[ab];exact wpS_pure ⟨rfl,rfl⟩
     .rintro c r ⟨rfl,rfl⟩;dsimp only;refine wpS_bind (wpS_modify (wpS_bind (wpS_modify (wpS_pure (.inr (.inr ⟨⋯,?_,i,⟨u.perm,u.kind,u.failed⟩,⋯,⋯,⟨power' a₀.size (2*0+i) (2*0+i+i+(a₀.size-i)) a₀.size,?_⟩,(sZ an (ii _) U),(by have e:i+(a₀.size-i)=a₀.size:=⋯;rw[e]at L;exact L)⟩))))))
      .have e:i+(a₀.size-i)=a₀.size:=by lia
       rw[e]
      .show ((pendingOf r).modify _ _).push _=_;rw[ab];simp
  .dsimp only;rw[c_ (ii _)];exact wpS_pure ⟨rfl,.inr ⟨i,S⟩⟩
 .rintro c j (⟨hx,_⟩|⟨hx,_⟩|⟨_,hc,S⟩)
  .lia
  .lia
  .exact⟨hc,.inr S⟩
 .rintro c j ⟨rfl,hc⟩;dsimp only;rcases hc with⟨z,l,_,_,U⟩|⟨i,z,as,n12,⟨pw,l⟩,az,a4⟩
  .refine wpS_bind (wpS_mono (wpS_forRange (I:=λ_ c f=>f=j/\c=(Y,())) (Q:=λc f=>f=j/\c=(Y,())) ?_ (λ_ _ hh=>hh) ⟨rfl,rfl⟩) ?_)
   .rintro x c f _ _ ⟨rfl,rfl⟩;refine wpS_bind (wpS_get ?_);rw[c_ (by rw[l];exact ii 1)];exact wpS_pure ⟨rfl,rfl⟩
   .rintro c f ⟨rfl,rfl⟩;exact wpS_pure (h _ z.perm z.failed U)
  .refine wpS_bind (wpS_mono (wpS_forRange (I:=λx c f=>c=(Y,())/\((x=0/\f=j)\/(1<=x/\SB kd a₀ f/\(pendingOf f).size=1/\r_ C (arrOf f) 0 a₀.size)))
    (Q:=λc f=>c=(Y,())/\SB kd a₀ f/\r_ C (arrOf f) 0 a₀.size) ?_ ?_ ⟨rfl,.inl ⟨rfl,rfl⟩⟩) ?_)
   .rintro x c f _ _ ⟨rfl,X⟩;rcases X with⟨rfl,rfl⟩|⟨a7,b1,b2,b3⟩
    .refine wpS_bind (wpS_get ?_);rw[f_ (by rw[l];simp)];rw[l];refine wpS_bind (vp (n1:=i) (pw:=pw) h0 z as n12 l az a4 λB c1 c2 c3=>?_);simp only[GN,sf,if_false];exact wpS_pure ⟨rfl,.inr ⟨⋯,c1,c2,c3⟩⟩
    .refine wpS_bind (wpS_get ?_);rw[c_ (by rw[b2];exact ii 1)];exact wpS_pure ⟨rfl,b1,b3⟩
   .rintro c f ⟨rfl,⟨hx,_⟩|⟨_,b1,_,b3⟩⟩
    .lia
    .exact⟨rfl,b1,b3⟩
   .rintro c f ⟨rfl,b1,b3⟩;exact wpS_pure (h _ b1.perm b1.failed b3)
end
end SortT
namespace SortT
open PyProof.Rows SetT PySem.W
def cf:VN->VN->Bool
 |[],[]=>T
 |[],_::_=>I
 |_::_,[]=>T
 |a::x,b::y=>if a=b then cf x y else decide (a<b)
def mS:∀x,cf x x=T
 |[]=>rfl
 |a::x=>by unfold cf;rw[c_ rfl];exact mS x
def nX:∀x y z,cf x y=I->cf y z=I->cf x z=I
 |[],_::_,_::_,_,_=>rfl
 |a::x,b::y,c::z,i,f=>by
  unfold cf at i f ⊢;by_cases e1:a=b
  .rw[c_ e1]at i;by_cases e2:b=c
   .rw[c_ e2]at f;rw[c_ (e1.trans e2)];exact nX x y z i f
   .rw[f_ e2]at f;rw[f_ (λq=>e2 (e1.symm.trans q)),e1];exact f
  .grind
def tX:∀x y z,cf x z=I->cf x y=I\/cf y z=I
 |[],[],_::_,_=>.inr rfl
 |[],_::_,_,_=>.inl rfl
 |_::_,[],_::_,_=>.inr rfl
 |a::x,b::y,c::z,h=>by
  unfold cf at h ⊢;by_cases e1:a=b
  .rw[c_ e1];by_cases e2:b=c
   .rw[c_ e2];rw[c_ (e1.trans e2)]at h;exact tX x y z h
   .rw[f_ (λq=>e2 (e1.symm.trans q)),e1]at h;rw[f_ e2];exact .inr h
  .grind
def kB:∀x y,cf x y=T->cf y x=T->x=y
 |[],[],_,_=>rfl
 |a::x,b::y,f,i=>by
  unfold cf at f i;by_cases e:a=b
  .rw[c_ e]at f;rw[c_ e.symm]at i;rw[e,kB x y f i]
  .rw[f_ e]at f;rw[f_ (λq=>e q.symm)]at i
   grind
def Fx:KeyOrd:=⟨VN,cf,mS,nX,tX,kB⟩
def Fy(l:VP):Prop:=l.Pairwise λx y=>cf y x=T
section
variable{prog:Program}{w:World}{A:Around}{E:VB}{s:Shared}
def q_(prog:Program)(w:World)(h:Heap)(v:Value):VN:=Classical.epsilon λk=>∃a,v=.ref a/\TK prog w h k a
def iK(t:TK prog w h k a):q_ prog w h (.ref a)=k:=by
 have:=Classical.epsilon_spec (p:=λk=>∃b,Value.ref a=.ref b/\TK prog w h k b) ⟨k,a,rfl,t⟩
 obtain⟨b,e,f⟩:=this;cases e;exact IsTupleKey.inj f t
def JI:∀(xs ys:VT)(u r:VN)(i:Nat),ItemsAre (intKind prog w) u xs->ItemsAre (intKind prog w) r ys->fin=decide (xs.length<ys.length)->Q (cf u r) s ->
  KatLex prog w A b fin Q (xs.zip ys) i s:=by
 intro xs
 induction xs with
 |nil =>
  intro ys u r i z B hf f;cases z
  cases B with
  |nil=>rw[hf];exact f
  |cons M O=>rw[hf];exact f
 |cons x xs P =>
  intro ys u r i z B hf f
  cases z with
  |@cons l _ L _ M G =>
   cases B with
   |nil=>rw[hf];exact f
   |@cons j y F H O C =>
    obtain⟨S,rfl⟩:=Value.isInt_shape (k:=l) (v:=x) M;obtain⟨U,rfl⟩:=Value.isInt_shape (k:=j) (v:=y) O;refine kat_cons (wpAny_eqBool_int ?_);unfold cf at f;by_cases e:l=j
    .rw[c_ e]at f
     have:(l==j)=I:=by simpa using e
     rw[this];exact kat_yes (P H L F (i+1) G C (by rw[hf];simp) f)
    .rw[f_ e]at f
     have:(l==j)=T:=by simpa using e
     rw[this];refine kat_no ?_
     cases R:(b&&i==0) with
     |true=>exact oneLt_int f
     |false=>exact kat_one _ _ (wpAny_lt_int f)
def NJ(prog:Program)(w:World)(A:Around)(E:VB)(s:Shared)(b:Bool):vb prog w A E s (tuples' b) Fx where
 key:=λp=>q_ prog w s.heap p.1
 dflt:=([]:VN)
 good:=λp=>∃a k,p.1=.ref a/\TK prog w s.heap k a
 ask:=λx y st Q P O U S=>by
  obtain⟨W,x2⟩:=x;obtain⟨y1,y2⟩:=y;obtain⟨L,B,ex,C⟩:=P;obtain⟨G,z,F,ty⟩:=O;simp only at ex F;subst ex;subst F;have H:Q (J (cf B z)) st:=by
   have M:=iK C;have R:=iK ty;have e:Fx.blt (q_ prog w s.heap (.ref L)) (q_ prog w s.heap (.ref G))=cf B z:=by rw[M,R];rfl
   rw[<-e];exact S
  obtain⟨ox,X,nx,l,_,r,j⟩:=C;obtain⟨oy,Z,ny,i,_,f,u⟩:=ty;rw[lt'_eq];refine wpS_bind (wpS_get ?_);rw[U];refine wpS_bind (wpS_lift (wpAny_attempt (kat_lt l r i f (JI _ _ _ _ _ j u (by simp) ⟨rfl,?_⟩))));exact wpS_pure H
def tY{B:VT}{G:VP}{Q:SortKind->Shared->Prop}(X:DP prog w s.heap B.toArray G)(M:∀k∈G,k≠[])(h1:0<B.length)(h:Q (tuples' I) s):
  wpAny (model prog w) A (keyKind' B.toArray) Q E s:=by
 have C:B.length=G.length:=by have:=X.1;simpa using this
 have key:∀(z:VT)(r:VP),z.length=r.length->(∀(i:Nat)(v:Value)(k:VN),z[i]?=J v->r[i]?=J k->∃a,v=.ref a/\TK prog w s.heap k a)->(∀k∈r,k≠[]) ->
   ∃fs:VT,fs.length=z.length/\KatTups s.heap z fs/\∀v∈fs,∃i t,v=.int i t:=by
  intro z
  induction z with
  |nil=>intro r _ _ _;exact⟨[],rfl,KatTups.nil,λv hv=>by cases hv⟩
  |cons u z ih =>
   intro r U j W
   cases r with
   |nil=>simp at U
   |cons k r =>
    obtain⟨a,rfl,o,items,n,ho,hc,hd,hi⟩:=j 0 u k rfl rfl;obtain⟨fs,Z,O,P⟩:=ih r (by simpa using U) (λi v H hv f=>j (i+1) v H (by simpa using hv) (by simpa using f)) (λH f=>W H (m_ _ f))
    cases k with
    |nil=>exact absurd rfl (W [] t3)
    |cons S kr =>
     have F:=hi;generalize L:items.toList=l at F
     cases F with
     |@cons _ v0 _ vr h0 hr =>
      obtain⟨R,rfl⟩:=Value.isInt_shape h0;have hg:items[0]?=J (.int S R):=by rw[<-v_,L];rfl
      refine⟨.int S R::fs,by simp[Z],KatTups.cons ho hc hd hg O,λv hv=>?_⟩;rcases lb.mp hv with rfl|hv
      .exact⟨_,_,rfl⟩
      .exact P v hv
 obtain⟨fs,Z,O,P⟩:=key B G C (λi v k hv f=>X.2 i v k (by simpa using hv) f) M;refine kat_kind (T:=.type "int") O ⋯ (λv hv=>?_) (by decide) ?_
 .obtain⟨i,t,rfl⟩:=P v hv;exact .now
 .exact h
def zx(ho:s.heap.get? a=J (seqObj "list" vs.toArray n))(H:DP prog w s.heap vs.toArray B)(az:∀k∈B,k≠[])(a6:vs.length<=66)(h:∀(S:VT) (R:VP),DP prog w s.heap S.toArray R->S.Perm vs->R.Perm B->Fy R->P (.done (.ret .none)) { s with heap:=sortedHeap s.heap a vs S.toArray}):
  wpAny (model prog w) A (Builtin.«list.sort» ⟨[.ref a],[]⟩) P E s:=by
 rw[list_sort_plain];have G:vs.length<=sizeLine:=by rw[sizeLine_eq];lia
 refine d_ (listItems_at ho rfl ?_);refine d_ (listUpdate_at ho rfl ?_ (by rw[rT];exact G) (ya _));obtain⟨e1,X⟩:∃e1,(s.heap.update a (Obj.mapSeq λ_=>(#[]:Array Value))).get? a=J (seqObj "list" #[] e1):=⟨_,get?_update_seq ho λ_=>#[]⟩;refine d_ (seqEpoch_at X rfl ?_);refine d_ (wpAny_newTuple ?_ (by show vs.length<=_;exact G));refine d_ (wpAny_newList ?_ (ya _));refine wpAny_holding ?_;have L:(((s.heap.update a (Obj.mapSeq λ_=>(#[]:Array Value))).push (seqObj "tuple" vs.toArray 0)).push (seqObj "list" #[] 0)).get? a=J (seqObj "list" #[] e1) :=
  n_ _ (n_ _ X)
 have an:∀k b,TK prog w s.heap k b->TK prog w (((s.heap.update a (Obj.mapSeq λ_=>(#[]:Array Value))).push (seqObj "tuple" vs.toArray 0)).push (seqObj "list" #[] 0)) k b:=by
  rintro k b ⟨o,items,m,hb,hc,r⟩;have W:b≠a:=by rintro rfl;rw[ho]at hb;cases hb;have a5:Value.type "list"=Value.type "tuple":=hc;exact absurd a5 (by decide)
  exact⟨o,items,m,n_ _ (n_ _ ((QQ _ _ _ _ W).trans hb)),hc,r⟩
 show wpAny (model prog w) A _ P E { s with heap:=((s.heap.update a (Obj.mapSeq λ_=>(#[]:Array Value))).push (seqObj "tuple" vs.toArray 0)).push (seqObj "list" #[] 0)};have ap:DP prog w (((s.heap.update a (Obj.mapSeq λ_=>(#[]:Array Value))).push (seqObj "tuple" vs.toArray 0)).push (seqObj "list" #[] 0)) vs.toArray B :=
  ⟨H.1,λi v k hv l=>let⟨b,e,t⟩:=H.2 i v k hv l;⟨b,e,an k b t⟩⟩
 have ax:vs.toArray.size=vs.length:=by simp
 dsimp only;by_cases h2:vs.toArray.size<2
 .rw[c_ h2,c_ h2];refine d_ (ia ?_);rw[StateT.run_pure];refine d_ (ia ?_);dsimp only;refine d_ (seqEpoch_at L rfl ?_);have hz:((vs.toArray.zip vs.toArray).map (·.2))=vs.toArray:=by
   apply GJ.mp;simp only[Array.toList_map,Array.toList_zip,List.toList_toArray];exact List.map_snd_zip (ii _)
  refine d_ (listUpdate_at L rfl ?_ (ya _) (by show((vs.toArray.zip vs.toArray).map (·.2)).size<=_;rw[hz,ax];lia));simp only[bne_self_eq_false,sf,if_false];refine ia ?_
  have:=h vs B H (List.Perm.refl _) (List.Perm.refl _) (by
   have hl:B.length<2:=by have:=H.1;lia
   unfold Fy
   match B,hl with
   |[],_=>simp
   |[x],_=>simp)
  have e:(arrOf (SortSt.mk' general' (vs.toArray.zip vs.toArray) #[] 7 Y)).map (·.2)=vs.toArray:=hz;rw[e];exact this
 .rw[f_ h2,f_ h2];refine d_ (tY (s:={ s with heap:=_}) ap az ⋯ ?_);have a0:(pairsOf vs).size=vs.length:=pairsOf_size vs
  refine d_ (wpAny_mono (CC (C:=NJ prog w A E { s with heap:=((s.heap.update a (Obj.mapSeq λ_=>(#[]:Array Value))).push (seqObj "tuple" vs.toArray 0)).push (seqObj "list" #[] 0)} I)
   (a₀:=pairsOf vs) (st:=SortSt.mk' (tuples' I) (vs.toArray.zip vs.toArray) #[] 7 Y)
   (Q:=λ_ f=>(arrOf f).Perm (pairsOf vs)/\failedOf f=Y/\r_ (NJ prog w A E { s with heap:=((s.heap.update a (Obj.mapSeq λ_=>(#[]:Array Value))).push (seqObj "tuple" vs.toArray 0)).push (seqObj "list" #[] 0)} I) (arrOf f) 0 (pairsOf vs).size)
   ?_ ⟨Array.Perm.refl _,rfl,rfl⟩ rfl ⋯ ⋯ λf a1 a2 a3=>⟨a1,a2,a3⟩) ?_ λ_ _ e=>e)
  .intro p U;rw[pairsOf_toList]at U;obtain⟨q1,q2⟩:=mem_zip_self U;obtain⟨i,u⟩:=Bs.mp q2
   obtain⟨k,l⟩:∃k,B[i]?=J k:=⟨_,zb (by
    have h3:=(qt.mp u).1
    have:=H.1;lia)⟩
   obtain⟨b,e,t⟩:=ap.2 i p.1 k (by simpa using u) l;exact⟨b,k,e,t⟩
  .rintro⟨⟨⟩,f⟩ s' ⟨rfl,U,hf,hs⟩;dsimp only;refine d_ (seqEpoch_at L rfl ?_);have hz:((arrOf f).map (·.2)).size=vs.length:=by rw[Array.size_map,U.size_eq,a0]
   refine d_ (listUpdate_at L rfl ?_ (ya _) (by show((arrOf f).map (·.2)).size<=_;rw[hz];lia));rw[hf];simp only[bne_self_eq_false,sf,if_false];refine ia ?_;have hl:(arrOf f).toList.Perm (vs.zip vs):=by rw[<-pairsOf_toList];exact QI.mp U
   have F:∀p,p∈(arrOf f).toList->p.1=p.2/\p.1∈vs:=λp as=>mem_zip_self (hl.mem_iff.mp as);have hv:∀v,v∈vs->∃k b,v=.ref b/\TK prog w s.heap k b/\k∈B:=λv hv=>by
    obtain⟨i,u⟩:=Bs.mp hv
    obtain⟨k,l⟩:∃k,B[i]?=J k:=⟨_,zb (by
     have h3:=(qt.mp u).1
     have:=H.1;lia)⟩
    obtain⟨b,e,t⟩:=H.2 i v k (by simpa using u) l;exact⟨k,b,e,t,Bs.mpr ⟨i,l⟩⟩
   have ab:vs.map (q_ prog w s.heap)=B:=by
    apply Lh;intro i;rw[vu]
    cases u:vs[i]? with
    |none =>
     have:=List.getElem?_eq_none_iff.mp u
     rw[Do (by have:=H.1;lia)];rfl
    |some v =>
     obtain⟨k,l⟩:∃k,B[i]?=J k:=⟨_,zb (by
      have h3:=(qt.mp u).1
      have:=H.1;lia)⟩
     obtain⟨b,e,t⟩:=H.2 i v k (by simpa using u) l;subst e;rw[l];show J (q_ prog w s.heap (.ref b))=J k;rw[iK t]
   have O:∀v,v∈vs->q_ prog w (((s.heap.update a (Obj.mapSeq λ_=>(#[]:Array Value))).push (seqObj "tuple" vs.toArray 0)).push (seqObj "list" #[] 0)) v=q_ prog w s.heap v:=λv z=>by
    obtain⟨k,b,rfl,t,_⟩:=hv v z;rw[iK t,iK (an k b t)]
   have M:=h ((arrOf f).toList.map (·.2)) ((arrOf f).toList.map λp=>q_ prog w s.heap p.1) ?_ ?_ ?_ ?_
   .have e:((arrOf f).toList.map (·.2)).toArray=(arrOf f).map (·.2):=by apply GJ.mp;simp
    rw[e]at M;exact M
   .refine⟨by simp,λi v k z l=>?_⟩;rw[L5,vu]at z;rw[vu]at l
    cases u:(arrOf f).toList[i]? with
    |none=>rw[u]at z;cases z
    |some p =>
     rw[u]at z l;cases z;cases l;obtain⟨q1,q2⟩:=F p (Df u);obtain⟨k,b,e,t,_⟩:=hv p.1 q2;refine⟨b,by show p.2=_;rw[<-q1];exact e,?_⟩;show TK prog w s.heap (q_ prog w s.heap p.1) b;rw[e,iK t];exact t
   .have q:=hl.map (·.2);rw[List.map_snd_zip (ii _)]at q;exact q
   .have q:=hl.map λp=>q_ prog w s.heap p.1;have e2:(vs.zip vs).map (λp=>q_ prog w s.heap p.1)=B:=by
     rw[<-ab]
     have:(vs.zip vs).map (λp=>q_ prog w s.heap p.1)=((vs.zip vs).map Prod.fst).map (q_ prog w s.heap):=by rw[wc];rfl
     rw[this,List.map_fst_zip (ii _)]
    rw[e2]at q;exact q
   .unfold Fy;rw[DL,GD];intro i j u hj ay;have a4:i<(arrOf f).size:=by simpa using u
    have Z:j<(arrOf f).size:=by simpa using hj
    have q:=hs i j (ya _) (vv ay) (by rw[<-U.size_eq];exact Z);rw[aQ (getElem?_pos _ i a4),aQ (getElem?_pos _ j Z)]at q;have m1:=(F (arrOf f)[i] (by simp)).2;have m2:=(F (arrOf f)[j] (by simp)).2;have q':cf (q_ prog w (((s.heap.update a (Obj.mapSeq λ_=>(#[]:Array Value))).push (seqObj "tuple" vs.toArray 0)).push (seqObj "list" #[] 0)) (arrOf f)[j].1)
     (q_ prog w (((s.heap.update a (Obj.mapSeq λ_=>(#[]:Array Value))).push (seqObj "tuple" vs.toArray 0)).push (seqObj "list" #[] 0)) (arrOf f)[i].1)=T:=q
    rw[O _ m1,O _ m2]at q';simpa using q'
def oZ(j:h.get? a=J (seqObj "list" vs.toArray n))(f:Array Value):∃c,(sortedHeap h a vs f).get? a=J (seqObj "list" f c):=by obtain⟨e1,i⟩:∃e1,(h.update a (Obj.mapSeq λ_=>(#[]:Array Value))).get? a=J (seqObj "list" #[] e1):=⟨_,get?_update_seq j λ_=>#[]⟩;exact⟨_,get?_update_seq (n_ _ (n_ _ i)) λ_=>f⟩
def nh(i:b≠a)(j:h.get? b=J o)(f:Array Value):(sortedHeap h a vs f).get? b=J o:=by unfold sortedHeap;rw[QQ _ _ _ _ i];exact n_ _ (n_ _ ((QQ _ _ _ _ i).trans j))
structure Told(prog:Program)(w:World)(R:Value->Prop)(H0 h h':Heap)(l:Addr)(ks:VP)(out:VT)(ks':VP):Prop where
 ext:CF h h'
 fresh:h.get? l=Y
 size:h.objs.size<=l
 at':∃c,h'.get? l=J (seqObj "list" out.toArray c)
 lie:DP prog w H0 out.toArray ks'
 perm:ks'.Perm ks
 ris:Fy ks'
 mem:∀v∈out,R v
def zm(hx:CF H0 s.heap)(an:∀k∈ks,k≠[])(ax:ks.length<=66)(hc:wpAny (model prog w) A.in1 (collect v) (λr s1=>∃L F j,s1={ s with heap:=L,toks:=F}/\CF s.heap L/\s.heap.objs.size<L.objs.size/\s.toks<=F/\DP prog w H0 (List.toArray r) j/\j.Perm ks/\∀v∈r,R v) E s)(h:∀L F l B G,Told prog w R H0 s.heap L l ks B G->s.toks<=F->Q (.ref l) { s with heap:=L,toks:=F}):
  wpAny (model prog w) A (call (.builtin "sorted") [v]) Q E s:=by
 refine Calls.call_function_entry kind_sorted plain_sorted entry_sorted (args_sorted1 _) ?_;refine d_ (ia ?_);refine d_ (wpAny_mono hc (λr s1 Z=>?_) λ_ _ e=>e);obtain⟨C,F,j,rfl,M,U,ab,f,p1,hR⟩:=Z;have S:r.length=j.length:=by have:=f.1;simpa using this
 have X:r.length<=66:=by rw[S,p1.length_eq];exact ax
 refine d_ (wpAny_newList ?_ (by rw[sizeLine_eq];lia));have H:(C.push (seqObj "list" r.toArray 0)).get? C.objs.size=J (seqObj "list" r.toArray 0):=tz _ rfl;have up:∀b o,C.get? b=J o->(C.push (seqObj "list" r.toArray 0)).get? b=J o:=λb o e=>n_ _ e;have P:DP prog w (C.push (seqObj "list" r.toArray 0)) r.toArray j:=⟨f.1,λi u k hu W=>let⟨b,e,t⟩:=f.2 i u k hu W;⟨b,e,lC (λc o ho=>up c o (M c o (hx c o ho))) t⟩⟩
 refine d_ (wpAny_holding (wpAny_call_entry slot_list_sort ⟨_,H,rfl⟩ entry_list_sort
  (zx H P (λk W=>an k (p1.mem_iff.mp W)) X λB G l2 pv p2 r2=>⟨_,rfl,?_⟩) (args_list_sort _)))
 refine ia ⟨_,rfl,?_⟩;have z:s.heap.get? C.objs.size=Y:=by
  cases e:s.heap.get? C.objs.size with
  |none=>rfl
  |some o=>exact absurd (nr (M _ _ e)) (Ca _)
 refine h _ F C.objs.size B G ⟨λb o e=>?_,z,vv U,oZ H _,⟨l2.1,λi u k hu W=>?_⟩,p2.trans p1,r2,λv hv=>hR v (pv.mem_iff.mp hv)⟩ ab
 .have hb:=t4 (nr (M b o e));exact nh hb (up b o (M b o e)) _
 .obtain⟨b,e,t⟩:=l2.2 i u k hu W;have as:B[i]?=J u:=by simpa using hu
  have O:=pv.mem_iff.mp (Df as);obtain⟨q,Z⟩:=Bs.mp O;obtain⟨k1,ap⟩:∃k1,j[q]?=J k1:=⟨_,zb (by have:=(qt.mp Z).1;lia)⟩;obtain⟨b1,e1,t1⟩:=f.2 q u k1 (by simpa using Z) ap;rw[e]at e1;cases e1;have t2:=lC (λc o ho=>up c o (M c o (hx c o ho))) t1
  have:=IsTupleKey.inj t t2
  subst this;exact⟨b,e,t1⟩
def xM(H:A.handled=Y)(r:dC prog w (PB H0 R) s.heap S (ci w) u)(G:CF H0 s.heap)(B:∀k∈u,k≠[])(F:u.length<=66)(h:∀j i l C f,Told prog w (λv=>∃a,v=.ref a/\R a) H0 s.heap j l u C f->s.toks<=i->Q (.ref l) { s with heap:=j,toks:=i}):
  wpAny (model prog w) A (call (.builtin "sorted") [.ref S]) Q E s :=
 zm G B F (vC (by simpa using H) r G λj i L f a z b c e d=>⟨j,i,f,rfl,a,z,b,c,d,e⟩) h
end
end SortT
namespace SortT
open PyProof.Rows PySem.W
section
variable{prog:Program}{w:World}{A:Around}{E:VB}{s:Shared}{rk:Value->Int}{vs:VT}
end
end SortT
namespace MM
open PySem.Spec PyProof.Rows L2 SetT SortT
def jo:VL->Option (VN)
 |[]=>J []
 |.int i::r=>(jo r).map (i::·)
 |_=>Y
def Qe:PV->Option (VN)
 |.tup xs=>jo xs
 |_=>Y
def kn:VL->Option (VP)
 |[]=>J []
 |x::r=>(match Qe x,kn r with
  |some k,J f=>J (k::f)
  |_,_=>Y)
def kP(k:VN):PV:=.tup (k.map .int)
def bu(l:VP):VP:=l.mergeSort λx y=>!cf y x
def bZ(l:VP):(bu l).Perm l:=List.mergeSort_perm _ _
def kC(l:VP):Fy (bu l):=by
 have:=List.pairwise_mergeSort (le:=λx y=>!cf y x) (λa b c f i=>by
   simp only[DK]at f i ⊢
   exact KeyOrd.kle_trans (O:=Fx) f i) (λa b=>by
   cases h:cf b a with
   |false=>simp
   |true =>
    have:cf a b=T:=KeyOrd.klt_asymm (O:=Fx) h
    simp[this])
 unfold Fy bu
 simp_all
def kg(f:Fy l)(i:Fy m)(p:l.Perm m):l=m :=
 List.Perm.eq_of_pairwise (λa b _ _ x y=>kB a b y x) f i p
def u5:∀{xs:VL}{k:VN},jo xs=J k->xs=k.map .int
 |[],k,h=>by cases h;rfl
 |x::r,k,h=>by
  cases x with
  |int i =>
   unfold jo at h
   cases f:jo r with
   |none=>rw[f]at h;cases h
   |some j =>
    rw[f]at h;cases h;rw[u5 f];rfl
  |_=>cases h
def JJ(h:Qe x=J k):x=kP k:=by
 cases x with
 |tup xs=>unfold kP;rw[u5 (show jo xs=J k from h)]
 |_=>cases h
def wo:∀{xs:VL}{f:VP},kn xs=J f->xs=f.map kP
 |[],f,h=>by cases h;rfl
 |x::r,f,h=>by
  unfold kn at h
  cases i:Qe x with
  |none=>rw[i]at h;cases h
  |some k =>
   cases j:kn r with
   |none=>rw[i,j]at h;cases h
   |some l =>
    rw[i,j]at h;cases h;rw[JJ i,wo j];rfl
def JK(K:h8)(H:Hp)(ys:List V)(f:VP):Prop :=
 ys.length=f.length/\∀(i:Nat)(y:V)(k:VN),ys[i]?=J y->f[i]?=J k->∃a,y=.ref a/\SqT K H a (k.map V.int)
def DC{K:h8}{U:VS}{H:Hp}:∀{k:VN}{ys:List V},RPs K U H (k.map PV.int) ys->ys=k.map V.int
 |[],ys,h=>by cases h;rfl
 |i::k,ys,h=>by
  cases h with
  |cons r t =>
   cases r;rw[DC t];rfl
def v5{K:h8}{U:VS}{H:Hp}:∀{f:VP}{ys:List V},RPs K U H (f.map kP) ys->JK K H ys f
 |[],ys,h=>by cases h;exact⟨rfl,λi y k e=>by simp at e⟩
 |k::f,ys,h=>by
  cases h with
  |cons r t =>
   obtain⟨l,g⟩:=v5 t;refine⟨by simp[l],λi y u e1 e2=>?_⟩
   cases i with
   |zero =>
    simp at e1 e2;subst e1;subst e2
    cases r with
    |tup j z =>
     rw[DC z]at j;exact⟨_,rfl,j⟩
   |succ i=>exact g i y u (by simpa using e1) (by simpa using e2)
def vY{K:h8}{U:VS}{H:Hp}:∀{f:VP}{ys:List V},JK K H ys f->RPs K U H (f.map kP) ys
 |[],ys,h=>by
  have:=DX.mp (by have:=h.1;simpa using this)
  subst this;exact .nil
 |k::f,ys,h=>by
  cases ys with
  |nil=>have:=h.1;simp at this
  |cons y ys =>
   obtain⟨a,rfl,r⟩:=h.2 0 y k rfl rfl;refine .cons (.tup r (RPs.ints k)) (vY ⟨by have:=h.1;simpa using this,λi j l e1 e2=>h.2 (i+1) j l (by simpa using e1) (by simpa using e2)⟩)
def oo:∀{k:VN}{f:VT},aw (k.map V.int) f->ItemsAre (intKind prog w) k f
 |[],_,h=>by cases h;exact .nil
 |i::k,_,h=>by
  cases h with
  |cons r t =>
   obtain⟨j,rfl⟩:=r;exact .cons (intKind_is _ _ _ _) (oo t)
section
variable{X:Cx}{Nc:List (Addr × Obj)}{Z:L2.St}{H:Hp}{s:Shared}
def fO(f:Inv X Nc Z H s)(h:SqT X.K H a (k.map V.int)):TK X.prog X.w s.heap k a:=by obtain⟨i,j,⟨o,r,l,n,hd⟩,_⟩:=f.tuple h;exact⟨o,i.toArray,n,r,l,hd,by simpa using oo j⟩
def Fz(f:Inv X Nc Z H s)(h:JK X.K H ys ks)(r:aw ys its):DP X.prog X.w s.heap its.toArray ks:=by
 refine⟨by simp[<-r.length,h.1],λi v k hv j=>?_⟩;have C:i<ys.length:=by rw[h.1];exact(qt.mp j).1
 obtain⟨a,e,z⟩:=h.2 i ys[i] k (by simp) j;obtain⟨u,B,l⟩:=r.get (show ys[i]?=J ys[i] by simp)
 have:v=u:=by simp_all
 subst this;rw[e]at l;exact⟨a,l,fO f z⟩
end
def G2(prog:Program)(w:World)(S:Addr)(al:List (VN×Addr))(h:Heap):Prop :=
 ∃o f i t,h.get? S=J o/\o.ExactSet/\o.data=.set f i t/\t.dummies=#[]/\(t.mask=7\/t.mask=31\/t.mask=127)/\t.plain=I/\t.led=ci w /\
  WF t.mask t.place (f.map (·.1))/\lQ t f.size/\f.toList=al.map λp=>(TH prog w p.1,Value.ref p.2)
def JL(f:dC prog w P h S (ci w) ks):
  ∃al,G2 prog w S al h/\(al.map (·.1)).Perm ks/\∀p∈al,TK prog w h p.1 p.2/\P p.2:=by
 obtain⟨o,H,O,t,B,f,R,z,W⟩:=f;have key:∀(l:List (Int×Value))(j:VP),l.length=j.length->(∀(i:Nat)(e:Int×Value)(k:VN),l[i]?=J e->j[i]?=J k->∃a,e.2=.ref a/\TK prog w h k a/\e.1=TH prog w k/\P a) ->
   ∃al:List (VN×Addr),l=al.map (λp=>(TH prog w p.1,Value.ref p.2))/\al.map (·.1)=j/\∀p∈al,TK prog w h p.1 p.2/\P p.2:=by
  intro l
  induction l with
  |nil =>
   intro j u _
   have:=DX.mp (by simpa using u.symm)
   subst this;exact⟨[],rfl,rfl,λp r=>by cases r⟩
  |cons e l U =>
   intro j u g
   cases j with
   |nil=>simp at u
   |cons k j =>
    obtain⟨a,e1,e2,e3,e4⟩:=g 0 e k rfl rfl;obtain⟨al,L,F,E⟩:=U j (by simpa using u) λi Q M C G=>g (i+1) Q M (by simpa using C) (by simpa using G);refine⟨(k,a)::al,?_,by simp[F],λp r=>?_⟩
    .congr 1;obtain⟨X,Z⟩:=e;simp only at e1 e3;rw[e1,e3]
    .rcases lb.mp r with rfl|r
     .exact⟨e2,e4⟩
     .exact E p r
 obtain⟨al,L,F,E⟩:=key H.toList B (by exact f.ents.1) λi e k C G=>f.ents.2 i e k (by rw[<-v_];exact C) G;exact⟨al,⟨o,H,O,t,f.get,f.ex,f.data,f.dm,f.mask,f.plain,f.led',f.wf,R,L⟩,by rw[F];exact z,E⟩
def FA(p:G2 prog w S al h)(Q:∀q∈al,TK prog w h q.1 q.2)(u:(al.map (·.1)).Nodup):
  dC prog w (PB h λa=>∃k,(k,a)∈al) h S (ci w) (al.map (·.1)):=by
 obtain⟨o,O,G,t,p1,E,L,M,P,W,R,F,H,j⟩:=p;refine⟨o,O,G,t,al.map (·.1),⟨p1,E,L,M,P,W,R,F,?_,λi e k f r=>?_⟩,H,List.Perm.refl _,u⟩
 .rw[<-B6,j];simp
 .rw[<-v_,j,vu]at f;rw[vu]at r
  cases l:al[i]? with
  |none=>rw[l]at f;cases f
  |some q =>
   rw[l]at f r;cases f;cases r;have B:=Df l;have C:=Q q B;exact⟨q.2,rfl,C,rfl,let⟨U,_,_,z,_⟩:=C;⟨U,z⟩,q.1,B⟩
def yo(p:G2 prog w S al h1)(k:∀o,h1.get? S=J o->h2.get? S=J o):G2 prog w S al h2:=by obtain⟨o,i,f,t,p1,r⟩:=p;exact⟨o,i,f,t,k o p1,r⟩
section
variable{X:Cx}{N W G:VM}{k:Nat}
def Al(hh:X.calm=I)(hr:Room k X.A):cS X (.type "set") (λxs H Q=>∃l ys j,xs=[.ref l]/\SqL X.K H l ys/\JK X.K H ys j/\(k_ j).length<=66 /\
  ∀S al,H S=Y->(al.map (·.1)).Perm (k_ j)->(∀p∈al,SqT X.K H p.2 (p.1.map V.int))->Q (.ref S) (kx H S (.ext (G2 X.prog X.w S al)))):=by
 intro Nc s Z H xs us Q f r ⟨l,ys,j,e,hq,E,R,q⟩;subst e;obtain⟨u,rfl,rx⟩:=j8 r;cases rx;obtain⟨P,F,pl,hz⟩:=f.list hq;have lie:=Fz f E F;refine sv (f.ok.hd hh) (by have:=hr.units;lia) pl.isList lie R λh' tk L x ap=>?_;obtain⟨al,sp,pm,M⟩:=JL L;have O:=f.hok.fresh (ii s.heap.objs.size);obtain⟨o,es,ep,t,ho,an⟩:=id sp;refine⟨.ref s.heap.objs.size,_,f.laid (o:=.ext (G2 X.prog X.w s.heap.objs.size al)) x (ii _) ⟨sp,⟨o,ho⟩,λh1 h2 a b=>yo a b⟩,rfl,q _ al O pm λp hp=>?_⟩;obtain⟨t1,⟨_,hm⟩⟩:=M p hp;obtain⟨i,hi⟩:=Bs.mp hm;have B:P[i]?=J (.ref p.2):=by simpa using hi
 have C:=(qt.mp B).1;have z:i<ys.length:=by rw[F.length];exact C
 have ab:i<j.length:=by rw[<-E.1];exact z
 obtain⟨a,e,s1⟩:=E.2 i ys[i] j[i] (by simp) (by simp);obtain⟨u,eu,ru⟩:=F.get (show ys[i]?=J ys[i] by simp);rw[B]at eu;cases eu;rw[e]at ru;have U:p.2=a:=by cases ru;rfl
 have t2:=lC x (fO f s1);rw[<-U]at t2
 have:=IsTupleKey.inj t1 t2
 rw[this,U];exact s1
def FC{Nc:VU}{s:Shared}{Z:L2.St}{H:Hp}{Q:VK}{R:Value->Prop}{h':Heap}{tk:Nat}{l:Addr}{O C:VP}{j:VT}(F:Inv X Nc Z H s)(f:Told X.prog X.w R s.heap s.heap h' l O j C)(hR:∀v,R v->∃(a:Addr)(k:VN),v=.ref a/\SqT X.K H a (k.map V.int))(hz:O.length<=66)(q:∀l ys,H l=Y->JK X.K H ys (bu O)->Q (.ref l) (kx H l (.lst ys))):EP X Nc Z Q (.ref l) { s with heap:=h',toks:=tk}:=by
 have L:=f.size;have M:=kg f.ris (kC O) (f.perm.trans (bZ O).symm);obtain⟨c,hc⟩:=f.at';have z:j.length=C.length:=by have:=f.lie.1;simpa using this
 have B:∀v∈j,∃a,v=.ref a:=λv hv=>let⟨a,_,e,_⟩:=hR v (f.mem v hv);⟨a,e⟩;obtain⟨ys,U,E⟩:∃ys:List V,aw ys j/\∀y∈ys,∃a,y=.ref a/\Value.ref a∈j:=by
  clear z f hR M hc
  induction j with
  |nil=>exact⟨[],.nil,λy E=>by cases E⟩
  |cons v j ih =>
   obtain⟨a,rfl⟩:=B v t3;obtain⟨ys,r,g⟩:=ih (λu hu=>B u (m_ _ hu));refine⟨.ref a::ys,.cons rfl r,λy E=>?_⟩;rcases lb.mp E with rfl|E
   .exact⟨a,rfl,t3⟩
   .obtain⟨b,e,m⟩:=g y E;exact⟨b,e,m_ _ m⟩
 have S:JK X.K H ys C:=by
  refine⟨by rw[U.length,z],λi y k P hk=>?_⟩;obtain⟨u,eu,ru⟩:=U.get P;obtain⟨a,e,m⟩:=E y (Df P);subst e;cases ru;obtain⟨b,k2,e2,s1⟩:=hR _ (f.mem _ m);cases e2;obtain⟨b2,e3,t⟩:=f.lie.2 i (.ref a) k (by simpa using eu) hk;cases e3
  have:=IsTupleKey.inj t (fO F s1)
  subst this;exact⟨a,rfl,s1⟩
 have ab:=F.hok.fresh L;refine⟨.ref l,_,F.laid (o:=.lst ys) f.ext L (⟨?_,j,c,U,hc⟩),rfl,q l ys ab (by rw[<-M];exact S)⟩;rw[U.length,z,f.perm.length_eq,sizeLine_eq];lia
def uN(L:X.calm=I):cS X (.builtin "sorted") (λxs H Q=>∃S al,xs=[.ref S]/\H S=J (.ext (G2 X.prog X.w S al))/\(∀p∈al,SqT X.K H p.2 (p.1.map V.int))/\(al.map (·.1)).Nodup/\(∀p∈al,p.1≠[])/\al.length<=66 /\
  ∀l ys,H l=Y->JK X.K H ys (bu (al.map (·.1)))->Q (.ref l) (kx H l (.lst ys))):=by
 intro Nc s Z H xs us Q f r ⟨S,al,e,hS,i,B,z,E,q⟩;subst e;obtain⟨u,rfl,M⟩:=j8 r;cases M;obtain⟨R,_,_⟩:=(f.hok S _ hS);have j:=FA R (λp C=>fO f (i p C)) B;refine xM (f.ok.hd L) j (λb o e=>e) (λk hk=>?_) (by simpa using E) λh' tk l P O td F=>?_
 .obtain⟨p,C,rfl⟩:=ml.mp hk;exact z p C
 .refine FC f td (λv ⟨a,e,k,U⟩=>⟨a,k,e,i (k,a) U⟩) (by simpa using E) q
def dP(h:MH):PV->Option (VL)
 |.frl xs=>J xs
 |.loc n=>(match h[n]? with
  |some (.lst xs)=>J xs
  |_=>Y)
 |_=>Y
def pM{U:VS}{H:Hp}{h:MH}{x:PV}{y:V}{xs:VL}{K:h8}{mg:Cd}(i:RH K mg U H h)(r:RP K U H x y)(e:dP h x=J xs):∃a f,y=.ref a/\SqL K H a f/\RPs K U H xs f:=by
 cases r with
 |frl s r=>cases e;exact⟨_,_,rfl,s.sq,r⟩
 |@loc n a en =>
  obtain⟨o,u,l⟩:=i.obj en;unfold dP at e;dsimp only at e;rw[u]at e
  cases o with
  |lst f =>
   cases e;obtain⟨ys,z,j⟩:=l;exact⟨a,ys,rfl,SqL.of z,j⟩
  |_=>cases e
 |_=>cases e
def Vr(m:Mx (VL)):Mx PV:=λZ h=>(m Z h).bind λj f=>match j with
 |[x]=>(match (dP f x).bind kn with
  |some i=>if(∀k∈i,k≠[])/\(k_ i).length<=66 then .ok (.loc f.length) (f++[.lst ((bu (k_ i)).map kP)])else .bad
  |none=>.bad)
 |_=>.bad
def jd(l:VP):(k_ l).Nodup:=by
 have key:∀(m:VP)(f:VP),f.Nodup->(m.foldl SetT.fh f).Nodup:=by
  intro m
  induction m with
  |nil=>intro f h;exact h
  |cons k m j =>
   intro f h;refine j _ ?_;unfold SetT.fh;split
   .exact h
   .rename_i i
    rw[CJ];refine⟨h,by simp,λx r y u=>?_⟩
    have:y=k:=by simpa using u
    subst this;rintro rfl;exact i r
 exact key l [] Pu
def ym(p:l.Perm m):bu l=bu m:=kg (kC l) (kC m) ((bZ l).trans (p.trans (bZ m).symm))
def uG(g:Good X N W G k){a:Expr}{m:Mx (VL)}{i j:Nat}{p p' E r:Pos}(hi:G[i]?=J "sorted")(hm:X.mg "sorted"=Y)(hj:G[j]?=J "set")(F:X.mg "set"=Y)(ha:MA X [a] m)(hs:starEach [a] X.env=[(T,eval a X.env)]:=by rfl)(he:starEach [.Call (.Name "set" p') [a] [] r] X.env=[(T,eval (.Call (.Name "set" p') [a] [] r) X.env)]:=by rfl):
  ME X (.Call (.Name "sorted" p) [.Call (.Name "set" p') [a] [] r] [] E) (Vr m):=by
 have d:=g.dbg _ (oI _ (au hi));have d':=g.dbg _ (oI _ (au hj));refine PE.imp (gk (uN g.calm) (g.gl _ (au hi)) hm PyProof.Rows.Boot.«sorted» (cA (gX (Al g.calm g.room) (g.gl _ (au hj)) F PyProof.Rows.Boot.«set» ha d'.2.2 d'.1 hs rfl) eQ he) d.2.2 d.1 he rfl) λZ H Q ⟨U,L,h,rs,rh,q⟩=>?_;refine⟨U,L,h,rs,rh,Ful.bind q λU1 H1 x x' h1 ex l1 u rx f=>?_⟩
 cases rx with
 |nil=>exact f.elim
 |@cons y y' _ _ r1 t1 =>
  cases t1 with
  |cons _ _=>exact f.elim
  |nil =>
   dsimp only at f
   cases P:dP h1 y with
   |none=>rw[P]at f;exact f.elim
   |some xs =>
    rw[P]at f
    cases hk:kn xs with
    |none=>simp only[Eb,hk]at f;exact f.elim
    |some B =>
     simp only[Eb,hk]at f;by_cases z:(∀k∈B,k≠[])/\(k_ B).length<=66
     .rw[c_ z]at f;obtain⟨la,zs,rfl,an,C⟩:=pM u r1 P;rw[wo hk]at C;refine⟨la,zs,B,rfl,an,v5 C,z.2,λS al hS pm M=>?_⟩;obtain⟨ab,l2⟩:=u.loose hS (.ext (G2 X.prog X.w S al));refine⟨S,al,rfl,bD,λp hp=>l2.sqt (M p hp),pm.nodup_iff.mpr (jd B),λp hp=>?_,?_,λl ys O tk=>?_⟩
      .have:p.1∈k_ B:=pm.mem_iff.mp (ml.mpr ⟨p,hp,rfl⟩)
       exact z.1 p.1 ((eB _ _).mp this)
      .have:=pm.length_eq
       rw[BL]at this;rw[this];exact z.2
      .rw[ym pm]at tk;obtain⟨R,l3⟩:=ab.new O (o:=.lst ((bu (k_ B)).map kP)) (ho:=.lst ys) ⟨_,rfl,vY tk⟩;exact f _ _ _ (l2.trans l3) R (.loc (by rw[<-u.len];simp))
     .rw[f_ z]at f;exact f.elim
end
end MM
namespace SeqT
abbrev JM(tp:Bool):String:=if tp then "tuple_iterator" else "list_iterator"
abbrev Uy(tp:Bool):String:=if tp then "tuple" else "list"
def SqI(j:Bool)(h:Heap)(f a:Addr)(i:Nat):Prop:=∃o,h.get? f=J o/\o.cls=.type (JM j)/\o.data=.fields #[.ref a,.int i 0]
def SqO(f:Bool)(h:Heap)(a:Addr)(xs:Array Value):Prop:=∃o,h.get? a=J o/\o.cls=.type (Uy f)/\∃n,o.data=.seq xs n
def SqI.at'(x:SqI tp h it a i)(k:∀o,h.get? it=J o->h'.get? it=J o):SqI tp h' it a i:=let⟨o,e,r⟩:=x;⟨o,k o e,r⟩
def SqO.at'(x:SqO tp h a xs)(k:∀o,h.get? a=J o->h'.get? a=J o):SqO tp h' a xs:=let⟨o,e,r⟩:=x;⟨o,k o e,r⟩
def SqI.lt(x:SqI tp h it a i):it<h.objs.size:=let⟨_,e,_⟩:=x;nr e
section
variable{prog:Program}{w:World}{A:Around}{E:VB}{s:Shared}
def zW(G:SqI tp s.heap it a i)(u:SqO tp s.heap a xs)(B:xs[i]?=J x)(r:∀f,SqI tp f it a (i+1)->Heap.SameBut it s.heap f->Q x { s with heap:=f}):wpAny (model prog w) A (Builtin.SmallTypes.nextOf (.ref it)) Q E s:=by
 cases tp with
 |false=>exact wpAny_nextOf_list_item (G) (u) B r
 |true =>
  obtain⟨o,e,C,hd⟩:=id G;obtain⟨H,l,_,L,j⟩:=u;have z:s.TypeIs (.ref it) "tuple_iterator":=⟨o,e,C⟩;refine d_ (wpAny_callSpecial?_slot z F.slot_tuple_iterator_next (wpAny_call_entry F.slot_tuple_iterator_next z F.entry_tuple_iterator_next ?_ (F.args_tuple_iterator_next_1 _)));show wpAny _ _ (field (.ref it) 0 >>= _) _ _ s;refine d_ (wpAny_field e hd rfl ?_);refine d_ (wpAny_field e hd rfl ?_);refine d_ (wpAny_seqItems l j ?_);simp only[yT,B];refine d_ (wpAny_setField e hd (by simp) (ia ⟨x,rfl,ia (r _ ?_ (Heap.SameBut.update ..))⟩));exact⟨_,Ho _ e (Obj.isFreed_of_fields (Obj.data_mapFields hd _)),(Obj.cls_mapFields ..).trans C,by rw[Obj.data_mapFields hd];simp[rawInt]⟩
def tU(u:A.handled=Y)(G:SqI tp s.heap it a i)(r:SqO tp s.heap a xs)(C:xs[i]?=Y)(B:∀f e,Heap.ExtBut it s.heap f->(∃o,f.get? e=J o/\o.cls=.type "StopIteration")->E (.ref e) { s with heap:=f}):wpAny (model prog w) A (Builtin.SmallTypes.nextOf (.ref it)) Q E s:=by
 cases tp with
 |false=>exact wpAny_nextOf_list_end u (G) (r) C B
 |true =>
  obtain⟨o,e,H,hd⟩:=id G;obtain⟨L,l,_,M,j⟩:=r;have z:s.TypeIs (.ref it) "tuple_iterator":=⟨o,e,H⟩;refine d_ (wpAny_callSpecial?_slot z F.slot_tuple_iterator_next (wpAny_call_entry F.slot_tuple_iterator_next z F.entry_tuple_iterator_next ?_ (F.args_tuple_iterator_next_1 _)));show wpAny _ _ (field (.ref it) 0 >>= _) _ _ s;refine d_ (wpAny_field e hd rfl ?_);refine d_ (wpAny_field e hd rfl ?_);refine d_ (wpAny_seqItems l j ?_);simp only[yT,C];refine d_ (wpAny_rule (d_ (wpAny_setField e hd (by simp) ?_)));refine d_ ?_;refine d_ (m:=firstArgMember _ _) (wpAny_of_eq (by first | rfl | (simp only)) ?_);refine wpAny_newObj_type ?_ (by size_fits);refine d_ (wpAny_handled ?_);rw[show A.in1.handled=Y from u];refine d_ (ia (wpAny_throw ?_));exact B _ _ (((Heap.SameBut.update ..).extBut.push _).push _) ⟨_,tz _ rfl,rfl⟩
def qm(i:SqO tp s.heap a xs)(f:Q (.ref s.heap.objs.size) { s with heap:=s.heap.push { cls:=.type (JM tp),data:=.fields #[.ref a,.int 0 0]}}):wpAny (model prog w) A (pyIter (.ref a)) Q E s:=by
 cases tp with
 |false=>exact wpAny_pyIter_list (i) f
 |true=>exact wpAny_pyIter_tuple (i) f
end
def NK(C:A.handled=Y)(z:Bool)(l a:Addr)(r:a≠l)(xs:Array Value):
  Draws prog w A l [l,a] xs.size (λi v=>xs[i]?=J v) (λi h=>SqI z h l a i/\SqO z h a xs) where
 live:=λ_ _ st=>let⟨o,G,_⟩:=st.1;⟨o,G⟩
 frame:=λ_ _ _ st u=>⟨st.1.at' λo e=>u l (by simp) o e,st.2.at' λo e=>u a (by simp) o e⟩
 item:=λi s Q E L st F=>by
  refine zW st.1 st.2 (x:=xs[i]) (by simp) λH f j=>?_;exact F _ H s.toks (by simp) ⟨f,st.2.at' λo e=>(j.2 a r).trans e⟩ j
 done:=λs Q E st B=>tU C st.1 st.2 (by simp) B
def AT(i:Bool)(a:Addr)(xs:Array Value)(n:Nat)(j:VG)(sl:Array (VV)):
  Meets (Builtin.«enumerate.__new__» ⟨[.type "enumerate",.ref a],[]⟩) (λ_ R s=>s.heap.get? a=J { cls:=.type (Uy i),dict:=j,data:=.seq xs n,slots:=sl} /\
   R (.ok (.ret (.ref (s.heap.push { cls:=.type (JM i),data:=.fields #[.ref a,.int 0 0]}).objs.size)))
    { s with heap:=(s.heap.push { cls:=.type (JM i),data:=.fields #[.ref a,.int 0 0]}).push { cls:=.type "enumerate",data:=.fields #[.none,.bool T,.ref s.heap.objs.size,rawInt 0,.none,.none]}}) :=
 .of_wp λprog w A R s h=>by
  obtain⟨u,g,d,r,os⟩:=s;obtain⟨f,h⟩:=h;have l:=sub_enumerate;have hL:SqO i (Shared.heap ⟨u,g,d,r,os⟩) a xs:=⟨_,f,rfl,n,rfl⟩
  wp_walk using AutoSeq1.wpAny_loadPart' f
  refine wpAny_stack_any λst=>ia ?_;split
  .rename_i c _ _ _ _ _
   cases(c==Value.type "enumerate")
   .wp_walk using AutoSeq1.wpAny_loadPart' f,qm hL
    exact⟨_,rfl,h⟩
   .wp_walk using AutoSeq1.wpAny_loadPart' f,qm hL
    exact⟨_,rfl,h⟩
  .wp_walk using AutoSeq1.wpAny_loadPart' f,qm hL
   exact⟨_,rfl,h⟩
section
variable{prog:Program}{w:World}{A:Around}{E:VB}{s:Shared}
def zV(hL:SqO tp s.heap a xs)(h:∀f,IsEnum f (s.heap.objs.size+1) s.heap.objs.size 0 .none->SqI tp f s.heap.objs.size a 0->f.objs.size=s.heap.objs.size+2 ->
   (∀b o,s.heap.get? b=J o->f.get? b=J o)->Q (.ref (s.heap.objs.size+1)) { s with heap:=f}):
  wpAny (model prog w) A (call (.type "enumerate") [.ref a]) Q E s:=by
 obtain⟨⟨c,i,z,sl⟩,u,r,n,hd⟩:=hL;subst r hd;refine callType_new F.called_enumerate (by decide) (F.typeCall_enumerate_1 _) (F.newCall_enumerate_1 _) (λobj=>F.args_object_init_2 obj _) F.entry_enumerate_new (AT tp a xs n i sl) ⟨u,?_⟩;have j:(s.heap.push { cls:=.type (JM tp),data:=.fields #[.ref a,.int 0 0]}).objs.size=s.heap.objs.size+1:=GL ..;rw[j]
 have l:IsEnum ((s.heap.push { cls:=.type (JM tp),data:=.fields #[.ref a,.int 0 0]}).push
   { cls:=.type "enumerate",data:=.fields #[.none,.bool T,.ref s.heap.objs.size,rawInt 0,.none,.none]}) (s.heap.objs.size+1) s.heap.objs.size 0 .none:=by
  have:=tz (s.heap.push { cls:=.type (JM tp),data:=.fields #[.ref a,.int 0 0]})
   (o:={ cls:=.type "enumerate",data:=.fields #[.none,.bool T,.ref s.heap.objs.size,rawInt 0,.none,.none]}) rfl
  rw[j]at this;exact this
 exact⟨⟨_,l,rfl⟩,h _ l ⟨_,n_ _ (tz _ rfl),rfl,rfl⟩ (by rw[GL,j]) λb o x=>n_ _ (n_ _ x)⟩
end
section
variable{prog:Program}{w:World}{A:Around}{E:VB}{s:Shared}{z TI TO i1 i2 l1 l2:Addr}{t1 t2:Bool}{k1 k2:Nat}{xs ys:Array Value}
end
section
variable{prog:Program}{w:World}{A:Around}{E:VB}{s:Shared}
end
end SeqT
namespace MM
open PySem.Spec PyProof.Rows L2 SeqT
def G3(f:Bool)(K:h8)(H:Hp)(a:Addr)(ys:List V):Prop:=match f with
 |true=>SqT K H a ys
 |false=>SqL K H a ys
section
variable{X:Cx}{Nc:List (Addr × Obj)}{Z:L2.St}{H:Hp}{s:Shared}
def tL(i:Inv X Nc Z H s)(h:G3 tp X.K H a ys):∃f:VT,aw ys f/\SqO tp s.heap a f.toArray/\ys.length<=sizeLine:=by
 cases tp with
 |true =>
  obtain⟨f,j,r,l⟩:=i.tuple h;exact⟨f,j,r,l⟩
 |false =>
  obtain⟨f,j,r,l⟩:=i.list h;exact⟨f,j,r.isList,l⟩
def FD(f:Inv X Nc Z H s)(h:G3 tp X.K H a xs)(i:G3 tp X.K H a ys):xs=ys:=by
 cases tp with
 |true=>exact f.tuple_inj h i
 |false=>exact f.list_inj h i
def oG(f:Inv X Nc Z H s){B:Heap}{t':Nat}{l:VS}(hf:∀b∈l,jx X Nc H b)(k:∀b o,b∉l->s.heap.get? b=J o->B.get? b=J o):
  Inv X Nc Z H { s with heap:=B,toks:=t'}:=by
 have j:∀b u,H b=J u->b∉l:=λb u e z=>by rw[(hf b z).1]at e;cases e
 refine f.step (g':=s.gens) (d':=s.drawn) (λb G=>?_) (λb o _ _ i e _=>k b o i e) (λb o _ _ i e _=>⟨o.slots,k b o i e⟩) (λ_ _ _ _ n=>n)
  (λb o i e=>⟨o,k b o i e⟩) (λ_ _ e=>e) (λ_ _ _ e=>e) (λb R e=>⟨#[],by rw[e];simp⟩) (λm L=>?_) (λb u e=>?_) f.bare
 .obtain⟨U,P,S,M,Q,O⟩:=hf b G;exact⟨M,P,Q,O⟩
 .obtain⟨o,E,C,F,r⟩:=L;exact⟨o,E,C,k _ o (λz=>(hf _ z).2.1 rfl) F,r⟩
 .refine (f.hok b u e).stay (λc v i q=>k c v ?_ q) (λ_ q=>q) λ_ _ q=>q;rcases i with z|z
  .rw[z];exact j b u e
  .exact j c _ z
def FE(j:Inv X Nc Z H s){h':Heap}{t':Nat}{ch:VS}{ys:List V}{its:VT}(hf:∀b∈ch,jx X Nc H b)(E:aw ys its)(G:ys.length<=sizeLine)(C:s.heap.objs.size∉ch)(L:h'.get? s.heap.objs.size=J { cls:=.type "tuple",data:=.seq its.toArray})(k:∀b o,b∉ch->s.heap.get? b=J o->h'.get? b=J o):
  Inv X Nc Z (kx H s.heap.objs.size (.tup ys)) { s with heap:=h',toks:=t'}/\(∀b∈ch,(kx H s.heap.objs.size (.tup ys)) b=Y)/\H s.heap.objs.size=Y:=by
 have B:=j.hok.fresh (ii s.heap.objs.size);have r:∀b∈ch,b≠s.heap.objs.size:=λb f z=>C (by rw[<-z];exact f);have F:Inv X Nc Z (kx H s.heap.objs.size (.tup ys)) { s with heap:=s.heap.push { cls:=.type "tuple",data:=.seq its.toArray},toks:=s.toks} :=
  j.laid (λb u q=>n_ _ q) (ii _) ⟨G,its,E,_,tz _ rfl,rfl,⟨_,rfl⟩,rfl⟩
 have i:∀b∈ch,(kx H s.heap.objs.size (.tup ys)) b=Y:=λb f=>by rw[aN (r b f)];exact(hf b f).1
 refine⟨?_,i,B⟩;refine oG (t':=t') F (λb f=>⟨i b f,(hf b f).2⟩) λb o f e=>?_;by_cases z:b=s.heap.objs.size
 .have l:(s.heap.push { cls:=.type "tuple",data:=.seq its.toArray}).get? s.heap.objs.size=J { cls:=.type "tuple",data:=.seq its.toArray}:=tz _ rfl
  grind
 .have l:=e;rw[Heap.get?_push_ne _ _ _ z]at l;exact k b o f l
end
def Vs(K:h8)(f:Bool)(a:Addr):It :=
 ⟨λi H=>∃ys y,G3 f K H a ys/\ys[i]?=J y,λi H x j=>∃p y,H p=Y/\x=.ref p/\j=kx H p (.tup [.int i,y])/\∀ys,G3 f K H a ys->ys[i]?=J y,λi H=>∃ys,G3 f K H a ys/\ys.length<=i⟩
def Aw{P:Program}{w:World}{K:h8}{O:VX}{x1:Nat}{ab:Pos}(tp:Bool)(a e j:Addr)(F:e≠j)(a1:a≠e)(a9:a≠j):
  Du P w K (.Tuple O x1 ab) (Vs K tp a) [e,j] e (λi h=>(∃old,IsEnum h e j i old)/\SqI tp h j a i) where
 mem:=by simp
 obj:=λi h st b M=>by
  obtain⟨⟨old,l⟩,C⟩:=st
  have:b=e\/b=j:=by simpa using M
  rcases this with rfl|rfl
  .exact⟨_,l,λv z=>nomatch z⟩
  .obtain⟨o,ho,W,hd⟩:=C;exact⟨o,ho,λv z=>by rw[hd]at z;cases z⟩
 keep:=λi h h' st k=>let⟨⟨old,l⟩,C⟩:=st;⟨⟨old,k e (by simp) _ l⟩,C.at' λo q=>k j (by simp) o q⟩
 item:=by
  intro X hP hw hK W i Nc s Z H E f hf st hg;subst hP hw hK;obtain⟨⟨old,l⟩,C⟩:=st;obtain⟨ys,y,hq,hy⟩:=hg;obtain⟨r,rv,so,hz⟩:=tL f hq;obtain⟨u,hu,ru⟩:=rv.get hy;have an:i<r.toArray.size:=by
   have:=(qt.mp hu).1
   simpa using this
  have G:(X.A.in1).handled=Y:=by have:=f.ok.hd W;simpa using this
  refine wpAny_pyNext_enum_itemD (NK G tp j a a9 r.toArray) l ⟨C,so⟩ an F (by simp[F,Ne.symm a1]) λx h1 U hx a5 ap a2 be a7=>⟨_,rfl,?_⟩;have a4:x=u:=by
   have:r.toArray[i]?=J u:=by simpa using hu
   rw[this]at hx;exact(Option.some.inj hx).symm
  subst a4;refine wpAny_letOwnedTupleGo_enum (s:={ s with heap:=h1,toks:=U+1}) a5 λh2 a6 L=>?_;have B:e<s.heap.objs.size:=nr l;have R:j<s.heap.objs.size:=C.lt;obtain⟨I2,a8,ax⟩:=FE (t':=U+1) (h':=h2) f (ch:=[e,j]) (ys:=[.int i,y]) (its:=[.int i U,x]) hf (.cons ⟨U,rfl⟩ (.cons ru .nil)) (by rw[sizeLine_eq];show 2<=_;decide)
   (by simp only[lb,DM,or_false,not_or];exact⟨Ee B,Ee R⟩)
   ((L.2 _ (Ee B)).trans a2)
   (λb o M q=>by
    have S:b≠e:=λz=>M (by simp[z]);have a3:b≠j:=λz=>M (by simp[z])
    exact(L.2 b S).trans (a7 b o S a3 q))
  refine⟨.ref s.heap.objs.size,_,I2,rfl,⟨_,y,ax,rfl,rfl,λzs ay=>by rw[FD f ay hq];exact hy⟩,⟨⟨x,by simpa using a6⟩,?_⟩,a8⟩;exact ap.1.at' λo q=>(L.2 j (Ne.symm F)).trans q
 done:=by
  intro X hP hw hK W i Nc s Z H E f hf st hg;subst hP hw hK;obtain⟨⟨old,l⟩,C⟩:=st;obtain⟨ys,hq,hy⟩:=hg;obtain⟨r,rv,so,hz⟩:=tL f hq;have G:(X.A.in1).handled=Y:=by have:=f.ok.hd W;simpa using this
  have ba:=rv.length;have hT:s.TypeIs (.ref e) "enumerate":=⟨_,l,rfl⟩;unfold pyNext;refine d_ (wpAny_attempt (wpAny_callSpecial?_slot (name:=Str.ofString "__next__") hT PySem.F.slot_enumerate_next (wpAny_call_entry PySem.F.slot_enumerate_next hT PySem.F.entry_enumerate_next ?_ (PySem.F.args_enumerate_next_1 _))));show wpAny _ _ (field (.ref e) 2 >>= _) _ _ _;refine d_ (wpAny_field l rfl (x:=.ref j) rfl ?_);refine d_ (tU G C so (by simp;ext) λh1 x a0 as=>?_);obtain⟨o,ho,az⟩:=as;refine d_ (wpAny_isInstance (T:="StopIteration") (b:=I) ⟨o,ho,az⟩ isSubtype_stop ?_);refine ia ⟨rfl,oG (t':=s.toks) f hf λb o M q=>a0 b o (λz=>M (by simp[z])) q⟩
 self:=λA i s Q E st h=>let⟨⟨old,l⟩,_⟩:=st;wpAny_pyIter_enum l h
def gH(v:PV)(h:MH):Option (Bool×VL×List (Nat×VL)):=match v with
 |.loc n=>(match h[n]? with
  |some (.lst xs)=>J (T,xs,[(n,xs)])
  |_=>Y)
 |.frl xs=>J (T,xs,[])
 |.tup xs=>J (I,xs,[])
 |_=>Y
def JN{X:Cx}{U:VS}{H:Hp}{h:MH}{x:PV}{y:V}{E:Bool}{xs:VL}{gd:List (Nat×VL)}(F:RH X.K X.mg U H h)(r:RP X.K U H x y)(e:gH x h=J (E,xs,gd)):
  ∃a,y=.ref a/\(∃ys,G3 E X.K H a ys)/\∀i f j,Le U H i f->RH X.K X.mg i f j->(∀p∈gd,j[p.1]?=J (.lst p.2))->∃ys,G3 E X.K f a ys/\RPs X.K i f xs ys:=by
 cases r with
 |frl s r=>cases e;exact⟨_,rfl,⟨_,s.sq⟩,λi f j l _ _=>⟨_,(l.sqf s).sq,r.le l⟩⟩
 |tup s r=>cases e;exact⟨_,rfl,⟨_,s⟩,λi f j l _ _=>⟨_,l.sqt s,r.le l⟩⟩
 |@loc n a en =>
  obtain⟨o,L,G⟩:=F.obj en;unfold gH at e;dsimp only at e;rw[L]at e
  cases o with
  |lst P =>
   cases e;obtain⟨ys,M,O⟩:=G;refine⟨a,rfl,⟨ys,SqL.of M⟩,λi f j l C ok=>?_⟩;obtain⟨B,u,z⟩:=C.at' n a _ (l.get en) (ok (n,xs) (by simp));exact⟨B,SqL.of u,z⟩
  |_=>cases e
 |_=>cases e
def jk(xs:VL):VL:=xs.zipIdx.map λp=>.tup [.int (p.2:Int),p.1]
def AM{xs:VL}{i:Nat}{x:PV}(h:xs[i]?=J x):(jk xs)[i]?=J (.tup [.int (i:Int),x]):=by unfold jk;rw[vu,List.getElem?_zipIdx,h];simp
def rZ(xs:VL):(jk xs).length=xs.length:=by simp[jk]
def R5(m:Mx (VL)):Mx MIt:=λZ h=>(m Z h).bind λi f=>match i with
 |[x]=>(match gH x f with
  |some (_,xs,gd)=>.ok ⟨jk xs,gd⟩ f
  |none=>.bad)
 |_=>.bad
section
variable{X:Cx}{N W G:VM}{k:Nat}
def FF(g:Good X N W G k){as:VX}{x1:Nat}{tp:Pos}{a:Expr}{m:Mx (VL)}{p ab:Pos}{j:Nat}(hj:G[j]?=J "enumerate")(hm:X.mg "enumerate"=Y)(ha:MA X [a] m)(hs:starEach [a] X.env=[(T,eval a X.env)]:=by rfl):MI X (.Tuple as x1 tp) (.Call (.Name "enumerate" p) [a] [] ab) (R5 m):=by
 have d:=g.dbg _ (oI _ (au hj));intro Nc s Z H R a0 ⟨U,ay,h,rs,rh,q⟩;refine wpAny_Call_Name_kw (gT a0 (g.gl _ (au hj)) hm PyProof.Rows.Boot.«enumerate» ?_ d.2.2 d.1)
 refine PyProof.Rows.callWith_type1 (ka (ha ab Nc s Z H (λvs B=>∃M O xs,Le U H M B/\RH X.K X.mg M B O/\RPs X.K M B xs vs/\Ful X (uL X) ay M B ((match xs with
   |[x]=>(match gH x O with|some (_,xs,gd)=>.ok ⟨jk xs,gd⟩ O|none=>.bad)
   |_=>.bad:Out MIt)) R) a0 ⟨U,ay,h,rs,rh,Ful.bind q λM B v v' O _ l1 E rv L=>⟨M,O,v,l1,E,rv,L⟩⟩) λus C ⟨vs,B,S,r1,M,O,xs,l1,E,rv,L⟩=>?_) hs rfl
 cases rv with
 |nil=>exact L.elim
 |@cons y y' ys a9 ry t1 =>
  cases t1 with
  |cons _ _=>exact L.elim
  |nil =>
   dsimp only at L
   cases Q:gH y O with
   |none=>rw[Q]at L;exact L.elim
   |some z =>
    obtain⟨b,zs,gd⟩:=z;rw[Q]at L;obtain⟨ad,rfl,⟨ws,a7⟩,a3⟩:=JN E ry Q;obtain⟨u,rfl,rx⟩:=j8 r1;cases rx;obtain⟨ba,bi,so,hz⟩:=tL S a7;refine zV so λh' he hi be hk=>?_;refine wpAny_pyIter_enum he ?_;have I2:Inv X Nc Z B { C with heap:=h',toks:=C.toks}:=S.kept hk;obtain⟨oa,a6,a8,_⟩:=id so;have an:ad<C.heap.objs.size:=nr a6;have az:=S.hok.fresh (ii C.heap.objs.size);have ap:=S.hok.fresh (Lo C.heap.objs.size);refine⟨C.heap.objs.size+1,_,_,_,B,rfl,I2,Aw b ad _ C.heap.objs.size (Ee (Ma _)) (t4 (L9 an)) (t4 an),⟨⟨_,he⟩,hi⟩,λc hc=>?_,?_⟩
    .have:c=C.heap.objs.size+1\/c=C.heap.objs.size:=by simpa using hc
     rcases this with rfl|rfl
     .have F:=Inv.fpOk S (H':=B) (b:=C.heap.objs.size+1) (Lo _) ap;exact F
     .exact Inv.fpOk S (H':=B) (ii _) az
    .refine L M B _ (Le.refl _ _) E ?_;intro U' H' h2 i l a1 ok;obtain⟨P,r,ax⟩:=a3 U' H' h2 l a1 ok;refine⟨λf=>?_,λf=>⟨P,r,by rw[<-ax.length];rw[rZ]at f;exact f⟩⟩;rw[rZ]at f;have hx:zs[i]?=J (zs[i]'f):=zb f;obtain⟨w',ew,a4⟩:=ax.get hx;refine⟨⟨P,w',r,ew⟩,λx' H3 ⟨pp,y2,hp,e1,e2,a2⟩=>?_⟩;subst e1;subst e2;have ey:y2=w':=by
      have:=a2 P r
      rw[ew]at this;exact(Option.some.inj this).symm
     subst ey;obtain⟨a5,l3⟩:=a1.tup hp [.int i,y2];exact⟨U',_,l3,a5,AM hx,.tup (SqT.of bD) (.cons (.int _) (.cons (a4.le l3) .nil))⟩
end
end MM
namespace MM
open PySem.Spec PyProof.Rows L2 SetT SortT
def jv:VL->Option (VN)
 |[]=>J []
 |.int i::r=>(jv r).map (i::·)
 |_=>Y
def qj:∀{xs:VL}{k:VN},jv xs=J k->xs=k.map .int
 |[],k,h=>by cases h;rfl
 |x::r,k,h=>by
  cases x with
  |int i =>
   unfold jv at h
   cases f:jv r with
   |none=>rw[f]at h;cases h
   |some j =>
    rw[f]at h;cases h;rw[qj f];rfl
  |_=>cases h
def tD:∀(k:VN),jv (k.map .int)=J k
 |[]=>rfl
 |i::k=>by show(jv (k.map .int)).map (i::·)=_;rw[tD k];rfl
def uU:∀{ns:VN}{f:VT},aw (ns.map V.int) f->IntsAre f ns
 |[],_,h=>by cases h;exact .nil
 |i::k,_,h=>by
  cases h with
  |cons r t =>
   obtain⟨j,rfl⟩:=r;exact .cons i j (uU t)
section
variable{X:Cx}{N W G:VM}{k:Nat}
end
def vX:yf X b (λ_ _=>.bad):=λj s Z H D f ⟨U,i,h,l,r,q⟩=>q.elim
end MM
namespace MM
open PySem.Spec PyProof.Rows L2
end MM
namespace MM
open PySem.Spec PyProof.Rows L2 SetT SortT
section
variable{h:MH}{i:Int}{xs:VL}{n:Nat}
end
def JO{K:h8}{n:Str}{i:Int}{t:Nat}(e:PySem.W.nsIn K mainGlobals n=J (J (.int i t))):∃t,PySem.W.nsIn K mainGlobals n=J (J (.int i t)):=⟨t,e⟩
def jZ:∀(k:VN),PyData.canLayAll0 (k.map .int)=I/\PyData.depthAll (k.map .int)<=1
 |[]=>⟨rfl,by simp[PyData.depthAll]⟩
 |i::k=>by
  obtain⟨a,b⟩:=jZ k;constructor
  .simp[PyData.canLayAll0,PyData.canLay0,a]
  .simp only[qw,PyData.depthAll,PyData.depth];lia
def uP:∀(f:VP),PyData.canLayAll0 (f.map λk=>.tuple (k.map .int))=I/\PyData.depthAll (f.map λk=>.tuple (k.map .int))<=2
 |[]=>⟨rfl,by simp[PyData.depthAll]⟩
 |k::f=>by
  obtain⟨a,b⟩:=uP f;obtain⟨c,d⟩:=jZ k;constructor
  .simp[PyData.canLayAll0,PyData.canLay0,a,c]
  .simp only[qw,PyData.depthAll,PyData.depth];lia
end MM
namespace MM
open PySem.Spec PyProof.Rows L2
def nL(h:MH):PV->Option Bool
 |.non=>J T
 |.bl b=>J b
 |.int i=>J (i != 0)
 |.str _=>Y
 |.tup xs=>J (!xs.isEmpty)
 |.frl xs=>J (!xs.isEmpty)
 |.loc n=>match h[n]? with
  |some (.lst xs)=>J (!xs.isEmpty)
  |_=>Y
def Uz(m:Mx PV):Mx Bool:=λZ h=>(m Z h).bind λv f=>match nL f v with
 |some b=>.ok b f
 |none=>.bad
section
variable{X:Cx}{N W G:VM}{k:Nat}
def ln{K:h8}{U:VS}{H:Hp}{xs:VL}{ys:List V}(r:RPs K U H xs ys):(!xs.isEmpty)=!ys.isEmpty:=by cases r<;>rfl
def JP{e:Expr}{m:Mx PV}(h:ME X e m)(R:∀l,isTrue e X.env l=(do let v <-l;standAt e.pos;holding [v] (truthy v)):=by intro _;rfl):MT X e (Uz m):=by
 refine PT.imp (BK h R) λZ H Q ⟨U,C,h,F,L,q⟩=>⟨U,C,h,F,L,Ful.bind q λu B x x' h1 _ l1 f O j=>?_⟩
 cases O with
 |non=>exact⟨T,rfl,j u B _ (Le.refl _ _) f rfl⟩
 |bl b=>exact⟨b,rfl,j u B _ (Le.refl _ _) f rfl⟩
 |int i=>exact⟨_,rfl,j u B _ (Le.refl _ _) f rfl⟩
 |str i=>exact j.elim
 |@tup xs a ys s r=>exact⟨_,.inr (.inl ⟨ys,s,rfl⟩),by rw[<-ln r];exact j u B _ (Le.refl _ _) f rfl⟩
 |@frl xs a ys s r=>exact⟨_,.inl ⟨ys,s.sq,rfl⟩,by rw[<-ln r];exact j u B _ (Le.refl _ _) f rfl⟩
 |@loc n a e =>
  obtain⟨o,E,P⟩:=f.obj e
  cases o with
  |lst xs =>
   obtain⟨ys,S,M⟩:=P;simp only[nL,E]at j;exact⟨_,.inl ⟨ys,.inl (.inl S),rfl⟩,by rw[<-ln M];exact j u B _ (Le.refl _ _) f rfl⟩
  |dic ks xs=>simp only[nL,E]at j;exact j.elim
  |exc z=>simp only[nL,E]at j;exact j.elim
inductive A_(K:h8)(mg:Cd)(cs:VM):VS->VM->Prop where
 |nil:A_ K mg cs [] []
 |cons{D:Addr}{sup:VM}{Ds:VS}{sups:VM}(h:wu K mg (.ref D) cs sup)(t:A_ K mg cs Ds sups):A_ K mg cs (D::Ds) (sup++sups)
def Vt(f:VS):TA:=λZ H Q=>Q (f.map V.ref) H
def Qf(X:Cx)(l:VM)(j:VX)(f:VM):Prop:=∃i,A_ X.K X.mg l i f/\PA X j (Vt i)/\i.length=j.length
def wX:Qf X cs [] []:=⟨[],.nil,PA.imp eQ λZ H Q q=>q,rfl⟩
def dk(g:Good X N W G k){c:Str}{r i f:VM}{j:Nat}{q:Pos}{l:VX}(u:G[j]?=J c)(F:∃D,X.mg c=J (.ref D)/\wu X.K X.mg (.ref D) r i)(t:Qf X r l f)(L:starEach (.Name c q::l) X.env=(T,eval (.Name c q) X.env)::starEach l X.env:=by rfl):Qf X r (.Name c q::l) (i++f):=by
 obtain⟨D,M,E⟩:=F;obtain⟨z,B,O,C⟩:=t;have d:=g.dbg c (oI _ (au u));exact⟨D::z,.cons E B,PA.imp (cA (qB (v:=.ref D) (g.gl c (au u)) M rfl d.1) O L) λZ H Q q=>q,congrArg (·+1) C⟩
def vq{K:h8}{mg:Cd}{l:VM}{i:VS}{f:VM}(h:A_ K mg l i f){t:String}(j:t∈["NoneType","bool","int","str","tuple","list","dict"]):PySem.W.kitAny K (.type t) (i.map Value.ref)=J T:=by
 induction h with
 |nil=>rfl
 |cons u _ r=>rw[qw];unfold PySem.W.kitAny;rw[u.ty t j];exact r
def yE{K:h8}{mg:Cd}{r:VM}{l:VS}{f:VM}(h:A_ K mg r l f){x:Str}(u:x∈r){C:Addr}(E:mg x=J (.ref C)):PySem.W.kitAny K (.ref C) (l.map Value.ref)=J (f.contains x):=by
 induction h with
 |nil=>rfl
 |@cons D j l f B _ L =>
  rw[qw];unfold PySem.W.kitAny;obtain⟨H,i,_,_,F⟩:=B.ex x u;rw[E]at i;cases i;rw[F]
  cases z:j.contains x with
  |true =>
   have:(j++f).contains x=I:=by rw[List.contains_iff_mem]at z ⊢;exact s_ _ z
   rw[this]
  |false =>
   simp_all
def yU{i:VS}:∀{f:VT},aw (i.map V.ref) f->f=i.map Value.ref:=by
 induction i with
 |nil=>intro f r;cases r;rfl
 |cons D i l =>
  intro f r
  cases r with
  |cons j u=>rw[l u];cases j;rfl
def u9(g:Good X N W G k){a:Expr}{m:Mx PV}{u:VX}{E j:VM}{i:Nat}{p L pt:Pos}{kt}(hi:G[i]?=J "isinstance")(hm:X.mg "isinstance"=Y)(IC:Qf X E u j){c0:Str}{ab:VM}(ay:∃D,X.mg c0=J (.ref D)/\wu X.K X.mg (.ref D) E ab)(hl:u.length<=100)(ha:ME X a m)(he:starEach [a,.Tuple u kt pt] X.env=(T,eval a X.env)::starEach [.Tuple u kt pt] X.env:=by rfl)(a2:starEach [.Tuple u kt pt] X.env=[(T,eval (.Tuple u kt pt) X.env)]:=by rfl)(a1:(backTo L (starEach [.Tuple u kt pt] X.env)).any (·.1)=T:=by rfl):
  ME X (.Call (.Name "isinstance" p) [a,.Tuple u kt pt] [] L) (Dg (bR E j) m):=by
 obtain⟨Ds,l,a0,M⟩:=IC;obtain⟨D0,_,a5⟩:=ay;have d1:=g.dbg _ (oI _ (au hi));have B:cS X (.builtin "isinstance") (λxs H Q=>∃S P,xs=[S,.ref P]/\SqT X.K H P (Ds.map V.ref)/\uJ X (bR E j) S H Q):=by
  intro Nc s Z H xs us Q f r ⟨S,P,e,a8,U,h,x,F,rx,q⟩;subst e
  cases r with
  |cons r1 t1=>cases t1 with
   |cons r2 t2 =>
    cases t2;cases r2;obtain⟨be,rv,ht,_⟩:=f.tuple a8;have ei:=yU rv;subst ei;obtain⟨⟨oc,od,ba,bi⟩,ho,a9,nn,a6⟩:=ht;subst a9;subst a6;have plain:∀t,C7 h x=J t->bR E j x h=.ok (.bl T) h->wpAny (model X.prog X.w) X.A (call (.builtin "isinstance") [_,_]) (EP X Nc Z Q) X.xe s:=λt et ef=>by
     rw[ef]at q;obtain⟨a3,as,Hq,Za,hz⟩:=qH f F rx r1 et;exact PySem.W.kia_tup Za f.kIn hz ho (vq l a3) as λtk=>⟨.bl _,H,f.tok _,rfl,q U H _ (Le.refl _ _) F (.bl _)⟩
    cases x with
    |non=>exact plain _ rfl rfl
    |bl b=>exact plain _ rfl rfl
    |int i=>exact plain _ rfl rfl
    |str i=>exact plain _ rfl rfl
    |tup i=>exact plain _ rfl rfl
    |frl i=>exact plain _ rfl rfl
    |loc n =>
     cases en:h[n]? with
     |none=>simp only[bR,en]at q;exact q.elim
     |some o =>
      cases o with
      |lst xs=>exact plain "list" (by simp[C7,en]) (by simp[bR,en])
      |dic xs=>exact plain "dict" (by simp[C7,en]) (by simp[bR,en])
      |exc ex =>
       simp only[bR,en]at q;by_cases hc:E.contains ex.cls=I
       .rw[c_ hc]at q
        cases rx with
        |@loc n a e =>
         cases r1;obtain⟨o',O,ro⟩:=F.obj e;rw[en]at O;cases O;obtain⟨_,C,R,hH⟩:=ro;have hx:ex.cls∈E:=by simpa using hc
         obtain⟨C',an,EQ,ax,_⟩:=a5.ex ex.cls hx;rw[R]at an;cases an;obtain⟨hz,_,_⟩:=(show ObjOk X.prog X.w H s.heap a (.ext (ja a C))from f.hok a _ hH);exact PySem.W.kia_tup (uS EQ ax) f.kIn hz ho (yE l hx R) (λz=>nomatch z) λtk=>⟨.bl _,H,f.tok _,rfl,q U H _ (Le.refl _ _) F (.bl _)⟩
       .rw[f_ hc]at q;exact q.elim
 refine PE.imp (gk B (g.gl _ (au hi)) hm PyProof.Rows.Boot.«isinstance» (cA ha (cA (AC a0) eQ a2) he) d1.2.2 d1.1 he a1) λZ H Q ⟨U,az,h,rs,F,q⟩=>?_;refine⟨U,az,h,rs,F,Ful.bind q λU1 H1 x S h1 _ l1 ap rx q1=>?_⟩;refine⟨by rw[BL,M];exact o0 hl (by decide),λP a4=>?_⟩;obtain⟨a7,l2⟩:=ap.tup a4 (Ds.map V.ref);exact⟨S,P,rfl,SqT.of bD,U1,h1,x,a7,rx.le l2,(Ful.le l2 q1).zero⟩
end
end MM
namespace MM
open PySem.Spec PyProof.Rows L2 PySem.W
section
variable{X:Cx}
end
end MM
namespace MM
open PySem.Spec PyProof.Rows L2
section
variable{X:Cx}{o e:Expr}{es:VX}{name:Str}{apos cpos:Pos}{id:String}{f:Str->VL->MH->VZ}{m:Mx PV}{ma:Mx (VL)}
end
end MM
namespace L2
open PySem.Spec PyProof.Rows
section
variable{X:Cx}{e st:Expr}{te:TE}{hi:Option Expr}{th ts:TO}{pos p2:Pos}
end
end L2
namespace MM
open PySem.Spec PyProof.Rows L2
section
variable{X:Cx}{pos p2:Pos}
end
section
variable{X:Cx}{k:Nat}
end
end MM
namespace MM
open PySem.Spec PyProof.Rows L2 SetT SortT
section
variable{X:Cx}{N W G:VM}{k:Nat}
end
end MM
namespace L2
open PySem.Spec PyProof.Rows
section
variable{X:Cx}{a:Expr}{ta:TE}{pos:Pos}
end
end L2
namespace MM
open PySem.Spec PyProof.Rows L2
section
variable{X:Cx}{pos:Pos}
end
def sW(n:Nat)(f:VL)(h:MH):VZ:=match f,h[n]? with
 |[.int 0],J (.lst (y::r))=>.ok y (h.set n (.lst r))
 |_,_=>.bad
section
variable{X:Cx}
def FG:Ii X "list.pop" (Jc X sW):=by
 intro L s Z H x vs v S Q u F G ⟨U,h,n,a,ps,e,en,B,rp,q⟩;subst e;obtain⟨o,O,M⟩:=B.obj en;unfold sW at q;rw[O]at q
 split at q
 .rename_i y r e
  injection e with e
  subst e
  cases rp with
  |cons R P =>
   cases P;cases R;obtain⟨ys,W,E⟩:=M
   cases E with
   |@cons _ i _ f j l =>
    obtain⟨z,C⟩:=B.put en (o:=.lst r) (ho:=.lst f) ⟨_,rfl,l⟩;exact Bx L s Z H _ _ v S Q u F G ⟨a,i::f,0,0,i,rfl,rfl,W,by decide,by decide,by simp[seqIndex?],rfl,q U _ i C z (j.le C)⟩
 .exact q.elim
end
section
variable{X:Cx}{k:Nat}
end
end MM
namespace HT
open PyProof.Rows
section
open PySem.SeqAt
open PySem.AutoSeq1 (wpAny_loadPart')
open PySem.MeetsSeq PySem.MeetsSeq2 PySem.MeetsSeq3
end
section
variable{prog:Program}{w:World}{A:Around}{E:VB}{s:Shared}
def AV{t b:Addr}{u:VT}{Q:VB}(G:IsTup s.heap t ([]:VT).toArray)(H:IsTup s.heap b u.toArray)(h:Q (.ref b) s):wpAny (model prog w) A (binaryOp .Add (.ref t) (.ref b)) Q E s:=by
 obtain⟨⟨cls,L,data,sl⟩,z,C,n,hd⟩:=id G;obtain⟨⟨B,l,data2,r⟩,f,j,F,i⟩:=id H;simp only at C hd j i;subst C hd j i;exact concat_meets ⟨_,z,rfl⟩ ⟨_,f,rfl⟩ noFill_tuple_add seq_tuple_add PySem.F.slot_tuple_add PySem.F.entry_tuple_add (PySem.F.args_tuple_add_2 _ _)
   (tuple_addW0 t b ([]:VT).toArray u.toArray n F L l sl r (by simp)) ⟨z,f,h⟩
end
end HT
namespace L2
open PySem.Spec PyProof.Rows
section
variable{X:Cx}{e st:Expr}{te:TE}{ts:TO}{pos p2:Pos}
def NL(K:h8):R2:=λx y H Q=>∃a b ys,x=.ref a/\y=.ref b/\SqT K H a []/\SqT K H b ys/\Q (.ref b) H
def FH:OpR X (binaryOp .Add) (NL X.K):=by intro E s Z H x y v u Q f r l h;obtain⟨a,b,ys,rfl,rfl,j,z,q⟩:=h;cases r;cases l;obtain⟨C,B,p1,_⟩:=f.tuple j;obtain⟨i,F,p2,_⟩:=f.tuple z;cases B;exact HT.AV p1 p2 ⟨.ref b,H,f,rfl,q⟩
end
end L2
namespace MM
open PySem.Spec PyProof.Rows L2
def vM(x y:PV)(h:MH):VZ:=match x,y with
 |.tup [],.tup ys=>.ok (.tup ys) h
 |x,y=>j_ x y h
section
variable{X:Cx}{k:Nat}{pos:Pos}
def pT:wl X (binaryOp .Add) vM:=by
 intro B s Z H F E u v Q j f i ⟨U,h,x,y,l,z,r,q⟩;unfold vM at q
 split at q
 .cases z with
  |tup M L =>
   cases r with
   |tup C G =>
    cases L;exact FH B s Z H _ _ u v Q j f i ⟨_,_,_,rfl,rfl,M,C,q U H _ (Le.refl _ _) l (.tup C G)⟩
 .exact du B s Z H F E u v Q j f i ⟨U,h,x,y,l,z,r,q⟩
end
end MM
namespace L2
open PySem.Spec PyProof.Rows
section
variable{X:Cx}{a b c d:Expr}{ta tb tc td:TE}{r r' r2:R2}{op op' op2:CmpOp}{pos:Pos}
end
end L2
namespace MM
open PySem.Spec PyProof.Rows L2
section
variable{X:Cx}{a b c d:Expr}{ma mb mc md:Mx PV}{f g' g2:PV->PV->MH->VZ}{op op' op2:CmpOp}{pos:Pos}{k:Nat}
def bv:Expr->Bool
 |.Starred _ _=>T
 |_=>I
def aW(h:bv e=I):starEach (e::es) env=(T,eval e env)::starEach es env:=by cases e<;>first | rfl | cases h
def JQ(i:ME X e m)(j:MA X es ms)(l:bv e=I:=by rfl):MA X (e::es) (ai m ms):=am i j (aW l)
structure kw(X:Cx)(e:Expr)(m:Mx PV):Prop where
 h:ME X e m
structure BC(X:Cx)(es:VX)(ms:Mx (VL)):Prop where
 h:MA X es ms
structure Be(X:Cx)(st:Stmt)(m:l_):Prop where
 h:MS X st m
structure mz(X:Cx)(st:VF)(m:l_):Prop where
 h:yf X st m
section
variable{e:Expr}{es:VX}{m ma mb:Mx PV}{ms:Mx (VL)}{st:Stmt}{rest:VF}{u v:l_}{f:PV->PV->MH->VZ}{N W G:VM}{x:Str}
def dZ:BC X [] h_:=⟨aF⟩
def bh(i:kw X e m)(j:BC X es ms)(l:bv e=I:=by rfl):BC X (e::es) (ai m ms):=⟨JQ i.h j.h l⟩
def nw(h:ME X e m):kw X e m:=⟨h⟩
def NM(h:BC X es ms):kw X (.List es pos) (fF ms):=⟨Aq h.h⟩
def JR(h:BC X es ms):kw X (.Tuple es j pos) (j4 ms):=⟨Ao h.h⟩
def Vu{op:Operator}{a b:Expr}(l:wl X (binaryOp op) f)(j:kw X a ma)(i:kw X b mb):kw X (.BinOp a op b pos) (ar f ma mb):=⟨aJ l j.h i.h⟩
def BM(h:MS X st u):Be X st u:=⟨h⟩
def BQ(g:Good X N W G k)(i:Nat){j:Pos}(r:kw X e m)(B:N[i]?=J x:=by rfl)(l:W[i]?=J x:=by rfl)(z:swapsWith e (J (.Name x j)) pos.line X.env=pure T:=by rfl):
  Be X (.Assign [.Name x j] e pos) (bG i m):=⟨om g i B l r.h z⟩
def CN(i:kw X e m):Be X (.Return (J e) pos) (b9 m):=⟨IA i.h⟩
def yk(h:Be X st u):mz X [st] u:=⟨EG h.h⟩
def s0(j:Be X st u)(i:mz X rest v):mz X (st::rest) (aL u v):=⟨B1 j.h i.h⟩
end
end
section
variable{α β:Type}
end
inductive T3(K:h8)(U:VS)(H:Hp):VL->List V->VT->List (PV×V×Value)->Prop
 |nil:T3 K U H [] [] [] []
 |cons{x:PV}{y:V}{u:Value}{xs:VL}{ys:List V}{us:VT}{ts:List (PV×V×Value)}(r:RP K U H x y)(v:aM y u)(t:T3 K U H xs ys us ts):T3 K U H (x::xs) (y::ys) (u::us) ((x,y,u)::ts)
section
variable{K:h8}{U:VS}{H:Hp}
end
section
variable{X:Cx}
end
end MM
namespace SortT
open PySem.SeqAt PySem.MeetsSeq PySem.MeetsSeq2 PySem.MeetsSeq3 PySem.SeqRoads2 PyProof.Rows PySem.W
abbrev LO(z:VG×Array (VV))(xs:Array Value)(n:Nat):Obj:=⟨.type "list",z.1,.seq xs n,z.2⟩
section
variable{prog:Program}{w:World}{A:Around}{E:VB}{s:Shared}{rk:Value->Int}{vs:VT}
end
end SortT
namespace MM
open PySem.Spec PyProof.Rows L2
section
variable{X:Cx}{N W G:VM}{k:Nat}{a b:Expr}{p p' pos pos':Pos}
def NN(r:TA):TE:=λZ H Q=>r Z H λl f=>∃i j:Int,l=[.int i,.int j]/\∀p,f p=Y->Q (.ref p) (kx f p (.rng i j))
def Aj(M:Gl X "range")(O:X.mg "range"=Y)(F:PA X [a,b] ta)(E:starEach [a,b] X.env=[(T,eval a X.env),(T,eval b X.env)]:=by rfl)(f:starEach [b] X.env=[(T,eval b X.env)]:=by rfl):PE X (.Call (.Name "range" p) [a,b] [] pos) (NN ta):=by
 intro L s Z H R l h;refine Call_ (gT l M O boot_range (PyProof.Rows.callWith_type1 (ka (F pos L s Z H _ l h) λus S ⟨vs,U,B,Q,C⟩=>?_) (E.trans (by rw[f])) (by rw[f];rfl)));obtain⟨i,j,e,q⟩:=C;subst e
 cases Q with
 |cons r z =>
  cases z with
  |cons P z =>
   cases z;obtain⟨t,rfl⟩:=r;obtain⟨u,rfl⟩:=P;refine call_range_2 ⟨.ref S.heap.objs.size,_,B.laid (λb o e=>n_ _ e) (ii _) ?_,rfl,q _ (B.hok.fresh (ii _))⟩;exact⟨_,_,_,tz _ rfl⟩
def sB(L:X.calm=I):cS X (.type "list") (λxs H Q=>∃r i j,xs=[.ref r]/\H r=J (.rng i j) /\ -(2^62)<=i/\i<2^62 /\ -(2^62)<=j/\j<2^62/\(j-i).toNat<=sizeLine/\∀l,H l=Y->Q (.ref l) (kx H l (.lst ((List.range (j-i).toNat).map λn=>V.int (i+(n:Nat)))))):=by
 intro Nc s Z H xs us Q f r ⟨F,i,j,e,P,U,R,O,h2,B,q⟩;subst e
 cases r with
 |cons r1 t1 =>
  cases t1;cases r1;obtain⟨t,u,v,S⟩:=(f.hok F _ P);refine call_list_range (f.ok.hd L) S (small_one U R O h2) (by rw[rangeSize_one];split<;>ext) B λh' tk z M kp e C=>?_;have E:=ik _ i _ (by exact C.1) λi v hv=>by
   obtain⟨t,e⟩:=C.2 i v (by rw[<-v_];exact hv)
   grind
  refine⟨.ref s.heap.objs.size,_,f.laid (o:=.lst _) kp (ii _) (⟨by simpa using B,z.toList,M,E,by simpa using e⟩),rfl,q _ (f.hok.fresh (ii _))⟩
def R6(m:Mx (VL)):Mx PV:=λZ h=>(m Z h).bind λl f=>match l with
 |[.int i,.int j]=>if(-(2^62)<=i/\i<2^62) /\ -(2^62)<=j/\j<2^62/\(j-i).toNat<=sizeLine then .ok (.loc f.length) (f++[.lst (ck i (j-i).toNat)])else .bad
 |_=>.bad
def zI(g:Good X N W G k){m:Mx (VL)}{i j:Nat}(R:G[i]?=J "list")(hm:X.mg "list"=Y)(hj:G[j]?=J "range")(E:X.mg "range"=Y)(ha:MA X [a,b] m)(hs:starEach [a,b] X.env=[(T,eval a X.env),(T,eval b X.env)]:=by rfl)(L:starEach [b] X.env=[(T,eval b X.env)]:=by rfl)(S:starEach [.Call (.Name "range" p') [a,b] [] pos'] X.env=[(T,eval (.Call (.Name "range" p') [a,b] [] pos') X.env)]:=by rfl):ME X (.Call (.Name "list" p) [.Call (.Name "range" p') [a,b] [] pos'] [] pos) (R6 m):=by
 have d:=g.dbg _ (oI _ (au R));refine PE.imp (gX (sB g.calm) (g.gl _ (au R)) hm PyProof.Rows.Boot.«list» (cA (Aj (g.gl _ (au hj)) E ha hs L) eQ S) d.2.2 d.1 S rfl) λZ H Q ⟨U,F,h,rs,rh,q⟩=>?_;refine⟨U,F,h,rs,rh,Ful.bind q λU1 H1 x x' h1 _ l1 C rx f=>?_⟩;rcases rx with _|⟨P,_|⟨r2,_|_⟩⟩
 .exact f.elim
 .cases P<;>exact f.elim
 .cases P with
  |int u =>
   cases r2 with
   |int B =>
    dsimp only at f;by_cases z:(-(2^62)<=u/\u<2^62) /\ -(2^62)<=B/\B<2^62/\(B-u).toNat<=sizeLine
    .rw[c_ z]at f;refine⟨u,B,rfl,λr hr=>?_⟩;obtain⟨O,l2⟩:=C.loose hr (.rng u B);refine⟨r,u,B,rfl,bD,z.1.1,z.1.2,z.2.1,z.2.2.1,z.2.2.2,λl hl=>?_⟩;obtain⟨M,l3⟩:=O.new hl (o:=.lst (ck u (B-u).toNat)) ⟨_,rfl,jh _⟩;exact f _ _ _ (l2.trans l3) M (.loc (by rw[<-C.len];simp))
    .rw[f_ z]at f;exact f.elim
   |_=>exact f.elim
  |_=>exact f.elim
 .cases P<;>(first | exact f.elim | (cases r2<;>exact f.elim))
end
section
variable{X:Cx}
end
end MM
namespace SetT
open PySem.SetTable PyProof.Rows
section
variable{prog:Program}{w:World}{A:Around}{E:VB}{s:Shared}
end
end SetT
namespace MM
open PySem.Spec PyProof.Rows L2 SetT SortT
section
variable{X:Cx}{N W G:VM}{k:Nat}
end
end MM
namespace MM
open PySem.Spec PyProof.Rows L2 SetT
def qa{κ α:Type}[DecidableEq κ](f:List κ)(xs:List α)(i:κ):Option α:=match f,xs with
 |k::f,x::xs=>if k=i then J x else qa f xs i
 |_,_=>Y
def i4{κ α:Type}[DecidableEq κ](f:List κ)(xs:List α)(i:κ)(v:α):List κ×List α:=match f,xs with
 |k::f,x::xs=>if k=i then(k::f,v::xs)else(k::(i4 f xs i v).1,x::(i4 f xs i v).2)
 |_,_=>([i],[v])
abbrev G4:=VN×Addr×Value
def AE{bs:List G4}{k:VN}:qa (bs.map (·.1)) (bs.map (·.2.2)) k=(atKey bs k).map (·.2):=by
 induction bs with
 |nil=>rfl
 |cons b bs f =>
  simp only[qw,qa,atKey,List.find?_cons];by_cases e:b.1=k
  .simp[e]
  .simp only[e];exact f
def A8{ks:VP}{ys:List V}{f:VT}(r:aw ys f)(k:VN):qG (qa ks ys k) (qa ks f k):=by
 induction r generalizing ks with
 |nil=>cases ks<;>exact True.intro
 |cons a t i =>
  cases ks with
  |nil=>exact True.intro
  |cons q ks =>
   unfold qa;by_cases e:q=k
   .simp only[c_ e];exact a
   .simp only[f_ e];exact i
def zt{ks:VP}{ys:List V}{f:VT}{v:V}{u:Value}(j:f.length=ks.length)(r:aw ys f)(i:aM v u)(k:VN):(i4 ks ys k v).1=(i4 ks f k u).1/\aw (i4 ks ys k v).2 (i4 ks f k u).2:=by
 induction r generalizing ks with
 |nil=>cases ks<;>exact⟨rfl,.cons i .nil⟩
 |cons a t z =>
  cases ks with
  |nil=>cases j
  |cons q ks =>
   unfold i4;by_cases e:q=k
   .simp only[c_ e];exact⟨trivial,.cons i t⟩
   .simp only[f_ e];obtain⟨l,B⟩:=z (by simpa using j);exact⟨by rw[l],.cons a B⟩
section
variable{K:h8}{U:VS}{H:Hp}
def FI{ks:VP}(r:RPs K U H xs ys)(i:VN):match qa ks xs i with
  |some x=>∃y,qa ks ys i=J y/\RP K U H x y
  |none=>qa ks ys i=Y:=by
 induction ks generalizing xs ys with
 |nil=>cases xs<;>cases ys<;>rfl
 |cons k ks f =>
  cases r with
  |nil=>rfl
  |cons a t =>
   unfold qa;by_cases e:k=i
   .simp only[c_ e];exact⟨_,rfl,a⟩
   .simp only[f_ e];exact f t
def AX{f:VP}(r:RPs K U H xs ys)(q:RP K U H v y)(i:VN):(i4 f xs i v).1=(i4 f ys i y).1/\RPs K U H (i4 f xs i v).2 (i4 f ys i y).2:=by
 induction f generalizing xs ys with
 |nil=>cases xs<;>cases ys<;>exact⟨rfl,.cons q .nil⟩
 |cons k f l =>
  cases r with
  |nil=>exact⟨rfl,.cons q .nil⟩
  |cons a t =>
   unfold i4;by_cases e:k=i
   .simp only[c_ e];exact⟨trivial,.cons q t⟩
   .simp only[f_ e];obtain⟨j,u⟩:=l t;exact⟨by rw[j],.cons a u⟩
end
def u4{x:G4}{bs:List G4}{k:VN}{b:Addr}{u:Value}(e:¬x.1=k):storedH (x::bs) k b u=x::storedH bs k b u:=by
 unfold storedH;have e1:atKey (x::bs) k=atKey bs k:=by simp[atKey,e]
 rw[e1];by_cases h:(atKey bs k).isSome=I
 .rw[c_ h,c_ h,qw,putAt,f_ e]
 .rw[f_ h,f_ h];rfl
def vy{x:G4}{bs:List G4}{b:Addr}{u:Value}(nd:x.1∉bs.map (·.1)):storedH (x::bs) x.1 b u=(x.1,x.2.1,u)::bs:=by unfold storedH;rw[c_ (by simp[atKey]),qw,putAt,c_ rfl,map_putAt_of_not_mem bs _ _ nd]
def kQ{bs:List G4}{k:VN}{b:Addr}{u:Value}(nd:(bs.map (·.1)).Nodup):(storedH bs k b u).map (·.1)=(i4 (bs.map (·.1)) (bs.map (·.2.2)) k u).1/\(storedH bs k b u).map (·.2.2)=(i4 (bs.map (·.1)) (bs.map (·.2.2)) k u).2/\(storedH bs k b u).length<=bs.length+1 /\
  ∀x∈storedH bs k b u,(∃y∈bs,x.1=y.1/\x.2.1=y.2.1)\/x=(k,b,u):=by
 induction bs with
 |nil=>refine⟨rfl,rfl,ii _,λx i=>.inr ?_⟩;simpa [storedH,atKey]using i
 |cons x bs l =>
  rw[qw,B_]at nd;by_cases e:x.1=k
  .subst e;rw[vy nd.1];refine⟨by simp[i4],by simp[i4],by simp,λy f=>.inl ?_⟩;rcases lb.mp f with z|z
   .subst z;exact⟨x,by simp,rfl,rfl⟩
   .exact⟨y,m_ _ z,rfl,rfl⟩
  .obtain⟨j,C,F,B⟩:=l nd.2;rw[u4 e];refine⟨by simp[i4,e,j],by simp[i4,e,C],by simpa using F,λy f=>?_⟩;rcases lb.mp f with z|z
   .subst z;exact .inl ⟨y,by simp,rfl,rfl⟩
   .rcases B y z with⟨w,E,r⟩|r
    .exact .inl ⟨w,m_ _ E,r⟩
    .exact .inr r
def mT{K:h8}{U:VS}{H:Hp}:∀{k:VN}{ys:List V},RPs K U H (k.map PV.int) ys->ys=k.map V.int
 |[],_,r=>by cases r;rfl
 |i::k,_,r=>by
  cases r with
  |cons a t=>cases a;rw[mT t];rfl
def fR(h:MH)(y:PV):Option (VP×VL):=match y with
 |.loc n=>(match h[n]? with
  |some (.dic f xs)=>J (f,xs)
  |_=>Y)
 |_=>Y
def tF:PV->Option (VN)
 |.tup xs=>jv xs
 |_=>Y
section
variable{X:Cx}{Nc:List (Addr × Obj)}{Z:L2.St}{H:Hp}{s:Shared}{U:VS}{h:MH}
def pF{x:PV}{y:V}{f:VP}{xs:VL}(l:RH X.K X.mg U H h)(r:RP X.K U H x y)(e:fR h x=J (f,xs)):
  ∃n a,x=.loc n/\U[n]?=J a/\y=.ref a/\h[n]?=J (.dic f xs)/\DR X.K U H a f xs (H a):=by
 cases r with
 |@loc n a en =>
  obtain⟨o,i,j⟩:=l.obj en;unfold fR at e;dsimp only at e;rw[i]at e
  cases o with
  |dic k z=>cases e;exact⟨n,a,rfl,en,rfl,i,j⟩
  |_=>cases e
 |_=>cases e
def uk{x:PV}{y:V}{k:VN}(r:RP X.K U H x y)(e:tF x=J k):∃b,y=.ref b/\SqT X.K H b (k.map V.int):=by
 cases r with
 |@tup xs a ys f i =>
  have e1:=qj e;subst e1
  have:ys=k.map V.int:=by exact mT i
  subst this;exact⟨a,rfl,f⟩
 |_=>cases e
def pH{a:Addr}{bs:List G4}(f:Inv X Nc Z H s)(u:∀x∈bs,SqT X.K H x.2.1 (x.1.map V.int))(E:H a=J (.ext (DT a bs))):
  (a==sysModules)=T/\bs.length<=sizeLine/\(bs.map (·.1)).Nodup/\s.heap.DictOfH (tupleKind (intKind X.prog X.w)) a bs:=by
 obtain⟨⟨o,L,r,z,F,j,B,i,l,C⟩,_⟩:=(f.hok a _ E);exact⟨l,C,i,o,L,r,z,F,j,B,λx G=>fO f (u x G),i⟩
end
def kN{prog:Program}{w:World}{A:Around}{E:VB}{s:Shared}{d a:Addr}{k:VN}{xs:List G4}{Q:Bool->Shared->Prop}(j:A.units+1<cLine)(f:TK prog w s.heap k a)(hd:(d==sysModules)=T)(i:s.heap.DictOfH (tupleKind (intKind prog w)) d xs)(h:Q (atKey xs k).isSome { s with toks:=s.toks+(k.length+1)}):wpAny (model prog w) A (contains (.ref d) (.ref a)) Q E s:=by
 unfold contains;refine wpAny_holding ?_;refine d_ (wpAny_specialOf i.typeIs slot_dict_contains.lookup ?_);show wpAny _ _ (if(J (Value.builtin "dict.__contains__")==J Value.none)=I then _ else _) _ E s;rw[f_ (by rw[beq_builtin_none];exact GG)];refine d_ (wpAny_callSpecialUnlessNone?_slot (name:=Str.ofString "__contains__") i.typeIs slot_dict_contains (wpAny_call_entry slot_dict_contains i.typeIs entry_dict_contains ?_ (args_dict_contains _ _)));show wpAny _ _ (dictGet d (.ref a) >>= _) _ _ s;refine d_ (wpAny_dictGet_heap (knd:=tupleKind (intKind prog w)) j f i ?_)
 cases hf:atKey xs k with
 |some p =>
  rw[hf]at h;show wpAny _ _ (ret (.bool I)) _ _ _;exact ia ⟨_,rfl,wpAny_truthy_bool h⟩
 |none =>
  rw[hf]at h;show wpAny _ _ (Builtin.Dict.pendingKey? d (.ref a) >>= _) _ _ _;exact d_ (wpAny_pendingKey_other hd (ia ⟨_,rfl,wpAny_truthy_bool h⟩))
def n8(f:Bool)(x y:PV)(h:MH):VZ:=match tF x,fR h y with
 |some i,J (j,xs)=>.ok (.bl (if f then !(qa j xs i).isSome else(qa j xs i).isSome)) h
 |_,_=>.bad
def By{f:List κ}[DecidableEq κ]{xs:List α}{ys:List β}{i:κ}(h:xs.length=ys.length):(qa f xs i).isSome=(qa f ys i).isSome:=by
 induction f generalizing xs ys with
 |nil=>rfl
 |cons k f j =>
  cases xs with
  |nil=>cases ys with
   |nil=>rfl
   |cons _ _=>cases h
  |cons x xs=>cases ys with
   |nil=>cases h
   |cons y ys =>
    unfold qa;by_cases e:k=i
    .simp[e]
    .simp only[f_ e];exact j (by simpa using h)
section
variable{X:Cx}{N W G:VM}{k:Nat}
def JS(R:Room k X.A)(j:Bool):wl X (compareOp (if j then .NotIn else .In)) (n8 j):=by
 intro Nc s Z H x' y' u v Q f l z ⟨U,h,x,y,r,O,M,q⟩;unfold n8 at q
 split at q
 .rename_i i P xs ei L
  obtain⟨n,a,rfl,en,rfl,eo,bs,ys,e1,F,vs,B,eh⟩:=pF r M L;obtain⟨b,rfl,sq⟩:=uk O ei;cases l;cases z;obtain⟨hd,hz,nd,E⟩:=pH f F eh;have S:xs.length=(bs.map (·.2.2)).length:=by rw[B.length];exact vs.length
  have e:(qa P xs i).isSome=(atKey bs i).isSome:=by rw[By S,e1,AE,Option.isSome_map]
  rw[e]at q;have C:X.A.units+1<cLine:=by have:=R.un;lia
  cases j with
  |false=>exact d_ (kN C (fO f sq) hd E (ia ⟨.bl _,H,f.tok _,rfl,q U H _ (Le.refl _ _) r (.bl _)⟩))
  |true=>exact d_ (kN C (fO f sq) hd E (ia ⟨.bl _,H,f.tok _,rfl,q U H _ (Le.refl _ _) r (.bl _)⟩))
 .exact q.elim
def NO(K:h8):dC:=λo i v H Q=>∃p bs k b,o=.ref p/\i=.ref b/\H p=J (.ext (DT p bs))/\(∀x∈bs,SqT K H x.2.1 (x.1.map V.int))/\SqT K H b (k.map V.int)/\bs.length<sizeLine/\∀u,aM v u->(bs.map (·.1)).Nodup->Q (kx H p (.ext (DT p (storedH bs k b u))))
def AR(S:Room k X.A):HU X (NO X.K):=by
 intro O s Z H o i v ov iv u Q f R ri M h;obtain⟨p,bs,k,b,rfl,rfl,r,F,sq,hz,q⟩:=h;cases R;cases ri;obtain⟨hd,ab,nd,dd⟩:=pH f F r;have hu:X.A.units+1<cLine:=by have:=S.un;lia
 refine wpAny_setItem_heap hu (fO f sq) dd λB j CM=>?_;have l:∃q,B.get? p=J q:=let⟨q,_,_,hq,_⟩:=j;⟨q,hq⟩;have E:Inv X O Z (kx H p (.ext (DT p (storedH bs k b u)))) { s with heap:=B,toks:=s.toks+(k.length+1)} :=
  f.write (by rw[r];exact True.intro) (.inl rfl) (λc q hc z=>(CM.2 c hc).trans z) l ⟨by
   obtain⟨o,U,P,a1,a2,a3,L,_,C⟩:=j
   exact⟨o,U,P,a1,a2,a3,L,C,hd,o0 (kQ nd).2.2.1 hz⟩,l,qX⟩
 exact⟨_,E,q u M nd⟩
def FJ(o i v:PV)(h:MH):Option MH:=match o,fR h o,tF i with
 |.loc n,J (f,xs),J j=>if f.length<100000 then J (h.set n (.dic (i4 f xs j v).1 (i4 f xs j v).2))else Y
 |_,_,_=>Y
def vc(mo f:Mx PV):Mg:=λv=>yi mo λo=>yi f λi Z h=>match FJ o i v h with
 |some j=>.nx Z j
 |none=>.bad
def FK(hr:Room k X.A){o i:Expr}{mo P:Mx PV}{l:Pos}(ho:ME X o mo)(hi:ME X i P)(ha:∀v,assign (.Subscript o i l) X.env v=(do
   let r <-holding [v] (eval o X.env)
   let E <-holding [v,r] (eval i X.env)
   standAt l
   holding [v,r,E] (setItem r E v)
   release [v,r,E] []):=by intro _;rfl):MG X (.Subscript o i l) (vc mo P) :=
 PG.imp (zK ho hi (AR hr) ha) λv' Z H Q ⟨U,f,h,v,R,rh,rv,q⟩=>by
  refine⟨U,f,h,R,rh,?_⟩;unfold vc yi at q
  cases e:mo f h with
  |exc x S=>rw[e]at q;exact q
  |bad=>rw[e]at q;exact q
  |ok r S =>
   rw[e]at q;intro U1 H1 o' B O ro;refine⟨U1,f,S,R.le B,O,?_⟩;dsimp only at q
   cases e2:P f S with
   |exc x h2=>rw[e2]at q;exact XP.le B q
   |bad=>rw[e2]at q;exact q
   |ok E h2 =>
    rw[e2]at q;intro U2 H2 i' M C ri;have ab:=ro.le M;have ap:=(rv.le B).le M;dsimp only at q;unfold FJ at q
    split at q
    .rename_i h3 e3
     split at e3
     .rename_i n L xs j ek ed
      obtain⟨_,a,e0,en,rfl,eo,bs,ys,e1,kr,vs,an,eh⟩:=pF C ab ed;cases e0;obtain⟨b,rfl,sq⟩:=uk ri ek;by_cases F:L.length<100000
      .rw[c_ F]at e3;cases e3;have as:bs.length<100000:=by rw[e1,BL]at F;exact F
       refine⟨a,bs,j,b,rfl,rfl,eh,kr,sq,by rw[sizeLine_eq];lia,λu ru nd=>?_⟩;obtain⟨p1,p2⟩:=AX an ap j;obtain⟨q1,q2⟩:=zt (ks:=L) (k:=j) (by rw[e1];simp) vs ru;obtain⟨w1,w2,_,w3⟩:=kQ nd;rw[<-e1]at w1 w2
       obtain⟨r3,l3⟩:=C.put en (o:=.dic (i4 L xs j v).1 (i4 L xs j v).2) ⟨_,_,p1.trans (q1.trans w1.symm),λx hx=>by
        rcases w3 x hx with⟨y,hy,z1,z2⟩|z
        .rw[z1,z2];exact kr y hy
        .subst z;exact sq,by rw[w2];exact q2,p2,rfl⟩
       exact q U2 _ Z (B.trans (M.trans l3)) r3 (R.le (B.trans (M.trans l3)))
      .rw[f_ F]at e3;cases e3
     .cases e3
    .exact q.elim
end
section
variable{prog:Program}{w:World}{A:Around}{E:VB}{s:Shared}{d it:Addr}{es:Array DictEntry}{ep i:Nat}
end
section
variable{X:Cx}{N W G:VM}{k:Nat}
end
end MM
namespace MM
open PySem.Spec PyProof.Rows L2
section
variable{X:Cx}{N W G:VM}{k:Nat}
end
end MM
namespace MM
open PySem.Spec PyProof.Rows L2 SetT
section
variable{X:Cx}{N W G:VM}{k:Nat}
end
def kH(x y:PV)(h:MH):VZ:=match tF y,fR h x with
 |some i,J (f,xs)=>Out.ofO (qa f xs i) h
 |_,_=>.bad
section
variable{X:Cx}{N W G:VM}{k:Nat}
def JT(hr:Room k X.A)(ha:ME X ea ma)(hb:ME X b mb)(hs:∀ov P,subscripted b T ov P=operate [ov,P] (getItem ov P):=by exact λ_ _=>rfl):ME X (.Subscript ea b pos) (ar kH ma mb):=by
 intro Nc s Z H Q an ⟨U,f,h,rs,rh,q⟩;refine Subscript_ (ka (ha Nc s Z H (λx' B=>∃j M x,Le U H j B/\RH X.K X.mg j B M/\RP X.K j B x x'/\Ful X (RV' X) f j B ((mb f M).bind λy L=>(kH x y L).ne) Q) an ⟨U,f,h,rs,rh,Ful.bind q λj B x x' M _ l1 F S q1=>⟨j,M,x,l1,F,S,q1⟩⟩) λu s1 ⟨x',B,I1,r1,j,M,x,l1,F,S,q1⟩=>ka (hb Nc s1 Z B (λR C=>∃E L y,Le j B E C/\RH X.K X.mg E C L/\RP X.K E C y R/\Ful X (RV' X) f E C (kH x y L).ne Q) I1 ⟨j,f,M,rs.le l1,F,Ful.bind q1 λE C y R L _ l2 z ry l=>⟨E,L,y,l2,z,ry,l⟩⟩) λP s2 ap=>?_);obtain⟨R,C,I2,r2,E,L,y,l2,z,ry,l⟩:=ap;unfold kH at l
 split at l
 .rename_i i ks xs ei ed
  obtain⟨n,a,rfl,en,rfl,eo,bs,ys,e1,kr,vs,ax,eh⟩:=pF z (S.le l2) ed;obtain⟨b',rfl,sq⟩:=uk ry ei;cases r2;cases r1;obtain⟨hd,hz,nd,dd⟩:=pH I2 kr eh;have hu:X.A.units+1<cLine:=by have:=hr.un;lia
  cases ex:qa ks xs i with
  |none=>rw[ex]at l;exact l.elim
  |some x =>
   rw[ex]at l;have bx:=FI (ks:=ks) ax i;rw[ex]at bx;obtain⟨y,e2,as⟩:=bx;have ra:=A8 (ks:=ks) vs i;rw[e2]at ra;obtain⟨w',hw,ab⟩:=qG.some_of ra;rw[e1,AE]at hw;obtain⟨pp,hp,rfl⟩:=yJ.mp hw;refine d_ ?_;refine d_ (wpAny_specialOf dd.typeIs PySem.F.slot_dict_getitem.lookup ?_);have fin:wpAny (model X.prog X.w) X.A (subscripted b T (.ref a) (.ref b')) (λr O=>wpAny (model X.prog X.w) X.A (letTemporaryGo ea (.ref a) r >>= λ_=>pure r) (EP X Nc Z Q) X.xe O) X.xe s2:=by rw[hs (.ref a) (.ref b')];exact wpAny_operating (wpAny_getItem_heap hu (fO I2 sq) dd hp (d_ (wpAny_letTemporaryGo (ia ⟨y,C,I2.tok _,ab,l E C _ (Le.refl _ _) z as⟩))))
   exact ia (d_ fin)
 .exact l.elim
end
end MM
namespace SortT
open PySem.SeqAt PySem.MeetsSeq PySem.MeetsSeq2 PySem.MeetsSeq3 PySem.SeqRoads2 PyProof.Rows PySem.W
def fu:VN->VN->Bool
 |[],[]=>T
 |[],_::_=>I
 |_::_,[]=>T
 |x::xs,y::ys=>if x=y then fu xs ys else decide (x<y)
def jc(xs:Array Value)(f:VN):Prop:=xs.size=f.length/\∀i:Nat,i<f.length->∃t,xs[i]?=J (.int (f.getD i 0) t)
def Bv:fu [] js=decide (0<js.length):=by cases js<;>simp[fu]
def AB:fu is []=T:=by cases is<;>rfl
def zo{j f:VN}{i:Nat}(l:i<j.length)(r:i<f.length):fu (j.drop i) (f.drop i)=if j.getD i 0=f.getD i 0 then fu (j.drop (i+1)) (f.drop (i+1))else decide (j.getD i 0<f.getD i 0):=by rw[Hm l,Hm r,fu];simp[l,r]
def FL(a b:Addr)(z P:VG×Array (VV))(xs ys:Array Value)(n m:Nat)(f j:VN)(F:jc xs f)(M:jc ys j)(k:Nat):∀i:Nat,f.length-i=k->i<=f.length->i<=j.length->Meets (Builtin.«list.__eq__.loop» ⟨[.ref a,.ref b,rawInt i,rawInt 0],[]⟩)
  (λA R s=>s.heap.get? a=J (LO z xs n)/\s.heap.get? b=J (LO P ys m)/\R (.ok (.ret (.bool (fu (f.drop i) (j.drop i))))) s):=by
 have stop:∀i:Nat,i<=f.length->i<=j.length->(i=f.length\/i=j.length)->Meets (Builtin.«list.__eq__.loop» ⟨[.ref a,.ref b,rawInt i,rawInt 0],[]⟩)
  (λA R s=>s.heap.get? a=J (LO z xs n)/\s.heap.get? b=J (LO P ys m)/\R (.ok (.ret (.bool (fu (f.drop i) (j.drop i))))) s):=by
  intro i G H E prog w A R s h;obtain⟨W,g,d,Q,os⟩:=s;obtain⟨l,r,h⟩:=h;have e:fu (f.drop i) (j.drop i)=decide (xs.size<ys.size):=by
   rw[F.1,M.1];rcases E with E|E
   .rw[E,Pq,Bv,Dt];exact decide_eq_decide.mpr ⋯
   .rw[E,Pq,AB];exact(decide_eq_false ⋯).symm
  rw[e]at h;by_cases q:i=f.length
  .have O:xs[((i:Nat):Int).toNat]?=Y:=by have:=F.1;simp;lia
   wp_walk using AutoSeq1.wpAny_loadPart' l,AutoSeq1.wpAny_loadPart' r
   rw[O]
   wp_walk using AutoSeq1.wpAny_loadPart' l,AutoSeq1.wpAny_loadPart' r
   exact h
  .have O:ys[((i:Nat):Int).toNat]?=Y:=by have:=M.1;simp;lia
   obtain⟨t,U⟩:=F.2 i ⋯;have L:xs[((i:Nat):Int).toNat]?=J (.int (f.getD i 0) t):=by simpa using U
   wp_walk using AutoSeq1.wpAny_loadPart' l,AutoSeq1.wpAny_loadPart' r
   rw[O,L]
   wp_walk using AutoSeq1.wpAny_loadPart' l,AutoSeq1.wpAny_loadPart' r
   exact h
 induction k with
 |zero=>intro i X G H;exact stop i G H (.inl ⋯)
 |succ k S =>
  intro i X G H;by_cases q:i=j.length
  .exact stop i G H (.inr q)
  .intro prog w A R s h;obtain⟨W,g,d,Q,os⟩:=s;obtain⟨l,r,h⟩:=h;rw[zo ⋯ ⋯]at h;obtain⟨t,e1⟩:=F.2 i ⋯;obtain⟨u,e2⟩:=M.2 i ⋯;have B:xs[((i:Nat):Int).toNat]?=J (.int (f.getD i 0) t):=by simpa using e1
   have C:ys[((i:Nat):Int).toNat]?=J (.int (j.getD i 0) u):=by simpa using e2
   wp_walk using AutoSeq1.wpAny_loadPart' l,AutoSeq1.wpAny_loadPart' r
   rw[B,C];refine d_ (wpAny_eqBool_int ?_);by_cases eq:f.getD i 0=j.getD i 0
   .rw[c_ eq]at h;rw[show(f.getD i 0==j.getD i 0)=I by simpa using eq]
    wp_walk using AutoSeq1.wpAny_loadPart' l,AutoSeq1.wpAny_loadPart' r
    exact⟨plainId_quiet plain_eq_loop _,codeAny_builtin entry_eq_loop (by
     rw[Around.under_plainId plain_eq_loop _]
     exact S (i+1) ⋯ ⋯ ⋯ prog w A R _ ⟨l,r,h⟩)⟩
   .rw[f_ eq]at h;rw[show(f.getD i 0==j.getD i 0)=T by simpa using eq]
    wp_walk using AutoSeq1.wpAny_loadPart' l,AutoSeq1.wpAny_loadPart' r
    rw[B,C];refine d_ (wpAny_lt_int ?_);exact ia h
section
variable{prog:Program}{w:World}{A:Around}{E:VB}{s:Shared}
def sK(a b:Addr)(z j:VG×Array (VV))(xs ys:Array Value)(n m:Nat)(f i:VN)(u:jc xs f)(B:jc ys i):Meets (Builtin.«list.__lt__» ⟨[.ref a,.ref b],[]⟩)
  (λA R s=>s.heap.get? a=J (LO z xs n)/\s.heap.get? b=J (LO j ys m)/\R (.ok (.ret (.bool (fu f i)))) s):=by
 intro prog w A R s h;obtain⟨r,l,h⟩:=h;refine d_ (ia ?_);refine d_ (wpAny_isInstance ⟨_,l,rfl⟩ sub_list_self ?_)
 wp_walk
 exact⟨plainId_quiet plain_eq_loop _,codeAny_builtin entry_eq_loop (by
  exact FL a b z j xs ys n m f i u B f.length 0 ⋯ ⋯ ⋯ prog w A R _ ⟨r,l,h⟩)⟩
def tH(j:A.units<cLine)(i:s.heap.get? a=J (LO z xs n))(f:s.heap.get? b=J (LO z' ys m))(r:jc xs is)(l:jc ys js)(h:Q (.bool (fu is js)) s):wpAny (model prog w) A (richCompare .Lt (.ref a) (.ref b)) Q E s :=
 richCompare_meets_room ⟨_,i,rfl⟩ ⟨_,f,rfl⟩ PySem.F.slot_list_lt PySem.F.entry_list_lt (PySem.F.args_list_lt_2 _ _) (sK a b z z' xs ys n m is js r l) ⟨i,f,(λe=>nomatch e),h⟩ j
structure LF(h:Heap)(a:Addr)(i:Int)(is:VN):Prop where
 ex:∃(o:Obj) (nt:Nat) (t:Tok) (l:Addr) (z:VG×Array (VV)) (xs:Array Value) (n:Nat),h.get? a=J o/\o.cls=.type "tuple"/\o.data=.seq #[.int i t,.ref l] nt/\h.get? l=J (LO z xs n)/\jc xs is
def j9:∀{j:VN}{f:VT},f.length=j.length->(∀i:Nat,i<j.length->∃t,f[i]?=J (.int (j.getD i 0) t))->ReadsAll h f (j.map PyData.int) []
 |[],f,l,_=>by rw[DX.mp l];exact .nil
 |i::j,f,l,hv=>by
  cases f with
  |nil=>cases l
  |cons v f =>
   obtain⟨t,e⟩:=hv 0 (by simp);simp at e;subst e
   exact ReadsAll.cons (.int i t) (j9 (by simpa using l) λk r=>by
    have:=hv (k+1) (by simpa using r)
    simpa using this)
def oV(i j:Int)(l f:VN):Bool:=if i=j then fu l f else decide (i<j)
def rD:∀f:VN,fu f f=T
 |[]=>rfl
 |x::xs=>by simp[fu,rD xs]
def vm:∀(i f:VN),PyData.eqvAll (i.map PyData.int) (f.map PyData.int)=decide (i=f)
 |[],[]=>by simp[PyData.eqvAll]
 |[],_::_=>by simp[PyData.eqvAll]
 |_::_,[]=>by simp[PyData.eqvAll]
 |x::i,y::f=>by
  simp only[qw,PyData.eqvAll,PyData.eqv,vm i f];by_cases z:x=y<;>simp[z]
def JU{i f:VN}:PyData.eqv (.list (i.map .int)) (.list (f.map .int))=decide (i=f):=by simp only[PyData.eqv,vm]
def zL(f:VN):PyData.canLay0 (.list (f.map .int))=I:=by
 have:∀f:VN,PyData.canLayAll0 (f.map PyData.int)=I:=λf=>by
  induction f with
  |nil=>rfl
  |cons i f j=>simpa [PyData.canLayAll0,PyData.canLay0]using j
 simpa [PyData.canLay0]using this f
def JV(f:VN):PyData.depth (.list (f.map .int))<=1:=by
 have:∀f:VN,PyData.depthAll (f.map PyData.int)<=0:=λf=>by
  induction f with
  |nil=>simp[PyData.depthAll]
  |cons i f j=>simp only[qw,PyData.depthAll,PyData.depth];lia
 have:=this f
 simp only[PyData.depth];lia
def vB{a b:Addr}{i j:Int}{r f:VN}{Q:VB}(hu:A.units+2<cLine)(M:LF s.heap a i r)(P:LF s.heap b j f)(h:Q (.bool (oV i j r f)) s):wpAny (model prog w) A (richCompare .Lt (.ref a) (.ref b)) Q E s:=by
 obtain⟨Z,na,X,H,za,xa,ma,ga,G,R,l,z⟩:=M.ex;obtain⟨U,nb,tb,L,S,W,mb,gb,F,O,u,B⟩:=P.ex;refine wpAny_richCompare_same_room (op:=.Lt) ⟨_,ga,G⟩ ⟨_,gb,F⟩ PySem.F.slot_tuple_lt (wpAny_call_entry PySem.F.slot_tuple_lt ⟨_,ga,G⟩ PySem.F.entry_tuple_lt ?_ (PySem.F.args_tuple_lt_2 _ _)) ⋯;show wpAny _ _ (isInstance (.ref b) (.type "tuple") >>= _) _ _ s;refine d_ (wpAny_isInstance ⟨_,gb,F⟩ isSubtype_tuple_tuple ?_);refine d_ (wpAny_tupleItemsOf ga R ?_);refine d_ (wpAny_tupleItemsOf gb O ?_);refine d_ ?_;refine d_ ?_;refine d_ (wpAny_eqBool_int ?_);unfold oV at h;by_cases e:i=j
 .rw[c_ e]at h;rw[show(i==j)=I by simpa using e];refine ia ?_
  refine d_ (d_ (eqBoolOverData prog w A.in1 E s (.ref H) (.ref L) (.list (r.map .int)) (.list (f.map .int)) _ _ _ (.list l rfl rfl (j9 (by simpa using z.1) λk C=>by simpa using z.2 k C)) (.list u rfl rfl (j9 (by simpa using B.1) λk C=>by simpa using B.2 k C)) (zL r) (zL f) (by
   have:=JV f
   lia) ?_))
  rw[JU];by_cases q:r=f
  .subst q;simp only[GN,sf,if_false];rw[rD]at h;exact ia (ia (ia ⟨_,rfl,(λe=>nomatch e),h⟩))
  .rw[decide_eq_false q];refine d_ (wpAny_rule ?_);refine d_ (tH (by show A.units+1<_;lia) l u z B ?_);exact d_ (ia (ia (ia (ia ⟨_,rfl,(λe=>nomatch e),h⟩))))
 .rw[f_ e]at h;rw[show(i==j)=T by simpa using e];simp only[Mf,if_true];refine d_ (wpAny_rule ?_);refine d_ (wpAny_lt_int ?_);exact d_ (ia (ia (ia (ia ⟨_,rfl,(λe=>nomatch e),h⟩))))
end
def Kp(i:VS)(S:Addr)(f h:Heap):Prop:=∀b o,b∉i->b≠S->f.get? b=J o->h.get? b=J o
def JW(prog:Program)(w:World)(A:Around)(P:Nat->Value->Prop)(r:Nat->Nat->Bool)(K:Heap->Prop):Prop :=
 ∀i j l f (s:Shared) (Q E:VB),P i l->P j f->K s.heap->Q (.bool (r i j)) s->wpAny (model prog w) A (richCompare .Lt l f) Q E s
section
variable{prog:Program}{w:World}{A:Around}{R:Result->Shared->Prop}{I S:Addr}{fp wr:VS}{n:Nat}{P:Nat->Value->Prop}{St:Nat->Heap->Prop}{bt:Nat->Nat->Bool}{h0:Heap}
def rC:(toString "min"++toString ".loop":String)="min.loop":=by decide
def JX(W:Walks prog w A.in1 I fp wr n P St)(hc:JW prog w A.in1 P bt (Kp wr S h0))(hf:S∉fp)(Z:List (Str×Value)):
  ∀(k j:Nat)(s:Shared)(l:Value)(c:Nat),j+1+k=n->St (j+1) s.heap->P (argBest bt j) l ->
  s.heap.get? S=J { cls:=.type "list",dict:=Y,data:=.seq #[l,l] c,slots:=#[]}->Kp wr S h0 s.heap ->
  (∀v z E,P (argBest bt (n-1)) v->Kp wr S h0 z->R (.ok (.ret v)) { s with heap:=z,toks:=E}) ->
  codeAny (model prog w) A (.builtin "min.loop" ⟨[.ref I,.none,.ref S],Z⟩) R s:=by
 have U:S∉wr:=λh=>hf (W.sub _ h);intro k
 induction k with
 |zero =>
  intro j s l c X st L B K G;obtain rfl:j+1=n:=X;refine codeAny_builtin F.entry_min_loop ?_;refine d_ (wpAny_seqItems B rfl ?_);refine d_ (wpAny_tryCatch (W.done s _ _ st λz E i=>?_));refine d_ (wpAny_updateSeq (i S _ U B) rfl (d_ (wpAny_letGo (ia ?_))));exact G l _ E L λb o x y e=>(DY _ _ (Ne.symm y)).trans (i b o x (K b o x y e))
 |succ k Q =>
  intro j s l c X st L B K G;refine codeAny_builtin F.entry_min_loop ?_;rw[Around.under_plainId F.plain_min_loop _];show wpAny _ A.in1 (seqItems? (.ref S) >>= _) _ _ s;refine d_ (wpAny_seqItems B rfl ?_);show wpAny _ A.in1 (tryCatch (pyNext (.ref I)) _ >>= _) _ _ s;refine d_ (wpAny_tryCatch (W.item (j+1) s _ _ (by ext) st λv z E hv C i=>?_));have u:=i S _ U B;have M:Kp wr S h0 z:=λb o x y e=>i b o x (K b o x y e);show wpAny _ A.in1 (tryCatch (holding [v,v] (richCompare .Lt v l >>= _)) _ >>= _) _ _ _;refine d_ (wpAny_tryCatch (wpAny_holding (d_ (hc (j+1) (argBest bt j) v l _ _ _ hv L M ?_))));refine d_ (wpAny_holding (wpAny_truthy_bool ?_));refine d_ (wpAny_letGo (ia ?_))
  cases H:bt (j+1) (argBest bt j) with
  |true =>
   simp only[if_true];refine d_ (wpAny_updateSeq u rfl (d_ (wpAny_letGo ?_)));rw[rC]
   exact ia ⟨plainId_quiet F.plain_min_loop _,Q (j+1) _ v _ (by ext) (W.frame _ _ _ C λb H o e=>(DY _ _ (λh:S=b=>hf (h▸H))).trans e) (by simp only[argBest,H,if_true];exact hv)
    (Ho _ u rfl) (λb o x y e=>(DY _ _ (Ne.symm y)).trans (M b o x y e)) λO r f=>G O r f⟩
  |false =>
   simp only[sf,if_false];refine d_ (wpAny_letGo ?_);rw[rC];exact ia ⟨plainId_quiet F.plain_min_loop _,Q (j+1) _ l c (by ext) C (by simp only[argBest,H,sf,if_false];exact L) u M λO r f=>G O r f⟩
def yW(W:Walks prog w A.in1 I fp wr n P St)(L:JW prog w A.in1 P bt (Kp wr S h0))(hf:S∉fp)(d:Value)(st:St 0 s.heap)(E:s.heap.get? S=J { cls:=.type "list",dict:=Y,data:=.seq #[] c,slots:=#[]})(K:Kp wr S h0 s.heap)(C:∀v l u,(if n=0 then v=d else P (argBest bt (n-1)) v)->Kp wr S h0 l->R (.ok (.ret v)) { s with heap:=l,toks:=u}):
  codeAny (model prog w) A (.builtin "min.loop" ⟨[.ref I,.none,.ref S],[("default",d)]⟩) R s:=by
 have G:S∉wr:=λh=>hf (W.sub _ h);refine codeAny_builtin F.entry_min_loop ?_;refine d_ (wpAny_seqItems E rfl ?_);by_cases z:n=0
 .subst z;refine d_ (wpAny_tryCatch (W.done s _ _ st λl u f=>?_));refine d_ (wpAny_rule (ia ?_));exact C d _ _ rfl λb o x y e=>f b o x (K b o x y e)
 .refine d_ (wpAny_tryCatch (W.item 0 s _ _ (by ext) st λv l u hv B f=>?_));have j:=f S _ G E;show wpAny _ A.in1 (updateSeq S (λ_=>#[v,v]) >>= _) _ _ _;refine d_ (wpAny_updateSeq j rfl ?_)
  refine ia ⟨plainId_quiet F.plain_min_loop _,JX W L hf _ (n-1) 0 _ v _ (by ext) (W.frame _ _ _ B λb H o e=>(DY _ _ (λh:S=b=>hf (h▸H))).trans e) hv (Ho _ j rfl)
   (λb o x y e=>(DY _ _ (Ne.symm y)).trans (f b o x (K b o x y e))) λM r i p=>C M r i (by rw[f_ z];exact p)⟩
end
section
variable{prog:Program}{w:World}{A:Around}{E:VB}{s:Shared}
def yd(a d:Value):argsOk "min" ⟨[a],[("default",d)]⟩:=by unfold argsOk;kernel_rfl
def ux{id:String}{b:Builtin}{i:VT}{l:List (Str×Value)}{Q:VB}(L:builtinKind id=Y)(M:plainId id=I)(G:entryFor table id=J b)(F:argsOk id ⟨i,l⟩)(B:wpAny (model prog w) A.in1 (b ⟨i,l⟩) (λfin j=>match fin with
   |.done f=>(match(Except.ok f:Result)with | .ok (.ret v)=>Q v j | .ok _=>False | .error e=>E e j)
   |.again z=>z.quiet=I/\codeAny (model prog w) A z (λr j=>match r with|.ok (.ret v)=>Q v j|.ok _=>False|.error e=>E e j) j) E s):
  wpAny (model prog w) A (call (.builtin id) i l) Q E s:=by
 refine wpAny_call (codeAny_call_builtin M G ?_);simp only[checkBuiltinCall,L]
 cases C:Manifest.signature? id with
 |none=>exact ia B
 |some u =>
  have H:Bind.checkArgs id u ⟨i,l⟩=pure ():=by simpa only[argsOk,C]using F
  simp only[H];exact ia B
def xX(h:wpAny (model prog w) A.in1 (pyIter x) (λL f=>∃i B r n P St H,L=.ref i/\Walks prog w A.in1 i B r n P St/\St 0 f.heap/\(∀b∈B,b<f.heap.objs.size)/\JW prog w A.in1 P H (Kp r f.heap.objs.size f.heap) /\
   ∀v u C,(if n=0 then v=d else P (argBest H (n-1)) v)->(∀b o,b∉r->f.heap.get? b=J o->u.get? b=J o)->Q v { f with heap:=u,toks:=C}) E s):
  wpAny (model prog w) A (call (.builtin "min") [x] [("default",d)]) Q E s:=by
 refine ux F.kind_min F.plain_min F.entry_min (yd _ _) ?_;refine d_ (wpAny_of_eq (show Builtin.Builtins.bindParams "min" ["key","default"] 0 ⟨[],[("default",d)]⟩=pure [Y,J d]from rfl) ?_);refine d_ (ia ?_);refine d_ (wpAny_mono h (λL f j=>?_) λ_ _ e=>e);obtain⟨i,B,r,n,P,St,H,rfl,W,z,G,l,M⟩:=j;refine d_ (wpAny_newObj_type ?_);have hf:=λO=>Ca _ (G _ O);refine ia ⟨plainId_quiet F.plain_min_loop _,yW W l hf d (W.frame _ _ _ z λb _ o e=>n_ _ e) (tz _ rfl) (λb o _ _ e=>n_ _ e) λv u C p K=>?_⟩;exact M v u C p λb o x e=>K b o x (t4 (nr e)) e
end
end SortT
namespace MM
open PySem.SeqAt PySem.MeetsSeq PySem.MeetsSeq2 PySem.MeetsSeq3 PySem.SeqRoads2 PyProof.Rows PySem.W L2 SetT SortT
def Ax(r:LF h a i is)(k:∀b o,h.get? b=J o->h'.get? b=J o):LF h' a i is:=by obtain⟨o,f,t,l,z,xs,n,g,c,d,gl,j⟩:=r.ex;exact⟨o,f,t,l,z,xs,n,k _ _ g,c,d,k _ _ gl,j⟩
def c7(f:List (Int×VN))(i j:Nat):Bool:=oV (f.getD i (0,[])).1 (f.getD j (0,[])).1 (f.getD i (0,[])).2 (f.getD j (0,[])).2
def A6{X:Cx}{A:Around}{E:VB}{U:VU}{Z:L2.St}{H:Hp}{s:Shared}{l:Addr}{ys:List V}{Q:VB}{d:Value}(r:List (Int×VN))(hu:A.in1.units+2<cLine)(R:A.in1.handled=Y)(G:Inv X U Z H s)(hq:SqL X.K H l ys\/SqT X.K H l ys)(L:∀f,aw ys f->∀k v,f[k]?=J v->∃b,v=.ref b/\LF s.heap b (r.getD k (0,[])).1 (r.getD k (0,[])).2)(hQ:∀f,aw ys f->∀v u B,(if f.length=0 then v=d else f[argBest (c7 r) (f.length-1)]?=J v)->(∀b o,s.heap.get? b=J o->u.get? b=J o)->Q v { s with heap:=u,toks:=B}):
  wpAny (model X.prog X.w) A (call (.builtin "min") [.ref l] [("default",d)]) Q E s:=by
 refine xX (nu R G hq λf h2 It St C W st P kp F=>?_);refine⟨It,_,_,_,_,St,c7 r,rfl,W,st,P,λi j O vj s' Q' E' hi S K q=>?_,λv u B p kk=>?_⟩
 .obtain⟨b,rfl,rb⟩:=L f C i O (by simpa using hi);obtain⟨c,rfl,rc⟩:=L f C j vj (by simpa using S)
  have M:=λx o e=>K x o (λz=>by
   rw[CT]at z
   have:=nr e
   lia) (t4 (nr (kp x o e))) (kp x o e)
  exact vB hu (Ax rb M) (Ax rc M) q
 .exact hQ f C v u B (by simpa using p) (xR kp F kk)
def pz(h:MH)(x:PV):Option (Int×VN):=match x with
 |.tup [.int i,y]=>((dP h y).bind jv).map (i,·)
 |_=>Y
def lV(h:MH):VL->Option (List (Int×VN))
 |[]=>J []
 |x::r=>(pz h x).bind λp=>(lV h r).map (p::·)
def B7(h:IntsAre its is):jc its.toArray is:=by
 refine⟨by simpa using h.length,λi f=>?_⟩
 induction h generalizing i with
 |nil=>exact absurd f (QZ _)
 |cons n t _ l =>
  cases i with
  |zero=>exact⟨t,by simp⟩
  |succ i =>
   obtain⟨j,e⟩:=l i (by simpa using f);exact⟨j,by simpa using e⟩
section
variable{X:Cx}{Nc:List (Addr × Obj)}{Z:L2.St}{H:Hp}{s:Shared}{U:VS}{h:MH}
def FM(E:RH X.K X.mg U H h)(r:RP X.K U H x y)(e:pz h x=J p)(i:Inv X Nc Z H s):∃a,y=.ref a/\LF s.heap a p.1 p.2:=by
 unfold pz at e
 split at e
 .obtain⟨is,M,rfl⟩:=yJ.mp e;obtain⟨zs,O,P⟩:=DI.mp M
  cases r with
  |@tup _ a ys sq rr =>
   cases rr with
   |cons r1 t =>
    cases t with
    |cons r2 B =>
     cases B;cases r1;obtain⟨l,ws,rfl,sl,C⟩:=pM E r2 O;rw[qj P]at C;rw[DC C]at sl;obtain⟨ab,F,⟨o,g,hc,n,hd⟩,_⟩:=i.tuple sq;obtain⟨z,u,⟨o',m,g',an,R,W⟩,_⟩:=i.list sl
     cases F with
     |cons L S =>
      cases S with
      |cons Q B =>
       cases B;obtain⟨G,rfl⟩:=L;cases Q;obtain⟨cls,j,data,f⟩:=o';exact⟨a,rfl,⟨o,n,G,l,(j,f),z.toArray,m,g,hc,hd,by simp_all,B7 (uU u)⟩⟩
 .cases e
end
def gz(x d:PV)(h:MH):VZ:=match dP h x with
 |some xs=>(match lV h xs with
  |some f=>.ok (if xs.length=0 then d else xs.getD (argBest (c7 f) (xs.length-1)) .non) h
  |none=>.bad)
 |none=>.bad
def jW(f:Nat->Nat->Bool):∀n,argBest f n<=n
 |0=>ii _
 |n+1=>by
  unfold argBest;split
  .exact ii _
  .exact QS (jW f n)
def qR:∀{xs:VL}{f:List (Int×VN)}{k:Nat}{x:PV},lV h xs=J f->xs[k]?=J x->pz h x=J (f.getD k (0,[]))
 |x::r,_,k,y,e,g=>by
  obtain⟨p,e1,e2⟩:=DI.mp e;obtain⟨t,e3,rfl⟩:=yJ.mp e2
  cases k with
  |zero=>cases g;simpa using e1
  |succ k=>simpa using qR e3 (by simpa using g)
def qS{ys:List V}{f:VT}(r:aw ys f){k:Nat}{v:Value}(e:f[k]?=J v):∃y,ys[k]?=J y/\aM y v:=by
 have j:k<ys.length:=by rw[r.length];exact(qt.mp e).1
 obtain⟨u,l,i⟩:=r.get (show ys[k]?=J ys[k] by simp)
 simp_all
def ui{K:h8}{U:VS}{H:Hp}{xs:VL}{ys:List V}(r:RPs K U H xs ys){k:Nat}{y:V}(e:ys[k]?=J y):∃x,xs[k]?=J x/\RP K U H x y:=by
 induction k generalizing xs ys with
 |zero=>cases r with
  |nil=>cases e
  |cons r t=>cases e;exact⟨_,rfl,r⟩
 |succ k i=>cases r with
  |nil=>cases e
  |cons r t=>obtain⟨x,ex,f⟩:=i t (by simpa using e);exact⟨x,by simpa using ex,f⟩
section
variable{X:Cx}{N W G:VM}{k:Nat}
def zU(hr:Room k X.A){Nc:VU}{Z:L2.St}{H:Hp}{s:Shared}{U:VS}{h:MH}{x d:PV}{S M:V}{u ud:Value}{Q:VK}(f:Inv X Nc Z H s)(C:RH X.K X.mg U H h)(rx:RP X.K U H x S)(rd:RP X.K U H d M)(ru:aM S u)(F:aM M ud)(q:iN X (RV' X) U H (gz x d h) Q):wpAny (model X.prog X.w) X.A (call (.builtin "min") [u] [("default",ud)]) (EP X Nc Z Q) X.xe s:=by
 unfold gz at q
 split at q
 .rename_i xs hl
  split at q
  .rename_i B hp
   obtain⟨l,ys,rfl,O,r⟩:=pM C rx hl;cases ru;refine A6 B (by have:=hr.un;lia) hr.hd f (.inl O) (λP E i v hv=>?_) λP E v h' tk p kk=>?_
   .obtain⟨y,R,L⟩:=qS E hv;obtain⟨x,ex,j⟩:=ui r R;obtain⟨a,rfl,ra⟩:=FM C j (qR hp ex) f;cases L;exact⟨a,rfl,ra⟩
   .have el:=E.length.symm.trans r.length.symm;rw[el]at p;by_cases z:xs.length=0
    .rw[c_ z]at p q;subst p;exact⟨M,H,f.kept kk,F,q U H _ (Le.refl _ _) C rd⟩
    .rw[f_ z]at p q;obtain⟨y,R,L⟩:=qS E p;obtain⟨x,ex,j⟩:=ui r R;rw[TR,ex]at q;exact⟨y,H,f.kept kk,L,q U H _ (Le.refl _ _) C j⟩
  .exact q.elim
 .exact q.elim
end
end MM
namespace MM
open PySem.Spec PyProof.Rows L2 SetT
section
variable{X:Cx}{N W G:VM}{k:Nat}
def FN(g:Good X N W G k){a b:Expr}{ma mb:Mx PV}{j:Nat}{p kp O:Pos}(hj:G[j]?=J "min")(hm:X.mg "min"=Y)(ha:ME X a ma)(hb:ME X b mb)(S:starEach [a] X.env=[(T,eval a X.env)]:=by rfl):ME X (.Call (.Name "min" p) [a] [⟨J "default",b,kp⟩] O) (ar gz ma mb):=by
 intro Nc s Z H Q L ⟨U,f,h,rs,rh,q⟩;have d:=g.dbg _ (oI _ (au hj));refine wpAny_Call_Name_kw (gT L (g.gl _ (au hj)) hm PyProof.Rows.Boot.«min» ?_ d.2.2 d.1)
 refine callWith_kw (spliced_more (ka (ha Nc s Z H (λx' l=>∃i E x,Le U H i l/\RH X.K X.mg i l E/\RP X.K i l x x'/\Ful X (RV' X) f i l ((mb f E).bind λy B=>(gz x y B).ne) Q) L ⟨U,f,h,rs,rh,Ful.bind q λi l x x' E _ P r rx R=>⟨i,E,x,P,r,rx,R⟩⟩) λu s1 ⟨x',l,I1,r1,i,E,x,P,r,rx,R⟩ =>
  spliced_none (kws_cons (ka (hb Nc s1 Z l (λM F=>∃C B y,Le i l C F/\RH X.K X.mg C F B/\RP X.K C F y M/\Ful X (RV' X) f C F (gz x y B).ne Q) I1 ⟨i,f,E,rs.le P,r,Ful.bind R λC F y M B _ l2 z ry q2=>⟨C,B,y,l2,z,ry,q2⟩⟩) λu2 s2 ab=>kws_nil ?_))) S) (by rw[S];rfl) (by rw[S];rfl) rfl rfl
 obtain⟨M,F,I2,r2,C,B,y,l2,z,ry,q2⟩:=ab;exact zU g.room I2 z (rx.le l2) ry r1 r2 q2.zero
end
end MM
namespace MM
open PyProof.Rows
open PySem.AutoSeq1 (wpAny_loadPart')
section
variable{prog:Program}{w:World}{A:Around}{E:VB}{s:Shared}{r:Addr}{a b c:Int}{t u v:Tok}{n:Nat}
abbrev Qg(a c:Int)(acc:Array Value)(n:Nat):Prop:=ItemsOf (λ(i:Nat) v=>∃t,v=.int (a+i*c) t) acc n
def sN{Q:VT->Shared->Prop}(M:A.handled=Y)(P:IsRange s.heap r a b c t u v)(L:Builtin.Range.small a b c=I)(W:Builtin.Range.rangeSize a b c=n)(U:n<=2^24)(H:∀(j:Heap)(l:Nat)(i:Array Value),(∀b o,s.heap.get? b=J o->j.get? b=J o)->Qg a c i n->Q i.toList { s with heap:=j,toks:=l}):wpAny (model prog w) A (collect (.ref r)) Q E s:=by
 refine d_ (wpAny_runValue (codeAny_builtin F.entry_proto_collect ?_));refine d_ (wpAny_newObj_type ?_);refine ia ⟨plainId_quiet F.plain_list_iadd _,codeAny_builtin F.entry_list_iadd ?_⟩;rw[Around.under_plainId F.plain_list_iadd _]
 refine wpAny_mono (wpAny_extend_range (R:=λr G=>∃(j:Heap)(l:Nat)(i:Array Value)(z:Nat),r=Except.ok (Flow.ret (.ref s.heap.objs.size))/\G={ s with heap:=j,toks:=l}/\(∀x o,s.heap.get? x=J o->j.get? x=J o) /\
   j.get? s.heap.objs.size=J { cls:=.type "list",dict:=Y,data:=.seq i z,slots:=#[]}/\Qg a c i n) M (n_ _ P) L W U s.heap.objs.size (.ref s.heap.objs.size) 0 (tz _ rfl)
   λj l i z k B C=>⟨j,l,i,z,rfl,rfl,λx o e=>k x o (t4 (nr e)) (n_ _ e),B,C⟩) (λfin G h=>?_) (λe G h=>?_)
 .cases fin with
  |done f =>
   obtain⟨j,l,i,z,e,rfl,k,B,C⟩:=h;cases e;exact d_ (wpAny_load B (ia (H j l i k C)))
  |again d =>
   refine⟨h.1,codeAny_mono h.2 λr S O=>?_⟩;obtain⟨j,l,i,z,e,rfl,k,B,C⟩:=O;cases e;exact d_ (wpAny_load B (ia (H j l i k C)))
 .obtain⟨j,l,i,z,e,_⟩:=h;cases e
def mO(L:Builtin.Range.small a b c=I)(Q:Builtin.Range.rangeSize a b c=n)(O:n<=2^24):Meets (Builtin.«tuple.__new__» ⟨[.type "tuple",.ref r],[]⟩)
  (λA R s=>A.handled=Y/\IsRange s.heap r a b c t u v/\∀(i:Heap) (F:Nat) (f:Array Value),(∀b o,s.heap.get? b=J o->i.get? b=J o)->Qg a c f n->R (.ok (.ret (.ref i.objs.size))) { s with heap:=i.push { cls:=.type "tuple",data:=.seq f},toks:=F}) :=
 .of_wp λprog w A R s h=>by
  obtain⟨M,z,h⟩:=h;have C:=sub_tuple_self;have j:=init_tuple_lookup;have H:=madeHere_tuple;have P:s.TypeIs (.ref r) "range":=⟨_,z,rfl⟩;have l:A.in1.handled=Y:=M;obtain⟨S,g,d,F,os⟩:=s
  wp_walk using wpAny_loadPart' z,wpAny_typeOf P,sN l z L Q O
  intro i B f k G;show wpAny _ _ (Builtin.Tuple.tupleExact f.toList.toArray >>= λv=>ret v) _ _ _;unfold Builtin.Tuple.tupleExact;refine d_ (wpAny_newObj_type ?_ (show f.toList.toArray.size<=sizeLine by simp only[Array.toArray_toList];rw[G.1,sizeLine_eq];omega));refine ia ⟨_,rfl,?_⟩;rw[show f.toList.toArray=f by simp];exact h i B f k G
def nB{Q:VB}(C:A.handled=Y)(z:IsRange s.heap r a b c t u v)(B:Builtin.Range.small a b c=I)(G:Builtin.Range.rangeSize a b c=n)(H:n<=2^24)(h:∀(i:Heap) (j:Nat) (f:Array Value),(∀b o,s.heap.get? b=J o->i.get? b=J o)->Qg a c f n->Q (.ref i.objs.size) { s with heap:=i.push { cls:=.type "tuple",data:=.seq f},toks:=j}):wpAny (model prog w) A (call (.type "tuple") [.ref r]) Q E s :=
 callType_new F.called_tuple (by decide) (F.typeCall_tuple_1 _) (F.newCall_tuple_1 _) (λobj=>F.args_object_init_2 obj _) F.entry_tuple_new
  (mO B G H) ⟨C,z,λi j f k l=>⟨⟨_,tz _ rfl,rfl⟩,h i j f k l⟩⟩
end
end MM
namespace MM
open PySem.Spec PyProof.Rows L2
section
variable{X:Cx}{N W G:VM}{k:Nat}
def qJ(O:X.calm=I):cS X (.type "tuple") (λxs H Q=>∃r j,xs=[.ref r]/\H r=J (.rng 0 j) /\ -(2^62)<=j/\j<2^62/\j.toNat<=sizeLine/\∀l,H l=Y->Q (.ref l) (kx H l (.tup ((List.range j.toNat).map λi=>V.int (0+(i:Nat)))))):=by
 intro Nc s Z H xs us Q f r ⟨M,j,e,S,R,h2,E,q⟩;subst e
 cases r with
 |cons r1 t1 =>
  cases t1;cases r1;obtain⟨t,u,v,U⟩:=(f.hok M _ S);refine nB (f.ok.hd O) U (small_one (by ext) (by ext) R h2) (by rw[rangeSize_one];split<;>ext) E λh' B z kp F=>?_;have L:=ik _ 0 _ (by exact F.1) λi v hv=>by
   obtain⟨t,e⟩:=F.2 i v (by rw[<-v_];exact hv)
   grind
  have C:=f.kept (t':=B) kp;have P:=C.laid (t':=B) (λb o e=>n_ _ e) (ii _) (show ObjOk X.prog X.w _ _ _ (.tup _) from⟨by simpa using E,z.toList,L,by simpa using hJ.new _ _⟩);exact⟨.ref h'.objs.size,_,P,rfl,q _ (C.hok.fresh (ii _))⟩
def Qh(m:Mx (VL)):Mx PV:=λZ h=>(m Z h).bind λi f=>match i with
 |[.int j]=>if -(2^62)<=j/\j<2^62/\j.toNat<=sizeLine then .ok (.tup (ck 0 j.toNat)) f else .bad
 |_=>.bad
def At(g:Good X N W G k){a:Expr}{m:Mx (VL)}{i j:Nat}{p P C f:Pos}(R:G[i]?=J "tuple")(hm:X.mg "tuple"=Y)(hj:G[j]?=J "range")(E:X.mg "range"=Y)(ha:MA X [a] m)(hs:starEach [a] X.env=[(T,eval a X.env)]:=by rfl)(S:starEach [.Call (.Name "range" P) [a] [] f] X.env=[(T,eval (.Call (.Name "range" P) [a] [] f) X.env)]:=by rfl):ME X (.Call (.Name "tuple" p) [.Call (.Name "range" P) [a] [] f] [] C) (Qh m):=by
 have d:=g.dbg _ (oI _ (au R));refine PE.imp (gX (qJ g.calm) (g.gl _ (au R)) hm PyProof.Rows.Boot.«tuple» (cA (sk (g.gl _ (au hj)) E ha hs) eQ S) d.2.2 d.1 S rfl) λZ H Q ⟨U,L,h,rs,rh,q⟩=>?_;refine⟨U,L,h,rs,rh,Ful.bind q λU1 H1 x x' h1 _ l1 F rx u=>?_⟩
 cases rx with
 |nil=>exact u.elim
 |cons r1 t1 =>
  cases t1 with
  |cons _ _=>cases r1<;>exact u.elim
  |nil =>
   cases r1 with
   |int B =>
    dsimp only at u;by_cases z:-(2^62)<=B/\B<2^62/\B.toNat<=sizeLine
    .rw[c_ z]at u;refine⟨B,rfl,z.1,z.2.1,λr hr=>?_⟩;obtain⟨O,l2⟩:=F.loose hr (.rng 0 B);refine⟨r,B,rfl,bD,z.1,z.2.1,z.2.2,λl hl=>?_⟩;obtain⟨M,l3⟩:=O.tup hl ((List.range B.toNat).map λi=>V.int (0+(i:Nat)));exact u _ _ _ (l2.trans l3) M (.tup (.inl (.inl bD)) (jh _))
    .rw[f_ z]at u;exact u.elim
   |_=>exact u.elim
end
end MM
namespace PU
open MM
def ys{α:Type}{a b:α}(h:a=b):a=b:=h
inductive D where
 |non | bl (b:Bool) | int (i:Int) | str (x:Str) | tup (xs:List D) | lst (xs:List D) | dic (ks:VP) (ds:List D) | exc (c:Str) | pen
abbrev _root_.VR:=List D
abbrev _root_.VD:=Option D
abbrev iw:=Int×Int×Int
abbrev av:=List (VD)
def bA(h:MH)(p:Nat)(s:iw):Prop:=h[p]?=J (.lst [.int s.1,.int s.2.1,.int s.2.2])
inductive R7(P:VL->Prop)(v:PV):Prop
 |mk(xs:VL)(e:v=.tup xs)(r:P xs):R7 P v
inductive UA(h:MH)(O:VQ)(P:VL->Prop)(v:PV):Prop
 |mk(n:Nat)(xs:VL)(e:v=.loc n)(no:n∉O)(g:h[n]?=J (.lst xs))(r:P xs):UA h O P v
inductive UB(h:MH)(O:VQ)(o:MO)(v:PV):Prop
 |mk(n:Nat)(e:v=.loc n)(no:n∉O)(g:h[n]?=J o):UB h O o v
inductive UC(h:MH)(O:VQ)(ks:VP)(P:VL->Prop)(v:PV):Prop
 |mk(n:Nat)(xs:VL)(e:v=.loc n)(no:n∉O)(g:h[n]?=J (.dic ks xs))(r:P xs):UC h O ks P v
inductive R8(P:PV->Prop)(Q:VL->Prop)(vs:VL):Prop
 |mk(x:PV)(r:VL)(e:vs=x::r)(a:P x)(b:Q r):R8 P Q vs
mutual
def Rp(p:Nat)(h:MH)(O:VQ):D->PV->Prop
 |.non,v=>v=.non
 |.bl b,v=>v=.bl b
 |.int i,v=>v=.int i
 |.str x,v=>v=.str x
 |.tup f,v=>R7 (Rps p h O f) v
 |.lst f,v=>UA h O (Rps p h O f) v
 |.dic j f,v=>UC h O j (Rps p h O f) v
 |.exc c,v=>UB h O (.exc ⟨c,[]⟩) v
 |.pen,v=>v=.loc p
def Rps(p:Nat)(h:MH)(O:VQ):VR->VL->Prop
 |[],f=>f=[]
 |d::i,f=>R8 (Rp p h O d) (Rps p h O i) f
end
def aU{h:MH}{n:Nat}{o:MO}(e:h[n]?=J o):n<h.length:=(qt.mp e).1
structure Mv(O:VQ)(h:MH)(O':VQ)(h':MH):Prop where
 keep:∀n:Nat,n<h.length->n∉O->h'[n]?=h[n]?
 new:∀o∈O',o∈O\/h.length<=o
def Mv.get{O i:VQ}{h f:MH}(s:Mv O h i f){n:Nat}{o:MO}(e:h[n]?=J o)(no:n∉O):n∉i/\f[n]?=J o:=by
 have j:=aU e;refine⟨λz=>?_,(s.keep n j no).trans e⟩;rcases s.new n z with q|q
 .exact no q
 .lia
section
variable{p:Nat}{O O':VQ}{h h':MH}
def Rp.mv(s:Mv O h O' h')(r:Rp p h O d v):Rp p h' O' d v:=by
 refine D.rec (motive_1:=λd=>∀v,Rp p h O d v->Rp p h' O' d v) (motive_2:=λf=>∀l,Rps p h O f l->Rps p h' O' f l)
  (λ_ r=>r) (λ_ _ r=>r) (λ_ _ r=>r) (λ_ _ r=>r) (λf i _ r=>?_) (λf i _ r=>?_) (λ_ f i _ r=>?_) (λ_ _ r=>?_) (λ_ r=>r) (λ_ r=>r) (λ_ _ i j _ r=>?_) d v r
 .obtain⟨xs,e,r⟩:=r;exact⟨xs,e,i _ r⟩
 .obtain⟨n,xs,e,no,g,r⟩:=r;exact⟨n,xs,e,(s.get g no).1,(s.get g no).2,i _ r⟩
 .obtain⟨n,xs,e,no,g,r⟩:=r;exact⟨n,xs,e,(s.get g no).1,(s.get g no).2,i _ r⟩
 .obtain⟨n,e,no,g⟩:=r;exact⟨n,e,(s.get g no).1,(s.get g no).2⟩
 .obtain⟨x,t,e,a,b⟩:=r;exact⟨x,t,e,i _ a,j _ b⟩
def Rps.mv(s:Mv O h O' h')(r:Rps p h O f vs):Rps p h' O' f vs:=by
 induction f generalizing vs with
 |nil=>exact r
 |cons d f i=>obtain⟨x,t,e,a,b⟩:=r;exact⟨x,t,e,a.mv s,i b⟩
def Rps.length(r:Rps p h O f vs):vs.length=f.length:=by
 induction f generalizing vs with
 |nil=>rw[show vs=[]from r];rfl
 |cons d f i=>obtain⟨x,t,e,a,b⟩:=r;rw[e,DN,DN,i b]
def Rps.get{f:VR}{j:VL}{i:Nat}{d:D}(r:Rps p h O f j)(g:f[i]?=J d):∃v,j[i]?=J v/\Rp p h O d v:=by
 induction f generalizing j i with
 |nil=>cases g
 |cons d f l =>
  obtain⟨x,t,e,a,b⟩:=r;subst e
  cases i with
  |zero=>cases g;exact⟨x,rfl,a⟩
  |succ i=>have z:=@l t i b g;exact z
def Rps.app(r:Rps p h O f vs)(s:Rps p h O es ws):Rps p h O (f++es) (vs++ws):=by
 induction f generalizing vs with
 |nil=>rw[show vs=[]from r];exact s
 |cons d f i=>obtain⟨x,t,e,a,b⟩:=r;subst e;exact⟨x,t++_,rfl,a,i b⟩
def Rps.take(n:Nat)(r:Rps p h O f vs):Rps p h O (f.take n) (vs.take n):=by
 induction f generalizing vs n with
 |nil=>rw[show vs=[]from r];cases n<;>rfl
 |cons d f i =>
  obtain⟨x,t,e,a,b⟩:=r;subst e
  cases n with
  |zero=>rfl
  |succ n=>exact⟨x,t.take n,rfl,a,i n b⟩
def Rps.drop(n:Nat)(r:Rps p h O f vs):Rps p h O (f.drop n) (vs.drop n):=by
 induction f generalizing vs n with
 |nil=>rw[show vs=[]from r];cases n<;>rfl
 |cons d f i =>
  cases n with
  |zero=>exact r
  |succ n=>obtain⟨x,t,e,a,b⟩:=r;subst e;exact i n b
end
def dl:Option (VP)->VR->D
 |none,f=>.lst f
 |some i,f=>.dic i f
def mo:Option (VP)->VL->MO
 |none,xs=>.lst xs
 |some f,xs=>.dic f xs
def iU(e:D.lst ds=dl k es):k=Y/\ds=es:=by
 cases k with
 |none=>cases e;exact⟨rfl,rfl⟩
 |some _=>cases e
def JY(e:D.dic ks ds=dl k es):k=J ks/\ds=es:=by
 cases k with
 |none=>cases e
 |some _=>cases e;exact⟨rfl,rfl⟩
inductive UD(p:Nat)(h:MH)(L:Nat)(O:VQ)(d:D)(v:PV):Prop
 |mk(n:Nat)(k:Option (VP))(xs:VL)(ds:VR)(e:d=dl k ds)(e':v=.loc n)(o:n∈O)(l:L<=n)(g:h[n]?=J (mo k xs))(r:Rps p h O ds xs):UD p h L O d v
def Vw(p:Nat)(h:MH)(L:Nat)(O:VQ)(d:D)(v:PV):Prop:=Rp p h O d v\/UD p h L O d v
def Vws(p:Nat)(h:MH)(L:Nat)(O:VQ):VR->VL->Prop
 |[],f=>f=[]
 |d::i,f=>R8 (Vw p h L O d) (Vws p h L O i) f
inductive NP(p:Nat)(L:Nat)(O:VQ)(h:MH)(k:Option (VP))(ds:VR)(v:PV):Prop
 |mk(n:Nat)(xs:VL)(e:v=.loc n)(l:L<=n)(g:h[n]?=J (mo k xs))(r:Rps p h (n::O) ds xs):NP p L O h k ds v
def Frs(p:Nat)(L:Nat)(O:VQ)(h:MH)(d:D)(v:PV):Prop:=∀k f,d=dl k f->NP p L O h k f v
structure KB(p:Nat)(h h':MH):Prop where
 len:h.length<=h'.length
 keep:∀n:Nat,n<h.length->n≠p->h'[n]?=h[n]?
def KB.refl(p:Nat)(h:MH):KB p h h:=⟨ii _,λ_ _ _=>rfl⟩
def KB.trans(a:KB p h h1)(b:KB p h1 h2):KB p h h2 :=
 ⟨o0 a.len b.len,λn i f=>(b.keep n (pq i a.len) f).trans (a.keep n i f)⟩
def KB.app(p:Nat)(h g:MH):KB p h (h++g):=⟨by simp,λn f _=>sd f⟩
def KB.mv(k:KB p h h')(f:p∈O):Mv O h O h' :=
 ⟨λn i no=>k.keep n i λz=>no (z▸f),λo j=>.inl j⟩
def bA.app{p:Nat}{h g:MH}{s:iw}(e:bA h p s):bA (h++g) p s:=by unfold bA at *;rw[sd (aU e)];exact e
def Vw.kb{p L:Nat}{h f:MH}{O:VQ}{d:D}{v:PV}(k:KB p h f)(i:p∈O)(hL:p<L)(w:Vw p h L O d v):Vw p f L O d v:=by
 rcases w with r|⟨n,z,xs,l,e1,e2,j,u,g,r⟩
 .exact .inl (r.mv (k.mv i))
 .exact .inr ⟨n,z,xs,l,e1,e2,j,u,(k.keep n (aU g) ⋯).trans g,r.mv (k.mv i)⟩
inductive PR(α:Type) where
 |ok(a:α)(s:iw)
 |exc(c:Str)(s:iw)
 |bad
def PR.bind{α β:Type}(r:PR α)(f:α->iw->PR β):PR β:=match r with
 |.ok a s=>f a s
 |.exc c s=>.exc c s
 |.bad=>.bad
@[simp]theorem Pb(a:α)(s:iw)(f:α->iw->PR β):(PR.ok a s).bind f=f a s:=rfl
@[simp]theorem Pe(c:Str)(s:iw)(f:α->iw->PR β):(PR.exc c s).bind f=.exc c s:=rfl
@[simp]theorem Pd(f:α->iw->PR β):(PR.bad:PR α).bind f=.bad:=rfl
def PR.of{α:Type}(o:Option α)(s:iw):PR α:=match o with
 |some a=>.ok a s
 |none=>.bad
@[simp]theorem Pf(a:α)(s:iw):PR.of (J a) s=.ok a s:=rfl
@[simp]theorem Pn(s:iw):PR.of (Y:Option α) s=.bad:=rfl
inductive R9{α β:Type}(p:Nat)(h:MH)(o:Out β)(a:α)(s:iw)(R:MH->α->β->Prop):Prop
 |mk(b:β)(h':MH)(e:o=.ok b h')(k:KB p h h')(n:bA h' p s)(r:R h' a b):R9 p h o a s R
inductive UE{β:Type}(p:Nat)(h:MH)(o:Out β)(c:Str)(s:iw):Prop
 |mk(h':MH)(e:o=.exc ⟨c,[]⟩ h')(k:KB p h h')(n:bA h' p s):UE p h o c s
def Ok{α β:Type}(p:Nat)(h:MH)(o:Out β)(r:PR α)(R:MH->α->β->Prop):Prop:=match r with
 |.ok a s=>R9 p h o a s R
 |.exc c s=>UE p h o c s
 |.bad=>True
def Ok.bind{α β γ δ:Type}{p:Nat}{h:MH}{o:Out β}{r:PR α}{R:MH->α->β->Prop}{f:β->MH->Out δ}{g:α->iw->PR γ}{S:MH->γ->δ->Prop}(q:Ok p h o r R)(k:∀a b i s,KB p h i->bA i p s->R i a b->Ok p i (f b i) (g a s) S):Ok p h (o.bind f) (r.bind g) S:=by
 cases r with
 |ok a s =>
  obtain⟨b,i,rfl,kb,pn,C⟩:=q
  have:=k a b i s kb pn C
  rw[Pb]
  cases e:g a s with
  |ok c B =>
   rw[e]at this;obtain⟨d,u,e2,l,j,z⟩:=this;exact⟨d,u,e2,kb.trans l,j,z⟩
  |exc c B =>
   rw[e]at this;obtain⟨u,e2,l,j⟩:=this;exact⟨u,e2,kb.trans l,j⟩
  |bad=>trivial
 |exc c s =>
  obtain⟨i,rfl,kb,pn⟩:=q;exact⟨i,rfl,kb,pn⟩
 |bad=>trivial
def Ok.imp{α β:Type}{p:Nat}{h:MH}{o:Out β}{r:PR α}{R S:MH->α->β->Prop}(q:Ok p h o r R)(k:∀f a b,KB p h f->R f a b->S f a b):Ok p h o r S:=by
 cases r with
 |ok a s=>obtain⟨b,i,e,kb,pn,j⟩:=q;exact⟨b,i,e,kb,pn,k _ _ _ kb j⟩
 |exc c s=>exact q
 |bad=>trivial
structure SR(p:Nat)(h:MH)(L:Nat)(O:VQ)(ws:VQ)(Z:mh)(env:av):Prop where
 len:Z.length=env.length
 fz:∀i d,env[i]?=J (J d)->i∉ws->∃v,Z[i]?=J (J v)/\Rp p h O d v
 ow:∀i d,env[i]?=J (J d)->i∈ws->∃n k xs ds,d=dl k ds/\Z[i]?=J (J (.loc n))/\n∈O/\L<=n/\h[n]?=J (mo k xs)/\Rps p h O ds xs
structure Cx(p:Nat)(h:MH)(L:Nat)(B O:VQ)(ws:VQ)(Z:mh)(env:av)(s:iw):Prop where
 bd:∀o∈O,o<h.length
 sub:∀o∈B,o∈O
 bb:∀o∈B,o<L
 pb:p∈B
 hL:L<=h.length
 pen:bA h p s
 sr:SR p h L O ws Z env
section
variable{p L:Nat}{h h':MH}{B O ws:VQ}{Z:mh}{env:av}{s s':iw}
def Cx.pO(c:Cx p h L B O ws Z env s):p∈O:=c.sub p c.pb
def Cx.pL(c:Cx p h L B O ws Z env s):p<L:=c.bb p c.pb
def SR.mv{O':VQ}(m:Mv O h O' h')(j:∀o∈O,o∈O')(l:∀n:Nat,n<h.length->L<=n->n∈O->h'[n]?=h[n]?)(r:SR p h L O ws Z env):SR p h' L O' ws Z env :=
 ⟨r.len,λi d e f=>let⟨v,e1,q⟩:=r.fz i d e f;⟨v,e1,q.mv m⟩,λi d e f=>let⟨n,k,xs,u,e1,e2,a,b,g,q⟩:=r.ow i d e f;⟨n,k,xs,u,e1,e2,j n a,b,(l n (aU g) b a).trans g,q.mv m⟩⟩
def Cx.kb(c:Cx p h L B O ws Z env s)(k:KB p h h')(pn:bA h' p s'):Cx p h' L B O ws Z env s' :=
 ⟨λo i=>pq (c.bd o i) k.len,c.sub,c.bb,c.pb,o0 c.hL k.len,pn,c.sr.mv (k.mv c.pO) (λ_ h=>h) λn f j _=>k.keep n f (by have:=c.pL;lia)⟩
def Vw.base(w:Vw p h L O d v)(sub:∀o∈B,o∈O)(bb:∀o∈B,o<L):Rp p h B d v:=by
 have m:Mv O h B h:=⟨λ_ _ _=>rfl,λo f=>.inl (sub o f)⟩;rcases w with r|⟨n,k,xs,i,rfl,rfl,_,j,g,r⟩
 .exact r.mv m
 .cases k<;>exact⟨n,xs,rfl,λz=>by have:=bb n z;lia,g,r.mv m⟩
def Vws.base(sub:∀o∈B,o∈O)(bb:∀o∈B,o<L):∀{i:VR}{f:VL},Vws p h L O i f->Rps p h B i f
 |[],_,r=>r
 |_::_,_,⟨x,t,e,a,b⟩=>⟨x,t,e,a.base sub bb,Vws.base sub bb b⟩
def Frs.rp(f:Frs p L' O h d v)(bd:∀o∈O,o<L')(e:d=dl k ds):Rp p h O d v:=by obtain⟨n,xs,e1,j,g,r⟩:=f k ds e;subst e;cases k<;>exact⟨n,xs,e1,λz=>by have:=bd n z;lia,g,r.mv ⟨λ_ _ _=>rfl,λo i=>.inl (m_ _ i)⟩⟩
def Frs.le(f:Frs p L2 O h d v)(j:L1<=L2):Frs p L1 O h d v:=λk l e =>
 let⟨n,xs,e1,i,g,r⟩:=f k l e;⟨n,xs,e1,o0 j i,g,r⟩
end
abbrev Bd(h:MH)(O:VQ):Prop:=∀o∈O,o<h.length
inductive Gv(p:Nat)(h:MH)(O:VQ)(fr:Bool)(o:VZ)(d:D):Prop
 |mk(v:PV)(g:MH)(e:o=.ok v (h++g))(r:Rp p (h++g) O d v)(f:fr=I->Frs p h.length O (h++g) d v):Gv p h O fr o d
structure Qi where
 m:PV->MH->VZ
 p:D->VD
 fr:Bool
 ok:∀{q h L O a x d},Bd h O->Vw q h L O a x->p a=J d->Gv q h O fr (m x h) d
structure yv where
 m:PV->PV->MH->VZ
 p:D->D->VD
 fr:Bool
 ok:∀{q h L O a x b y d},Bd h O->Vw q h L O a x->Vw q h L O b y->p a b=J d->Gv q h O fr (m x y h) d
structure CO where
 k:VL->MH->VZ
 p:VR->VD
 fr:Bool
 ok:∀{q h L O as xs d},Bd h O->Vws q h L O as xs->p as=J d->Gv q h O fr (k xs h) d
structure Fn where
 m:VL->MH->VZ
 p:VR->iw->PR D
 fr:Bool
 ok:∀{q h O vs ds s},Bd h O->q∈O->bA h q s->Rps q h O ds vs->Ok q h (m vs h) (p ds s) (λh' d v=>Rp q h' O d v/\(fr=I->Frs q h.length O h' d v))
mutual
def flat:D->Bool
 |.lst _ | .dic _ _ | .exc _ | .pen=>T
 |.tup f=>ql f
 |_=>I
def ql:VR->Bool
 |[]=>I
 |d::f=>flat d&&ql f
end
section
variable{p:Nat}{h h':MH}{O O':VQ}
mutual
def Rp.flat:∀{d:D}{v:PV},PU.flat d=I->Rp p h O d v->Rp p h' O' d v
 |.non,_,_,r=>r
 |.bl _,_,_,r=>r
 |.int _,_,_,r=>r
 |.str _,_,_,r=>r
 |.tup i,_,f,⟨xs,e,r⟩=>⟨xs,e,Rps.flat (by simpa [PU.flat]using f) r⟩
 |.lst i,_,f,_=>by simp[PU.flat]at f
 |.dic _ _,_,f,_=>by simp[PU.flat]at f
 |.exc _,_,f,_=>by simp[PU.flat]at f
 |.pen,_,f,_=>by simp[PU.flat]at f
def Rps.flat:∀{i:VR}{j:VL},PU.ql i=I->Rps p h O i j->Rps p h' O' i j
 |[],_,_,r=>r
 |_::_,_,f,⟨x,t,e,a,b⟩=>⟨x,t,e,Rp.flat (by simp[PU.ql]at f;exact f.1) a,Rps.flat (by simp[PU.ql]at f;exact f.2) b⟩
end
end
structure Xe(ws:VQ) where
 m:Mx PV
 p:av->iw->PR D
 fz:Bool
 fr:Bool
 ok:∀{q h L B O Z env s},Cx q h L B O ws Z env s->Ok q h (m Z h) (p env s) (λh' d v=>Vw q h' L O d v/\(fz=I->Rp q h' O d v)/\(fr=I->Frs q h.length O h' d v))
structure Xs(ws:VQ) where
 m:Mx (VL)
 p:av->iw->PR (VR)
 fz:Bool
 ok:∀{q h L B O Z env s},Cx q h L B O ws Z env s->Ok q h (m Z h) (p env s) (λh' ds vs=>Vws q h' L O ds vs/\(fz=I->Rps q h' O ds vs))
structure Xt(ws:VQ) where
 m:Mx Bool
 p:av->iw->PR Bool
 ok:∀{q h L B O Z env s},Cx q h L B O ws Z env s->Ok q h (m Z h) (p env s) (λ_ a b=>a=b)
noncomputable section
variable{ws:VQ}
def Dh{q L:Nat}{h i:MH}{O:VQ}{o:VZ}{d:D}{s:iw}{fr:Bool}(le:h.length<=i.length)(pn:bA i q s)(g:Gv q i O fr o d):
  Ok q i o (.ok d s) (λj d v=>Vw q j L O d v/\(I=I->Rp q j O d v)/\(fr=I->Frs q h.length O j d v)):=by
 obtain⟨v,g,e,r,f⟩:=g;exact⟨v,i++g,e,KB.app _ _ _,pn.app,.inl r,λ_=>r,λz=>(f z).le le⟩
def ac(i:Nat):Xe ws where
 m:=af i
 p:=λenv s=>match env[i]? with
  |some (J d)=>.ok d s
  |_=>.bad
 fz:=!ws.contains i
 fr:=T
 ok {q h L B O Z env s} c:=by
  show Ok q h _ (match env[i]? with|some (J d)=>PR.ok d s|_=>.bad) _
  cases e:env[i]? with
  |none=>trivial
  |some o =>
   cases o with
   |none=>trivial
   |some d =>
    by_cases z:i∈ws
    .obtain⟨n,k,xs,j,e1,e2,a,b,g,r⟩:=c.sr.ow i d e z;exact⟨.loc n,h,by simp[af,e2],KB.refl _ _,c.pen,.inr ⟨n,k,xs,j,e1,rfl,a,b,g,r⟩,λf=>by simp[z]at f,λf=>by simp at f⟩
    .obtain⟨v,e1,r⟩:=c.sr.fz i d e z;exact⟨v,h,by simp[af,e1],KB.refl _ _,c.pen,.inl r,λ_=>r,λf=>by simp at f⟩
inductive Cn where
 |non | bl (b:Bool) | int (i:Int) | str (x:Str)
def Cn.v:Cn->PV
 |.non=>.non
 |.bl b=>.bl b
 |.int i=>.int i
 |.str x=>.str x
def Cn.d:Cn->D
 |.non=>.non
 |.bl b=>.bl b
 |.int i=>.int i
 |.str x=>.str x
def Cn.rp(c:Cn){q:Nat}{h:MH}{O:VQ}:Rp q h O c.d c.v:=by cases c<;>rfl
def xC(k:Cn):Xe ws where
 m:=mC k.v
 p:=λ_ s=>.ok k.d s
 fz:=I
 fr:=I
 ok {q h L B O Z env s} c:=⟨k.v,h,rfl,KB.refl _ _,c.pen,.inl k.rp,λ_=>k.rp,λ_ f i e=>by cases k<;>cases f<;>cases e⟩
def ae(o:yv)(a b:Xe ws):Xe ws where
 m:=ar o.m a.m b.m
 p:=λenv s=>(a.p env s).bind λx C=>(b.p env C).bind λy z=>.of (o.p x y) z
 fz:=I
 fr:=o.fr
 ok {q h L B O Z env s} c:=by
  refine(a.ok c).bind λx v H C j p1 ⟨G,_,_⟩=>?_;refine(b.ok (c.kb j p1)).bind λy w M z i l ⟨F,_,_⟩=>?_
  cases e:o.p x y with
  |none=>trivial
  |some d =>
   have E:=(c.kb j p1).kb i l;obtain⟨u,g,e1,r,f⟩:=o.ok E.bd (G.kb i c.pO c.pL) F e;exact Dh (o0 j.len i.len) l ⟨u,g,by rw[e1];rfl,r,f⟩
def Dm(o:Qi)(a:Xe ws):Xe ws where
 m:=Dg o.m a.m
 p:=λenv s=>(a.p env s).bind λx j=>.of (o.p x) j
 fz:=I
 fr:=o.fr
 ok {q h L B O Z env s} c:=by
  refine(a.ok c).bind λx v z j i p1 ⟨l,_,_⟩=>?_
  cases e:o.p x with
  |none=>trivial
  |some d =>
   obtain⟨u,g,e1,r,f⟩:=o.ok (c.kb i p1).bd l e;exact Dh i.len p1 ⟨u,g,by rw[e1];rfl,r,f⟩
def a_:Xs ws where
 m:=h_
 p:=λ_ s=>.ok [] s
 fz:=I
 ok {q h L B O Z env s} c:=⟨[],h,rfl,KB.refl _ _,c.pen,rfl,λ_=>rfl⟩
def aa(a:Xe ws)(r:Xs ws):Xs ws where
 m:=ai a.m r.m
 p:=λenv s=>(a.p env s).bind λx l=>(r.p env l).bind λy j=>.ok (x::y) j
 fz:=a.fz&&r.fz
 ok {q h L B O Z env s} c:=by refine(a.ok c).bind λx v M l z p1 ⟨H,E,_⟩=>?_;refine(r.ok (c.kb z p1)).bind λy w G j i u ⟨F,C⟩=>?_;refine⟨v::w,G,rfl,KB.refl _ _,u,⟨v,w,rfl,H.kb i c.pO c.pL,F⟩,λf=>?_⟩;rw[Lj]at f;exact⟨v,w,rfl,(E f.1).mv (i.mv c.pO),C f.2⟩
def qo(o:CO)(a:Xs ws):Xe ws where
 m:=λZ h=>(a.m Z h).bind o.k
 p:=λenv s=>(a.p env s).bind λx f=>.of (o.p x) f
 fz:=I
 fr:=o.fr
 ok {q h L B O Z env s} c:=by
  refine(a.ok c).bind λx v l f i p1 ⟨j,_⟩=>?_
  cases e:o.p x with
  |none=>trivial
  |some d=>exact Dh i.len p1 (o.ok (c.kb i p1).bd j e)
def ag(f:Fn)(a:Xs ws)(l:a.fz=I:=by exact ys rfl):Xe ws where
 m:=bT f.m a.m
 p:=λenv s=>(a.p env s).bind f.p
 fz:=I
 fr:=f.fr
 ok {q h L B O Z env s} c:=by refine(a.ok c).bind λx v u E i p1 ⟨_,z⟩=>?_;have j:=c.kb i p1;refine(f.ok j.bd j.pO p1 (z l)).imp λC d v kb ⟨r,fr⟩=>⟨.inl r,λ_=>r,λz=>(fr z).le i.len⟩
def FO(d:D):Bool:=match d with
 |.lst f=>ql f
 |d=>flat d
def sY(f:Fn)(a:Xs ws)(hf:f.fr=I:=by exact ys rfl):Xe ws where
 m:=bT f.m a.m
 p:=λenv s=>((a.p env s).bind f.p).bind λd s=>if FO d=I then .ok d s else .bad
 fz:=I
 fr:=I
 ok {q h L B O Z env s} c:=by
  have key:Ok q h ((a.m Z h).bind f.m) ((a.p env s).bind f.p) (λj d v=>Rp q j B d v/\Frs q h.length B j d v):=by refine(a.ok c).bind λx v U H C p1 ⟨w,_⟩=>?_;have l:=c.kb C p1;refine(f.ok (λo P=>pq (l.bb o P) l.hL) l.pb p1 (w.base l.sub l.bb)).imp λj d v kb ⟨r,fr⟩=>⟨r,(fr hf).le C.len⟩
  show Ok q h ((a.m Z h).bind f.m) _ _
  cases e:(a.p env s).bind f.p with
  |bad=>trivial
  |exc x H=>rw[e]at key;exact key
  |ok d H =>
   rw[e]at key;obtain⟨v,j,e1,kb,pn,r,fr⟩:=key;rw[Pb];by_cases z:FO d=I
   .rw[c_ z];have E:Frs q h.length O j d v:=λk F u=>by
     obtain⟨n,xs,S,R,Q,M⟩:=fr k F u;subst u
     cases k with
     |some _=>cases z
     |none=>exact⟨n,xs,S,R,Q,Rps.flat z M⟩
    have G:Rp q j O d v:=by
     cases d with
     |lst F=>exact E.rp (k:=Y) c.bd rfl
     |non=>exact r
     |bl b=>exact r
     |int i=>exact r
     |str i=>exact r
     |tup i=>exact Rp.flat z r
     |dic _ _=>cases z
     |exc _=>cases z
     |pen=>cases z
    exact⟨v,j,e1,kb,pn,.inl G,λ_=>G,λ_=>E⟩
   .rw[f_ z];trivial
def dR:100000<=sizeLine:=by decide
def mE(bd:Bd h O)(r:Rps q h O ds xs)(u:ds.length<=100000):Gv q h O I (pr xs h) (.lst ds):=by
 have B:=r.length;have m:Mv O h O (h++[MO.lst xs]):=⟨λn i _=>sd i,λo f=>.inl f⟩
 have j:Mv O h (h.length::O) (h++[MO.lst xs]):=⟨λn i _=>sd i,λo f=>by
  rcases lb.mp f with z|z
  .exact .inr ⋯
  .exact .inl z⟩
 have g:(h++[MO.lst xs])[h.length]?=J (.lst xs):=by simp
 refine⟨.loc h.length,[.lst xs],?_,⟨_,_,rfl,λz=>by have:=bd _ z;lia,g,r.mv m⟩,λ_ k l e=>?_⟩
 .unfold pr;have:=dR;lia
 .obtain⟨rfl,rfl⟩:=iU e;exact⟨_,_,rfl,ii _,g,r.mv j⟩
def wV(r:Rps q h O ds xs)(i:ds.length<=100000):Gv q h O I (t_ xs h) (.tup ds):=by
 have j:=r.length;refine⟨.tup xs,[],?_,?_,λ_ k f e=>by cases k<;>cases e⟩
 .unfold t_;rw[c_ (by have:=dR;lia)];simp
 .simpa using⟨xs,rfl,r⟩
def cU(a:Xs ws)(l:a.fz=I:=by exact ys rfl):Xe ws where
 m:=fF a.m
 p:=λenv s=>(a.p env s).bind λx i=>if x.length<=100000 then .ok (.lst x) i else .bad
 fz:=I
 fr:=I
 ok {q h L B O Z env s} c:=by
  refine(a.ok c).bind λx v r i j p1 ⟨_,z⟩=>?_;by_cases f:x.length<=100000
  .rw[c_ f];exact Dh j.len p1 (mE (c.kb j p1).bd (z l) f)
  .rw[f_ f];trivial
def aI(a:Xs ws)(j:a.fz=I:=by exact ys rfl):Xe ws where
 m:=j4 a.m
 p:=λenv s=>(a.p env s).bind λx i=>if x.length<=100000 then .ok (.tup x) i else .bad
 fz:=I
 fr:=I
 ok {q h L B O Z env s} c:=by
  refine(a.ok c).bind λx v r i l p1 ⟨_,z⟩=>?_;by_cases f:x.length<=100000
  .rw[c_ f];exact Dh l.len p1 (wV (z j) f)
  .rw[f_ f];trivial
def Vw.bl(w:Vw q h L O (.bl b) v):v=.bl b:=by
 rcases w with r|⟨n,k,xs,f,e,_⟩
 .exact r
 .cases k<;>cases e
def PR.bl(r:PR D):PR Bool:=r.bind λd s=>match d with
 |.bl b=>.ok b s
 |_=>.bad
@[simp]theorem Pl:(PR.ok (D.bl b) s).bl=.ok b s:=rfl
def xB(a:Xe ws):Xt ws where
 m:=mB a.m
 p:=λenv s=>(a.p env s).bl
 ok {q h L B O Z env s} c:=by
  refine(a.ok c).bind λx v f i j p1 ⟨w,_,_⟩=>?_
  cases x with
  |bl b=>rw[w.bl];exact⟨b,f,rfl,KB.refl _ _,p1,rfl⟩
  |_=>trivial
def tf(a:Xt ws):Xt ws where
 m:=uM a.m
 p:=λenv s=>(a.p env s).bind λb s=>.ok (!b) s
 ok {q h L B O Z env s} c:=(a.ok c).bind λx v f i j p1 e=>⟨!v,f,rfl,KB.refl _ _,p1,by rw[e]⟩
def i7(a b:Xt ws):Xt ws where
 m:=Iv a.m b.m
 p:=λenv s=>(a.p env s).bind λx s=>if x=I then b.p env s else .ok T s
 ok {q h L B O Z env s} c:=(a.ok c).bind λx v f j i p1 e=>by
  subst e
  cases x with
  |true=>simpa using b.ok (c.kb i p1)
  |false=>exact⟨T,f,rfl,KB.refl _ _,p1,rfl⟩
def LG(a b:Xt ws):Xt ws where
 m:=PK a.m b.m
 p:=λenv s=>(a.p env s).bind λx s=>if x=I then .ok I s else b.p env s
 ok {q h L B O Z env s} c:=(a.ok c).bind λx v f j i p1 e=>by
  subst e
  cases x with
  |false=>simpa using b.ok (c.kb i p1)
  |true=>exact⟨I,f,rfl,KB.refl _ _,p1,rfl⟩
def ix:Xt ws where
 m:=AQ
 p:=λ_ s=>.ok I s
 ok {q h L B O Z env s} c:=⟨I,h,rfl,KB.refl _ _,c.pen,rfl⟩
def Ok.after{α β:Type}{p:Nat}{h u:MH}{o:Out β}{r:PR α}{R:MH->α->β->Prop}(k:KB p h u)(q:Ok p u o r R):Ok p h o r R:=by
 cases r with
 |bad=>trivial
 |exc E C=>obtain⟨j,l,i,f⟩:=q;exact⟨j,l,k.trans i,f⟩
 |ok F C=>obtain⟨B,j,l,i,f,z⟩:=q;exact⟨B,j,l,k.trans i,f,z⟩
def G5(pn:bA h q s):Ok q h (.ok (.bl b) h) (.ok (.bl b) s) (λf d v=>Vw q f L O d v/\(I=I->Rp q f O d v)/\(I=I->Frs q l O f d v)) :=
 ⟨.bl b,h,rfl,KB.refl _ _,pn,.inl rfl,λ_=>rfl,λ_ k i e=>by cases k<;>cases e⟩
def JZ(k:Ok q h o r (λf d v=>Vw q f L O d v/\(fz=I->Rp q f O d v)/\(fr=I->Frs q l' O f d v))):
  Ok q h o (r.bl.bind λb s=>.ok (.bl b) s) (λf d v=>Vw q f L O d v/\(I=I->Rp q f O d v)/\(I=I->Frs q l O f d v)):=by
 cases r with
 |bad=>trivial
 |exc c s=>exact k
 |ok d s =>
  obtain⟨v,f,e,kb,pn,w,_,_⟩:=k
  cases d with
  |bl b=>exact⟨v,f,e,kb,pn,w,λ_=>by rw[w.bl];rfl,λ_ k i e=>by cases k<;>cases e⟩
  |_=>trivial
def lN(a b:Xe ws):Xe ws where
 m:=xu a.m b.m
 p:=λenv s=>(a.p env s).bl.bind λx s=>if x=I then(b.p env s).bl.bind λy s=>.ok (.bl y) s else .ok (.bl T) s
 fz:=I
 fr:=I
 ok {q h L B O Z env s} c:=by
  have k:=a.ok c;show Ok q h ((a.m Z h).bind _) _ _
  cases e:a.p env s with
  |bad=>trivial
  |exc x F =>
   rw[e]at k;obtain⟨i,e1,f,p1⟩:=k;rw[e1];exact⟨i,rfl,f,p1⟩
  |ok d F =>
   rw[e]at k;obtain⟨v,i,e1,f,p1,w,_,_⟩:=k
   cases d with
   |bl x =>
    rw[w.bl]at e1;rw[e1]
    cases x with
    |true =>
     exact Ok.after f (JZ (l:=h.length) (b.ok (c.kb f p1)))
    |false =>
     obtain⟨u,C,E,z,r,j⟩:=G5 (L:=L) (l:=h.length) (O:=O) (b:=T) p1;exact⟨u,C,E,f.trans z,r,j⟩
   |_=>trivial
def sR(a:Xe ws):Xe ws where
 m:=sU a.m
 p:=λenv s=>(a.p env s).bl.bind λx s=>.ok (.bl (!x)) s
 fz:=I
 fr:=I
 ok {q h L B O Z env s} c:=by
  have k:=a.ok c;show Ok q h ((a.m Z h).bind _) _ _
  cases e:a.p env s with
  |bad=>trivial
  |exc x F =>
   rw[e]at k;obtain⟨i,e1,f,p1⟩:=k;rw[e1];exact⟨i,rfl,f,p1⟩
  |ok d F =>
   rw[e]at k;obtain⟨v,i,e1,f,p1,w,_,_⟩:=k
   cases d with
   |bl x =>
    rw[w.bl]at e1;rw[e1];obtain⟨u,C,E,z,r,j⟩:=G5 (L:=L) (l:=h.length) (O:=O) (b:=!x) p1;exact⟨u,C,E,f.trans z,r,j⟩
   |_=>trivial
def oD(f g:yv)(a b e:Xe ws):Xe ws where
 m:=nU f.m g.m a.m b.m e.m
 p:=λenv s=>(a.p env s).bind λx W=>(b.p env W).bind λy E=>match f.p x y with
  |some (.bl t)=>if t=I then(e.p env E).bind λz S=>.of (g.p y z) S else .ok (.bl T) E
  |_=>.bad
 fz:=I
 fr:=T
 ok {q h L B O Z env s} c:=by
  refine(a.ok c).bind λx v h1 W M p1 ⟨w1,_,_⟩=>?_;refine(b.ok (c.kb M p1)).bind λy w l E G C ⟨Q,_,_⟩=>?_;have F:=(c.kb M p1).kb G C
  cases e1:f.p x y with
  |none=>trivial
  |some d =>
   cases d with
   |bl t =>
    obtain⟨u,i,e2,r,_⟩:=f.ok F.bd (w1.kb G c.pO c.pL) Q e1;have hu:u=.bl t:=r;subst hu;rw[e2];have j:=KB.app q l i;have H:=F.kb j C.app
    cases t with
    |true =>
     refine Ok.after j ?_;show Ok q (l++i) ((e.m Z (l++i)).bind _) _ _;refine(e.ok H).bind λz u h3 S U P ⟨X,_,_⟩=>?_
     cases e4:g.p y z with
     |none=>trivial
     |some d =>
      obtain⟨u2,g2,e5,R,_⟩:=g.ok (H.kb U P).bd ((Q.kb j c.pO c.pL).kb U c.pO c.pL) X e4;refine⟨u2,h3++g2,by rw[e5];rfl,KB.app _ _ _,P.app,.inl R,λ_=>R,λf=>by simp at f⟩
    |false=>exact⟨.bl T,l++i,rfl,j,C.app,.inl rfl,λ_=>rfl,λf=>by simp at f⟩
   |_=>trivial
end
structure Xi(ws:VQ) where
 m:Mx MIt
 p:av->iw->PR (VR)
 fz:Bool
 ok:∀{q h L B O Z env s},Cx q h L B O ws Z env s->Ok q h (m Z h) (p env s) (λh' ds it=>Rps q h' O ds it.xs/\(∀g∈it.gd,h'[g.1]?=J (.lst g.2)/\g.1≠q)/\(fz=I->∀g∈it.gd,g.1∉O))
inductive GI(q:Nat)(h:MH)(O:VQ)(ds as:VR)(xs:VL)(o:Out MIt):Prop
 |mk(it:MIt)(e:o=.ok it h)(r:Rps q h O ds it.xs)(g:∀g∈it.gd,h[g.1]?=J (.lst g.2)/\g.1≠q)(z:Rps q h O as xs->∀g∈it.gd,g.1∉O):GI q h O ds as xs o
structure Qj where
 k:VL->MH->Out MIt
 p:VR->Option (VR)
 ok:∀{q h L O as xs ds},q<L->q∈O->Bd h O->Vws q h L O as xs->p as=J ds->GI q h O ds as xs (k xs h)
def D.items:D->Option (VR)
 |.lst f=>J f
 |.tup f=>J f
 |_=>Y
@[simp]theorem LH:(D.lst ds).items=J ds:=rfl
@[simp]theorem LJ:(D.tup ds).items=J ds:=rfl
noncomputable section
variable{ws:VQ}
def bL(o:Qj)(a:Xs ws):Xi ws where
 m:=λZ h=>(a.m Z h).bind o.k
 p:=λenv s=>(a.p env s).bind λx i=>.of (o.p x) i
 fz:=a.fz
 ok {q h L B O Z env s} c:=by
  refine(a.ok c).bind λx v l i j p1 ⟨w,z⟩=>?_
  cases e:o.p x with
  |none=>trivial
  |some F =>
   obtain⟨E,e1,r,C,u⟩:=o.ok c.pL c.pO (c.kb j p1).bd w e;exact⟨E,l,e1,KB.refl _ _,p1,r,C,λf=>u (z f)⟩
def Vw.seq(G:q<L)(C:q∈O)(w:Vw q h L O d v)(e:d.items=J ds):∃xs gd,v1 v h=.ok ⟨xs,gd⟩ h/\Rps q h O ds xs/\(∀g∈gd,h[g.1]?=J (.lst g.2)/\g.1≠q)/\(Rp q h O d v->∀g∈gd,g.1∉O):=by
 have one:∀n xs,h[n]?=J (MO.lst xs)->n≠q->(∀g∈[(n,xs)],h[g.1]?=J (MO.lst g.2)/\g.1≠q):=λn xs g u y f=>by
  have:y=(n,xs):=by simpa using f
  subst this;exact⟨g,u⟩
 cases d with
 |lst j =>
  have:j=ds:=by simpa using e
  subst this;rcases w with⟨n,xs,e1,no,g,r⟩|⟨n,B,xs,i,l,e1,_,u,g,r⟩
  .subst e1;refine⟨xs,[(n,xs)],by simp only[v1,g],r,one n xs g (λz=>no (z▸C)),λ_ y f=>?_⟩
   have:y=(n,xs):=by simpa using f
   subst this;exact no
  .obtain⟨rfl,rfl⟩:=iU l;subst e1;replace g:h[n]?=J (.lst xs):=g;refine⟨xs,[(n,xs)],by simp only[v1,g],r,one n xs g ⋯,λ⟨F,E,e1,no,_,_⟩ y f=>?_⟩
   grind
 |tup j =>
  have:j=ds:=by simpa using e
  subst this;rcases w with⟨xs,e1,r⟩|⟨n,B,xs,i,l,_⟩
  .subst e1;exact⟨xs,[],rfl,r,(λ_ f=>nomatch f),λ_ _ f=>nomatch f⟩
  .cases B<;>cases l
 |_=>simp[D.items]at e
def aY(a:Xe ws):Xi ws where
 m:=jz a.m
 p:=λenv s=>(a.p env s).bind λx i=>.of x.items i
 fz:=a.fz
 ok {q h L B O Z env s} c:=by
  refine(a.ok c).bind λx v j i C p1 ⟨w,z,_⟩=>?_
  cases e:x.items with
  |none=>trivial
  |some E =>
   obtain⟨xs,gd,e1,r,u,l⟩:=w.seq c.pL c.pO e;exact⟨⟨xs,gd⟩,j,e1,KB.refl _ _,p1,r,u,λf=>l (z f)⟩
structure Xg(ws:VQ) where
 m:Mg
 p:D->av->Option av
 ok:∀{q h L O Z env d v env'},SR q h L O ws Z env->Rp q h O d v->p d env=J env'->∃Z',m v Z h=.nx Z' h/\SR q h L O ws Z' env'/\∀i∈ws,Z'[i]?=Z[i]?/\env'[i]?=env[i]?
structure G6(ws:VQ) where
 m:EI
 p:VR->av->Option av
 ok:∀{q h L O Z env ds vs env'},SR q h L O ws Z env->Rps q h O ds vs->p ds env=J env'->∃Z',m vs Z h=.nx Z' h/\SR q h L O ws Z' env'/\∀i∈ws,Z'[i]?=Z[i]?/\env'[i]?=env[i]?
def SR.set(r:SR q h L O ws Z env)(E:i∉ws)(w:Rp q h O d v):SR q h L O ws (Z.set i (J v)) (env.set i (J d))/\∀j∈ws,(Z.set i (J v))[j]?=Z[j]?/\(env.set i (J d))[j]?=env[j]?:=by
 have ne:∀j∈ws,i≠j:=λj f z=>E (z▸f);refine⟨⟨by simp[r.len],λj e f l=>?_,λj e f l=>?_⟩,λj f=>⟨pc (ne j f),pc (ne j f)⟩⟩
 .by_cases z:i=j
  .subst z;have C:i<env.length:=by
    have:=(qt.mp f).1;simpa using this
   rw[yw C]at f;cases f;exact⟨v,yw (by rw[r.len];exact C),w⟩
  .rw[pc z]at f;obtain⟨u,e1,H⟩:=r.fz j e f l
   simp_all
 .rw[pc (ne j l)]at f;obtain⟨n,G,xs,F,e1,e2,B⟩:=r.ow j e f l;exact⟨n,G,xs,F,e1,by rw[pc (ne j l)];exact e2,B⟩
def i_(i:Nat)(j:ws.contains i=T:=by exact ys rfl):Xg ws where
 m:=EH i
 p:=λd env=>J (env.set i (J d))
 ok {q h L O Z env d v env'} r w e:=by
  cases e;have f:i∉ws:=λz=>by simp[z]at j
  obtain⟨a,b⟩:=r.set f w;exact⟨_,rfl,a,b⟩
def Bi:G6 ws where
 m:=RB
 p:=λf env=>match f with
  |[]=>J env
  |_=>Y
 ok {q h L O Z env f vs env'} r w e:=by
  cases f with
  |nil =>
   cases e
   have:vs=[]:=w
   subst this;exact⟨Z,rfl,r,λ_ _=>⟨rfl,rfl⟩⟩
  |cons _ _=>cases e
def pu(a:Xg ws)(t:G6 ws):G6 ws where
 m:=PL a.m t.m
 p:=λj env=>match j with
  |d::j=>(a.p d env).bind λf=>t.p j f
  |[]=>Y
 ok {q h L O Z env j vs env'} r w e:=by
  cases j with
  |nil=>cases e
  |cons d j =>
   obtain⟨x,y,rfl,G,E⟩:=w;dsimp only at e
   cases e1:a.p d env with
   |none=>rw[e1]at e;cases e
   |some f =>
    rw[e1]at e;obtain⟨P,H,M,z⟩:=a.ok r G e1;obtain⟨B,C,F,u⟩:=t.ok M E e;exact⟨B,by show(a.m x Z h).then (t.m y)=_;rw[H];exact C,F,λi l=>⟨(u i l).1.trans (z i l).1,(u i l).2.trans (z i l).2⟩⟩
def Bn(t:G6 ws)(n:Nat):Xg ws where
 m:=PM t.m n
 p:=λd env=>match d with
  |.tup f=>if f.length=n then t.p f env else Y
  |_=>Y
 ok {q h L O Z env d v env'} r w e:=by
  cases d with
  |tup f =>
   obtain⟨xs,rfl,w⟩:=w;dsimp only at e;by_cases z:f.length=n
   .rw[c_ z]at e;obtain⟨i,a,b⟩:=t.ok r w e;exact⟨i,by show(if xs.length=n then t.m xs Z h else .bad)=_;rw[c_ (by rw[w.length];exact z)];exact a,b⟩
   .rw[f_ z]at e;cases e
  |_=>cases e
def Dn(f:Nat)(fm ws:VQ):VQ:=((List.range fm.length).filter λj=>ws.contains (fm.getD j 0)).map (f+·)
def wx(f:Nat)(fm:VQ)(env:av):av:=List.replicate f Y++fm.map λi=>(env[i]?).getD Y
def PR.ne{α:Type}(r:PR α):PR α:=match r with
 |.exc _ _=>.bad
 |r=>r
@[simp]theorem PR.ne_ok(a:α)(s:iw):(PR.ok a s).ne=.ok a s:=rfl
def fe(g:D->av->Option av)(t:av->iw->PR Bool)(e:av->iw->PR D):VR->av->iw->PR (VR)
 |[],_,s=>.ok [] s
 |d::j,env,s=>match g d env with
  |none=>.bad
  |some f=>(t f s).bind λb i=>if b=I then(e f i).bind λx u=>(fe g t e j f u).bind λr l=>.ok (x::r) l else fe g t e j f i
def NQ{f:Nat}{fm:VQ}{α:Type}{env:List (Option α)}{i:Nat}{d:α}(e:(List.replicate f Y++fm.map λi=>(env[i]?).getD Y)[i]?=J (J d)):∃j k,i=f+j/\fm[j]?=J k/\env[k]?=J (J d):=by
 by_cases z:i<f
 .rw[sd (by simpa using z)]at e;simp[z]at e
 .rw[C5 (by simp;lia)]at e;simp only[L4,vu]at e
  cases l:fm[i-f]? with
  |none=>rw[l]at e;cases e
  |some k =>
   rw[l]at e;simp only[Me]at e;refine⟨i-f,k,⋯,l,?_⟩
   cases r:env[k]? with
   |none=>rw[r]at e;cases e
   |some o=>rw[r]at e;simp at e;rw[e]
def NR{f:Nat}{fm:VQ}{α:Type}{Z:List (Option α)}{j k:Nat}{v:α}(e1:fm[j]?=J k)(e2:Z[k]?=J (J v)):(List.replicate f Y++fm.map λi=>(Z[i]?).getD Y)[f+j]?=J (J v):=by rw[C5 (by simp)];simp[e1,e2]
def wP(e:fm[j]?=J k):nv+j∈Dn nv fm ws↔k∈ws:=by
 have f:=(qt.mp e).1;unfold Dn
 simp_all
def SR.comp{q:Nat}{h:MH}{L:Nat}{O:VQ}{Z:mh}{env:av}(l:Nat)(fm:VQ)(r:SR q h L O ws Z env):SR q h L O (Dn l fm ws) (DB l fm Z) (wx l fm env):=by
 refine⟨by simp[DB,wx],λi d e f=>?_,λi d e f=>?_⟩
 .obtain⟨j,k,rfl,e1,e2⟩:=NQ e;obtain⟨v,e3,w⟩:=r.fz k d e2 λz=>f ((wP e1).mpr z);exact⟨v,NR e1 e3,w⟩
 .obtain⟨j,k,rfl,e1,e2⟩:=NQ e;obtain⟨n,C,xs,u,B,e3,w⟩:=r.ow k d e2 ((wP e1).mp f);exact⟨n,C,xs,u,B,NR e1 e3,w⟩
def J0(gt:Xg C)(t:Xt C)(e:Xe C)(hz:e.fz=I)(hq:q<h1.length)(gd:∀g∈it.gd,h1[g.1]?=J (.lst g.2)/\g.1≠q):
  ∀(S:VR)(xs:VL)(env:av)(Z:mh)(h:MH)(u:VR)(j:VL)(s:iw)(r:VR)(s':iw),(∀i∈C,∀d,env[i]?=J (J d)->∀n,Z[i]?=J (J (.loc n))->n<h1.length)->KB q h1 h->Cx q h L B (h1.length::O) C Z env s->Rps q h (h1.length::O) S xs->h[h1.length]?=J (.lst j)->Rps q h (h1.length::O) u j->u.length+S.length<=100000 ->
  fe gt.p t.p e.p S env s=.ok r s'->∃E W,z_ it h1.length gt.m t.m e.m xs Z h=.ok () E/\KB q h1 E/\bA E q s'/\E[h1.length]?=J (.lst W)/\Rps q E (h1.length::O) (u++r) W:=by
 intro S
 induction S with
 |nil =>
  intro xs env Z h u j s r s' on kb c rx ga ra hl f
  have:xs=[]:=rx
  subst this;cases f;have ok:it.ok h:=λg Q=>(kb.keep _ (aU (gd g Q).1) (gd g Q).2).trans (gd g Q).1;exact⟨h,j,by rw[z_,c_ ok],kb,c.pen,ga,by simpa using ra⟩
 |cons d S ih =>
  intro xs env Z h u j s r s' on kb c rx ga ra hl f;obtain⟨x,xr,rfl,r1,r2⟩:=rx;have ok:it.ok h:=λg Q=>(kb.keep _ (aU (gd g Q).1) (gd g Q).2).trans (gd g Q).1;rw[fe]at f
  cases eg:gt.p d env with
  |none=>rw[eg]at f;cases f
  |some l =>
   rw[eg]at f;dsimp only at f;obtain⟨Z1,f1,ap,k1⟩:=gt.ok c.sr r1 eg;have R:∀i∈C,∀d,l[i]?=J (J d)->∀n,Z1[i]?=J (J (.loc n))->n<h1.length:=λi P d e n z=>on i P d ((k1 i P).2▸e) n ((k1 i P).1▸z);have c1:Cx q h L B (h1.length::O) C Z1 l s:=⟨c.bd,c.sub,c.bb,c.pb,c.hL,c.pen,ap⟩;have kt:=t.ok c1
   cases et:t.p l s with
   |bad=>rw[et]at f;cases f
   |exc _ _=>rw[et]at f;cases f
   |ok b s1 =>
    rw[et]at f kt;obtain⟨b',h2,f2,k2,p2,eb⟩:=kt;subst eb;have c2:=c1.kb k2 p2;have F:Mv (h1.length::O) h (h1.length::O) h2:=k2.mv c.pO;have hn:h1.length<h.length:=aU ga;have U:h2[h1.length]?=J (.lst j):=(k2.keep _ hn ⋯).trans ga;rw[Pb]at f
    cases b with
    |false =>
     rw[f_ (by simp)]at f;obtain⟨E,W,a1,a2⟩:=ih xr l Z1 h2 u j s1 r s' R (kb.trans k2) c2 (r2.mv F) U (ra.mv F) (by simp at hl;lia) f;refine⟨E,W,?_,a2⟩;rw[z_,c_ ok,f1];simp only[f2,Out.ne_ok,Out.bind_ok,sf,if_false];exact a1
    |true =>
     rw[c_ rfl]at f;have ke:=e.ok c2
     cases ee:e.p l s1 with
     |bad=>rw[ee]at f;cases f
     |exc _ _=>rw[ee]at f;cases f
     |ok y s2 =>
      rw[ee]at f ke;obtain⟨v,H,f3,k3,p3,_,rv,_⟩:=ke;have rv:=rv hz;have M:=c2.kb k3 p3;have ab:Mv (h1.length::O) h2 (h1.length::O) H:=k3.mv c.pO;have an:H[h1.length]?=J (.lst j):=(k3.keep _ (aU U) ⋯).trans U;have G:Mv (h1.length::O) H (h1.length::O) (H.set h1.length (.lst (j++[v]))) :=
       ⟨λn hn no=>pc (λz=>no (by simp[z])),λo ho=>.inl ho⟩
      have Gs:Rps q H (h1.length::O) (u++[y]) (j++[v]):=((ra.mv F).mv ab).app ⟨v,[],rfl,rv,rfl⟩;rw[Pb]at f
      cases er:fe gt.p t.p e.p S l s2 with
      |bad=>rw[er]at f;cases f
      |exc _ _=>rw[er]at f;cases f
      |ok r' s3 =>
       rw[er]at f;cases f;have X:KB q h1 H:=(kb.trans k2).trans k3;have c4:Cx q (H.set h1.length (.lst (j++[v]))) L B (h1.length::O) C Z1 l s2:=by
        refine⟨λo ho=>by simpa using M.bd o ho,M.sub,M.bb,M.pb,by simpa using M.hL,?_,?_⟩
        .unfold bA;rw[pc ⋯];exact p3
        .refine⟨M.sr.len,λi d e P=>let⟨v,e1,q1⟩:=M.sr.fz i d e P;⟨v,e1,q1.mv G⟩,λi d e P=>?_⟩;obtain⟨n,kd,ys,es,b1,b2,b3,b4,b5,b6⟩:=M.sr.ow i d e P;have z:=R i P d e n b2;exact⟨n,kd,ys,es,b1,b2,b3,b4,by rw[pc ⋯];exact b5,b6.mv G⟩
       obtain⟨E,W,a1,a2,a3,a4,a5⟩:=ih xr l Z1 (H.set h1.length (.lst (j++[v]))) (u++[y]) (j++[v]) s2 r' _ R ⟨by simpa using X.len,λn hn hp=>by rw[pc ⋯];exact X.keep n hn hp⟩ c4 (((r2.mv F).mv ab).mv G) (yw (aU an)) (Gs.mv G) (by simp at hl ⊢;lia) er;refine⟨E,W,?_,a2,a3,a4,by simpa using a5⟩;rw[z_,c_ ok,f1];simp only[f2,Out.ne_ok,Out.bind_ok,if_true,f3,an];rw[c_ (by have:=dR;have:=ra.length;simp at hl;lia)];exact a1
def aG(j:Nat)(fm:VQ)(i:Xi ws){ws':VQ}(g:Xg ws')(t:Xt ws')(e:Xe ws')(hw:Dn j fm ws=ws':=by exact ys rfl)(hz:e.fz=I:=by exact ys rfl):Xe ws where
 m:=fJ j fm i.m g.m t.m e.m
 p:=λenv s=>(i.p env s).bind λC E=>if C.length<=100000 then (match fe g.p t.p e.p C (wx j fm env) E with
  |.ok r M=>.ok (.lst r) M
  |_=>.bad)else .bad
 fz:=I
 fr:=I
 ok {q h L B O Z env s} c:=by
  subst hw;refine(i.ok c).bind λC it l E P p1 ⟨X,gd,_⟩=>?_;have F:=c.kb P p1;by_cases G:C.length<=100000
  .rw[c_ G]
   cases er:fe g.p t.p e.p C (wx j fm env) E with
   |bad=>trivial
   |exc _ _=>trivial
   |ok r M =>
    have mv:Mv O l (l.length::O) (l++[MO.lst []]):=⟨λn H _=>sd H,λo u=>by
     rcases lb.mp u with z|z
     .exact .inr ⋯
     .exact .inl z⟩
    have sr:=(F.sr.comp j fm).mv mv (λo u=>m_ _ u) λn H _ _=>sd H;have S:Cx q (l++[MO.lst []]) L B (l.length::O) (Dn j fm ws) (DB j fm Z) (wx j fm env) E:=by
     refine⟨λo u=>?_,λo u=>m_ _ (c.sub o u),c.bb,c.pb,by have:=F.hL;simp;lia,p1.app,sr⟩;rcases lb.mp u with z|z
     .subst z;simp
     .have:=F.bd o z;simp;lia
    have hq:q<l.length:=aU p1
    obtain⟨Q,zs,a1,a2,a3,W,a5⟩:=J0 g t e hz (L:=L) (B:=B) (O:=O) hq gd C it.xs (wx j fm env) (DB j fm Z) (l++[MO.lst []]) [] [] E r M (λi hi d U n en=>by
     obtain⟨n',_,_,_,_,b2,_,_,b5,_⟩:=(F.sr.comp j fm).ow i d U hi;rw[b2]at en;cases en
     exact aU b5) (KB.app _ _ _) S (X.mv mv) (by simp) rfl (by simpa using G) er
    have f:Frs q h.length O Q (.lst r) (.loc l.length):=λk C e=>by
     obtain⟨rfl,rfl⟩:=iU e;exact⟨_,zs,rfl,P.len,W,by simpa using a5⟩
    have R:=f.rp (k:=Y) c.bd rfl;exact⟨.loc l.length,Q,by show(z_ _ _ _ _ _ _ _ _).bind _=_;rw[a1];rfl,a2,a3,.inl R,λ_=>R,λ_=>f⟩
  .rw[f_ G];trivial
end
inductive PS where
 |nx(e:av)(s:iw)
 |rt(d:D)(s:iw)
 |bk(e:av)(s:iw)
 |ct(e:av)(s:iw)
 |exc(c:Str)(e:av)(s:iw)
 |rse(c:Str)(e:av)(s:iw)
 |bad
structure Stp(q L:Nat)(h:MH)(O:VQ)(h':MH)(O':VQ):Prop where
 len:h.length<=h'.length
 mv:Mv O h O' h'
 sub:∀o∈O,o∈O'
 base:∀n:Nat,n<L->n≠q->h'[n]?=h[n]?
def Stp.refl(q L:Nat)(h:MH)(O:VQ):Stp q L h O h O:=⟨ii _,⟨λ_ _ _=>rfl,λ_ h=>.inl h⟩,λ_ h=>h,λ_ _ _=>rfl⟩
def Stp.trans(a:Stp q L h O h1 O1)(b:Stp q L h1 O1 h2 O2):Stp q L h O h2 O2:=by
 refine⟨o0 a.len b.len,⟨λn f no=>?_,λo i=>?_⟩,λo i=>b.sub o (a.sub o i),λn f j=>(b.base n f j).trans (a.base n f j)⟩
 .have l:n∉O1:=λz=>by
   rcases a.mv.new n z with q|q
   .exact no q
   .lia
  exact(b.mv.keep n (pq f a.len) l).trans (a.mv.keep n f no)
 .rcases b.mv.new o i with z|z
  .exact a.mv.new o z
  .exact .inr (o0 a.len z)
def Dis(f:VQ)(Z:mh)(env:av):Prop:=∀i j,i∈f->j∈f->i≠j->∀d l n,env[i]?=J (J d)->env[j]?=J (J l)->Z[i]?=J (J (.loc n))->Z[j]?≠J (J (.loc n))
inductive Nxt(q L:Nat)(h:MH)(B O ws:VQ)(Z':mh)(h':MH)(env:av)(s:iw):Prop
 |mk(O':VQ)(a:Stp q L h O h' O')(c:Cx q h' L B O' ws Z' env s)(d:Dis ws Z' env):Nxt q L h B O ws Z' h' env s
inductive LK(q L:Nat)(h:MH)(B O ws:VQ)(f:mh->MH->SOut)(o:SOut)(env:av)(s:iw):Prop
 |mk(Z':mh)(h':MH)(e:o=f Z' h')(n:Nxt q L h B O ws Z' h' env s):LK q L h B O ws f o env s
inductive UF(q L:Nat)(h:MH)(B:VQ)(fr:Bool)(o:SOut)(d:D)(s:iw):Prop
 |mk(v:PV)(h':MH)(e:o=.rt v h')(l:h.length<=h'.length)(b:∀n:Nat,n<L->n≠q->h'[n]?=h[n]?)(p:bA h' q s)(r:Rp q h' B d v)(f:fr=I->Frs q L B h' d v):UF q L h B fr o d s
def SOk(q L:Nat)(h:MH)(B O f:VQ)(fr:Bool)(o:SOut)(r:PS):Prop:=match r with
 |.nx env s=>LK q L h B O f .nx o env s
 |.bk env s=>LK q L h B O f .bk o env s
 |.ct env s=>LK q L h B O f .ct o env s
 |.exc c env s=>LK q L h B O f (.exc ⟨c,[]⟩) o env s
 |.rse c env s=>LK q L h B O f (.rse ⟨c,[]⟩) o env s
 |.rt d s=>UF q L h B fr o d s
 |.bad=>True
structure Xd(ws:VQ) where
 m:l_
 p:av->iw->PS
 fr:Bool
 ok:∀{q h L B O Z env s},Cx q h L B O ws Z env s->Dis ws Z env->SOk q L h B O ws fr (m Z h) (p env s)
def Nxt.after(a:Stp q L h O h1 O1)(n:Nxt q L h1 B O1 ws Z' h' env s):Nxt q L h B O ws Z' h' env s :=
 let⟨f,b,c,d⟩:=n;⟨f,a.trans b,c,d⟩
def SOk.after(a:Stp q L h O h1 O1)(k:SOk q L h1 B O1 ws fr o r):SOk q L h B O ws fr o r:=by
 cases r with
 |nx env s=>obtain⟨i,f,e,n⟩:=k;exact⟨i,f,e,n.after a⟩
 |bk env s=>obtain⟨i,f,e,n⟩:=k;exact⟨i,f,e,n.after a⟩
 |ct env s=>obtain⟨i,f,e,n⟩:=k;exact⟨i,f,e,n.after a⟩
 |exc c env s=>obtain⟨i,f,e,n⟩:=k;exact⟨i,f,e,n.after a⟩
 |rse c env s=>obtain⟨i,f,e,n⟩:=k;exact⟨i,f,e,n.after a⟩
 |rt d s=>obtain⟨v,f,e,l,b,E,C,z⟩:=k;exact⟨v,f,e,o0 a.len l,λn u j=>(b n u j).trans (a.base n u j),E,C,z⟩
 |bad=>trivial
def SOk.fr(hf:f'=I->f=I)(k:SOk q L h B O ws f o r):SOk q L h B O ws f' o r:=by
 cases r with
 |rt d s=>obtain⟨v,i,e,l,b,p,r,z⟩:=k;exact⟨v,i,e,l,b,p,r,λy=>z (hf y)⟩
 |nx env s=>exact k
 |bk env s=>exact k
 |ct env s=>exact k
 |exc c env s=>exact k
 |rse c env s=>exact k
 |bad=>trivial
def KB.stp(c:Cx q h L B O ws Z env s)(k:KB q h h'):Stp q L h O h' O :=
 ⟨k.len,k.mv c.pO,λ_ h=>h,λn i f=>k.keep n (pq i c.hL) f⟩
def PR.go{α:Type}(r:PR α)(env:av)(k:α->av->iw->PS):PS:=match r with
 |.ok a s=>k a env s
 |.exc c s=>.exc c env s
 |.bad=>.bad
@[simp]theorem Pg(a:α)(s:iw)(env:av)(k:α->av->iw->PS):(PR.ok a s).go env k=k a env s:=rfl
@[simp]theorem PR.go_exc(c:Str)(s:iw)(env:av)(k:α->av->iw->PS):(PR.exc c s:PR α).go env k=.exc c env s:=rfl
@[simp]theorem PR.go_bad(env:av)(k:α->av->iw->PS):(PR.bad:PR α).go env k=.bad:=rfl
theorem SOk.ex{α β:Type}{q L:Nat}{h:MH}{B O j:VQ}{fr:Bool}{Z:mh}{env:av}{s:iw}{o:Out β}{r:PR α}{R:MH->α->β->Prop}{f:β->l_}{g:α->av->iw->PS}(c:Cx q h L B O j Z env s)(d:Dis j Z env)(k:Ok q h o r R)(n:∀a b i l,KB q h i->Cx q i L B O j Z env l->R i a b->SOk q L i B O j fr (f b Z i) (g a env l)):
  SOk q L h B O j fr (o.go Z f) (r.go env g):=by
 cases r with
 |ok a l =>
  obtain⟨b,i,rfl,kb,pn,u⟩:=k;exact(n a b i l kb (c.kb kb pn) u).after (kb.stp c)
 |exc x l =>
  obtain⟨i,rfl,kb,pn⟩:=k;exact⟨Z,i,rfl,O,kb.stp c,c.kb kb pn,d⟩
 |bad=>trivial
noncomputable section
variable{ws:VQ}
def PS.then(r:PS)(k:av->iw->PS):PS:=match r with
 |.nx env s=>k env s
 |r=>r
@[simp]theorem aq:(PS.nx env s).then k=k env s:=rfl
@[simp]theorem then_rt:(PS.rt d s).then k=.rt d s:=rfl
@[simp]theorem then_bk:(PS.bk env s).then k=.bk env s:=rfl
@[simp]theorem then_ct:(PS.ct env s).then k=.ct env s:=rfl
@[simp]theorem Cu:(PS.exc c env s).then k=.exc c env s:=rfl
@[simp]theorem Bp:(PS.rse c env s).then k=.rse c env s:=rfl
@[simp]theorem BH:PS.bad.then k=.bad:=rfl
def aB(a b:Xd ws):Xd ws where
 m:=aL a.m b.m
 p:=λenv s=>(a.p env s).then b.p
 fr:=a.fr&&b.fr
 ok {q h L B O Z env s} c d:=by
  have k:=a.ok c d;show SOk q L h B O ws _ ((a.m Z h).then b.m) _
  cases e:a.p env s with
  |nx i u =>
   rw[e]at k;obtain⟨Q,P,e1,R,st,C,F⟩:=k;rw[e1];exact((b.ok C F).fr (by simp)).after st
  |rt x u=>rw[e]at k;obtain⟨v,j,e1,M,H,z,E,G⟩:=k;rw[e1];exact SOk.fr (f:=a.fr) (by simp;exact λh _=>h) (show SOk q L h B O ws a.fr (.rt v j) (.rt x u) from⟨v,j,rfl,M,H,z,E,G⟩)
  |bk i u=>rw[e]at k;obtain⟨l,j,e1,r⟩:=k;rw[e1];exact⟨l,j,rfl,r⟩
  |ct i u=>rw[e]at k;obtain⟨l,j,e1,r⟩:=k;rw[e1];exact⟨l,j,rfl,r⟩
  |exc x i u=>rw[e]at k;obtain⟨l,j,e1,r⟩:=k;rw[e1];exact⟨l,j,rfl,r⟩
  |rse x i u=>rw[e]at k;obtain⟨l,j,e1,r⟩:=k;rw[e1];exact⟨l,j,rfl,r⟩
  |bad=>trivial
def i0:Xd ws where
 m:=mm
 p:=.nx
 fr:=I
 ok {q h L B O Z env s} c d:=⟨Z,h,rfl,O,Stp.refl _ _ _ _,c,d⟩
def J1{m:Mx PV}{Z:mh}{h:MH}:b9 m Z h=(m Z h).go Z λv _ f=>.rt v f:=by unfold b9;cases m Z h<;>rfl
def bo(e:Xe ws):Xd ws where
 m:=b9 e.m
 p:=λenv s=>(e.p env s).go env λd _ s=>.rt d s
 fr:=e.fr
 ok {q h L B O Z env s} c d:=by
  rw[J1];refine SOk.ex (f:=λv _ G=>.rt v G) (g:=λd _ s=>.rt d s) c d (e.ok c) λx v r M kb i ⟨w,z,f⟩=>?_;refine⟨v,r,rfl,ii _,λ_ _ _=>rfl,i.pen,w.base i.sub i.bb,λy=>?_⟩;intro k u j;obtain⟨n,xs,F,H,C,l⟩:=f y k u j
  have:=c.hL
  exact⟨n,xs,F,⋯,C,l.mv ⟨λ_ _ _=>rfl,λo E=>.inl (by
   rcases lb.mp E with z|z
   .subst z;simp
   .exact m_ _ (c.sub o z))⟩⟩
def oX(i:Nat)(E:ws.contains i=I:=by exact ys rfl):Xd ws where
 m:=b9 (af i)
 p:=λenv s=>match env[i]? with
  |some (J d)=>.rt d s
  |_=>.bad
 fr:=I
 ok {q h L B O Z env s} c d:=by
  show SOk q L h B O ws _ _ (match env[i]? with|some (J d)=>PS.rt d s|_=>.bad)
  cases e:env[i]? with
  |none=>trivial
  |some o =>
   cases o with
   |none=>trivial
   |some x =>
    obtain⟨n,l,xs,C,e1,e2,a,b,g,r⟩:=c.sr.ow i x e (by simpa using E);subst e1
    have F:Mv O h (n::B) h:=⟨λ_ _ _=>rfl,λo G=>.inl (by
     rcases lb.mp G with z|z
     .subst z;exact a
     .exact c.sub o z)⟩
    have f:Frs q L B h (dl l C) (.loc n):=λu j e=>by
     have:u=l/\j=C:=by cases l<;>cases u<;>cases e<;>exact⟨rfl,rfl⟩
     obtain⟨rfl,rfl⟩:=this;exact⟨n,xs,rfl,b,g,r.mv F⟩
    refine⟨.loc n,h,by simp[b9,af,e2],ii _,λ_ _ _=>rfl,c.pen,f.rp c.bb rfl,λ_=>f⟩
def fS(e:Xe ws):Xd ws where
 m:=km e.m
 p:=λenv s=>(e.p env s).go env λ_=>.nx
 fr:=I
 ok {q h L B O Z env s} c d:=SOk.ex (f:=λ_=>mm) (g:=λ_=>.nx) c d (e.ok c) λx v i l kb j _=>⟨Z,i,rfl,O,Stp.refl _ _ _ _,j,d⟩
def ul(t:Xt ws)(a b:Xd ws):Xd ws where
 m:=CK t.m a.m b.m
 p:=λenv s=>(t.p env s).go env λx env s=>if x=I then a.p env s else b.p env s
 fr:=a.fr&&b.fr
 ok {q h L B O Z env s} c d:=SOk.ex (f:=λx=>if x=I then a.m else b.m) (g:=λx env s=>if x=I then a.p env s else b.p env s) c d (t.ok c) λx v j l kb i e=>by
  subst e
  cases x with
  |true=>exact(a.ok i d).fr (by simp;exact λh _=>h)
  |false=>exact(b.ok i d).fr (by simp)
def Dis.keep(d:Dis ws Z env)(k:∀i∈ws,Z'[i]?=Z[i]?/\env'[i]?=env[i]?):Dis ws Z' env':=λi j l f ne x y n a b e=>by
 rw[(k i l).1]at e;rw[(k i l).2]at a;rw[(k j f).2]at b;rw[(k j f).1];exact d i j l f ne x y n a b e
def bf(i:Nat)(e:Xe ws)(r:ws.contains i=T:=by exact ys rfl)(u:e.fz=I:=by exact ys rfl):Xd ws where
 m:=bG i e.m
 p:=λenv s=>(e.p env s).go env λd env s=>.nx (env.set i (J d)) s
 fr:=I
 ok {q h L B O Z env s} c d:=by refine SOk.ex (f:=λv Z h=>.nx (Z.set i (J v)) h) (g:=λd env s=>.nx (env.set i (J d)) s) c d (e.ok c) λx v l C kb j ⟨_,z,_⟩=>?_;obtain⟨a,b⟩:=j.sr.set (i:=i) (λz=>by simp[z]at r) (z u);exact⟨_,l,rfl,O,Stp.refl _ _ _ _,⟨j.bd,j.sub,j.bb,j.pb,j.hL,j.pen,a⟩,d.keep b⟩
def gE(i:Nat)(e:Xe ws)(hi:ws.contains i=I:=by exact ys rfl)(hz:e.fr=I:=by exact ys rfl):Xd ws where
 m:=bG i e.m
 p:=λenv s=>(e.p env s).go env λd env s=>match d with
  |.lst l=>.nx (env.set i (J (.lst l))) s
  |.dic S l=>.nx (env.set i (J (.dic S l))) s
  |_=>.bad
 fr:=I
 ok {q h L B O Z env s} c d:=by
  show SOk q L h B O ws _ _ _;have k:=e.ok c;show SOk q L h B O ws _ ((e.m Z h).go Z λv Z h=>.nx (Z.set i (J v)) h) _
  cases ee:e.p env s with
  |bad=>trivial
  |exc x s1 =>
   rw[ee]at k;obtain⟨M,e1,kb,pn⟩:=k;rw[e1];exact⟨Z,M,rfl,O,kb.stp c,c.kb kb pn,d⟩
  |ok x s1 =>
   rw[ee]at k;obtain⟨v,M,e1,kb,pn,_,_,f⟩:=k;rw[e1];have own:∀H l,x=dl H l->SOk q L h B O ws I ((Out.ok v M).go Z λv Z h=>.nx (Z.set i (J v)) h) (.nx (env.set i (J (dl H l))) s1):=by
    rintro H l rfl;obtain⟨n,xs,rfl,hn,g,r⟩:=f hz H l rfl;have c1:=c.kb kb pn;have X:i∈ws:=by simpa using hi
    have mv:Mv O h (n::O) M:=⟨λm P no=>kb.keep m P λz=>no (z▸c.pO),λo C=>by
     rcases lb.mp C with z|z
     .exact .inr ⋯
     .exact .inl z⟩
    have W:n∉O:=λz=>by have:=c.bd n z;lia
    refine⟨Z.set i (J (.loc n)),M,rfl,n::O,⟨kb.len,mv,λo C=>m_ _ C,λm P hq=>kb.keep m (pq P c.hL) hq⟩,⟨λo C=>?_,λo C=>m_ _ (c.sub o C),c.bb,c.pb,c1.hL,pn,?_⟩,?_⟩
    .rcases lb.mp C with z|z
     .subst z;exact aU g
     .exact c1.bd o z
    .have sr:=c.sr.mv mv (λo C=>m_ _ C) λm P E _=>kb.keep m P (by have:=c.pL;lia);refine⟨by simp[sr.len],λj x u F=>?_,λj x u F=>?_⟩
     .have ne:i≠j:=λz=>F (z▸X);rw[pc ne]at u;rw[pc ne];exact sr.fz j x u F
     .by_cases z:i=j
      .subst z;have E:i<env.length:=by have:=(qt.mp u).1;simpa using this
       rw[yw E]at u;cases u;exact⟨n,H,xs,l,rfl,yw (by rw[sr.len];exact E),by simp,by have:=c.hL;lia,g,r⟩
      .rw[pc z]at u;rw[pc z];exact sr.ow j x u F
    .have old:∀j d,j∈ws->i≠j->(env.set i (J (dl H l)))[j]?=J (J d)->(Z.set i (J (.loc n)))[j]?≠J (J (.loc n)):=λj d F ne u z=>by
      rw[pc ne]at u z;obtain⟨n',_,_,_,_,b2,b3,_⟩:=c.sr.ow j d u F;rw[z]at b2;cases b2;exact W b3
     intro a b ha hb ne x y m Q U G;by_cases R:i=a
     .subst R;have E:i<Z.length:=by have:=(qt.mp G).1;simpa using this
      rw[yw E]at G;cases G;exact old b y hb ne U
     .by_cases z2:i=b
      .subst z2;intro z;have E:i<Z.length:=by have:=(qt.mp z).1;simpa using this
       rw[yw E]at z;cases z;exact old a x ha R Q G
      .rw[pc R]at Q G;rw[pc z2]at U ⊢;exact d a b ha hb ne x y m Q U G
   cases x with
   |lst l=>exact own Y l rfl
   |dic S l=>exact own (J S) l rfl
   |_=>trivial
end
end PU
namespace PU
open MM
open L2 (wk)
noncomputable section
variable{ws:VQ}
def PS.turn(r:PS)(k:av->iw->PS):PS:=match r with
 |.nx e s=>k e s
 |.ct e s=>k e s
 |.bk e s=>.nx e s
 |r=>r
@[simp]theorem Qk:(PS.nx e s).turn k=k e s:=rfl
@[simp]theorem Ql:(PS.ct e s).turn k=k e s:=rfl
@[simp]theorem Qm:(PS.bk e s).turn k=.nx e s:=rfl
@[simp]theorem Qn:(PS.rt d s).turn k=.rt d s:=rfl
@[simp]theorem Cg:(PS.exc c e s).turn k=.exc c e s:=rfl
@[simp]theorem A5:(PS.rse c e s).turn k=.rse c e s:=rfl
@[simp]theorem NS:PS.bad.turn k=.bad:=rfl
def CP(g:D->av->Option av)(b:av->iw->PS):VR->av->iw->PS
 |[],env,s=>.nx env s
 |d::i,env,s=>match g d env with
  |none=>.bad
  |some f=>(b f s).turn (CP g b i)
def J2(g:Xg ws)(b:Xd ws):∀(F:VR)(xs:VL)(env:av)(Z:mh)(h:MH)(O:VQ)(s:iw),Cx q h L B O ws Z env s->Dis ws Z env->Rps q h O F xs->(∀y∈it.gd,h[y.1]?=J (.lst y.2)/\y.1∉O) ->
  SOk q L h B O ws b.fr (CZ it g.m b.m xs Z h) (CP g.p b.p F env s):=by
 intro F
 induction F with
 |nil =>
  intro xs env Z h O s c d r gd
  have:=r
  subst this;have ok:it.ok h:=λy z=>(gd y z).1;refine⟨Z,h,by rw[CZ];dsimp only;rw[c_ ok],O,Stp.refl _ _ _ _,c,d⟩
 |cons x F R =>
  intro xs env Z h O s c d r gd;obtain⟨v,E,rfl,Q,H⟩:=r;have ok:it.ok h:=λy z=>(gd y z).1;rw[CP]
  cases eg:g.p x env with
  |none=>trivial
  |some j =>
   obtain⟨S,f1,sr,k⟩:=g.ok c.sr Q eg;have W:Cx q h L B O ws S j s:=⟨c.bd,c.sub,c.bb,c.pb,c.hL,c.pen,sr⟩;have kb:=b.ok W (d.keep k)
   have em:CZ it g.m b.m (v::E) Z h=(match b.m S h with
    |.nx i f=>CZ it g.m b.m E i f
    |.ct i f=>CZ it g.m b.m E i f
    |.bk i f=>.nx i f
    |.rt v f=>.rt v f
    |.exc e i f=>.exc e i f
    |.rse e i f=>.rse e i f
    |.bad=>.bad):=by rw[CZ];dsimp only;(rw[c_ ok,f1])<;>rfl
   rw[em];have G:∀{f:MH}{C:VQ},Stp q L h O f C->∀y∈it.gd,f[y.1]?=J (.lst y.2)/\y.1∉C:=λst y z=>by
    obtain⟨a,b⟩:=st.mv.get (gd y z).1 (gd y z).2;exact⟨b,a⟩
   dsimp only
   cases u:b.p j s with
   |bad=>trivial
   |nx e2 l =>
    rw[u]at kb;obtain⟨i,f,e1,C,st,M,P⟩:=kb;rw[e1];exact(R E e2 i f C l M P (H.mv st.mv) (G st)).after st
   |ct e2 l =>
    rw[u]at kb;obtain⟨i,f,e1,C,st,M,P⟩:=kb;rw[e1];exact(R E e2 i f C l M P (H.mv st.mv) (G st)).after st
   |bk e2 l=>rw[u]at kb;obtain⟨i,f,e1,r⟩:=kb;rw[e1];exact⟨i,f,rfl,r⟩
   |exc x e2 l=>rw[u]at kb;obtain⟨i,f,e1,r⟩:=kb;rw[e1];exact⟨i,f,rfl,r⟩
   |rse x e2 l=>rw[u]at kb;obtain⟨i,f,e1,r⟩:=kb;rw[e1];exact⟨i,f,rfl,r⟩
   |rt x l=>rw[u]at kb;obtain⟨v,f,e1,Q,H,U,X,r5⟩:=kb;rw[e1];exact⟨v,f,rfl,Q,H,U,X,r5⟩
def gf(i:Xi ws)(g:Xg ws)(b:Xd ws)(E:i.fz=I:=by exact ys rfl):Xd ws where
 m:=ID i.m g.m b.m
 p:=λenv s=>(i.p env s).go env λj env s=>CP g.p b.p j env s
 fr:=b.fr
 ok {q h L B O Z env s} c d:=SOk.ex (f:=λl=>CZ l g.m b.m l.xs) (g:=λj env s=>CP g.p b.p j env s) c d (i.ok c) λj l z F kb C r =>
  J2 g b j l.xs env Z z O F C d r.1 λy u=>⟨(r.2.1 y u).1,r.2.2 E y u⟩
def i8(t:av->iw->PR Bool)(b:av->iw->PS):Nat->av->iw->PS
 |0,_,_=>.bad
 |n+1,env,s=>(t env s).go env λx env s=>if x=I then(b env s).turn (i8 t b n)else .nx env s
def qK(t:Xt ws)(b:Xd ws):∀(n:Nat)(env:av)(Z:mh)(h:MH)(O:VQ)(s:iw),Cx q h L B O ws Z env s->Dis ws Z env->SOk q L h B O ws b.fr (cV t.m b.m n Z h) (i8 t.p b.p n env s)
 |0,env,Z,h,O,s,c,d=>trivial
 |n+1,env,Z,h,O,s,c,d=>by
  refine SOk.ex c d (t.ok c) λx v G R kb E e=>?_;subst e
  cases x with
  |false=>exact⟨Z,G,rfl,O,Stp.refl _ _ _ _,E,d⟩
  |true =>
   have k:=b.ok E d;rw[c_ rfl]
   cases l:b.p env R with
   |bad=>trivial
   |nx e2 j =>
    rw[l]at k;obtain⟨i,f,e1,C,st,u,z⟩:=k;rw[e1];exact(qK t b n e2 i f C j u z).after st
   |ct e2 j =>
    rw[l]at k;obtain⟨i,f,e1,C,st,u,z⟩:=k;rw[e1];exact(qK t b n e2 i f C j u z).after st
   |bk e2 j=>rw[l]at k;obtain⟨i,f,e1,r⟩:=k;rw[e1];exact⟨i,f,rfl,r⟩
   |exc x e2 j=>rw[l]at k;obtain⟨i,f,e1,r⟩:=k;rw[e1];exact⟨i,f,rfl,r⟩
   |rse x e2 j=>rw[l]at k;obtain⟨i,f,e1,r⟩:=k;rw[e1];exact⟨i,f,rfl,r⟩
   |rt x j=>rw[l]at k;obtain⟨v,f,e1,Q,P,F,H,M⟩:=k;rw[e1];exact⟨v,f,rfl,Q,P,F,H,M⟩
def Qo(N:Nat)(t:Xt ws)(b:Xd ws)(i:∀{Z h n},cV t.m b.m n Z h≠.bad->Lq t.m b.m Z h=cV t.m b.m n Z h):Xd ws where
 m:=Lq t.m b.m
 p:=i8 t.p b.p N
 fr:=b.fr
 ok {q h L B O Z env s} c d:=by
  have k:=qK t b N env Z h O s c d;by_cases z:cV t.m b.m N Z h=.bad
  .rw[z]at k
   cases e:i8 t.p b.p N env s with
   |bad=>trivial
   |nx e2 f=>rw[e]at k;obtain⟨_,_,e1,_⟩:=k;cases e1
   |ct e2 f=>rw[e]at k;obtain⟨_,_,e1,_⟩:=k;cases e1
   |bk e2 f=>rw[e]at k;obtain⟨_,_,e1,_⟩:=k;cases e1
   |exc x e2 f=>rw[e]at k;obtain⟨_,_,e1,_⟩:=k;cases e1
   |rse x e2 f=>rw[e]at k;obtain⟨_,_,e1,_⟩:=k;cases e1
   |rt x f=>rw[e]at k;obtain⟨_,_,e1,_⟩:=k;cases e1
  .rw[i z];exact k
structure DQ where
 m:Nat->VL->MH->VZ
 p:VR->VR->Option (D×VR)
 ok:∀{q:Nat}{h:MH}{O:VQ}{n:Nat}{xs:VL}{ds as:VR}{vs:VL}{d:D}{ds':VR},h[n]?=J (.lst xs)->Rps q h O ds xs->Rps q h O as vs->p ds as=J (d,ds')->∃v xs',m n vs h=.ok v (h.set n (.lst xs'))/\Rps q h O ds' xs'/\Rp q h O d v
def A0{q h L B O Z env s n xs' ds' i d0 kd}(c:Cx q h L B O ws Z env s)(d:Dis ws Z env)(G:i∈ws)(e:env[i]?=J (J d0))(H:Z[i]?=J (J (.loc n)))(r:Rps q h O ds' xs'):
  Nxt q L h B O ws Z (h.set n (mo kd xs')) (env.set i (J (dl kd ds'))) s:=by
 obtain⟨n',k0,xs,ab,e0,e2,a,b,g,r0⟩:=c.sr.ow i _ e G;rw[H]at e2;cases e2;have mv:Mv O h O (h.set n (mo kd xs')):=⟨λm X no=>pc (λ(z:n=m)=>no (z▸a)),λo F=>.inl F⟩;have hp:=c.pL;have il:i<env.length:=(qt.mp e).1;refine⟨O,⟨by simp,mv,λ_ h=>h,λm X _=>pc ⋯⟩,⟨λo F=>by simpa using c.bd o F,c.sub,c.bb,c.pb,by simpa using c.hL,?_,⟨by simp[c.sr.len],λj x f l=>?_,λj x f l=>?_⟩⟩,?_⟩
 .unfold bA;rw[pc ⋯];exact c.pen
 .have ne:i≠j:=λz=>l (z▸G);rw[pc ne]at f;obtain⟨v,e1,w⟩:=c.sr.fz j x f l;exact⟨v,e1,w.mv mv⟩
 .by_cases z:i=j
  .subst z;rw[yw il]at f;cases f;exact⟨n,kd,xs',ds',rfl,H,a,b,yw (aU g),r.mv mv⟩
  .rw[pc z]at f;obtain⟨m,S,ys,C,e1,e3,U,b4,b5,R⟩:=c.sr.ow j x f l
   have:n≠m:=λy=>d i j G l z _ _ n e f H (y▸e3)
   exact⟨m,S,ys,C,e1,e3,U,b4,by rw[pc this];exact b5,R.mv mv⟩
 .intro j k l hk ne x y m f W e1;have P:∀j x,(env.set i (J (dl kd ds')))[j]?=J (J x)->∃u,env[j]?=J (J u):=λj x f=>by
   by_cases z:i=j
   .subst z;exact⟨_,e⟩
   .rw[pc z]at f;exact⟨x,f⟩
  obtain⟨u,E⟩:=P j x f;obtain⟨Q,M⟩:=P k y W;exact d j k l hk ne u Q m E M e1
def qP{q h L B O Z env s n xs' ds' i ds}(c:Cx q h L B O ws Z env s)(d:Dis ws Z env)(j:i∈ws)(e:env[i]?=J (J (D.lst ds)))(f:Z[i]?=J (J (.loc n)))(r:Rps q h O ds' xs'):
  Nxt q L h B O ws Z (h.set n (.lst xs')) (env.set i (J (.lst ds'))) s:=A0 (kd:=Y) c d j e f r
def G7(o:DQ)(i:Nat)(a:Xs ws)(E:i∈ws)(U:a.fz=I){q h L B O Z env s}(c:Cx q h L B O ws Z env s)(d:Dis ws Z env)(u:a.p env s=.ok as s1)(M:env[i]?=J (J (.lst ds)))(F:o.p ds as=J (r,ds')):∃v j n f,KB q h j/\Cx q j L B O ws Z env s1/\Z[i]?=J (J (.loc n))/\E9 o.m (af i) a.m Z h=.ok v (j.set n (.lst f))/\Rps q j O ds' f/\Rp q j O r v:=by
 obtain⟨n,kd,xs,H,S,e2,W,X,g,P⟩:=c.sr.ow i _ M E;obtain⟨rfl,rfl⟩:=iU S;replace g:h[n]?=J (.lst xs):=g;have l:=a.ok c;rw[u]at l;obtain⟨vs,j,e3,kb,pn,_,z⟩:=l;have C:=c.kb kb pn;have G:j[n]?=J (.lst xs):=(kb.keep n (aU g) (by have:=c.pL;lia)).trans g;obtain⟨v,f,e4,R,Q⟩:=o.ok G (P.mv (kb.mv c.pO)) (z U) F;refine⟨v,j,n,f,kb,C,e2,?_,R,Q⟩;have em:af i Z h=.ok (.loc n) h:=by simp[af,e2]
 simp_all
def Di(o:DQ)(i:Nat)(a:av->iw->PR (VR))(env:av)(s:iw)(k:D->av->iw->PS):PS:=match a env s with
 |.ok l j=>(match env[i]? with
  |some (J (.lst u))=>(match o.p u l with
   |some (r,f)=>k r (env.set i (J (.lst f))) j
   |none=>.bad)
  |_=>.bad)
 |_=>.bad
def zr(e1:a env s=.ok as s1)(e2:env[i]?=J (J (.lst ds)))(e3:o.p ds as=J (r,ds')):Di o i a env s k=k r (env.set i (J (.lst ds'))) s1:=by simp only[Di,e1,e2,e3]
def xk:Di o i a env s k=.bad\/∃l u f r j,a env s=.ok l u/\env[i]?=J (J (.lst f))/\o.p f l=J (r,j)/\Di o i a env s k=k r (env.set i (J (.lst j))) u:=by
 cases e1:a env s with
 |bad=>left;simp only[Di,e1]
 |exc _ _=>left;simp only[Di,e1]
 |ok l u =>
  cases e2:env[i]? with
  |none=>left;simp only[Di,e1,e2]
  |some x =>
   cases x with
   |none=>left;simp only[Di,e1,e2]
   |some d =>
    cases d with
    |lst f =>
     cases e3:o.p f l with
     |none=>left;simp only[Di,e1,e2,e3]
     |some y=>exact .inr ⟨l,u,f,y.1,y.2,rfl,rfl,e3,zr e1 e2 e3⟩
    |_=>left;simp only[Di,e1,e2]
def w4(o:DQ)(i:Nat)(a:Xs ws)(F:ws.contains i=I:=by exact ys rfl)(H:a.fz=I:=by exact ys rfl):Xd ws where
 m:=km (E9 o.m (af i) a.m)
 p:=λenv s=>Di o i a.p env s λ_=>.nx
 fr:=I
 ok {q h L B O Z env s} c d:=by
  rcases xk (o:=o) (i:=i) (a:=a.p) (env:=env) (s:=s) (k:=λ_=>.nx)with z|⟨M,R,P,r,C,e1,e2,e3,z⟩
  .rw[z];trivial
  .rw[z];have f:i∈ws:=by simpa using F
   obtain⟨v,l,n,j,kb,u,E,em,G,Q⟩:=G7 o i a f H c d e1 e2 e3;refine⟨Z,l.set n (.lst j),?_,(qP u d f e2 E G).after (kb.stp c)⟩;unfold km yi;rw[em];rfl
def u6(j:Nat)(o:DQ)(i:Nat)(a:Xs ws)(S:ws.contains i=I:=by exact ys rfl)(P:ws.contains j=T:=by exact ys rfl)(W:a.fz=I:=by exact ys rfl):Xd ws where
 m:=bG j (E9 o.m (af i) a.m)
 p:=λenv s=>Di o i a.p env s λr env s=>.nx (env.set j (J r)) s
 fr:=I
 ok {q h L B O Z env s} c d:=by
  rcases xk (o:=o) (i:=i) (a:=a.p) (env:=env) (s:=s) (k:=λr env s=>.nx (env.set j (J r)) s)with z|⟨as,s1,ds,r,R,e1,e2,e3,z⟩
  .rw[z];trivial
  .rw[z];have l:i∈ws:=by simpa using S
   obtain⟨v,Q,n,F,kb,G,H,em,M,U⟩:=G7 o i a l W c d e1 e2 e3;obtain⟨O',st,X,d2⟩:=(qP G d l e2 H M).after (kb.stp c);obtain⟨E,u,f,C⟩:=qP G d l e2 H M;obtain⟨A,b⟩:=f.sr.set (i:=j) (λz=>by simp[z]at P) (U.mv u.mv);refine⟨Z.set j (J v),Q.set n (.lst F),?_,E,(kb.stp c).trans u,⟨f.bd,f.sub,f.bb,f.pb,f.hL,f.pen,A⟩,C.keep b⟩;unfold bG yi;rw[em]
def Vw.int(w:Vw q h L O (.int b) v):v=.int b:=by
 rcases w with r|⟨n,f,xs,i,e,_⟩
 .exact r
 .cases f<;>cases e
def PS.fin(r:PS):PR D:=match r with
 |.nx _ s=>.ok .non s
 |.rt d s=>.ok d s
 |.exc c _ s=>.exc c s
 |.rse c _ s=>.exc c s
 |_=>.bad
@[simp]theorem fin_nx:(PS.nx e s).fin=.ok .non s:=rfl
@[simp]theorem lz:(PS.rt d s).fin=.ok d s:=rfl
@[simp]theorem fin_exc:(PS.exc c e s).fin=.exc c s:=rfl
@[simp]theorem fin_rse:(PS.rse c e s).fin=.exc c s:=rfl
@[simp]theorem Qp:PS.bad.fin=.bad:=rfl
def qb(n:Nat)(f:VR):av:=f.map J++List.replicate (n-f.length) Y
def cr(n C:Nat)(b:Xd ws)(P:ws.all (λi=>decide (C<=i))=I:=by exact ys rfl):Fn where
 m:=cC n C b.m
 p:=λB s=>if B.length=C then(b.p (qb n B) s).fin else .bad
 fr:=b.fr
 ok {q h O vs B s} bd M pn r:=by
  by_cases L:B.length=C
  .rw[c_ L];have hv:vs.length=C:=by rw[r.length];exact L
   have low:∀i d,(qb n B)[i]?=J (J d)->i<C/\B[i]?=J d:=λi d e=>by
    by_cases z:i<B.length
    .refine⟨⋯,?_⟩;unfold qb at e;rw[sd (by simpa using z)]at e;simp at e;simpa using e
    .unfold qb at e;rw[C5 (by simpa using z)]at e;by_cases y:i-(B.map J).length<n-B.length
     .simp[Hn,y]at e
     .simp at y e;exact absurd e (by simp[Hn])
   have R:∀i d,(qb n B)[i]?=J (J d)->i∉ws:=λi d e F=>by
    have:=(low i d e).1
    rw[QT]at P
    have:=P i F
    simp at this;lia
   have c:Cx q h h.length O O ws (bH n vs) (qb n B) s:=by refine⟨bd,λ_ h=>h,bd,M,ii _,pn,⟨by simp[bH,qb,r.length],λi d e _=>?_,λi d e F=>absurd F (R i d e)⟩⟩;obtain⟨v,S,W⟩:=r.get (low i d e).2;refine⟨v,?_,W⟩;unfold bH;rw[sd (by simpa using(qt.mp S).1)];simp[S]
   have k:=b.ok c λi j F _ _ d _ _ e=>absurd F (R i d e)
   have em:cC n C b.m vs h=(match b.m (bH n vs) h with
    |.nx _ u=>.ok .non u
    |.rt v u=>.ok v u
    |.exc x _ u=>.exc x u
    |.rse x _ u=>.exc x u
    |_=>.bad):=by unfold cC;(rw[c_ hv])<;>(cases b.m (bH n vs) h<;>rfl)
   rw[em];have kb:∀{u H},Stp q h.length h O u H->KB q h u:=λst=>⟨st.len,λm X M=>st.base m X M⟩
   cases e:b.p (qb n B) s with
   |nx e1 G=>rw[e]at k;obtain⟨Q,u,f,H,st,E,_⟩:=k;rw[f];exact⟨.non,u,rfl,kb st,E.pen,rfl,λ_ k B e=>by cases k<;>cases e⟩
   |exc x e1 G=>rw[e]at k;obtain⟨Q,u,f,H,st,E,_⟩:=k;rw[f];exact⟨u,rfl,kb st,E.pen⟩
   |rse x e1 G=>rw[e]at k;obtain⟨Q,u,f,H,st,E,_⟩:=k;rw[f];exact⟨u,rfl,kb st,E.pen⟩
   |rt x G=>rw[e]at k;obtain⟨v,u,f,l,b,p,Z,U⟩:=k;rw[f];exact⟨v,u,rfl,⟨l,b⟩,p,Z,U⟩
   |bk e1 G=>trivial
   |ct e1 G=>trivial
   |bad=>trivial
  .rw[f_ L];trivial
def G8(m:VL->MH->VZ):Fn where
 m:=m
 p:=λ_ _=>.bad
 fr:=I
 ok _ _ _ _:=trivial
end
end PU
namespace PU
open MM SetT SortT
open L2 (wk n5 iM)
noncomputable section
section
variable{q:Nat}{h:MH}{L:Nat}{O:VQ}{v:PV}
def Vw.non(w:Vw q h L O .non v):v=.non:=by
 rcases w with r|⟨n,k,xs,f,e,_⟩
 .exact r
 .cases k<;>cases e
def Vw.str(w:Vw q h L O (.str x) v):v=.str x:=by
 rcases w with r|⟨n,k,xs,f,e,_⟩
 .exact r
 .cases k<;>cases e
inductive UG(h:MH)(P:VL->Prop)(v:PV):Prop
 |mk(n:Nat)(xs:VL)(e:v=.loc n)(g:h[n]?=J (.lst xs))(r:P xs):UG h P v
def Vw.lst(w:Vw q h L O (.lst ds) v):UG h (Rps q h O ds) v:=by
 rcases w with⟨n,xs,e,_,g,r⟩|⟨n,k,xs,f,e,e1,_,_,g,r⟩
 .exact⟨n,xs,e,g,r⟩
 .obtain⟨rfl,rfl⟩:=iU e;exact⟨n,xs,e1,g,r⟩
def Vw.tup(w:Vw q h L O (.tup ds) v):R7 (Rps q h O ds) v:=by
 rcases w with r|⟨n,k,xs,f,e,_⟩
 .exact r
 .cases k<;>cases e
def J3(r:Rp q h O d v)(hf:fr=I->∀k f,d≠dl k f):Gv q h O fr (.ok v h) d :=
 ⟨v,[],by simp,by simpa using r,λz k f e=>absurd e (hf z k f)⟩
def DD:Gv q h O fr (.ok (.int i) h) (.int i):=J3 rfl λ_ k _ e=>by cases k<;>cases e
def y4:Gv q h O fr (.ok (.bl i) h) (.bl i):=J3 rfl λ_ k _ e=>by cases k<;>cases e
def iT(w:Vws q h L O [d] vs):∃x,vs=[x]/\Vw q h L O d x:=by
 obtain⟨x,r,e,a,b⟩:=w
 have:r=[]:=b
 subst this;exact⟨x,e,a⟩
def J4(w:Vws q h L O [d,d'] vs):∃x y,vs=[x,y]/\Vw q h L O d x/\Vw q h L O d' y:=by obtain⟨x,r,e,a,b⟩:=w;obtain⟨y,rfl,c⟩:=iT b;exact⟨x,y,e,a,c⟩
end
def FP(m:PV->PV->MH->VZ)(f:Int->Int->D)(g:Int->Int->PV)(r:∀i j h,m (.int i) (.int j) h=.ok (g i j) h)(l:∀i j q h O fr,Gv q h O fr (.ok (g i j) h) (f i j)):yv where
 m:=m
 p:=λa b=>match a,b with
  |.int i,.int j=>J (f i j)
  |_,_=>Y
 fr:=I
 ok {q h L O a x b y d} bd wa wb e:=by
  cases a with
  |int i =>
   cases b with
   |int j=>cases e;rw[wa.int,wb.int,r];exact l i j q h O I
   |_=>cases e
  |_=>cases e
def bO:yv:=FP C6 (λi j=>.int (i-j)) (λi j=>.int (i-j)) (λ_ _ _=>rfl) λ_ _ _ _ _ _=>DD
def CQ:yv:=FP Dx (λi j=>.bl (decide (i<j))) (λi j=>.bl (decide (i<j))) (λ_ _ _=>rfl) λ_ _ _ _ _ _=>y4
def R_:yv:=FP IG (λi j=>.bl (decide (i<=j))) (λi j=>.bl (decide (i<=j))) (λ_ _ _=>rfl) λ_ _ _ _ _ _=>y4
def FQ:yv:=FP Cj (λi j=>.bl (decide (j<i))) (λi j=>.bl (decide (j<i))) (λ_ _ _=>rfl) λ_ _ _ _ _ _=>y4
def aK:yv where
 m:=j_
 p:=λa b=>match a,b with
  |.int i,.int j=>J (.int (i+j))
  |.lst x,.lst y=>if x.length+y.length<=100000 then J (.lst (x++y))else Y
  |.tup (a::x),.tup y=>if x.length+1+y.length<=100000 then J (.tup (a::x++y))else Y
  |_,_=>Y
 fr:=I
 ok {q h L O a x b y d} bd wa wb e:=by
  cases a with
  |int i =>
   cases b with
   |int j=>cases e;rw[wa.int,wb.int];exact DD
   |_=>cases e
  |lst x =>
   cases b with
   |lst y =>
    dsimp only at e;by_cases z:x.length+y.length<=100000
    .rw[c_ z]at e;cases e;obtain⟨n,xs,rfl,g,r⟩:=wa.lst;obtain⟨u,ys,rfl,l,f⟩:=wb.lst;show Gv q h O I (match h[n]?,h[u]? with|some (.lst xs),J (.lst ys)=>pr (xs++ys) h|_,_=>.bad) _;rw[g,l];exact mE bd (r.app f) (by simpa using z)
    .rw[f_ z]at e;cases e
   |_=>cases e
  |tup x =>
   cases x with
   |nil=>cases b<;>cases e
   |cons a x =>
    cases b with
    |tup y =>
     dsimp only at e;by_cases z:x.length+1+y.length<=100000
     .rw[c_ z]at e;cases e;obtain⟨xs,rfl,r⟩:=wa.tup;obtain⟨ys,rfl,f⟩:=wb.tup;have ne:xs≠[]:=λz=>by have:=r.length;simp[z]at this
      show Gv q h O I (if xs≠[]then t_ (xs++ys) h else .bad) _;rw[c_ ne];exact wV (r.app f) (by simp;lia)
     .rw[f_ z]at e;cases e
    |_=>cases e
  |_=>cases e
def Rps.rep(r:Rps q h O ds xs):∀n,Rps q h O (List.replicate n ds).flatten (List.replicate n xs).flatten
 |0=>rfl
 |n+1=>by
  exact r.app (Rps.rep r n)
def nO:yv where
 m:=j3
 p:=λa b=>match a,b with
  |.int i,.int j=>if IntMulOk i j then J (.int (i*j))else Y
  |.lst x,.int j=>if(0<=j/\j<=1000)/\((List.replicate j.toNat x).flatten).length<=100000 then J (.lst (List.replicate j.toNat x).flatten)else Y
  |_,_=>Y
 fr:=I
 ok {q h L O a x b y d} bd wa wb e:=by
  cases a with
  |int i =>
   cases b with
   |int j =>
    dsimp only at e;by_cases z:IntMulOk i j
    .rw[c_ z]at e;cases e;rw[wa.int,wb.int];show Gv q h O I (if IntMulOk i j then .ok (.int (i*j)) h else .bad) _;rw[c_ z];exact DD
    .rw[f_ z]at e;cases e
   |_=>cases e
  |lst x =>
   cases b with
   |int j =>
    dsimp only at e;by_cases z:(0<=j/\j<=1000)/\((List.replicate j.toNat x).flatten).length<=100000
    .rw[c_ z]at e;cases e;obtain⟨n,xs,rfl,g,r⟩:=wa.lst;rw[wb.int];show Gv q h O I (match h[n]? with|some (.lst xs)=>if -(2^63)<=j/\j<2^63 then pr (List.flatten (List.replicate j.toNat xs)) h else .bad|_=>.bad) _;rw[g];dsimp only;rw[c_ ⋯];exact mE bd (r.rep _) z.2
    .rw[f_ z]at e;cases e
   |_=>cases e
  |_=>cases e
def Qq:yv where
 m:=C0
 p:=λa b=>match a,b with
  |.int i,.int j=>if j≠0/\Builtin.divisionGoesByPylong i j=T then J (.int (i.fdiv j))else Y
  |_,_=>Y
 fr:=I
 ok {q h L O a x b y d} bd wa wb e:=by
  cases a with
  |int i =>
   cases b with
   |int j =>
    dsimp only at e;by_cases z:j≠0/\Builtin.divisionGoesByPylong i j=T
    .rw[c_ z]at e;cases e;rw[wa.int,wb.int];show Gv q h O I (if j≠0/\Builtin.divisionGoesByPylong i j=T then .ok (.int (i.fdiv j)) h else .bad) _;rw[c_ z];exact DD
    .rw[f_ z]at e;cases e
   |_=>cases e
  |_=>cases e
def jj:yv where
 m:=bC
 p:=λa b=>match a,b with
  |.lst x,.int j=>n5 x j
  |.tup x,.int j=>n5 x j
  |_,_=>Y
 fr:=T
 ok {q h L O a x b y d} bd wa wb e:=by
  have at':∀{f:VR}{xs:VL}{j:Int},Rps q h O f xs->n5 f j=J d->∃v,n5 xs j=J v/\Rp q h O d v:=λ{f xs j} r e=>by
   unfold n5 at e ⊢;rw[r.length]
   cases e1:wk f.length j with
   |none=>rw[e1]at e;cases e
   |some k=>rw[e1]at e;exact r.get e
  cases b with
  |int j =>
   rw[wb.int]
   cases a with
   |lst f =>
    obtain⟨n,xs,rfl,g,r⟩:=wa.lst;obtain⟨v,e1,i⟩:=at' r e;show Gv q h O T (match h[n]? with|some (.lst xs)=>(match n5 xs j with|some v=>.ok v h|none=>.bad)|_=>.bad) _;rw[g];dsimp only;rw[e1];exact J3 i λz=>by cases z
   |tup f =>
    obtain⟨xs,rfl,r⟩:=wa.tup;obtain⟨v,e1,i⟩:=at' r e;show Gv q h O T (match n5 xs j with|some v=>.ok v h|none=>.bad) _;rw[e1];exact J3 i λz=>by cases z
   |_=>cases e
  |_=>cases a<;>cases e
def NT(f:Bool):yv where
 m:=M_ f
 p:=λa b=>match b with
  |.non=>(match a with
   |.non=>J (.bl (!f))
   |_=>J (.bl f))
  |.bl b=>(match a with
   |.bl c=>J (.bl (if f then !(c==b)else c==b))
   |.non=>J (.bl f)
   |.int _=>J (.bl f)
   |.str _=>J (.bl f)
   |.tup _=>J (.bl f)
   |_=>Y)
  |_=>Y
 fr:=I
 ok {q h L O a x b y d} bd wa wb e:=by
  have loc:∀{a:D}{x:PV},Vw q h L O a x->(∃i,a=.lst i)\/(∃j i,a=.dic j i)\/(∃c,a=.exc c)\/a=.pen->∃n,x=.loc n:=λ{a x} w z=>by
   rcases w with r|⟨n,k,xs,i,e,e1,_⟩
   .rcases z with⟨i,rfl⟩|⟨j,i,rfl⟩|⟨c,rfl⟩|rfl
    .obtain⟨n,_,e,_⟩:=r;exact⟨n,e⟩
    .obtain⟨n,_,e,_⟩:=r;exact⟨n,e⟩
    .obtain⟨n,e,_⟩:=r;exact⟨n,e⟩
    .exact⟨q,r⟩
   .exact⟨n,e1⟩
  cases b with
  |non =>
   rw[wb.non]
   cases a with
   |non=>cases e;rw[wa.non];exact y4
   |bl c=>cases e;rw[wa.bl];exact y4
   |int c=>cases e;rw[wa.int];exact y4
   |str c=>cases e;rw[wa.str];exact y4
   |tup c=>cases e;obtain⟨xs,rfl,_⟩:=wa.tup;exact y4
   |lst c=>cases e;obtain⟨n,rfl⟩:=loc wa (.inl ⟨_,rfl⟩);exact y4
   |dic j i=>cases e;obtain⟨n,rfl⟩:=loc wa (.inr (.inl ⟨_,_,rfl⟩));exact y4
   |exc c=>cases e;obtain⟨n,rfl⟩:=loc wa (.inr (.inr (.inl ⟨_,rfl⟩)));exact y4
   |pen=>cases e;obtain⟨n,rfl⟩:=loc wa (.inr (.inr (.inr rfl)));exact y4
  |bl b =>
   rw[wb.bl]
   cases a with
   |non=>cases e;rw[wa.non];exact y4
   |bl c=>cases e;rw[wa.bl];exact y4
   |int c=>cases e;rw[wa.int];exact y4
   |str c=>cases e;rw[wa.str];exact y4
   |tup c=>cases e;obtain⟨xs,rfl,_⟩:=wa.tup;exact y4
   |_=>cases e
  |_=>cases e
mutual
def py:D->Option PyData
 |.non=>J .none
 |.bl b=>J (.bool b)
 |.int i=>J (.int i)
 |.str x=>J (.str x)
 |.tup f=>(Db f).map .tuple
 |.lst f=>(Db f).map .list
 |_=>Y
def Db:VR->Option (List PyData)
 |[]=>J []
 |d::f=>match py d,Db f with
  |some x,J xs=>J (x::xs)
  |_,_=>Y
end
mutual
def y6:D->Nat
 |.tup f=>1+u_ f
 |.lst f=>1+u_ f
 |_=>0
def u_:VR->Nat
 |[]=>0
 |d::f=>max (y6 d) (u_ f)
end
def wv(d:D):(∀(v:PV)(e:PyData)(n:Nat),Rp q h O d v->py d=J e->y6 d<=n->rd n h v=J e):=by
 refine D.rec (motive_1:=λd=>∀(v:PV)(e:PyData)(n:Nat),Rp q h O d v->py d=J e->y6 d<=n->rd n h v=J e)
  (motive_2:=λf=>∀(l:VL)(i:List PyData)(n:Nat),Rps q h O f l->Db f=J i->u_ f<=n->cT (rd n h) l=J i)
  (λv _ n r e _=>?_) (λb v _ n r e _=>?_) (λb v _ n r e _=>?_) (λb v _ n r e _=>?_) (λf u v e n r j hd=>?_) (λf u v e n r j hd=>?_) (λ_ _ _ _ _ _ _ e _=>?_) (λ_ _ _ _ _ e _=>?_) (λ_ _ _ _ e _=>?_)
  (λl i n r e _=>?_) (λd f z B l i n r e hd=>?_) d
 .rw[show v=PV.non from r];cases e;cases n<;>rfl
 .rw[show v=PV.bl b from r];cases e;cases n<;>rfl
 .rw[show v=PV.int b from r];cases e;cases n<;>rfl
 .rw[show v=PV.str b from r];cases e;cases n<;>rfl
 .obtain⟨xs,ex,r⟩:=r;subst ex;rw[py,yJ]at j;obtain⟨i,e1,rfl⟩:=j;rw[y6]at hd
  cases n with
  |zero=>lia
  |succ n=>simp only[rd];rw[u _ _ n r e1 ⋯];rfl
 .obtain⟨m,xs,ex,_,g,r⟩:=r;subst ex;rw[py,yJ]at j;obtain⟨i,e1,rfl⟩:=j;rw[y6]at hd
  cases n with
  |zero=>lia
  |succ n=>simp only[rd,g];rw[u _ _ n r e1 ⋯];rfl
 .simp[py]at e
 .simp[py]at e
 .simp[py]at e
 .rw[show l=[]from r];rw[Db]at e;cases e;rfl
 .obtain⟨x,t,ex,a,b⟩:=r;subst ex;rw[u_]at hd;rw[Db]at e
  cases e1:py d with
  |none=>rw[e1]at e;cases e
  |some y =>
   cases e2:Db f with
   |none=>rw[e1,e2]at e;cases e
   |some ys =>
    rw[e1,e2]at e;cases e;have E:=z _ _ n a e1 ⋯;have C:=B _ _ n b e2 ⋯;simp only[cT,E,C]
def NU(r:Rp q h O d v)(f:py d=J e)(hd:y6 d<=n):rd n h v=J e:=wv d v e n r f hd
def Ak(r:Rps q h O ds vs)(f:Db ds=J es)(hd:u_ ds<=n):cT (rd n h) vs=J es:=by
 have:=wv (.tup ds) (.tup vs) (.tuple es) (n+1) (⟨vs,rfl,r⟩) (by rw[py,f];rfl) (by rw[y6];lia)
 simp only[rd]at this
 simp_all
def oA(w:Vw q h L O d v)(f:py d=J e)(hd:y6 d<=60):rd 60 h v=J e:=by
 rcases w with r|⟨n,j,xs,i,rfl,rfl,_,_,g,r⟩
 .exact NU r f hd
 cases j with
 |some _=>cases f
 |none =>
 replace f:py (.lst i)=J e:=f;replace hd:y6 (.lst i)<=60:=hd;replace g:h[n]?=J (.lst xs):=g
 .rw[py,yJ]at f;obtain⟨u,e1,rfl⟩:=f;rw[y6]at hd;have l:=Ak (n:=59) r e1 ⋯;show(match h[n]? with|some (.lst xs)=>(cT (rd 59 h) xs).map PyData.list|_=>Y)=_;rw[g];dsimp only;rw[l];rfl
def G9(f:Bool)(a b:D):VD:=match py a,py b with
 |some x,J y=>if(y6 a<=60/\y6 b<=60)/\SeqAt.shaped x=I/\SeqAt.shaped y=I then J (.bl (if f then !PyData.eqv x y else PyData.eqv x y))else Y
 |_,_=>Y
def wZ(e:G9 neg a b=J d):∃x y,py a=J x/\py b=J y/\(y6 a<=60/\y6 b<=60)/\(SeqAt.shaped x=I/\SeqAt.shaped y=I)/\d=.bl (if neg then !PyData.eqv x y else PyData.eqv x y):=by
 unfold G9 at e
 cases e1:py a with
 |none=>rw[e1]at e;cases e
 |some x =>
  cases e2:py b with
  |none=>rw[e1,e2]at e;cases e
  |some y =>
   simp_all
def x3:yv where
 m:=Ch
 p:=G9 T
 fr:=I
 ok {q h L O a x b y d} bd wa wb e:=by obtain⟨u,w,e1,e2,hd,f,rfl⟩:=wZ e;unfold Ch;rw[oA wa e1 hd.1,oA wb e2 hd.2];dsimp only;rw[c_ f];exact y4
def BV:yv where
 m:=Ci
 p:=G9 I
 fr:=I
 ok {q h L O a x b y d} bd wa wb e:=by obtain⟨u,w,e1,e2,hd,f,rfl⟩:=wZ e;unfold Ci;rw[oA wa e1 hd.1,oA wb e2 hd.2];dsimp only;rw[c_ f];exact y4
def Vw.seqOf(w:Vw q h L O d v)(e:d.items=J ds):∃xs,MM.cz h v=J xs/\Rps q h O ds xs:=by
 cases d with
 |lst f=>cases e;obtain⟨n,xs,rfl,g,r⟩:=w.lst;exact⟨xs,by simp[MM.cz,g],r⟩
 |tup f=>cases e;obtain⟨xs,rfl,r⟩:=w.tup;exact⟨xs,rfl,r⟩
 |_=>cases e
def J5(f:Bool)(a b:D):VD:=match b.items with
 |some i=>(match py a,Db i with
  |some x,J ys=>if(y6 a<=60/\u_ i<=60)/\x.canLay0=I/\PyData.canLayAll0 ys=I then J (.bl (if f then !ys.any (λe=>PyData.eqv e x)else ys.any (λe=>PyData.eqv e x)))else Y
  |_,_=>Y)
 |none=>Y
def x4(f:Bool):yv where
 m:=E_ f
 p:=J5 f
 fr:=I
 ok {q h L O a x b y d} bd wa wb e:=by
  unfold J5 at e
  cases i:b.items with
  |none=>rw[i]at e;cases e
  |some j =>
   rw[i]at e;dsimp only at e
   cases e1:py a with
   |none=>rw[e1]at e;cases e
   |some u =>
    cases e2:Db j with
    |none=>rw[e1,e2]at e;cases e
    |some l =>
     rw[e1,e2]at e;dsimp only at e;by_cases z:(y6 a<=60/\u_ j<=60)/\u.canLay0=I/\PyData.canLayAll0 l=I
     .rw[c_ z]at e;cases e;obtain⟨xs,B,r⟩:=wb.seqOf i;unfold E_;rw[B,oA wa e1 z.1.1];dsimp only;rw[Ak r e2 z.1.2];dsimp only;rw[c_ z.2];exact y4
     .rw[f_ z]at e;cases e
end
noncomputable section
def pJ:Qi where
 m:=Dz
 p:=λa=>match a with
  |.int i=>J (.int (-i))
  |_=>Y
 fr:=I
 ok {q h L O a x d} bd w e:=by
  cases a with
  |int i=>cases e;rw[w.int];exact DD
  |_=>cases e
def DU:D->Option String
 |.non=>J "NoneType"
 |.bl _=>J "bool"
 |.int _=>J "int"
 |.str _=>J "str"
 |.tup _=>J "tuple"
 |.lst _=>J "list"
 |.dic _ _=>J "dict"
 |_=>Y
def NV(w:Vw q h L O d v)(e:DU d=J t):C7 h v=J t:=by
 cases d with
 |non=>cases e;rw[w.non];rfl
 |bl b=>cases e;rw[w.bl];rfl
 |int b=>cases e;rw[w.int];rfl
 |str b=>cases e;rw[w.str];rfl
 |tup b=>cases e;obtain⟨xs,rfl,_⟩:=w.tup;rfl
 |lst b=>cases e;obtain⟨n,xs,rfl,g,_⟩:=w.lst;simp[C7,g]
 |dic f i =>
  cases e;rcases w with⟨n,xs,rfl,_,g,_⟩|⟨n,k,xs,i,e,rfl,_,_,g,_⟩
  .simp[C7,g]
  .obtain⟨rfl,rfl⟩:=JY e;replace g:h[n]?=J (.dic f xs):=g;simp[C7,g]
 |_=>cases e
def FR(f:List String):Qi where
 m:=tZ f
 p:=λa=>(DU a).map λt=>.bl (f.any (g7 t))
 fr:=I
 ok {q h L O a x d} bd w e:=by rw[yJ]at e;obtain⟨t,e1,rfl⟩:=e;unfold tZ;rw[NV w e1];exact y4
def UH(f:VL->MH->VZ)(g:Int->Int->Int)(hf:∀i j h,f [.int i,.int j] h=.ok (.int (g i j)) h):CO where
 k:=λxs h=>(f xs h).ne
 p:=λl=>match l with
  |[.int i,.int j]=>J (.int (g i j))
  |_=>Y
 fr:=I
 ok {q h L O l xs d} bd w e:=by
  match l,e with
  |[.int i,.int j],e =>
   cases e;obtain⟨x,y,rfl,a,b⟩:=J4 w;rw[a.int,b.int,hf];exact DD
def FS:CO:=UH Cy (λi j=>if j<i then j else i) λ_ _ _=>rfl
def FT:CO:=UH EM (λi j=>if j>i then j else i) λ_ _ _=>rfl
def lg:CO where
 k:=λxs h=>(q7 xs h).ne
 p:=λi=>match i with
  |[.lst f]=>J (.int f.length)
  |[.tup f]=>J (.int f.length)
  |[.str x]=>if x.length<=sizeLine then J (.int x.length)else Y
  |_=>Y
 fr:=I
 ok {q h L O i xs d} bd w e:=by
  match i,e with
  |[.lst f],e =>
   cases e;obtain⟨x,rfl,a⟩:=iT w;obtain⟨n,ys,rfl,g,r⟩:=a.lst;simp only[q7,g];rw[r.length];exact DD
  |[.tup f],e =>
   cases e;obtain⟨x,rfl,a⟩:=iT w;obtain⟨ys,rfl,r⟩:=a.tup;simp only[q7];rw[r.length];exact DD
  |[.str x],e =>
   dsimp only at e;by_cases z:x.length<=sizeLine
   .rw[c_ z]at e;cases e;obtain⟨x,rfl,a⟩:=iT w;rw[a.str];simp only[q7];rw[c_ z];exact DD
   .rw[f_ z]at e;cases e
def yb:CO where
 k:=λxs h=>(C8 xs h).ne
 p:=λi=>match i with
  |[d]=>d.items.bind λf=>if f.length<=100000 then J (.lst f)else Y
  |_=>Y
 fr:=I
 ok {q h L O i xs d} bd w e:=by
  match i,e with
  |[a],e =>
   obtain⟨x,rfl,u⟩:=iT w;rw[DI]at e;obtain⟨f,e1,e2⟩:=e;obtain⟨xs,e3,r⟩:=u.seqOf e1;by_cases z:f.length<=100000
   .rw[c_ z]at e2;cases e2;obtain⟨v,g,e4,j,l⟩:=mE bd r z;exact⟨v,g,by simp only[C8,e3];rw[e4];rfl,j,l⟩
   .rw[f_ z]at e2;cases e2
def gW:CO where
 k:=λxs h=>(xP xs h).ne
 p:=λf=>match f with
  |[d]=>d.items.map .tup
  |_=>Y
 fr:=I
 ok {q h L O f xs d} bd w e:=by
  match f,e with
  |[a],e =>
   obtain⟨x,rfl,i⟩:=iT w;rw[yJ]at e;obtain⟨j,e1,rfl⟩:=e;obtain⟨xs,e3,r⟩:=i.seqOf e1;simp only[xP,e3];exact J3 ⟨xs,rfl,r⟩ λ_ k _ e=>by cases k<;>cases e
def fG:VR->Option (VN)
 |[]=>J []
 |.int b::r=>(fG r).map (b::·)
 |_=>Y
def m4:∀{f:VR}{xs:VL}{bs:VN},Rps q h O f xs->fG f=J bs->xs=bs.map .int
 |[],_,_,r,e=>by rw[show _=[]from r];cases e;rfl
 |d::f,_,bs,⟨x,t,ex,a,b⟩,e=>by
  subst ex
  cases d with
  |int c =>
   rw[show x=PV.int c from a];rw[fG,yJ]at e;obtain⟨i,e1,rfl⟩:=e;rw[m4 b e1];rfl
  |_=>cases e
def rO:∀(bs:VN),gI (bs.map .int)=J bs
 |[]=>rfl
 |b::bs=>by rw[qw,gI,rO bs];rfl
def qQ:∀(bs:VN),jo (bs.map .int)=J bs
 |[]=>rfl
 |b::bs=>by rw[qw,jo,qQ bs];rfl
def sS(f:VL->MH->VZ)(c:VN->Nat->Nat->Bool)(g:Int->Int->Int)(hf:∀l x h,(cz h x).bind gI=J l->0<l.length->f [x] h=.ok (.int (lM (c l) l)) h)(B:∀i j h,f [.int i,.int j] h=.ok (.int (g i j)) h):CO where
 k:=λxs h=>(f xs h).ne
 p:=λu=>match u with
  |[d]=>(d.items.bind fG).bind λl=>if 0<l.length then J (.int (lM (c l) l))else Y
  |[.int i,.int j]=>J (.int (g i j))
  |_=>Y
 fr:=I
 ok {q h L O u xs d} bd w e:=by
  match u,e with
  |[a],e =>
   obtain⟨x,rfl,C⟩:=iT w;rw[DI]at e;obtain⟨l,e1,e2⟩:=e;rw[DI]at e1;obtain⟨E,e1,e3⟩:=e1;obtain⟨xs,e4,r⟩:=C.seqOf e1;by_cases z:0<l.length
   .rw[c_ z]at e2;cases e2;show Gv q h O I (f [x] h).ne _;rw[hf l x h (by rw[e4,Eb,m4 r e3];exact rO l) z];exact DD
   .rw[f_ z]at e2;cases e2
  |[.int i,.int j],e =>
   cases e;obtain⟨x,y,rfl,a,b⟩:=J4 w;rw[a.int,b.int,B];exact DD
def pf:CO:=sS C9 (λf i j=>decide (f.getD i 0>f.getD j 0)) (λi j=>if j>i then j else i) (λf x h e z=>by simp only[C9,e];rw[c_ z]) λi j h=>rfl
def nY:CO:=sS C_ (λf i j=>decide (f.getD i 0<f.getD j 0)) (λi j=>if j<i then j else i) (λf x h e z=>by simp only[C_,e];rw[c_ z]) λi j h=>rfl
def kD(k:VN):D:=.tup (k.map .int)
def eP:D->Option (VN)
 |.tup f=>fG f
 |_=>Y
def gK:VR->Option (VP)
 |[]=>J []
 |d::i=>match eP d,gK i with
  |some k,J f=>J (k::f)
  |_,_=>Y
def J6(r:Rp q h O d v)(e:eP d=J k):v=kP k:=by
 cases d with
 |tup f=>obtain⟨xs,rfl,r⟩:=r;rw[m4 r e];rfl
 |_=>cases e
def t9:∀{f:VR}{xs:VL}{i:VP},Rps q h O f xs->gK f=J i->xs=i.map kP
 |[],_,_,r,e=>by rw[show _=[]from r];cases e;rfl
 |d::f,_,i,⟨x,t,ex,a,b⟩,e=>by
  subst ex;rw[gK]at e
  cases e1:eP d with
  |none=>rw[e1]at e;cases e
  |some k =>
   cases e2:gK f with
   |none=>rw[e1,e2]at e;cases e
   |some j =>
    rw[e1,e2]at e;cases e;rw[J6 a e1,t9 b e2];rfl
def J7(k:VN):Qe (kP k)=J k:=qQ k
def si:∀(f:VP),kn (f.map kP)=J f
 |[]=>rfl
 |k::f=>by rw[qw,kn,J7,si f]
def mV:∀(bs:VN),Rps q h O (bs.map .int) (bs.map .int)
 |[]=>rfl
 |b::bs=>⟨_,_,rfl,rfl,mV bs⟩
def tS:∀(f:VP),Rps q h O (f.map kD) (f.map kP)
 |[]=>rfl
 |b::bs=>⟨_,_,rfl,⟨_,rfl,mV b⟩,tS bs⟩
def Vw.lstOf(w:Vw q h L O (.lst ds) v):∃xs,MM.dP h v=J xs/\Rps q h O ds xs:=by obtain⟨n,xs,rfl,g,r⟩:=w.lst;exact⟨xs,by simp[MM.dP,g],r⟩
def Sa(bd:Bd h O)(r:∀h O,Rps q h O ds xs):Gv q h O I (.ok (.loc h.length) (h++[.lst xs])) (.lst ds):=by
 have g:(h++[MO.lst xs])[h.length]?=J (.lst xs):=by simp
 exact⟨_,_,rfl,⟨_,_,rfl,λz=>by have:=bd _ z;ext,g,r _ _⟩,λ_ k f e=>by obtain⟨rfl,rfl⟩:=iU e;exact⟨_,_,rfl,ii _,g,r _ _⟩⟩
def Qr:CO where
 k:=λC j=>match C with
  |[x]=>(match (dP j x).bind kn with
   |some f=>if(∀k∈f,k≠[])/\(k_ f).length<=66 then .ok (.loc j.length) (j++[.lst ((bu (k_ f)).map kP)])else .bad
   |none=>.bad)
  |_=>.bad
 p:=λi=>match i with
  |[.lst l]=>(gK l).bind λf=>if(∀k∈f,k≠[])/\(k_ f).length<=66 then J (.lst ((bu (k_ f)).map kD))else Y
  |_=>Y
 fr:=I
 ok {q h L O i xs d} bd w e:=by
  match i,e with
  |[.lst l],e =>
   obtain⟨x,rfl,u⟩:=iT w;obtain⟨ys,B,r⟩:=u.lstOf;rw[DI]at e;obtain⟨f,e1,e2⟩:=e;by_cases z:(∀k∈f,k≠[])/\(k_ f).length<=66
   .rw[c_ z]at e2;cases e2;simp only[B,Eb,t9 r e1,si];rw[c_ z];exact Sa bd λ_ _=>tS _
   .rw[f_ z]at e2;cases e2
def cP(lo:Int)(n:Nat):VR:=(List.range n).map λ(i:Nat)=>D.int (lo+(i:Int))
def qI:Rps q h O (cP lo n) (ck lo n):=by
 have:=mV (q:=q) (h:=h) (O:=O) ((List.range n).map λ(i:Nat)=>lo+(i:Int))
 rw[wc,wc]at this;exact this
def NW:CO where
 k:=λr i=>match r with
  |[.int j]=>if -(2^62)<=j/\j<2^62/\j.toNat<=sizeLine then .ok (.loc i.length) (i++[.lst (ck 0 j.toNat)])else .bad
  |_=>.bad
 p:=λf=>match f with
  |[.int j]=>if -100000<=j/\j<=100000 then J (.lst (cP 0 j.toNat))else Y
  |_=>Y
 fr:=I
 ok {q h L O f xs d} bd w e:=by
  match f,e with
  |[.int j],e =>
   obtain⟨x,rfl,l⟩:=iT w;rw[l.int];dsimp only at e;by_cases z:-100000<=j/\j<=100000
   .rw[c_ z]at e;cases e;dsimp only
    have:=dR
    rw[c_ ⟨by ext,by ext,by ext⟩];exact Sa bd λ_ _=>qI
   .rw[f_ z]at e;cases e
def v2:Qj where
 k:=λu l=>match u with
  |[.int j]=>if -(2^62)<=j/\j<2^62 then .ok ⟨ck 0 j.toNat,[]⟩ l else .bad
  |_=>.bad
 p:=λi=>match i with
  |[.int j]=>if -100000<=j/\j<=100000 then J (cP 0 j.toNat)else Y
  |_=>Y
 ok {q h L O i xs d} hq hO bd w e:=by
  match i,e with
  |[.int j],e =>
   obtain⟨x,rfl,r⟩:=iT w;rw[r.int];dsimp only at e;by_cases z:-100000<=j/\j<=100000
   .rw[c_ z]at e;cases e;dsimp only;rw[c_ ⟨by ext,by ext⟩];exact⟨_,rfl,qI,(λ_ f=>nomatch f),λ_ _ f=>nomatch f⟩
   .rw[f_ z]at e;cases e
def Vw.sqAny(z:q<L)(u:q∈O)(w:Vw q h L O d v)(e:d.items=J ds):∃t xs gd,MM.gH v h=J (t,xs,gd)/\Rps q h O ds xs/\(∀g∈gd,h[g.1]?=J (.lst g.2)/\g.1≠q)/\(Rp q h O d v->∀g∈gd,g.1∉O):=by
 obtain⟨xs,gd,e1,r,j,i⟩:=w.seq z u e
 cases d with
 |lst l =>
  cases e;obtain⟨n,ys,rfl,g,f⟩:=w.lst;simp only[v1,g]at e1;cases e1;exact⟨T,xs,[(n,xs)],by simp[MM.gH,g],f,j,i⟩
 |tup l =>
  cases e;obtain⟨ys,rfl,f⟩:=w.tup;cases e1;exact⟨I,_,[],rfl,f,j,i⟩
 |_=>cases e
def fQ(f:VR):VR:=f.zipIdx.map λp=>.tup [.int (p.2:Int),p.1]
def uw:∀{f:VR}{xs:VL}(n:Nat),Rps q h O f xs->Rps q h O ((f.zipIdx n).map λp=>.tup [.int (p.2:Int),p.1]) ((xs.zipIdx n).map λp=>.tup [.int (p.2:Int),p.1])
 |[],_,_,r=>by rw[show _=[]from r];rfl
 |d::f,_,n,⟨x,t,e,a,b⟩=>by
  subst e;exact⟨_,_,rfl,⟨_,rfl,⟨_,_,rfl,rfl,⟨_,_,rfl,a,rfl⟩⟩⟩,uw (n+1) b⟩
def iE:Qj where
 k:=λB i=>match B with
  |[x]=>(match gH x i with
   |some (_,xs,gd)=>.ok ⟨jk xs,gd⟩ i
   |none=>.bad)
  |_=>.bad
 p:=λf=>match f with
  |[d]=>d.items.map fQ
  |_=>Y
 ok {q h L O f xs d} hq hO bd w e:=by
  match f,e with
  |[a],e =>
   obtain⟨x,rfl,u⟩:=iT w;rw[yJ]at e;obtain⟨F,e1,rfl⟩:=e;obtain⟨t,ys,gd,e2,r,l,j⟩:=u.sqAny hq hO e1;refine⟨⟨jk ys,gd⟩,by simp only[e2],uw 0 r,l,λz=>j ?_⟩;obtain⟨C,E,e3,a,_⟩:=z;cases e3;exact a
def nD(xs:VR)(lo f:VW):VR:=(xs.drop (HT.ky xs.length 0 lo)).take (HT.ky xs.length xs.length f-HT.ky xs.length 0 lo)
def wL(lo f:VW)(r:Rps q h O ds xs):Rps q h O (nD ds lo f) (fZ xs lo f):=by unfold nD fZ;rw[r.length];exact(r.drop _).take _
structure Xo(ws:VQ) where
 m:Mx (VW)
 p:av->iw->PR (VW)
 ok:∀{q h L B O Z env s},Cx q h L B O ws Z env s->Ok q h (m Z h) (p env s) (λ_ a b=>a=b)
section
variable{ws:VQ}
def LL:Xo ws where
 m:=Uh
 p:=λ_ s=>.ok Y s
 ok {q h L B O Z env s} c:=⟨Y,h,rfl,KB.refl _ _,c.pen,rfl⟩
def LM(e:Xe ws):Xo ws where
 m:=Ui e.m
 p:=λenv s=>(e.p env s).bind λd s=>match d with
  |.int i=>.ok (J i) s
  |_=>.bad
 ok {q h L B O Z env s} c:=by
  refine(e.ok c).bind λx v f j l p1 ⟨w,_,_⟩=>?_
  cases x with
  |int i=>rw[w.int];exact⟨J i,f,rfl,KB.refl _ _,p1,rfl⟩
  |_=>trivial
def LN(d:D)(lo i:VW):VD:=match d with
 |.lst f=>J (.lst (nD f lo i))
 |.tup f=>if HT.ky f.length 0 lo=0/\HT.ky f.length f.length i=f.length then Y else J (.tup (nD f lo i))
 |_=>Y
def NX(bd:Bd h O)(w:Vw q h L O a x)(e:LN a lo hi=J d):Gv q h O I (Jd x lo hi h) d:=by
 cases a with
 |lst f =>
  cases e;obtain⟨n,xs,rfl,g,r⟩:=w.lst;simp only[Jd,g];have r:=wL lo hi r;have m:Mv O h O (h++[MO.lst (fZ xs lo hi)]):=⟨λn j _=>sd j,λo i=>.inl i⟩
  have l:Mv O h (h.length::O) (h++[MO.lst (fZ xs lo hi)]):=⟨λn j _=>sd j,λo i=>by
   rcases lb.mp i with z|z
   .exact .inr (by ext)
   .exact .inl z⟩
  have g:(h++[MO.lst (fZ xs lo hi)])[h.length]?=J (.lst (fZ xs lo hi)):=by simp
  exact⟨_,_,rfl,⟨_,_,rfl,λz=>by have:=bd _ z;ext,g,r.mv m⟩,λ_ k u e=>by obtain⟨rfl,rfl⟩:=iU e;exact⟨_,_,rfl,ii _,g,r.mv l⟩⟩
 |tup f =>
  unfold LN at e;dsimp only at e;by_cases z:HT.ky f.length 0 lo=0/\HT.ky f.length f.length hi=f.length
  .rw[c_ z]at e;cases e
  .rw[f_ z]at e;cases e;obtain⟨xs,rfl,r⟩:=w.tup;simp only[Jd];rw[r.length,f_ z];exact J3 ⟨_,rfl,wL lo hi r⟩ λ_ k _ e=>by cases k<;>cases e
 |_=>cases e
def LP(a:Xe ws)(lo j:Xo ws):Xe ws where
 m:=Uj a.m lo.m j.m
 p:=λenv s=>(a.p env s).bind λx s=>(lo.p env s).bind λl s=>(j.p env s).bind λu s=>.of (LN x l u) s
 fz:=I
 fr:=I
 ok {q h L B O Z env s} c:=by
  refine(a.ok c).bind λx v P s1 C p1 ⟨w,_,_⟩=>?_;have E:=c.kb C p1;refine(lo.ok E).bind λl X R S f H e=>?_;subst e;have z:=E.kb f H;refine(j.ok z).bind λu Q U W i F e=>?_;subst e;have G:=z.kb i F
  cases e:LN x l u with
  |none=>trivial
  |some d =>
   obtain⟨y,g,e1,r,M⟩:=NX G.bd ((w.kb f c.pO c.pL).kb i c.pO c.pL) e;exact Dh (o0 (o0 C.len f.len) i.len) F ⟨y,g,by rw[e1];rfl,r,M⟩
end
def qp:DQ where
 m:=lZ
 p:=λf i=>match i with
  |[a]=>if f.length<100000 then J (.non,f++[a])else Y
  |_=>Y
 ok {q h O n xs f i vs d ds'} g r ra e:=by
  match i,e with
  |[a],e =>
   obtain⟨x,t,rfl,a,b⟩:=ra
   have:t=[]:=b
   subst this;dsimp only at e;by_cases z:f.length<100000
   .rw[c_ z]at e;cases e;refine⟨.non,xs++[x],?_,r.app ⟨x,[],rfl,a,rfl⟩,rfl⟩;simp only[lZ,g];rw[c_ (by have:=dR;rw[r.length];ext)]
   .rw[f_ z]at e;cases e
def i3:DQ where
 m:=jK
 p:=λj l=>match l with
  |[a]=>a.items.bind λi=>if j.length+i.length<=100000 then J (.non,j++i)else Y
  |_=>Y
 ok {q h O n xs j l vs d ds'} g r ra e:=by
  match l,e with
  |[a],e =>
   obtain⟨x,t,rfl,w,b⟩:=ra
   have:t=[]:=b
   subst this;rw[DI]at e;obtain⟨i,e1,e2⟩:=e;by_cases z:j.length+i.length<=100000
   .rw[c_ z]at e2;cases e2;have C:=dR
    cases a with
    |lst u =>
     cases e1;obtain⟨m,ys,rfl,_,B,f⟩:=w;refine⟨.non,xs++ys,?_,r.app f,rfl⟩;simp only[jK,g,B];rw[c_ (by rw[r.length,f.length];ext)]
    |tup u =>
     cases e1;obtain⟨ys,rfl,f⟩:=w;refine⟨.non,xs++ys,?_,r.app f,rfl⟩;simp only[jK,g];rw[c_ (by rw[r.length,f.length];ext)]
    |_=>cases e1
   .rw[f_ z]at e2;cases e2
def xg:DQ where
 m:=lR
 p:=λf j=>match j with
  |[.int i,a]=>if(0<=i/\i<=100000)/\f.length<100000 then J (.non,f.take (min i.toNat f.length)++a::f.drop (min i.toNat f.length))else Y
  |_=>Y
 ok {q h O n xs f j vs d ds'} g r ra e:=by
  match j,e with
  |[.int i,a],e =>
   obtain⟨x,t,rfl,u,y,l,rfl,w,b⟩:=ra
   have:l=[]:=b
   subst this;rw[show x=PV.int i from u];dsimp only at e;by_cases z:(0<=i/\i<=100000)/\f.length<100000
   .rw[c_ z]at e;cases e;refine⟨.non,kY xs i y,?_,?_,rfl⟩
    .simp only[lR,g];rw[c_ ⟨by ext,by have:=dR;rw[r.length];ext⟩]
    .unfold kY;rw[f_ (by ext),r.length];exact(r.take _).app ⟨y,_,rfl,w,r.drop _⟩
   .rw[f_ z]at e;cases e
end
section
variable{ws:VQ}{env:av}{s:iw}
@[simp]theorem bJ{d:D}{r:av}:(ac 0:Xe ws).p (J d::r) s=.ok d s:=rfl
@[simp]theorem cu{i:Nat}{o:VD}{r:av}:(ac (i+1):Xe ws).p (o::r) s=(ac i:Xe ws).p r s:=by simp[ac]
theorem FU(e:env[i]?=J (J d)):(ac i:Xe ws).p env s=.ok d s:=by show(match env[i]? with|some (J d)=>PR.ok d s|_=>.bad)=_;rw[e]
@[simp]theorem hZ:(xC k:Xe ws).p env s=.ok k.d s:=rfl
@[simp]theorem Sb:Cn.non.d=.non:=rfl
@[simp]theorem UI:(Cn.bl b).d=.bl b:=rfl
@[simp]theorem dE:(Cn.int b).d=.int b:=rfl
@[simp]theorem Se:(Cn.str b).d=.str b:=rfl
@[simp]theorem b7:(ae o a b).p env s=(a.p env s).bind λx s1=>(b.p env s1).bind λy s2=>.of (o.p x y) s2:=rfl
@[simp]theorem NY:(Dm o a).p env s=(a.p env s).bind λx s1=>.of (o.p x) s1:=rfl
@[simp]theorem cm:(a_:Xs ws).p env s=.ok [] s:=rfl
@[simp]theorem aD:(aa a r).p env s=(a.p env s).bind λx s1=>(r.p env s1).bind λy s2=>.ok (x::y) s2:=rfl
@[simp]theorem jf:(qo o a).p env s=(a.p env s).bind λx s1=>.of (o.p x) s1:=rfl
@[simp]theorem bB:(ag f a h).p env s=(a.p env s).bind f.p:=rfl
@[simp]theorem FV:(sY f a h).p env s=((a.p env s).bind f.p).bind λd s=>if FO d=I then .ok d s else .bad:=rfl
@[simp]theorem ut:(cU a h).p env s=(a.p env s).bind λx s1=>if x.length<=100000 then .ok (.lst x) s1 else .bad:=rfl
@[simp]theorem J8:(aI a h).p env s=(a.p env s).bind λx s1=>if x.length<=100000 then .ok (.tup x) s1 else .bad:=rfl
@[simp]theorem J9:(xB a).p env s=(a.p env s).bl:=rfl
@[simp]theorem J_:(tf a).p env s=(a.p env s).bind λb s=>.ok (!b) s:=rfl
@[simp]theorem Ka:(i7 a b).p env s=(a.p env s).bind λx s=>if x=I then b.p env s else .ok T s:=rfl
@[simp]theorem UJ:(LG a b).p env s=(a.p env s).bind λx s=>if x=I then .ok I s else b.p env s:=rfl
@[simp]theorem Qs:(ix:Xt ws).p env s=.ok I s:=rfl
@[simp]theorem FW:(lN a b).p env s=(a.p env s).bl.bind λx s=>if x=I then(b.p env s).bl.bind λy s=>.ok (.bl y) s else .ok (.bl T) s:=rfl
@[simp]theorem Qt:(sR a).p env s=(a.p env s).bl.bind λx s=>.ok (.bl (!x)) s:=rfl
@[simp]theorem NZ:(oD f g a b e).p env s=(a.p env s).bind λx s1=>(b.p env s1).bind λy s2=>match f.p x y with
  |some (.bl t)=>if t=I then(e.p env s2).bind λz s3=>.of (g.p y z) s3 else .ok (.bl T) s2
  |_=>.bad:=rfl
@[simp]theorem zO:(bL o a).p env s=(a.p env s).bind λx s1=>.of (o.p x) s1:=rfl
@[simp]theorem Kb:(aY a).p env s=(a.p env s).bind λx s1=>.of x.items s1:=rfl
@[simp]theorem UK{i:Nat}{h:ws.contains i=T}{d:D}:(i_ i h).p d env=J (env.set i (J d)):=rfl
@[simp]theorem UL:(Bi:G6 ws).p [] env=J env:=rfl
@[simp]theorem UM:(pu a t).p (d::ds) env=(a.p d env).bind λenv1=>t.p ds env1:=rfl
@[simp]theorem UN:(Bn t n).p (.tup ds) env=if ds.length=n then t.p ds env else Y:=rfl
@[simp]theorem xc{nv:Nat}{fm:VQ}{i:Xi ws}{ws':VQ}{g:Xg ws'}{t:Xt ws'}{e:Xe ws'}{hw:Dn nv fm ws=ws'}{hz:e.fz=I}:(aG nv fm i g t e hw hz).p env s=(i.p env s).bind λds s1=>if ds.length<=100000 then (match fe g.p t.p e.p ds (wx nv fm env) s1 with
  |.ok r s2=>.ok (.lst r) s2
  |_=>.bad)else .bad:=rfl
@[simp]theorem UO:(LL:Xo ws).p env s=.ok Y s:=rfl
@[simp]theorem UP:(LM e).p env s=(e.p env s).bind λd s=>match d with
  |.int i=>.ok (J i) s
  |_=>.bad:=rfl
@[simp]theorem UQ:(LP a lo hi).p env s=(a.p env s).bind λx s=>(lo.p env s).bind λl s=>(hi.p env s).bind λu s=>.of (LN x l u) s:=rfl
@[simp]theorem aA:(aB a b).p env s=(a.p env s).then b.p:=rfl
@[simp]theorem mD:(i0:Xd ws).p env s=.nx env s:=rfl
@[simp]theorem dJ:(bo e).p env s=(e.p env s).go env λd _ s=>.rt d s:=rfl
theorem v6{i:Nat}{h:ws.contains i=I}{d:D}(e:env[i]?=J (J d)):(oX i h).p env s=.rt d s:=by show(match env[i]? with|some (J d)=>PS.rt d s|_=>.bad)=_;rw[e]
@[simp]theorem Qu:(fS e).p env s=(e.p env s).go env λ_=>.nx:=rfl
@[simp]theorem eW:(ul t a b).p env s=(t.p env s).go env λx env s=>if x=I then a.p env s else b.p env s:=rfl
@[simp]theorem bS:(bf i e hi hz).p env s=(e.p env s).go env λd env s=>.nx (env.set i (J d)) s:=rfl
@[simp]theorem pR:(gE i e hi hz).p env s=(e.p env s).go env λd env s=>match d with
  |.lst ds=>.nx (env.set i (J (.lst ds))) s | .dic ks ds=>.nx (env.set i (J (.dic ks ds))) s
  |_=>.bad:=rfl
@[simp]theorem lc:(gf i g b hz).p env s=(i.p env s).go env λds env s=>CP g.p b.p ds env s:=rfl
@[simp]theorem N0:(w4 o i a hi hz).p env s=Di o i a.p env s λ_=>.nx:=rfl
theorem bz{hw}(f:ds.length=np):(cr n np b hw).p ds s=(b.p (qb n ds) s).fin:=by show(if ds.length=np then _ else _)=_;rw[c_ f]
variable{i j:Int}{b:Bool}{x y:VR}
@[simp]theorem gc:aK.p (.int i) (.int j)=J (.int (i+j)):=rfl
theorem fA(h:x.length+y.length<=100000):aK.p (.lst x) (.lst y)=J (.lst (x++y)):=by show(if x.length+y.length<=100000 then _ else _)=_;rw[c_ h]
@[simp]theorem we:bO.p (.int i) (.int j)=J (.int (i-j)):=rfl
@[simp]theorem Sf:CQ.p (.int i) (.int j)=J (.bl (decide (i<j))):=rfl
@[simp]theorem Sg:R_.p (.int i) (.int j)=J (.bl (decide (i<=j))):=rfl
@[simp]theorem Sh:FQ.p (.int i) (.int j)=J (.bl (decide (j<i))):=rfl
@[simp]theorem oJ:jj.p (.lst x) (.int j)=n5 x j:=rfl
@[simp]theorem UR:jj.p (.tup x) (.int j)=n5 x j:=rfl
@[simp]theorem Si:(FR Ts).p d=(DU d).map λt=>.bl (Ts.any (g7 t)):=rfl
@[simp]theorem Sj:DU .non=J "NoneType":=rfl
@[simp]theorem US:DU (.bl b)=J "bool":=rfl
@[simp]theorem Sk:DU (.int i)=J "int":=rfl
@[simp]theorem Sl:DU (.str z)=J "str":=rfl
@[simp]theorem Sm:DU (.tup x)=J "tuple":=rfl
@[simp]theorem Sn:DU (.lst x)=J "list":=rfl
@[simp]theorem So:DU (.dic ks ds)=J "dict":=rfl
@[simp]theorem Qw:FS.p [.int i,.int j]=J (.int (if j<i then j else i)):=rfl
@[simp]theorem Qx:FT.p [.int i,.int j]=J (.int (if j>i then j else i)):=rfl
@[simp]theorem Sq:lg.p [.lst x]=J (.int x.length):=rfl
@[simp]theorem Sr:lg.p [.tup x]=J (.int x.length):=rfl
theorem FX(h:x.length<=100000):yb.p [.tup x]=J (.lst x):=by show(if x.length<=100000 then _ else _)=_;rw[c_ h]
@[simp]theorem nF:gW.p [.lst x]=J (.tup x):=rfl
@[simp]theorem N3:gW.p [.tup x]=J (.tup x):=rfl
theorem G_(h:-100000<=i/\i<=100000):NW.p [.int i]=J (.lst (cP 0 i.toNat)):=by show(if _ then _ else _)=_;rw[c_ h]
def jb(h:-100000<=i/\i<=100000):v2.p [.int i]=J (cP 0 i.toNat):=by show(if _ then _ else _)=_;rw[c_ h]
@[simp]theorem Vv:iE.p [.lst x]=J (fQ x):=rfl
@[simp]theorem UT:LN (.lst x) lo hi=J (.lst (nD x lo hi)):=rfl
theorem rQ(h:x.length<100000):qp.p x [a]=J (.non,x++[a]):=by show(if _ then _ else _)=_;rw[c_ h]
def gO(h:x.length+y.length<=100000):i3.p x [.lst y]=J (.non,x++y):=by show(if _ then _ else _)=_;rw[c_ h]
def AL{a:D}{i:Nat}(h:i<=x.length)(f:x.length<100000):xg.p x [.int i,a]=J (.non,x.take i++a::x.drop i):=by show(if _ then _ else _)=_;rw[c_ ⟨by omega,f⟩,yT,Lm h]
end
section
variable{i j:Int}{b c:Bool}
@[simp]theorem zQ:G9 neg (.int i) (.int j)=J (.bl (if neg then !decide (i=j)else decide (i=j))):=rfl
@[simp]theorem Ss:G9 neg (.bl b) (.bl c)=J (.bl (if neg then !(b==c)else b==c)):=rfl
@[simp]theorem Ha:x3.p a d=G9 T a d:=rfl
@[simp]theorem UU:BV.p a d=G9 I a d:=rfl
@[simp]theorem N4:(x4 neg).p a d=J5 neg a d:=rfl
theorem kv:∀(k:VN),Db (k.map .int)=J (k.map .int)/\u_ (k.map .int)=0
 |[]=>⟨rfl,rfl⟩
 |i::k=>by
  obtain⟨a,b⟩:=kv k;simp[Db,py,a,u_,y6,b]
def vf:∀(f:VP),Db (f.map kD)=J (f.map λk=>.tuple (k.map .int))/\u_ (f.map kD)<=1
 |[]=>⟨rfl,by simp[u_]⟩
 |k::f=>by
  obtain⟨a,b⟩:=vf f;obtain⟨c,d⟩:=kv k;constructor
  .simp[Db,kD,py,a,c]
  .simp only[qw,u_,kD,y6,d];lia
def sh:∀(xs:VN),(xs.map PyData.int).any (λe=>PyData.eqv e (.int x))=decide (x∈xs)
 |[]=>by simp
 |y::ys=>by
  rw[qw,Pw,sh ys]
  have:PyData.eqv (.int y) (.int x)=decide (x=y):=by simp[PyData.eqv,Bool.beq_eq_decide_eq,eq_comm]
  grind
def mQ:∀(k f:VN),PyData.eqvAll (k.map .int) (f.map .int)=decide (k=f)
 |[],[]=>by simp[PyData.eqvAll]
 |[],_::_=>by simp[PyData.eqvAll]
 |_::_,[]=>by simp[PyData.eqvAll]
 |a::k,b::f=>by
  simp only[qw,PyData.eqvAll,PyData.eqv,mQ k f];by_cases z:a=b<;>simp[z]
def rR:∀(f:VP),(f.map λk=>PyData.tuple (k.map .int)).any (λe=>PyData.eqv e (.tuple (k.map .int)))=decide (k∈f)
 |[]=>by simp
 |y::ys=>by
  rw[qw,Pw,rR ys]
  have:PyData.eqv (.tuple (y.map .int)) (.tuple (k.map .int))=decide (y=k):=by simp only[PyData.eqv,mQ]
  grind
def jC{neg:Bool}{x:Int}{d:D}{xs:VN}(e:d.items=J (xs.map .int)):J5 neg (.int x) d=J (.bl (if neg then !decide (x∈xs)else decide (x∈xs))):=by obtain⟨a,b⟩:=kv xs;simp only[J5,e,py,a];rw[c_ ⟨⟨by simp[y6],⋯⟩,rfl,(jZ xs).1⟩,sh]
def wK{r:Bool}{k:VN}{d:D}{l:VP}(e:d.items=J (l.map kD)):J5 r (kD k) d=J (.bl (if r then !decide (k∈l)else decide (k∈l))):=by
 obtain⟨a,b⟩:=vf l;obtain⟨c,f⟩:=kv k;have u:py (kD k)=J (.tuple (k.map .int)):=by simp[kD,py,c]
 have z:(y6 (kD k)<=60/\u_ (l.map kD)<=60)/\(PyData.tuple (k.map .int)).canLay0=I/\PyData.canLayAll0 (l.map λk=>.tuple (k.map .int))=I:=⟨⟨by simp[kD,y6,f],⋯⟩,by simpa [PyData.canLay0]using(jZ k).1,(uP l).1⟩;unfold J5;rw[e];dsimp only;rw[u,a];dsimp only;rw[c_ z,rR]
end
@[simp]theorem Qy:CP g b [] env s=.nx env s:=rfl
theorem kj(e:g d env=J env1):CP g b (d::ds) env s=(b env1 s).turn (CP g b ds):=by rw[CP,e]
def gq(l:Nat->av->iw->Prop):∀(u:VR)(j:Nat)(env:av)(s:iw),l j env s ->
  (∀m env s d,l (j+m) env s->u[m]?=J d->∃i f r,g d env=J i/\b i s=.nx f r/\l (j+m+1) f r)->∃f r,CP g b u env s=.nx f r/\l (j+u.length) f r
 |[],j,env,s,E,_=>⟨env,s,rfl,E⟩
 |d::u,j,env,s,E,st=>by
  obtain⟨i,B,H,e1,e2,G⟩:=st 0 env s d E rfl;obtain⟨C,L,e3,F⟩:=gq l u (j+1) B H G λm f r x q z=>by
   have:=st (m+1) f r x (by rw[show j+(m+1)=j+1+m by lia];exact q) (by simpa using z)
   rw[show j+(m+1)+1=j+1+m+1 by lia]at this;exact this
  refine⟨C,L,?_,by rw[DN,show j+(u.length+1)=j+1+u.length by lia];exact F⟩;rw[kj e1,e2];exact e3
def oz(p:D->Bool)(f:D->D):∀(r:VR)(l:av),l.length=nv ->
  (∀x∈r,∀l:av,l.length=nv->∃i:av,i.length=nv/\g x (l++fr)=J (i++fr)/\t (i++fr) s=.ok (p x) s/\(p x=I->e (i++fr) s=.ok (f x) s))->fe g t e r (l++fr) s=.ok ((r.filter p).map f) s
 |[],l,hv,j=>rfl
 |x::r,l,hv,j=>by
  obtain⟨i,z,e1,e2,e3⟩:=j x (by simp) l hv;have B:=oz p f r i z λy C=>j y (m_ _ C);rw[fe,e1];dsimp only;rw[e2]
  cases u:p x with
  |true=>simp only[Pb,if_true,e3 u,B,List.filter_cons_of_pos u,qw]
  |false=>simp only[Pb,sf,if_false,B,List.filter_cons_of_neg (show ¬p x=I by simp[u])]
def oE{B j:VQ}{env:av}{s:iw}{z:Nat}{fm:VQ}{i:Xi B}{g:Xg j}{t:Xt j}{e:Xe j}{F:Dn z fm B=j}{H:e.fz=I}{r:VR}(p:D->Bool)(f:D->D)(G:i.p env s=.ok r s)(E:r.length<=100000)(u:∀x∈r,∀C:av,C.length=z->∃l:av,l.length=z/\g.p x (C++fm.map λi=>(env[i]?).getD Y)=J (l++fm.map λi=>(env[i]?).getD Y)/\t.p (l++fm.map λi=>(env[i]?).getD Y) s=.ok (p x) s/\(p x=I->e.p (l++fm.map λi=>(env[i]?).getD Y) s=.ok (f x) s)):
  (aG z fm i g t e F H).p env s=.ok (.lst ((r.filter p).map f)) s:=by
 rw[xc,G,Pb,c_ E];unfold wx;rw[oz p f r _ (by simp) u]
def fk{ws ws':VQ}{env:av}{s:iw}{fm:VQ}{i:Xi ws}{t:Xt ws'}{e:Xe ws'}{ds:VR}(p:D->Bool)(f:D->D)(B:i.p env s=.ok ds s)(u:ds.length<=100000)(j:∀x∈ds,t.p (J x::fm.map λi=>(env[i]?).getD Y) s=.ok (p x) s/\(p x=I->e.p (J x::fm.map λi=>(env[i]?).getD Y) s=.ok (f x) s))(l:ws'.contains 0=T:=by exact ys rfl)(z:Dn 1 fm ws=ws':=by exact ys rfl)(C:e.fz=I:=by exact ys rfl):
  (aG 1 fm i (i_ 0 l) t e z C).p env s=.ok (.lst ((ds.filter p).map f)) s :=
 oE p f B u λx r E hv=>match E,hv with
  |[_],_=>⟨[J x],rfl,rfl,j x r⟩
def kJ{ws ws':VQ}{env:av}{s:iw}{fm:VQ}{i:Xi ws}{t:Xt ws'}{e:Xe ws'}{ds:VR}(p:D->Bool)(f:D->D)(B:i.p env s=.ok ds s)(z:ds.length<=100000)(j:∀x∈ds,∃a b,x=.tup [a,b]/\t.p (J a::J b::fm.map λi=>(env[i]?).getD Y) s=.ok (p x) s/\(p x=I->e.p (J a::J b::fm.map λi=>(env[i]?).getD Y) s=.ok (f x) s))(l:ws'.contains 0=T:=by exact ys rfl)(u:ws'.contains 1=T:=by exact ys rfl)(hw:Dn 2 fm ws=ws':=by exact ys rfl)(hz:e.fz=I:=by exact ys rfl):
  (aG 2 fm i (Bn (pu (i_ 0 l) (pu (i_ 1 u) Bi)) 2) t e hw hz).p env s=.ok (.lst ((ds.filter p).map f)) s :=
 oE p f B z λx r C hv=>match C,hv with
  |[_,_],_=>let⟨a,b,e,q⟩:=j x r;⟨[J a,J b],rfl,by subst e;rfl,q⟩
def c6{α:Type}(l:List α):(l.filter λ_=>I)=l:=List.filter_eq_self.mpr (by simp)
def IsT(n:Int)(k:VN):Prop:=∃a b:Int,k=[a,b]/\0<=a/\a<n/\0<=b/\b<n/\a≠b
def o_:VN->VN
 |[a,b]=>[if b<a then b else a,if b>a then b else a]
 |k=>k
structure g_(n:Int)(ks:VP):Prop where
 n0:0<=n
 n12:n<=12
 tie:∀k∈ks,∃a b:Int,k=[a,b]/\0<=a/\a<b/\b<n
 ris:SortT.Fy ks
 nd:ks.Nodup
def Kc:VP:=(List.range 12).flatMap λb=>(List.range b).map λ(a:Nat)=>[(a:Int),(b:Int)]
def BU:Kc.length=66:=by decide
def Bj(i:n<=12)(f:0<=a)(l:a<b)(j:b<n):[a,b]∈Kc:=by
 unfold Kc;rw[Ll];refine⟨b.toNat,by simp;lia,?_⟩;rw[ml];refine⟨a.toNat,by simp;lia,?_⟩;congr 1
 .lia
 .lia
def gL{n:Int}{i:VP}(z:n<=12)(l:∀k∈i,∃a b:Int,k=[a,b]/\0<=a/\a<b/\b<n)(nd:i.Nodup):i.length<=66:=by rw[<-BU];refine List.Nodup.length_le_of_subset nd λk f=>?_;obtain⟨a,b,rfl,r,u,j⟩:=l k f;exact Bj z r u j
def dI(h:a<b):o_ [a,b]=[a,b]:=by simp[o_,show ¬b<a by lia,show b>a from h]
def d8(h:b<a):o_ [a,b]=[b,a]:=by simp[o_,h,show ¬b>a by lia]
def below(v:Int)(f:VP):VN:=f.filterMap λk=>match k with|[a,b]=>if b=v then J a else Y|_=>Y
def above(v:Int)(f:VP):VN:=f.filterMap λk=>match k with|[a,b]=>if a=v then J b else Y|_=>Y
def b_(n:Nat):VN:=(List.range n).map λ(i:Nat)=>(i:Int)
def ah:i∈b_ n↔0<=i/\i<n:=by
 unfold b_;rw[ml];constructor
 .rintro⟨k,f,rfl⟩;rw[w5]at f;lia
 .intro ⟨a,b⟩;exact⟨i.toNat,by rw[w5];lia,⋯⟩
def br(n:Nat):(b_ n).Nodup:=by exact List.Pairwise.map _ (λa b h=>by lia) Mb
def cF(h:0<=i):∃n:Nat,i=(n:Int):=⟨i.toNat,⋯⟩
def N5(h:SortT.cf [c,d] [a,b]=T):a<c\/(a=c/\b<=d):=by
 simp only[SortT.cf]at h;by_cases z:c=a
 .rw[c_ z]at h
  grind
 .rw[f_ z]at h;simp at h;lia
def FY(w:g_ n f):(below v f++above v f).Pairwise (·<=·):=by
 have tie:=w.tie;have ris:=w.ris;clear w;rw[QO];have mb:∀(f:VP)(x:Int),x∈below v f->(∀k∈f,∃a b:Int,k=[a,b]/\0<=a/\a<b/\b<n)->[x,v]∈f/\x<v:=λf x r tie=>by
  obtain⟨k,u,e⟩:=Dq.mp r;obtain⟨a,b,rfl,_,lt,_⟩:=tie k u;by_cases z:b=v
  .simp[z]at e;subst e;subst z;exact⟨u,lt⟩
  .simp[z]at e
 have C:∀(f:VP)(x:Int),x∈above v f->(∀k∈f,∃a b:Int,k=[a,b]/\0<=a/\a<b/\b<n)->[v,x]∈f/\v<x:=λf x r tie=>by
  obtain⟨k,u,e⟩:=Dq.mp r;obtain⟨a,b,rfl,_,lt,_⟩:=tie k u;by_cases z:a=v
  .simp[z]at e;subst e;subst z;exact⟨u,lt⟩
  .simp[z]at e
 refine⟨?_,?_,λx r y E=>?_⟩
 .induction f with
  |nil=>exact .nil
  |cons k f B =>
   obtain⟨a,b,rfl,_⟩:=tie k (by simp);have j:=λk u=>tie k (m_ _ u);have i:=(Hv.mp ris);have l:=B j i.2;have e1:below v ([a,b]::f)=(if b=v then [a]else [])++below v f:=by unfold below;by_cases z:b=v<;>simp[z]
   rw[e1];by_cases z:b=v
   .rw[c_ z];refine Hv.mpr ⟨λx r=>?_,l⟩
    have:=N5 (i.1 _ (mb f x r j).1)
    lia
   .rw[f_ z];exact l
 .induction f with
  |nil=>exact .nil
  |cons k f B =>
   obtain⟨a,b,rfl,_⟩:=tie k (by simp);have j:=λk u=>tie k (m_ _ u);have i:=(Hv.mp ris);have l:=B j i.2;have e1:above v ([a,b]::f)=(if a=v then [b]else [])++above v f:=by unfold above;by_cases z:a=v<;>simp[z]
   rw[e1];by_cases z:a=v
   .rw[c_ z];refine Hv.mpr ⟨λx r=>?_,l⟩
    have:=N5 (i.1 _ (C f x r j).1)
    lia
   .rw[f_ z];exact l
 .have:=(mb f x r tie).2
  have:=(C f y E tie).2
  lia
def lH(w:g_ n C):(below v C++above v C).Nodup/\∀x∈below v C++above v C,0<=x/\x<n:=by
 have mb:∀x,x∈below v C->0<=x/\x<v/\x<n:=λx f=>by
  obtain⟨k,B,e⟩:=Dq.mp f;obtain⟨a,b,rfl,_,lt,_⟩:=w.tie k B;by_cases z:b=v
  .simp[z]at e;subst e;lia
  .simp[z]at e
 have F:∀x,x∈above v C->0<=x/\v<x/\x<n:=λx f=>by
  obtain⟨k,B,e⟩:=Dq.mp f;obtain⟨a,b,rfl,_,lt,_⟩:=w.tie k B;by_cases z:a=v
  .simp[z]at e;subst e;lia
  .simp[z]at e
 refine⟨?_,λx f=>?_⟩
 .rw[CJ];refine⟨?_,?_,λx f y i=>?_⟩
  .unfold below List.Nodup;rw[QM];refine List.Pairwise.imp_of_mem (λ{k E} B u r x f y i=>?_) w.nd;obtain⟨a,b,rfl,_⟩:=w.tie k B;obtain⟨c,d,rfl,_⟩:=w.tie E u;by_cases l:b=v
   .by_cases j:d=v
    .simp[l]at f;simp[j]at i;subst f i;rintro rfl;exact r (by rw[l,j])
    .simp[j]at i
   .simp[l]at f
  .unfold above List.Nodup;rw[QM];refine List.Pairwise.imp_of_mem (λ{k E} B u r x f y i=>?_) w.nd;obtain⟨a,b,rfl,_⟩:=w.tie k B;obtain⟨c,d,rfl,_⟩:=w.tie E u;by_cases l:a=v
   .by_cases j:c=v
    .simp[l]at f;simp[j]at i;subst f i;rintro rfl;exact r (by rw[l,j])
    .simp[j]at i
   .simp[l]at f
  .have:=mb x f
   have:=F y i
   lia
 .rcases nq.mp f with q|q
  .have:=mb x q;lia
  .have:=F x q;lia
def aP(ns:VN)(j:Nat):VP:=(List.range j).flatMap λi=>(ns.drop (i+1)).map λb=>[ns.getD i 0,b]
def nC:aP ns (j+1)=aP ns j++(ns.drop (j+1)).map λb=>[ns.getD j 0,b]:=by simp[aP,Pt]
def fP(f:ns.length<=12):∀(j:Nat),(aP ns j).length<=12*j
 |0=>by simp[aP]
 |j+1=>by
  have:=fP f j
  rw[nC,xK,BL,Dt];lia
def dy(B:ns.Pairwise (·<·))(u:∀x∈ns,0<=x/\x<n):∀k∈aP ns ns.length,∃a b:Int,k=[a,b]/\0<=a/\a<b/\b<n:=λk r=>by
 obtain⟨i,l,r⟩:=Ll.mp r;rw[w5]at l;obtain⟨b,f,rfl⟩:=ml.mp r;obtain⟨j,C,z⟩:=Ht f;rw[Dt]at C;rw[Pp]at z;have e1:ns.getD i 0=ns[i]:=by simp[l]
 rw[e1];have lt:=GD.mp B i (i+1+j) l ⋯ ⋯;rw[z]at lt;exact⟨_,_,rfl,(u _ (Ps l)).1,lt,(u _ (Ph f)).2⟩
noncomputable section
def qL:D->Option Bool
 |.non=>J T
 |.bl b=>J b
 |.int i=>J (i != 0)
 |.tup xs=>J (!xs.isEmpty)
 |.lst xs=>J (!xs.isEmpty)
 |_=>Y
def Rps.empty(r:Rps p h O f vs):vs.isEmpty=f.isEmpty:=by
 cases f with
 |nil=>rw[show vs=[]from r];rfl
 |cons d f=>obtain⟨x,t,e,_⟩:=r;rw[e];rfl
def uX(w:Vw q h L O d v)(e:qL d=J b):nL h v=J b:=by
 cases d with
 |non=>cases e;rw[w.non];rfl
 |bl c=>cases e;rw[w.bl];rfl
 |int c=>cases e;rw[w.int];rfl
 |tup c=>cases e;obtain⟨xs,rfl,r⟩:=w.tup;rw[nL,r.empty]
 |lst c=>cases e;obtain⟨n,xs,rfl,g,r⟩:=w.lst;simp only[nL,g];rw[r.empty]
 |_=>cases e
section
variable{ws:VQ}
def N6(a:Xe ws):Xt ws where
 m:=Uz a.m
 p:=λenv s=>(a.p env s).bind λd s=>.of (qL d) s
 ok {q h L B O Z env s} c:=by
  refine(a.ok c).bind λx v f i j p1 ⟨w,_,_⟩=>?_
  cases e:qL x with
  |none=>trivial
  |some b=>rw[uX w e];exact⟨b,f,rfl,KB.refl _ _,p1,rfl⟩
structure OpR where
 m:Nat->VL->MH->VZ
 p:VR->VR->VD
 ok:∀{q:Nat}{h:MH}{L:Nat}{O:VQ}{n:Nat}{xs:VL}{ds as:VR}{vs:VL}{d:D},h[n]?=J (.lst xs)->Rps q h O ds xs->Vws q h L O as vs->p ds as=J d->∃v,m n vs h=.ok v h/\Rp q h O d v/\∀k es,d≠dl k es
end
section
variable{ws:VQ}{env:av}{s:iw}
@[simp]theorem UV:(N6 a).p env s=(a.p env s).bind λd s=>.of (qL d) s:=rfl
end
end
noncomputable section
section
variable{ws:VQ}{env:av}{s:iw}
end
end
noncomputable section
section
variable{ws:VQ}
end
end
noncomputable section
variable{ws:VQ}
end
end PU
namespace MM
open PySem.Spec PyProof.Rows L2
def N7:l_:=λ_ _=>.bad
def Kd{X:Cx}{st:Stmt}:MS X st N7:=λj s Z H D f ⟨U,i,h,l,r,q⟩=>q.elim
end MM
namespace PU
open MM
def Ke{ws:VQ}:Xd ws where
 m:=N7
 p:=λ_ _=>.bad
 fr:=I
 ok _ _:=trivial
end PU
namespace MM
open PySem.Spec PyProof.Rows L2
abbrev Su(scope sc:Scope)(vars frees:VM):Prop:=(∀y∈scope.names,y.2=.cell->scope.names.lookup y.1=J .cell)/\(∀y∈scope.names,y.2=.local->scope.names.lookup y.1=J .local)/\(∀x∈vars,scope.names.lookup x=J .local\/scope.names.lookup x=J .cell)/\(∀x∈frees,scope.names.lookup x=J .free)/\(∀y∈scope.names,y.2=.free->y.1∈frees)/\(∀x∈frees,sc.names.lookup x=J .cell)
def N8(f i:Scope):Scope:={ f with names:=f.names.map λ(n,k)=>if(k == .free&&i.kind == .function&&i.names.lookup n==J .cell)then(n,.cell)else(n,k)}
def AF{f i:Scope}{env:Env}(h:env.scope=i):relabel f env=N8 f i:=by subst h;rfl
def pZ{X:Cx}{N:VM}{f l:Scope}{j frees:VM}{fm:VQ}(y3:X.env.scope=l)(r:f.kind=.function)(u:fm.map (λi=>N[i]?)=frees.map J)(h:Su f l j frees):xO X N f j frees fm :=
 Jb y3 r h.1 h.2.1 h.2.2.1 h.2.2.2.1 h.2.2.2.2.1 u h.2.2.2.2.2
def Qz{Q:VT->Prop}(h:∀i,Q [i]):∀f,f.length=1->Q f
 |[_],_=>h _
def Sv{Q:VT->Prop}(h:∀i j,Q [i,j]):∀f,f.length=2->Q f
 |[_,_],_=>h _ _
def Sw{Q:VT->Prop}(h:∀i l j,Q [i,l,j]):∀f,f.length=3->Q f
 |[_,_,_],_=>h _ _ _
def Sx{Q:VT->Prop}(h:∀j r l i,Q [j,r,l,i]):∀f,f.length=4->Q f
 |[_,_,_,_],_=>h _ _ _ _
abbrev Zn(K:h8)(x:Str):Prop:=PySem.W.nsIn K mainGlobals x=J Y
abbrev Nn(X:Cx)(x:Str):Prop:=X.mg x=Y
abbrev Sc(X:Cx)(s:Stmt):Prop:=X.env.scope=ak s
abbrev Gd(X:Cx)(N G:VM)(k:Nat):Prop:=Good X N N G k
structure Ba(P:Program)(w:World)(K:h8)(mg:VC)(base:Heap):Prop where
 kin:K.In base
 ns:base.Ns mainGlobals mg
structure EE(X:Cx)(P:Program)(w:World)(K:h8)(mg:VC)(base:Heap):Prop where
 e1:X.prog=P
 e2:X.w=w
 e3:X.K=K
 e4:X.mg=mg
 e5:X.base=base
 b:Ba P w K mg base
section
variable{P:Program}{w:World}{K:h8}{mg:VC}{base:Heap}{X:Cx}
def EE.n(e:EE X P w K mg base){x:Str}(z:Zn K x):Nn X x:=by show X.mg x=Y;rw[e.e4];exact PySem.W.mg_none_of e.b.kin e.b.ns z
def FnAt.c{x:Str}{f:VM}{F:VL->MH->VZ}{i j:Nat}(a:FnAt P w K mg base x f F i)(e:EE X P w K mg base)(h:i<=j:=by decide):Cal X x f F j :=
 (a.mono h).cal e.e1 e.e2 e.e3 e.e4 e.e5
def Hb{x:Str}{st:Stmt}{N G ps:VM}{m:l_}{k:Nat}(b:Ba P w K mg base)(D:e_ K x st)(l:∀X:Cx,EE X P w K mg base->Sc X st->Gd X N G k->ij X->yf X (aC st) m)(B:iJ x st ps:=by first | exact λ_ _ _ _ _ _=>Qz λ_=>rfl | exact λ_ _ _ _ _ _=>Sv λ_ _=>rfl | exact λ_ _ _ _ _ _=>Sw λ_ _ _=>rfl | exact λ_ _ _ _ _ _=>Sx λ_ _ _ _=>rfl | exact λ_ _ _ _ _ _=>ar5 λ_ _ _ _ _=>rfl)(S:pk N ps (ak st):=by exact⟨rfl,rfl,rfl,by decide +kernel,rfl,by decide +kernel,by decide +kernel⟩)(j:∀y∈N,(ak st).names.lookup y=J .local\/(ak st).names.lookup y=J .cell:=by decide +kernel)(f:∀y∈G,(ak st).names.lookup y=J .globalImplicit:=by decide +kernel)(dbg:∀x∈N++G,(x==("__debug__":Str))=T/\(x==("__classdict__":Str))=T/\x≠"__name__":=by decide +kernel):
  FnAt P w K mg base x ps (cC N.length ps.length m) (k+1) :=
 tW b.kin b.ns D S B j f dbg λX e1 e2 e3 e4 e5 i g r=>l X ⟨e1,e2,e3,e4,e5,b⟩ i g r
end
structure YE(Y X:Cx):Prop where
 e1:Y.prog=X.prog
 e2:Y.w=X.w
 e3:Y.K=X.K
 e4:Y.mg=X.mg
 e5:Y.base=X.base
section
variable{X Y:Cx}{N W G:VM}{k:Nat}{x:Str}{p pos:Pos}{e:Expr}{es:VX}{m:Mx (VL)}{f:VL->MH->VZ}
def YE.c(y:YE Y X){j:VM}{F:VL->MH->VZ}{i:Nat}(c:Cal X x j F i):Cal Y x j F i:=c.at y.e1 y.e2 y.e3 y.e4 y.e5
def kV(g:Good X N W G k)(i:Nat)(j:N[i]?=J x:=by rfl):ME X (.Name x pos) (af i):=zv g i j
def Sy(g:Good X N W G k)(i:Nat)(l:N[i]?=J x:=by rfl)(j:W[i]?=J x:=by rfl):MG X (.Name x pos) (EH i):=vS g i l j
def vi{a b:Expr}{i mb:Mx PV}(r:ME X a i)(j:ME X b mb)(l:lT b:=by exact λ_ _=>rfl):ME X (.Subscript a b pos) (ar bC i mb):=GW r j l
def DV{i:CmpOp}{f:PV->PV->MH->VZ}{a b:Expr}{j mb:Mx PV}(r:wl X (compareOp i) f)(z:ME X a j)(l:ME X b mb)(u:behindInMarks i b=T:=by first | exact Dv _ | rfl):MT X (.Compare a [i] [b] pos) (mB (ar f j mb)):=zi r z l u
def xv(g:Good X N W G k)(j:Nat){l:VM}{F:VL->MH->VZ}(C:Cal X x l F k)(u:MA X (e::es) m)(z:G[j]?=J x:=by rfl)(r:starEach (e::es) X.env=(T,eval e X.env)::starEach es X.env:=by rfl)(i:(backTo pos (starEach es X.env)).any (·.1)=T:=by rfl):ME X (.Call (.Name x p) (e::es) [] pos) (bT F m):=qF g z C u r i
def Hc{id:String}(g:Good X N W G k)(j:Nat)(B:dB X (.builtin id) f)(r:X.mg x=none)(hv:bootBuiltins x=J (.builtin id))(u:MA X (e::es) m)(z:G[j]?=J x:=by rfl)(l:starEach (e::es) X.env=(T,eval e X.env)::starEach es X.env:=by rfl)(i:(backTo pos (starEach es X.env)).any (·.1)=T:=by rfl):ME X (.Call (.Name x p) (e::es) [] pos) (w_ f m):=uZ g j z B r hv u l i
def UW{i:String}(g:Good X N W G k)(j:Nat)(C:dB X (.type i) f)(u:X.mg x=none)(hv:bootBuiltins x=J (.type i))(z:MA X (e::es) m)(B:G[j]?=J x:=by rfl)(r:starEach (e::es) X.env=(T,eval e X.env)::starEach es X.env:=by rfl)(l:(backTo pos (starEach es X.env)).any (·.1)=T:=by rfl):ME X (.Call (.Name x p) (e::es) [] pos) (w_ f m):=rB g j B C u hv z r l
def Vx{l a:Expr}(g:Good X N W G k)(j:Nat)(i:X.mg "range"=none)(u:MA X [a] m)(z:G[j]?=J "range":=by rfl)(r:starEach [a] X.env=[(T,eval a X.env)]:=by rfl):MI X l (.Call (.Name "range" p) [a] [] pos) (xS m):=rP (g.gl _ (au z)) i u r
section
variable{tg iter elt:Expr}{ifs:VX}{scope sc:Scope}{mi:Mx MIt}{gt:Mg}{mt:Mx Bool}{me:Mx PV}
def Sz(g:Good X N W G k)(y3:X.env.scope=sc)(j frees l:VM)(fm:VQ)(E:MI X tg iter mi)(B:∀Y:Cx,YE Y X->Good Y (j++frees) j l k->MG Y tg gt/\IU Y ifs mt/\ME Y elt me)(C:scope.kind=.function:=by rfl)(z:fm.map (λi=>N[i]?)=frees.map J:=by rfl)(h:Su scope sc j frees:=by decide +kernel)(nd:(j++frees).Nodup:=by decide +kernel)(r:∀x∈l,scope.names.lookup x=J .globalImplicit:=by decide +kernel)(dbg:∀x∈(j++frees)++l,(x==("__debug__":Str))=T/\(x==("__classdict__":Str))=T/\x≠"__name__":=by decide +kernel)(u:∀x,foldedSetIterable iter X.env x=pure x:=by exact λ_=>rfl):ME X (.ListComp elt [⟨tg,iter,ifs,0⟩] scope pos) (fJ j.length fm mi gt mt me) :=
 xp g (pZ y3 C z h) nd r dbg E (λY M L F H O _ g=>B Y ⟨M,L,F,H,O⟩ g) u
end
end
abbrev Ay:=@PyProof.Rows.Boot.«abs»
abbrev o5:=@PyProof.Rows.Boot.«min»
abbrev Az:=@PyProof.Rows.Boot.«max»
abbrev Kf:=@PyProof.Rows.Boot.«int»
abbrev lf:=@PyProof.Rows.Boot.«len»
abbrev FZ:=@PyProof.Rows.Boot.«list»
abbrev nM:=@PyProof.Rows.Boot.«tuple»
abbrev F0:=@PyProof.Rows.Boot.«bool»
abbrev sE:=@PyProof.Rows.Boot.«ValueError»
abbrev zq:=@PySem.F.slot_list_append
abbrev yQ:=@PySem.F.type_list_append
abbrev zN:=@PySem.F.slot_list_extend
abbrev zR:=@PySem.F.type_list_extend
abbrev Kg:=@PySem.F.slot_list_pop
abbrev Kh:=@PySem.F.type_list_pop
abbrev Af:=@PySem.F.slot_list_insert
abbrev Ag:=@PySem.F.type_list_insert
end MM
namespace PU
open MM
open L2 (wk n5 iM)
noncomputable section
section
variable{ws:VQ}
end
end
noncomputable section
end
noncomputable section
end
section
variable{ws:VQ}
end
end PU
namespace PU
open MM L2
def Dc:DQ where
 m:=sW
 p:=λf z=>match z,f with
  |[.int 0],d::r=>J (d,r)
  |_,_=>Y
 ok {q h O n xs f z vs d ds'} g r u e:=by
  match z,f,r,u,e with
  |[.int 0],d::l,r,u,e =>
   cases e;obtain⟨x,t,rfl,B,b⟩:=u
   have:t=[]:=b
   subst this;rw[show x=PV.int 0 from B];obtain⟨y,j,rfl,C,i⟩:=r;exact⟨y,j,by simp only[sW,g],i,C⟩
noncomputable section
end
end PU
namespace PU
open MM
noncomputable section
def lW:yv where
 m:=vM
 p:=λa b=>match a,b with
  |.tup [],.tup y=>J (.tup y)
  |a,b=>aK.p a b
 fr:=I
 ok {q h L O a x b y d} bd wa wb e:=by
  by_cases z:(∃j,b=.tup j)/\a=.tup []
  .obtain⟨⟨j,rfl⟩,rfl⟩:=z;cases e;obtain⟨xs,rfl,r⟩:=wa.tup;obtain⟨ys,rfl,B⟩:=wb.tup
   have:xs=[]:=r
   subst this;exact J3 ⟨_,rfl,B⟩ λ_ k _ e=>by cases k<;>cases e
  .have f:aK.p a b=J d:=by
    revert e;split
    .exact absurd ⟨⟨_,rfl⟩,rfl⟩ z
    .exact id
   have:vM x y h=j_ x y h:=by
    unfold vM;split
    .exfalso
     cases a with
     |tup u =>
      obtain⟨xs,ex,r⟩:=wa.tup;cases ex
      have:=r.length
      cases u with
      |nil =>
       cases b with
       |tup bs=>exact z ⟨⟨_,rfl⟩,rfl⟩
       |_=>cases f
      |cons _ _=>simp at this
     |int i=>have:=wa.int;cases this
     |lst l=>obtain⟨n,xs,ex,_⟩:=wa.lst;cases ex
     |_=>cases f
    .rfl
   show Gv q h O I (vM x y h) d;rw[this];exact aK.ok bd wa wb f
section
variable{ws:VQ}
end
end
end PU
namespace MM
open PySem.Spec PyProof.Rows L2
open PU (Xe Xs Xt Xi Xg G6 Xo Xd Qi yv CO Qj DQ OpR Fn ac xC ae Dm a_ aa qo ag sY cU aI xB tf i7 LG ix lN sR oD aG bL aY i_ Bi pu Bn aB i0 bo oX fS ul bf gE gf Qo w4 u6 cr G8 LL LM LP N6 Ke)
structure Dj(X:Cx)(e:Expr)(m:Mx Bool):Prop where
 h:MT X e m
structure Ki(X:Cx)(e:Expr)(m:Mx Bool):Prop where
 h:MW X e m
structure LQ(X:Cx)(tg e:Expr)(m:Mx MIt):Prop where
 h:MI X tg e m
structure N9(X:Cx)(e:Expr)(m:Mg):Prop where
 h:MG X e m
structure QA(X:Cx)(e:VX)(m:EI):Prop where
 h:M4 X e m
structure SA(X:Cx)(e:VX)(m:Mx Bool):Prop where
 h:IU X e m
structure QB(X:Cx)(e:Option Expr)(m:Mx (VW)):Prop where
 h:MO' X e m
structure OJ(X:Cx)(r:Value->Value->Sem Value)(o:yv):Prop where
 h:wl X r o.m
def Kj(f:Scope):VM:=(f.names.filter λy=>match y.2 with|.globalImplicit=>I|_=>T).map (·.1)
abbrev gm(sc:Scope)(x:Str):Prop:=x∈Kj sc
def Hd:Expr->VM
 |.Name x _=>[x]
 |.Tuple f _ _=>f.flatMap λe=>match e with
  |.Name x _=>[x]
  |.Tuple f _ _=>f.flatMap λe=>match e with
   |.Name x _=>[x]
   |_=>[]
  |_=>[]
 |_=>[]
def LR(N:VM)(fm:VQ):VM:=fm.filterMap (N[·]?)
structure Wc(X:Cx)(P:Program)(w:World)(K:h8)(mg:VC)(base:Heap)(N W:VM)(k:Nat)(sc:Scope):Prop where
 g:Good X N W (Kj sc) k
 e:EE X P w K mg base
 s:X.env.scope=sc
section
variable{X Y:Cx}{P:Program}{w:World}{K:h8}{mg:VC}{base:Heap}{N W:VM}{k:Nat}{sc:Scope}{ws:VQ}{x y:Str}{p p' pos spos:Pos}{e a b d tg:Expr}{es:VX}{i j:Nat}{st:Stmt}{rest body:VF}{xa xb xd:Xe ws}{ta tb:Xt ws}{sa:Xs ws}{da db:Xd ws}
def Wc.gj(c:Wc X P w K mg base N W k sc)(h:gm sc x):∃j:Nat,(Kj sc)[j]?=J x:=List.getElem?_of_mem h
def Wc.n(c:Wc X P w K mg base N W k sc)(z:Zn K x):X.mg x=none:=c.e.n z
def N_{i:Int}:kw X (.Constant (.int i) j pos) (xC (ws:=ws) (.int i)).m:=⟨ao⟩
def Oa{i:Str}:kw X (.Constant (.str i) j pos) (xC (ws:=ws) (.str i)).m:=⟨zF⟩
def SD{i:Bool}:kw X (.Constant (.bool i) j pos) (xC (ws:=ws) (.bl i)).m:=⟨mJ⟩
def Ob:kw X (.Constant .none j pos) (xC (ws:=ws) .non).m:=⟨zS⟩
def Oc{f:Operator}{o:yv}(u:OJ X (binaryOp f) o)(r:kw X a xa.m)(l:kw X b xb.m):kw X (.BinOp a f b pos) (ae o xa xb).m:=⟨aJ u.h r.h l.h⟩
def Od{f:CmpOp}{o:yv}(z:OJ X (compareOp f) o)(u:kw X a xa.m)(l:kw X b xb.m)(r:behindInMarks f b=T):kw X (.Compare a [f] [b] pos) (ae o xa xb).m:=⟨Iu z.h u.h l.h r⟩
def SF(f:kw X a xa.m)(l:kw X b xb.m)(r:lT b):kw X (.Subscript a b pos) (ae PU.jj xa xb).m:=⟨GW f.h l.h r⟩
def Oe(f:kw X a xa.m):kw X (.UnaryOp .USub a pos) (Dm PU.pJ xa).m:=⟨M2 IH f.h⟩
def Kk(f:kw X a xa.m):kw X (.UnaryOp .Not a pos) (sR xa).m:=⟨Av f.h⟩
def F1{r f:CmpOp}{o u:yv}(E:OJ X (compareOp r) o)(l:OJ X (compareOp f) u)(C:kw X a xa.m)(z:kw X b xb.m)(hd:kw X d xd.m)(B:lastMarks [r,f] [b,d]=T):kw X (.Compare a [r,f] [b,d] pos) (oD o u xa xb xd).m:=⟨Ct E.h l.h C.h z.h hd.h B⟩
def Of{l:BoolOp}(f:kw X a xa.m):kw X (.BoolOp l [a] pos) xa.m:=⟨zp f.h⟩
def Kl(f:kw X a xa.m)(l:kw X (.BoolOp .And (b::es) pos) xb.m):kw X (.BoolOp .And (a::b::es) pos) (lN xa xb).m:=⟨AH f.h l.h⟩
def Og{hz}(h:BC X es sa.m):kw X (.Tuple es j pos) (aI sa hz).m:=JR h
def Oh{hz}(h:BC X es sa.m):kw X (.List es pos) (cU sa hz).m:=NM h
def SG{lo r:Option Expr}{l f:Xo ws}(B:kw X a xa.m)(u:QB X lo l.m)(z:QB X r f.m):kw X (.Subscript a (.Slice lo r none p) pos) (LP xa l f).m:=⟨Nu B.h u.h z.h⟩
def SH:QB X none (LL (ws:=ws)).m:=⟨Fb⟩
def SI(f:kw X a xa.m):QB X (J a) (LM xa).m:=⟨Fc f.h⟩
def Oi:BC X [] (a_ (ws:=ws)).m:=dZ
def Km(f:kw X e xa.m)(r:BC X es sa.m)(l:bv e=I):BC X (e::es) (aa xa sa).m:=bh f r l
def Oj:OJ X (binaryOp .Add) PU.aK:=⟨du⟩
def Ol:OJ X (binaryOp .Sub) PU.bO:=⟨AD⟩
def Om:OJ X (binaryOp .Mult) PU.nO:=⟨gQ⟩
def SJ:OJ X (binaryOp .FloorDiv) PU.Qq:=⟨yj⟩
def SK:OJ X (compareOp .Lt) PU.CQ:=⟨yF⟩
def SM:OJ X (compareOp .LtE) PU.R_:=⟨M8⟩
def SO:OJ X (compareOp .Gt) PU.FQ:=⟨yz⟩
def Oo:OJ X (compareOp .IsNot) (PU.NT I):=⟨II⟩
section
variable(c:Wc X P w K mg base N W k sc)
include c
def w_var(f:N[i]?=J x):kw X (.Name x pos) (ac (ws:=ws) i).m:=⟨zv c.g i f⟩
def SQ:OJ X (compareOp .Eq) PU.x3:=⟨GV c.g.room⟩
def SS:OJ X (compareOp .NotEq) PU.BV:=⟨sP c.g.room⟩
def SU:OJ X (compareOp .In) (PU.x4 T):=⟨G0 c.g.room T⟩
def Op:OJ X (compareOp .NotIn) (PU.x4 I):=⟨G0 c.g.room I⟩
end
def fK{env:Env}:∀{es:VX},es.all bv=I->(backTo pos (starEach es env)).any (·.1)=T
 |[],_=>rfl
 |e::es,h=>by
  have f:bv e=I/\es.all bv=I:=by simpa using h
  have:=fK (env:=env) f.2
  rw[aW f.1];simpa [backTo]using this
section
variable(c:Wc X P w K mg base N W k sc)
include c
def Kn{F:Fn}{u:VM}{hz}(z:BC X (e::es) sa.m)(f:FnAt P w K mg base x u F.m i)(h:i<=k)(C:gm sc x)(r:(e::es).all bv=I):kw X (.Call (.Name x p) (e::es) [] pos) (ag F sa hz).m :=
 let⟨_,B⟩:=c.gj C
 have l:bv e=I/\es.all bv=I:=by simpa using r
 ⟨qF c.g B (f.c c.e h) z.h (aW l.1) (fK l.2)⟩
def Ko{F:Fn}{u:VM}{hz}(z:BC X (e::es) sa.m)(f:FnAt P w K mg base x u F.m i)(h:i<=k)(C:gm sc x)(r:(e::es).all bv=I):kw X (.Call (.Name x p) (e::es) [] pos) (sY F sa hz).m :=
 let⟨_,B⟩:=c.gj C
 have l:bv e=I/\es.all bv=I:=by simpa using r
 ⟨qF c.g B (f.c c.e h) z.h (aW l.1) (fK l.2)⟩
end
inductive BB(X:Cx)(x:Str)(o:CO):Prop
 |fn(id:String)(f:VL->MH->VZ)(h:bootBuiltins x=J (.builtin id))(c:dB X (.builtin id) f)(e:o.k=λxs h=>(f xs h).ne:=by rfl):BB X x o
 |ty(T:String)(f:VL->MH->VZ)(h:bootBuiltins x=J (.type T))(c:dB X (.type T) f)(e:o.k=λxs h=>(f xs h).ne:=by rfl):BB X x o
def Oq:BB X "len" PU.lg:=.fn _ _ lf kX
def Kq:BB X "list" PU.yb:=.ty _ _ FZ Fa
def F2:BB X "tuple" PU.gW:=.ty _ _ nM nQ
section
variable(c:Wc X P w K mg base N W k sc)
include c
def Ot{o:CO}(B:BB X x o)(r:BC X (e::es) sa.m)(z:Zn K x)(F:gm sc x)(E:(e::es).all bv=I):kw X (.Call (.Name x p) (e::es) [] pos) (qo o sa).m:=by
 obtain⟨j,u⟩:=c.gj F;have l:bv e=I/\es.all bv=I:=by simpa using E
 refine⟨?_⟩;show ME X _ (λZ h=>(sa.m Z h).bind o.k)
 cases B with
 |fn id f h d q=>rw[q];exact uZ c.g j u d (c.n z) h r.h (aW l.1) (fK l.2)
 |ty C f h d q=>rw[q];exact rB c.g j u d (c.n z) h r.h (aW l.1) (fK l.2)
def Ou:BB X "min" PU.FS:=.fn _ _ o5 (tT c.g)
def Ov:BB X "max" PU.FT:=.fn _ _ Az (IJ c.g)
def Kr:BB X "min" PU.nY:=.fn _ _ o5 (Fe c.g)
def Ks:BB X "max" PU.pf:=.fn _ _ Az (Fd c.g)
def SV(B:BC X [a] sa.m)(l:Zn K "sorted")(f:Zn K "set")(u:gm sc "sorted")(z:gm sc "set")(r:bv a=I):kw X (.Call (.Name "sorted" p) [.Call (.Name "set" p') [a] [] spos] [] pos) (qo PU.Qr sa).m :=
 let⟨_,i⟩:=c.gj u;let⟨_,j⟩:=c.gj z
 ⟨uG c.g i (c.n l) j (c.n f) B.h (aW r)⟩
def SW(B:BC X [a] sa.m)(l:Zn K "list")(f:Zn K "range")(u:gm sc "list")(z:gm sc "range")(r:bv a=I):kw X (.Call (.Name "list" p) [.Call (.Name "range" p') [a] [] spos] [] pos) (qo PU.NW sa).m :=
 let⟨_,i⟩:=c.gj u;let⟨_,j⟩:=c.gj z
 ⟨Bg c.g i (c.n l) j (c.n f) B.h (aW r)⟩
end
structure BT(x:Str)(T:String):Prop where
 h:bootBuiltins x=J (.type T)
 o:Na T
def Ow:BT "int" "int":=⟨Kf,EN⟩
def Kt:BT "bool" "bool":=⟨F0,Cf⟩
section
variable(c:Wc X P w K mg base N W k sc)
include c
def Ox{f:String}(B:BT x f)(E:kw X a xa.m)(r:Zn K "isinstance")(l:Zn K x)(z:gm sc "isinstance")(C:gm sc x)(u:bv a=I):kw X (.Call (.Name "isinstance" p) [a,.Name x p'] [] pos) (Dm (PU.FR [f]) xa).m :=
 let⟨_,i⟩:=c.gj z;let⟨_,j⟩:=c.gj C
 ⟨IK c.g i (c.n r) j (c.n l) B.h B.o E.h (aW u)⟩
end
abbrev MJ(X:Cx)(name:Str)(f:Nat->VL->MH->VZ):Prop:=∃id,Slot "list" name id/\typeOf (.builtin id)=pure (.type "method_descriptor")/\Ii X id (Jc X f)
section
variable{name:Str}{f:Nat->VL->MH->VZ}{o:DQ}{m:Mx PV}
def SX{l:Mx (VL)}(M:MJ X name f)(r:kw X a m)(u:BC X (e::es) l)(h:(((backTo pos (starEach (e::es) X.env)).all (λx=>!x.1)&&(backToKw pos (keywordEach [] X.env)).all (λx=>x.1.isSome)&&decide ((e::es).length+([]:List Keyword).length+(if([]:List Keyword).isEmpty then 0 else 1)<30))=I/\(p.endLine==pos.line)=I)/\attributeBase a name X.env (eval a X.env)=eval a X.env/\starEach (e::es) X.env=(T,eval e X.env)::starEach es X.env/\(backTo pos (starEach es X.env)).any (·.1)=T):kw X (.Call (.Attribute a name p) (e::es) [] pos) (E9 f m l) :=
 let⟨_,x,y,z⟩:=M
 ⟨Nr x y z r.h u.h h.2.1 h.1.1 h.1.2 h.2.2.1 h.2.2.2⟩
def SY{hi hz}(h:kw X e (E9 o.m (ac (ws:=ws) i).m sa.m))(l:swapsWith e none pos.line X.env=pure T):Be X (.Expr e pos) (w4 o i sa hi hz).m:=⟨qy h.h l⟩
def Oy{hi hj hz}(c:Wc X P w K mg base N W k sc)(h:kw X e (E9 o.m (ac (ws:=ws) i).m sa.m))(u:swapsWith e (J (.Name y p)) pos.line X.env=pure T)(r:N[j]?=J y)(l:W[j]?=J y):Be X (.Assign [.Name y p] e pos) (u6 j o i sa hi hj hz).m:=⟨om c.g j r l h.h u⟩
end
def Bw:MJ X "append" PU.qp.m:=⟨_,zq,yQ,zy⟩
def Bm:MJ X "extend" PU.i3.m:=⟨_,zN,zR,AO⟩
def Cs:MJ X "insert" PU.xg.m:=⟨_,Af,Ag,zM⟩
def Ku:MJ X "pop" PU.Dc.m:=⟨_,Kg,Kh,FG⟩
def Kv{f:CmpOp}{o:yv}(z:OJ X (compareOp f) o)(u:kw X a xa.m)(l:kw X b xb.m)(r:behindInMarks f b=T):Dj X (.Compare a [f] [b] pos) (xB (ae o xa xb)).m:=⟨zi z.h u.h l.h r⟩
def Kw(h:Dj X a ta.m):Dj X (.UnaryOp .Not a pos) (tf ta).m:=⟨nV h.h⟩
def S0{f:BoolOp}(h:Ki X (.BoolOp f es pos) ta.m):Dj X (.BoolOp f es pos) ta.m:=⟨MW.mt h.h⟩
def Kx(h:Dj X a ta.m):Ki X (.BoolOp .And [a] pos) ta.m:=⟨EF h.h⟩
def Oz(h:Dj X a ta.m):Ki X (.BoolOp .Or [a] pos) ta.m:=⟨Ab h.h⟩
def w_and(h:Dj X a ta.m)(f:Ki X (.BoolOp .And (b::es) pos) tb.m):Ki X (.BoolOp .And (a::b::es) pos) (i7 ta tb).m:=⟨Ix h.h f.h⟩
def w_or(h:Dj X a ta.m)(f:Ki X (.BoolOp .Or (b::es) pos) tb.m):Ki X (.BoolOp .Or (a::b::es) pos) (LG ta tb).m:=⟨GR h.h f.h⟩
def OA(h:kw X e xa.m)(l:∀f,isTrue e X.env f=(do let v <-f;standAt e.pos;holding [v] (truthy v))):Dj X e (N6 xa).m:=⟨JP h.h l⟩
def OB(h:kw X e xa.m)(l:∀f,isTrue e X.env f=(do let v <-f;standAt e.pos;holding [v] (truthy v))):Dj X e (xB xa).m:=⟨lp h.h l⟩
def OC:SA X [] (ix (ws:=ws)).m:=⟨qA⟩
def OD(h:Dj X a ta.m):SA X [a] ta.m:=⟨xq h.h⟩
def S5:QA X [] (Bi (ws:=ws)).m:=⟨EJ⟩
def S8{ga:Xg ws}{f:G6 ws}(l:N9 X e ga.m)(r:QA X es f.m)(u:(assignEach (e::es) X.env).map (·.2)=assign e X.env::(assignEach es X.env).map (·.2)):QA X (e::es) (pu ga f).m:=⟨Bu l.h r.h u⟩
def OE(h:kw X a xa.m):LQ X tg a (aY xa).m:=⟨uq h.h⟩
section
variable(c:Wc X P w K mg base N W k sc)
include c
def S9{hi}(h:N[i]?=J x)(f:W[i]?=J x):N9 X (.Name x pos) (i_ (ws:=ws) i hi).m:=⟨vS c.g i h f⟩
def S_{l:G6 ws}{n:Nat}(h:QA X es l.m)(r:(assignEach es X.env).length=n)(f:(assignEach es X.env).findIdx? (·.1)=none):N9 X (.Tuple es j pos) (Bn l n).m:=⟨IB c.g h.h r f⟩
def Ta{n:Nat}(h:BC X [a] sa.m)(z:Zn K "enumerate")(r:gm sc "enumerate")(f:bv a=I):LQ X (.Tuple es n p) (.Call (.Name "enumerate" p') [a] [] pos) (bL PU.iE sa).m:=let⟨_,l⟩:=c.gj r;⟨FF c.g l (c.n z) h.h (aW f)⟩
def OF(h:BC X [a] sa.m)(z:Zn K "range")(l:gm sc "range")(f:bv a=I):LQ X tg (.Call (.Name "range" p) [a] [] pos) (bL PU.v2 sa).m:=⟨rP (c.g.gl _ l) (c.n z) h.h (aW f)⟩
end
structure CB(Y:Cx)(tg elt:Expr)(ifs:VX)(gt:Mg)(mt:Mx Bool)(me:Mx PV):Prop where
 g:N9 Y tg gt
 t:SA Y ifs mt
 e:kw Y elt me
section
variable{iter elt:Expr}{ifs:VX}{scope:Scope}{nv:Nat}{fm ws':VQ}{xi:Xi ws}{gt:Xg ws'}{xt:Xt ws'}{xe:Xe ws'}{hw:PU.Dn nv fm ws=ws'}{hz:xe.fz=true}
abbrev UX(N:VM)(tg:Expr)(nv:Nat)(fm:VQ)(scope sc:Scope):Prop:=Su scope sc (Hd tg) (LR N fm)/\(Hd tg++LR N fm).Nodup/\(∀x∈Kj (N8 scope sc),scope.names.lookup x=J .globalImplicit)/\(∀x∈(Hd tg++LR N fm)++Kj (N8 scope sc),(x==("__debug__":Str))=T/\(x==("__classdict__":Str))=T/\x≠"__name__")/\fm.map (λi=>N[i]?)=(LR N fm).map J/\(Hd tg).length=nv
section
variable(c:Wc X P w K mg base N W k sc)
include c
def Ky(C:LQ X tg iter xi.m)(r:∀Y:Cx,Wc Y P w K mg base (Hd tg++LR N fm) (Hd tg) k (N8 scope sc)->CB Y tg elt ifs gt.m xt.m xe.m)(u:scope.kind=.function)(h:UX N tg nv fm scope sc)(f:∀x,foldedSetIterable iter X.env x=pure x):kw X (.ListComp elt [⟨tg,iter,ifs,0⟩] scope pos) (aG nv fm xi gt xt xe hw hz).m:=by
 obtain⟨G,nd,z,dbg,l,rfl⟩:=h;exact⟨xp c.g (pZ c.s u l G) nd z dbg C.h (λY L H E F M B g=>let q:=r Y ⟨g,⟨L.trans c.e.e1,H.trans c.e.e2,E.trans c.e.e3,F.trans c.e.e4,M.trans c.e.e5,c.e.b⟩,B.trans (AF c.s)⟩;⟨q.g.h,q.t.h,q.e.h⟩) f⟩
end
section
variable(c:Wc X P w K mg base N W k sc)(hsw:∀env:Env,env.scope=sc->swapsWith (.ListComp elt [⟨tg,iter,ifs,0⟩] scope pos) (some (.Name y p)) spos.line env=pure true)(hi:LQ X tg iter xi.m)(hY:∀Y:Cx,Wc Y P w K mg base (Hd tg++LR N fm) (Hd tg) k (N8 scope sc)->CB Y tg elt ifs gt.m xt.m xe.m)(hyi:N[i]?=some y)(hyw:W[i]?=some y)(h1:scope.kind=.function)(h:UX N tg nv fm scope sc)(hs:∀x,foldedSetIterable iter X.env x=pure x)
include hsw hi hY c hyi hyw h1 h hs
def F3:Be X (.Assign [.Name y p] (.ListComp elt [⟨tg,iter,ifs,0⟩] scope pos) spos) (bG i (fJ nv fm xi.m gt.m xt.m xe.m)):=by
 try clear hw
 obtain⟨E,nd,u,dbg,F,rfl⟩:=h;exact⟨EV c.g i hyi hyw (hsw X.env c.s) (pZ c.s h1 F E) nd u dbg hi.h (λY r z f l B C g=>let q:=hY Y ⟨g,⟨r.trans c.e.e1,z.trans c.e.e2,f.trans c.e.e3,l.trans c.e.e4,B.trans c.e.e5,c.e.b⟩,C.trans (AF c.s)⟩;⟨q.g.h,q.t.h,q.e.h⟩) hs⟩
def Kz{hi' hz'}:Be X (.Assign [.Name y p] (.ListComp elt [⟨tg,iter,ifs,0⟩] scope pos) spos) (bf i (aG nv fm xi gt xt xe hw hz) hi' hz').m:=F3 c hsw hi hY hyi hyw h1 h hs
end
end
def Tc:mz X [] (i0 (ws:=ws)).m:=⟨cX⟩
def gr(h:Be X st da.m):mz X [st] da.m:=yk h
def hU(l:Be X st da.m)(f:mz X rest db.m):mz X (st::rest) (aB da db).m:=s0 l f
def OG(h:kw X e xa.m):Be X (.Return (J e) pos) (bo xa).m:=CN h
def KA{hi}(h:kw X e (ac (ws:=ws) i).m):Be X (.Return (J e) pos) (oX (ws:=ws) i hi).m:=CN h
def KC(h:kw X e xa.m)(f:swapsWith e none pos.line X.env=pure T):Be X (.Expr e pos) (fS xa).m:=⟨qy h.h f⟩
def Te(r:Dj X e ta.m)(f:mz X body da.m)(l:mz X rest db.m):Be X (.If e body rest pos) (ul ta da db).m:=⟨eO r.h f.h l.h⟩
def OH:Be X st (Ke (ws:=ws)).m:=⟨Kd⟩
section
variable(c:Wc X P w K mg base N W k sc)
include c
def OI{f:Xi ws}{l:Xg ws}{hz}(B:LQ X tg e f.m)(u:N9 X tg l.m)(r:mz X body da.m)(z:∀x,foldedSetIterable e X.env x=pure x):Be X (.For tg e body [] pos) (gf f l da hz).m:=⟨IE c.g B.h u.h r.h z⟩
def Tf{n hm}(l:Dj X e ta.m)(f:mz X body da.m):Be X (.While e body [] pos) (Qo n ta da hm).m:=⟨BA c.g l.h f.h⟩
def KD{hi' hz}(l:kw X e xa.m)(u:swapsWith e (J (.Name x p)) pos.line X.env=pure T)(r:N[i]?=J x)(f:W[i]?=J x):Be X (.Assign [.Name x p] e pos) (gE i xa hi' hz).m:=⟨om c.g i r f l.h u⟩
def KG{hi' hz}(r:∀env:Env,env.scope=sc->swapsWith e (J (.Name x p)) pos.line env=pure T)(l:kw X e xa.m)(u:N[i]?=J x)(f:W[i]?=J x):Be X (.Assign [.Name x p] e pos) (bf i xa hi' hz).m:=⟨om c.g i u f l.h (r _ c.s)⟩
end
def Tg{np:Nat}{F:VL->MH->VZ}(N:VM)(b:Ba P w K mg base)(D:e_ K x st)(r:iJ x st (N.take np):=by first | exact λ_ _ _ _ _ _=>Qz λ_=>rfl | exact λ_ _ _ _ _ _=>Sv λ_ _=>rfl | exact λ_ _ _ _ _ _=>Sw λ_ _ _=>rfl | exact λ_ _ _ _ _ _=>Sx λ_ _ _ _=>rfl | exact λ_ _ _ _ _ _=>ar5 λ_ _ _ _ _=>rfl)(S:pk N (N.take np) (ak st):=by exact⟨rfl,rfl,rfl,by decide +kernel,rfl,by decide +kernel,by decide +kernel⟩)(f:∀y∈N,(ak st).names.lookup y=J .local\/(ak st).names.lookup y=J .cell:=by decide +kernel)(dbg:∀x∈N++[],(x==("__debug__":Str))=T/\(x==("__classdict__":Str))=T/\x≠"__name__":=by decide +kernel)(l:F=cC N.length (N.take np).length λ_ _=>.bad:=by rfl):FnAt P w K mg base x (N.take np) F (k+1):=by
 subst l;exact tW (G:=[]) b.kin b.ns D S r f (λ_ h=>nomatch h) dbg λX e1 e2 e3 e4 e5 u g z=>vX
def x_{F:Fn}{f:Nat}{ws:VQ}{B:Xd ws}{hw}(N:VM)(b:Ba P w K mg base)(D:e_ K x st)(z:∀X:Cx,Wc X P w K mg base N N k (ak st)->ij X->mz X (aC st) B.m)(G:F=cr N.length f B hw:=by rfl)(H:iJ x st (N.take f):=by first | exact λ_ _ _ _ _ _=>Qz λ_=>rfl | exact λ_ _ _ _ _ _=>Sv λ_ _=>rfl | exact λ_ _ _ _ _ _=>Sw λ_ _ _=>rfl | exact λ_ _ _ _ _ _=>Sx λ_ _ _ _=>rfl | exact λ_ _ _ _ _ _=>ar5 λ_ _ _ _ _=>rfl)(S:pk N (N.take f) (ak st):=by exact⟨rfl,rfl,rfl,by decide +kernel,rfl,by decide +kernel,by decide +kernel⟩)(u:∀y∈N,(ak st).names.lookup y=J .local\/(ak st).names.lookup y=J .cell:=by decide +kernel)(l:∀y∈Kj (ak st),(ak st).names.lookup y=J .globalImplicit:=by decide +kernel)(dbg:∀x∈N++Kj (ak st),(x==("__debug__":Str))=T/\(x==("__classdict__":Str))=T/\x≠"__name__":=by decide +kernel)(E:(N.take f).length=f:=by rfl):
  FnAt P w K mg base x (N.take f) F.m (k+1):=by
 have q:=tW b.kin b.ns D S H u l dbg λX e1 e2 e3 e4 e5 r g C=>(z X ⟨g,⟨e1,e2,e3,e4,e5,b⟩,r⟩ C).h;rw[E]at q;subst G;exact q
end
end MM
namespace PU
open MM SetT
noncomputable section
end
end PU
namespace PU
open MM
open L2 (wk n5 iM)
noncomputable section
def ni:CO where
 k:=λB l=>match B with
  |[.int i,.int j]=>if(-(2^62)<=i/\i<2^62) /\ -(2^62)<=j/\j<2^62/\(j-i).toNat<=sizeLine then .ok (.loc l.length) (l++[.lst (ck i (j-i).toNat)])else .bad
  |_=>.bad
 p:=λf=>match f with
  |[.int i,.int j]=>if(-10000<=i/\i<=10000) /\ -10000<=j/\j<=10000 then J (.lst (cP i (j-i).toNat))else Y
  |_=>Y
 fr:=I
 ok {q h L O f xs d} bd w e:=by
  match f,e with
  |[.int i,.int j],e =>
   obtain⟨x,y,rfl,u,r⟩:=J4 w;rw[u.int,r.int];dsimp only at e;by_cases z:(-10000<=i/\i<=10000) /\ -10000<=j/\j<=10000
   .rw[c_ z]at e;cases e;dsimp only
    have:=dR
    rw[c_ ⟨⟨by ext,by ext⟩,by ext,by ext,by ext⟩];exact Sa bd λ_ _=>qI
   .rw[f_ z]at e;cases e
end
end PU
namespace PU
open MM
section
variable{q:Nat}{h:MH}{O:VQ}
end
end PU
namespace MM
open PySem.Spec PyProof.Rows L2
open PU (Xe Xs Xt Xi Xg Xd Fn Dm ae ac xC aa a_ qo)
section
variable{X:Cx}{P:Program}{w:World}{K:h8}{mg:VC}{base:Heap}{N W:VM}{k:Nat}{sc:Scope}{ws:VQ}{x y z n:Str}{p p' q cp yp np sp hp pos cpos pt spos:Pos}{e a b:Expr}{es:VX}{sa:Xs ws}{xa:Xe ws}{i j l kt:Nat}{body:VF}{da:Xd ws}{cs sup sups:VM}
def OK(c:Wc X P w K mg base N W k sc)(F:BC X [a,b] sa.m)(B:Zn K "list")(u:Zn K "range")(C:gm sc "list")(E:gm sc "range")(hp:bv a=I)(f:bv b=I):kw X (.Call (.Name "list" p) [.Call (.Name "range" p') [a,b] [] spos] [] pos) (qo PU.ni sa).m :=
 let⟨_,i⟩:=c.gj C;let⟨_,j⟩:=c.gj E
 have r:starEach [b] X.env=[(T,eval b X.env)]:=aW f
 ⟨zI c.g i (c.n B) j (c.n u) F.h ((aW hp).trans (by rw[r])) r⟩
end
end MM
namespace PU
open MM L2
noncomputable section
inductive Vy(h:MH)(ks:VP)(P:VL->Prop)(v:PV):Prop
 |mk(n:Nat)(xs:VL)(e:v=.loc n)(g:h[n]?=J (.dic ks xs))(r:P xs):Vy h ks P v
variable{ws:VQ}
end
end PU
namespace MM
open PySem.Spec PyProof.Rows L2
open PU (Xe Xs Xt Xi Xg Xd Fn Dm ae ac xC aa a_ qo)
section
variable{X:Cx}{P:Program}{w:World}{K:h8}{mg:VC}{base:Heap}{N W:VM}{k:Nat}{sc:Scope}{ws:VQ}{p pos:Pos}{e a b:Expr}{xa xb:Xe ws}{i:Nat}
end
end MM
namespace PU
open MM L2
noncomputable section
end
end PU
namespace MM
open PySem.Spec PyProof.Rows L2
section
variable{X:Cx}{P:Program}{w:World}{K:h8}{mg:VC}{base:Heap}{N W:VM}{k:Nat}{sc:Scope}
end
end MM
namespace PU
open MM L2
noncomputable section
def OL:VR->Option (VN)
 |[]=>J []
 |.int i::r=>(OL r).map (i::·)
 |_::_=>Y
def uD:D->Option (Int×VN)
 |.tup [.int i,.lst f]=>(OL f).map (i,·)
 |_=>Y
def sX:VR->Option (List (Int×VN))
 |[]=>J []
 |d::r=>(uD d).bind λp=>(sX r).map (p::·)
def xh:∀{j:VR}{f:VN}{xs:VL}{q:Nat}{h:MH}{O:VQ},OL j=J f->Rps q h O j xs->jv xs=J f
 |[],_,_,_,_,_,e,r=>by cases e;rw[show _=[]from r];rfl
 |d::j,_,_,_,_,_,e,⟨x,t,e1,a,b⟩=>by
  subst e1
  cases d with
  |int i =>
   obtain⟨f,e2,rfl⟩:=yJ.mp e;rw[show x=.int i from a];show(jv t).map (i::·)=_;rw[xh e2 b];rfl
  |_=>cases e
def A7(e:uD d=J p)(r:Rp q h O d x):pz h x=J p:=by
 unfold uD at e
 split at e
 .rename_i i E
  obtain⟨C,e2,rfl⟩:=yJ.mp e;obtain⟨xs,rfl,u⟩:=r;obtain⟨y,t,rfl,a,l⟩:=u;obtain⟨z,B,rfl,b,f⟩:=l;rw[show B=[]from f,show y=.int i from a];obtain⟨ys,e4,j⟩:=Vw.lstOf (L:=0) (.inl b);simp only[pz,e4,Eb,xh e2 j,Me]
 .cases e
def oi:∀{i:VR}{f:List (Int×VN)}{xs:VL}{q:Nat}{h:MH}{O:VQ},sX i=J f->Rps q h O i xs->lV h xs=J f
 |[],_,_,_,_,_,e,r=>by cases e;rw[show _=[]from r];rfl
 |d::i,_,_,_,_,_,e,⟨x,t,e1,a,b⟩=>by
  subst e1;obtain⟨p,e2,e3⟩:=DI.mp e;obtain⟨f,e4,rfl⟩:=yJ.mp e3;simp only[lV,A7 e2 a,oi e4 b,Eb,Me]
end
noncomputable section
end
end PU
namespace MM
open PySem.Spec PyProof.Rows L2
section
variable{X:Cx}{P:Program}{w:World}{K:h8}{mg:VC}{base:Heap}{N W:VM}{k:Nat}{sc:Scope}{ws:VQ}{xa xb:PU.Xe ws}{a b:Expr}{p kp pos:Pos}(c:Wc X P w K mg base N W k sc)
include c
end
end MM
namespace Law
open PySem.Spec PyProof.Rows L2 MM
set_option maxHeartbeats 4000000
noncomputable section
def xy:l_:=(aL (bG 2 (ar j_ (ar j3 (mC (.int 7919)) (af 1)) (mC (.int 11))))
 (aL (CK (mB (ar Dx (af 1) (w_ Cy (ai (w_ q7 (ai (af 0) h_)) (ai (mC (.int 63)) h_))))) (bG 2 (ar bC (af 0) (af 1))) (CK (mB (ar Cj (w_ q7 (ai (af 0) h_)) (mC (.int 0)))) (bG 2 (ar j_ (ar mq (ar bC (af 0) (ar mq (af 1) (w_ Cy (ai (w_ q7 (ai (af 0) h_)) (ai (mC (.int 63)) h_))))) (ar qd (mC (.int 10)) (mC (.int 15)))) (ar j3 (mC (.int 48271)) (af 1)))) mm))
 (aL (CK (mB (ar Dy (w_ Cm (ai (af 2) h_)) (ar qd (mC (.int 10)) (mC (.int 18))))) (b9 (fF (ai (mC (.int 1)) (ai (w_ Cm (ai (af 2) h_)) (ai (mC (.int 0)) h_))))) mm)
 (b9 (fF (ai (mC (.int 0)) (ai (ar j_ (ar mq (af 2) (mC (.int 2147483587))) (ar j3 (mC (.int 40009)) (af 1))) (ai (mC (.int 0)) h_))))))))
def dL:VL->MH->VZ:=cC 3 2 xy
def va:l_:=(aL (uh (ar j_ (ar bC (af 0) (mC (.int 2))) (mC (.int 1))) (M5 (af 0) (mC (.int 2))))
 (aL (CK (mB (ar Ch (ar bC (af 0) (mC (.int 0))) (mC (.int 1)))) (aL (bG 3 (ar mq (ar bC (af 0) (mC (.int 1))) (af 1)))
 (aL (uh (ar C0 (ar bC (af 0) (mC (.int 1))) (af 1)) (M5 (af 0) (mC (.int 1))))
 (b9 (af 3)))) mm)
 (aL (bG 2 (ar mq (ar j3 (ar j_ (ar j_ (ar bC (af 0) (mC (.int 1))) (ar j3 (mC (.int 40503)) (ar bC (af 0) (mC (.int 2))))) (mC (.int 1))) (mC (.int 48271))) (mC (.int 2147483647))))
 (aL (bG 2 (ar mq (ar j3 (af 2) (ar j_ (ar j_ (ar mq (af 2) (mC (.int 65521))) (ar bC (af 0) (mC (.int 2)))) (mC (.int 3)))) (mC (.int 2147483629))))
 (b9 (ar mq (ar C0 (ar mq (ar j3 (af 2) (ar j_ (ar mq (af 2) (mC (.int 8191))) (mC (.int 7)))) (mC (.int 2147483563))) (mC (.int 64))) (af 1)))))))
def dX:VL->MH->VZ:=cC 4 2 va
end
end Law
namespace Law
open MM PU
open SetT SortT
open L2 (wk n5 iM)
set_option maxHeartbeats 4000000
noncomputable section
def iz:Xd []:=(bo (lN (Dm (FR ["int"]) (ac 0)) (sR (Dm (FR ["bool"]) (ac 0)))))
def fN:Fn:=cr 1 1 iz
def ip:Xd []:=(bo (lN (ag fN (aa (ac 1) a_)) (oD R_ CQ (xC (.int 0)) (ac 1) (ac 0))))
def fL:Fn:=cr 2 2 ip
def fj:Xd []:=(ul (tf (xB (ag fL (aa (ac 0) (aa (ac 1) a_))))) Ke i0)
def aZ:Fn:=cr 2 2 fj
def d9:Xd []:=(gf (aY (ac 1)) (i_ 2) (fS (ag aZ (aa (ac 0) (aa (ac 2) a_)))))
def cH:Fn:=cr 3 2 d9
def fb:Xd []:=(bo (qo gW (aa (qo Qr (aa (aG 1 [] (aY (ac 0)) (ws':=[]) (i_ 0) ix (aI (aa (qo nY (aa (ac 0) a_)) (aa (qo pf (aa (ac 0) a_)) a_)))) a_)) a_)))
def bc:Fn:=cr 1 1 fb
def fE:Xd []:=(aB (fS (ag aZ (aa (ae jj (ac 0) (xC (.int 0))) (aa (ac 1) a_))))
 (aB (bf 2 (aG 2 [1] (aY (ae jj (ac 0) (xC (.int 1)))) (ws':=[]) (Bn (pu (i_ 0) (pu (i_ 1) Bi)) 2) (xB (ae x3 (ac 1) (ac 2))) (ac 0)))
 (aB (bf 3 (aG 2 [1] (aY (ae jj (ac 0) (xC (.int 1)))) (ws':=[]) (Bn (pu (i_ 0) (pu (i_ 1) Bi)) 2) (xB (ae x3 (ac 0) (ac 2))) (ac 1)))
 (bo (ae aK (ac 2) (ac 3))))))
def bp:Fn:=cr 4 2 fE
def fc:Xd [1]:=(aB (gE 1 (cU a_))
 (aB (gf (bL iE (aa (ac 0) a_)) (Bn (pu (i_ 2) (pu (i_ 3) Bi)) 2) (w4 i3 1 (aa (aG 1 [3] (aY (LP (ac 0) (LM (ae aK (ac 2) (xC (.int 1)))) LL)) (ws':=[]) (i_ 0) ix (aI (aa (ac 1) (aa (ac 0) a_)))) a_)))
 (oX 1)))
def bX:Fn:=cr 4 1 fc
def fo:Xd []:=(bo (ag bX (aa (aG 1 [1] (aY (ag bp (aa (ac 0) (aa (ac 2) a_)))) (ws':=[]) (i_ 0) (xB (ae (x4 T) (ac 0) (ac 1))) (ac 0)) a_)))
def bY:Fn:=cr 3 3 fo
def gu:Xd []:=(bo (aG 1 [0] (aY (ag bY (aa (ac 0) (aa (ac 1) (aa (ac 2) a_))))) (ws':=[]) (i_ 0) (xB (ae (x4 I) (ac 0) (ae jj (ac 1) (xC (.int 1))))) (ac 0)))
def bP:Fn:=cr 3 3 gu
def fM:Xd []:=(aB (fS (ag aZ (aa (ae jj (ac 0) (xC (.int 0))) (aa (ac 2) a_))))
 (aB (fS (ag cH (aa (ae jj (ac 0) (xC (.int 0))) (aa (ac 1) a_))))
 (aB (bf 3 (aG 1 [2] (aY (ae jj (ac 0) (xC (.int 1)))) (ws':=[]) (i_ 0) (xB (ae (x4 I) (ac 1) (ac 0))) (ac 0)))
 (bo (aI (aa (ae jj (ac 0) (xC (.int 0))) (aa (ag bc (aa (ae aK (ac 3) (ag bY (aa (ac 0) (aa (ac 1) (aa (ac 2) a_))))) a_)) a_)))))))
def cL:Fn:=cr 4 3 fM
def lK:Xd []:=(bo (ag bc (aa (aG 2 [0] (bL iE (aa (ac 0) a_)) (ws':=[]) (Bn (pu (i_ 0) (pu (i_ 1) Bi)) 2) ix (aI (aa (ae jj (ac 2) (ae bO (ac 0) (xC (.int 1)))) (aa (ac 1) a_)))) a_)))
def jI:Fn:=cr 1 1 lK
def eV:Xd []:=(aB (bf 1 (ag jI (aa (ac 0) a_)))
 (bo (aG 1 [1] (aY (ag bc (aa (ag bX (aa (ac 0) a_)) a_))) (ws':=[]) (i_ 0) (xB (ae (x4 I) (ac 0) (ac 1))) (ac 0))))
def dD:Fn:=cr 2 1 eV
def eG:Xd [4,5]:=(aB (gE 4 (cU (aa (cU (aa (ac 2) a_)) a_)))
 (aB (gE 5 (cU (aa (ac 2) a_)))
 (aB (Qo 400 (N6 (ac 4)) (aB (u6 6 Dc 4 (aa (xC (.int 0)) a_))
 (aB (ul (xB (ae x3 (ae jj (ac 6) (Dm pJ (xC (.int 1)))) (ac 3))) (bo (ac 6)) i0)
 (gf (aY (ag bp (aa (ac 0) (aa (ae jj (ac 6) (Dm pJ (xC (.int 1)))) a_)))) (i_ 7) (ul (i7 (xB (ae (x4 T) (ac 7) (ac 1))) (xB (ae (x4 I) (ac 7) (ac 5)))) (aB (w4 qp 5 (aa (ac 7) a_))
 (w4 qp 4 (aa (ae aK (ac 6) (cU (aa (ac 7) a_))) a_))) i0)))) yV)
 (bo (xC .non)))))
def bq:Fn:=cr 8 4 eG
def gD:Xd []:=(aB (bf 1 (qo NW (aa (ae jj (ac 0) (xC (.int 0))) a_)))
 (aB (gf (aY (ac 1)) (i_ 2) (aB (bf 3 (ag bp (aa (ac 0) (aa (ac 2) a_))))
 (aB (bf 4 (aG 1 [2,3] (aY (ac 1)) (ws':=[]) (i_ 0) (i7 (xB (ae BV (ac 0) (ac 1))) (xB (ae (x4 I) (ac 0) (ac 2)))) (ac 0)))
 (gf (aY (ag bP (aa (ac 0) (aa (ac 1) (aa (ac 2) a_))))) (Bn (pu (i_ 5) (pu (i_ 6) Bi)) 2) (aB (bf 7 (ag bq (aa (ac 0) (aa (ae aK (ac 4) (cU (aa (ac 6) a_))) (aa (ac 5) (aa (ac 6) a_))))))
 (ul (xB (ae (NT I) (ac 7) (xC .non))) (bo (ae aK (cU (aa (ac 2) a_)) (ac 7))) i0))))))
 (bo (xC .non))))
def di:Fn:=cr 8 1 gD
def eR:Xd []:=(bo (aI (aa (ae jj (ac 0) (xC (.int 0))) (aa (ag bc (aa (ae aK (qo yb (aa (ae jj (ac 0) (xC (.int 1))) a_)) (cU (aa (ac 1) a_))) a_)) a_))))
def dN:Fn:=cr 2 2 eR
def tO{f:VR}{s:iw}(h:f.length=2):dN.p f s=(eR.p (qb 2 f) s).fin:=bz h
def c5(F:Fn):Xd []:=(aB (ul (xB (ae CQ (ac 1) (xC (.int 0)))) (bo (xC .non)) i0)
 (aB (bf 2 (ag di (aa (ac 0) a_)))
 (aB (ul (xB (ae FQ (ae bO (qo lg (aa (ac 2) a_)) (xC (.int 3))) (ac 1))) (bo (aI (aa (xC (.str "need")) (aa (ac 2) a_)))) i0)
 (aB (bf 3 (aG 1 [0,1] (aY (ag dD (aa (ac 2) a_))) (ws':=[]) (i_ 0) ix (ag F (aa (ag dN (aa (ac 1) (aa (ac 0) a_))) (aa (ae bO (ac 2) (xC (.int 1))) a_)))))
 (bo (aI (aa (xC (.str "chords")) (aa (ac 2) (aa (qo gW (aa (ac 3) a_)) a_)))))))))
def aX:Nat->Fn
 |0=>G8 (cC 4 2 λ_ _=>.bad)
 |n+1=>cr 4 2 (c5 (aX n))
def ng{n:Nat}{f:VR}{s:iw}(h:f.length=2):(aX (n+1)).p f s=((c5 (aX n)).p (qb 4 f) s).fin:=bz h
def cZ:Fn:=aX 70
def qD{h:MH}{p:Nat}{o:MO}(f:p<h.length):(h.set p o)[p]?=J o:=yw f
def UY:wk 3 2=J 2:=wO (n:=3) (m:=2) (by decide)
def Vz:wk 3 1=J 1:=wO (n:=3) (m:=1) (by decide)
def jS(s:iw)(size:Int)(F:0<size)(L:size.natAbs.log2<9000):∃x:Int×Int,(0<=x.1/\x.1<size)/\∀(h:MH)(p:Nat),bA h p s->dX [.loc p,.int size] h=.ok (.int x.1) (h.set p (.lst [.int s.1,.int x.2,.int (s.2.2+1)])):=by
 obtain⟨m,c,t⟩:=s;have f:size≠0:=by omega
 have st:∀n:Int,0<=n.fmod size/\n.fmod size<size:=λn=>by
  rw[QJ n (by omega)];exact⟨Int.emod_nonneg n f,Int.emod_lt_of_pos n F⟩
 by_cases z:m=1
 .subst z;refine⟨(c.fmod size,c.fdiv size),st c,λh p e=>?_⟩;have e:h[p]?=J (.lst [.int 1,.int c,.int t]):=e;have l:p<h.length:=(qt.mp e).1;have e2:(h.set p (.lst [.int 1,.int c,.int (t+1)]))[p]?=J (.lst [.int 1,.int c,.int (t+1)]):=qD l;unfold dX;refine(dM (by rfl)).trans ?_;unfold va;simp[bH,List.replicate,jY e,nI e,UY,jY e2,fV f,vR f L,nI e2,Vz]
 .have j:∀n k:Int,0<k->0<=n.fmod k/\n.fmod k<k:=λn k P=>by
   rw[QJ n (by omega)];exact⟨Int.emod_nonneg n (by omega),Int.emod_lt_of_pos n P⟩
  generalize r:((c+40503*(t+1)+1)*48271).fmod 2147483647=A;have M:=j ((c+40503*(t+1)+1)*48271) 2147483647 (by decide);rw[r]at M;generalize u:(A*(A.fmod 65521+(t+1)+3)).fmod 2147483629=C;have O:=j (A*(A.fmod 65521+(t+1)+3)) 2147483629 (by decide);rw[u]at O;refine⟨((((C*(C.fmod 8191+7)).fmod 2147483563).fdiv 64).fmod size,c),st _,λh p e=>?_⟩;have e:h[p]?=J (.lst [.int m,.int c,.int t]):=e;have l:p<h.length:=(qt.mp e).1;have e2:(h.set p (.lst [.int m,.int c,.int (t+1)]))[p]?=J (.lst [.int m,.int c,.int (t+1)]):=qD l;have H:-(2^64)<A/\A<2^64:=by omega
  have B:-(2^64)<C/\C<2^64:=by omega
  have G:∀{i:Int}{h:MH},j3 (.int 40503) (.int i) h=.ok (.int (40503*i)) h:=iH (by decide);have E:∀{i:Int}{h:MH},j3 (.int i) (.int 48271) h=.ok (.int (i*48271)) h:=EU (by decide);unfold dX;refine(dM (by rfl)).trans ?_;unfold va;simp[bH,List.replicate,jY e,nI e,UY,jY e2,z,G,E,fV,r,iH H,u,iH B,vR (show(64:Int)≠0 by decide) (show(64:Int).natAbs.log2<9000 by decide +kernel),fV f]
open Classical in
def mF(s:iw)(size:Int):Int×Int:=if z:0<size/\size.natAbs.log2<9000 then(jS s size z.1 z.2).choose else(0,0)
def o7(f:VR):VW:=match f with
 |[.pen,.int i]=>J i
 |_=>Y
def xV{f:VR}{i:Int}(e:o7 f=J i):f=[.pen,.int i]:=by
 unfold o7 at e
 split at e
 .cases e;rfl
 .cases e
open Classical in
def aE:Fn where
 m:=dX
 p:=λf s=>match o7 f with
  |some size=>if 0<size/\size.natAbs.log2<9000 then .ok (.int (mF s size).1) (s.1,(mF s size).2,s.2.2+1)else .bad
  |none=>.bad
 fr:=I
 ok {q h O vs f s} bd hq pn r:=by
  cases e:o7 f with
  |none=>trivial
  |some size =>
   have:=xV e
   subst this;dsimp only;by_cases z:0<size/\size.natAbs.log2<9000
   .rw[c_ z];obtain⟨x,t,rfl,j,y,C,rfl,u,l⟩:=r;rw[show x=PV.loc q from j,show y=PV.int size from u,show C=[]from l];have k:=(jS s size z.1 z.2).choose_spec.2 h q pn;have i:mF s size=(jS s size z.1 z.2).choose:=by unfold mF;rw[dif_pos z]
    rw[<-i]at k;refine⟨_,_,k,⟨by simp,λn E B=>pc (Ne.symm B)⟩,qD (aU pn),rfl,λ_ k f e=>by cases k<;>cases e⟩
   .rw[f_ z];trivial
open Classical in
theorem b8{s:iw}{size:Int}(l:0<size)(B:size<=2000000000):∃d i,0<=d/\d<size/\aE.p [.pen,.int size] s=.ok (.int d) i:=by
 have f:size.natAbs.log2<9000:=by
  have r:size.natAbs<=2000000000:=by omega
  have u:size.natAbs.log2<31:=(Nat.log2_lt (by omega)).mpr (by omega);omega
 have z:0<size/\size.natAbs.log2<9000:=⟨l,f⟩;have j:mF s size=(jS s size z.1 z.2).choose:=by unfold mF;rw[dif_pos z]
 have k:=(jS s size z.1 z.2).choose_spec.1;rw[<-j]at k;exact⟨_,_,k.1,k.2,by show(if 0<size/\size.natAbs.log2<9000 then _ else _)=_;rw[c_ z]⟩
def jp:Xd [2]:=(aB (gE 2 (cU a_))
 (aB (gf (bL v2 (aa (ac 1) a_)) (i_ 3) (w4 xg 2 (aa (ag aE (aa (ac 0) (aa (ae aK (ac 3) (xC (.int 1))) a_))) (aa (ac 3) a_))))
 (oX 2)))
def bN:Fn:=cr 4 2 jp
def jX:Xd []:=(bo (aI (aa (ac 0) (aa (qo gW (aa (qo Qr (aa (aG 2 [] (aY (ac 1)) (ws':=[]) (Bn (pu (i_ 0) (pu (i_ 1) Bi)) 2) ix (aI (aa (qo FS (aa (ac 0) (aa (ac 1) a_))) (aa (qo FT (aa (ac 0) (aa (ac 1) a_))) a_)))) a_)) a_)) a_))))
def bF:Fn:=cr 2 2 jX
def ji:Xd []:=(bo (aG 1 [0] (bL v2 (aa (qo lg (aa (ac 0) a_)) a_)) (ws':=[]) (i_ 0) ix (aI (aa (ae jj (ac 1) (ae bO (ac 0) (xC (.int 1)))) (aa (ae jj (ac 1) (ac 0)) a_)))))
def bM:Fn:=cr 1 1 ji
def lJ:Xd [6]:=(aB (bf 2 (ag aE (aa (ac 0) (aa (ae aK (ac 1) (xC (.int 1))) a_))))
 (aB (bf 3 (ag bN (aa (ac 0) (aa (ac 2) a_))))
 (aB (bf 4 (ag aE (aa (ac 0) (aa (xC (.int 5)) a_))))
 (aB (bf 5 (ag aE (aa (ac 0) (aa (ae aK (ac 2) (xC (.int 1))) a_))))
 (aB (gE 6 (cU a_))
 (aB (gf (bL v2 (aa (ac 2) a_)) (i_ 7) (aB (ul (xB (ae CQ (ac 4) (xC (.int 2)))) (w4 i3 6 (aa (aG 1 [7,0,4] (bL v2 (aa (ac 7) a_)) (ws':=[]) (i_ 0) (xB (ae x3 (ag aE (aa (ac 2) (aa (ae aK (xC (.int 2)) (ac 3)) a_))) (xC (.int 0)))) (aI (aa (ac 1) (aa (ac 0) a_)))) a_)) i0)
 (aB (ul (xB (ae x3 (ac 4) (xC (.int 2)))) (w4 i3 6 (aa (aG 1 [7,5] (bL v2 (aa (ac 7) a_)) (ws':=[]) (i_ 0) (xB (ae BV (ae CQ (ac 1) (ac 2)) (ae CQ (ac 0) (ac 2)))) (aI (aa (ac 1) (aa (ac 0) a_)))) a_)) i0)
 (ul (xB (ae x3 (ac 4) (xC (.int 4)))) (w4 i3 6 (aa (aG 1 [7,0,2] (bL v2 (aa (ac 7) a_)) (ws':=[]) (i_ 0) (LG (xB (ae (x4 T) (ae bO (ac 1) (ac 0)) (aI (aa (xC (.int 1)) (aa (ae bO (ac 3) (xC (.int 1))) a_))))) (xB (ae x3 (ag aE (aa (ac 2) (aa (xC (.int 6)) a_))) (xC (.int 0))))) (aI (aa (ac 1) (aa (ac 0) a_)))) a_)) i0))))
 (aB (bf 8 (xC (.int 0)))
 (aB (Qo 400 (i7 (xB (ae x3 (ac 4) (xC (.int 3)))) (xB (ae FQ (ae bO (ac 2) (ac 8)) (xC (.int 2))))) (aB (bf 9 (ae aK (xC (.int 3)) (ag aE (aa (ac 0) (aa (ae bO (ae bO (ac 2) (ac 8)) (xC (.int 2))) a_)))))
 (aB (w4 i3 6 (aa (ag bM (aa (qo ni (aa (ac 8) (aa (ae aK (ac 8) (ac 9)) a_))) a_)) a_))
 (bf 8 (ae aK (ac 8) (ac 9))))) yV)
 (aB (ul (xB (ae FQ (ac 2) (xC (.int 1)))) (aB (bf 10 (aG 1 [0,2] (bL v2 (aa (ag aE (aa (ac 0) (aa (xC (.int 3)) a_))) a_)) (ws':=[]) (i_ 0) ix (aI (aa (ag aE (aa (ac 1) (aa (ac 2) a_))) (aa (ag aE (aa (ac 1) (aa (ac 2) a_))) a_)))))
 (w4 i3 6 (aa (aG 2 [] (aY (ac 10)) (ws':=[]) (Bn (pu (i_ 0) (pu (i_ 1) Bi)) 2) (xB (ae BV (ac 0) (ac 1))) (aI (aa (ac 0) (aa (ac 1) a_)))) a_))) i0)
 (bo (ag bF (aa (ac 2) (aa (aG 2 [3] (aY (ac 6)) (ws':=[]) (Bn (pu (i_ 0) (pu (i_ 1) Bi)) 2) ix (aI (aa (ae jj (ac 2) (ac 0)) (aa (ae jj (ac 2) (ac 1)) a_)))) a_)))))))))))))
def iF:Fn:=cr 11 2 lJ
def iu:Xd []:=(bo (ag bF (aa (ae jj (ac 0) (xC (.int 0))) (aa (aG 2 [1] (aY (ae jj (ac 0) (xC (.int 1)))) (ws':=[]) (Bn (pu (i_ 0) (pu (i_ 1) Bi)) 2) ix (aI (aa (ae jj (ac 2) (ac 0)) (aa (ae jj (ac 2) (ac 1)) a_)))) a_))))
def bQ:Fn:=cr 2 2 iu
def im:Xd [2]:=(aB (gE 2 (cU a_))
 (aB (gf (bL v2 (aa (ac 0) a_)) (i_ 3) (w4 i3 2 (aa (aG 1 [3,0] (bL v2 (aa (ac 1) a_)) (ws':=[]) (i_ 0) ix (aI (aa (ac 1) (aa (ae aK (ac 2) (ac 0)) a_)))) a_)))
 (bo (sY bF (aa (ae aK (ac 0) (ac 1)) (aa (ac 2) a_))))))
def eD:Fn:=cr 4 2 im
def ce(F:VL->MH->VZ):l_:=(aL (bG 4 (w_ xP (ai (fJ 1 [2] (jz (af 1)) (EH 0) (mB (ar Ci (af 0) (af 1))) (af 0)) h_)))
 (aL (bG 5 (bT F (ai (bT cL.m (ai (af 0) (ai (af 1) (ai (af 2) h_)))) (ai (af 4) (ai (af 3) h_)))))
 (b9 (j4 (ai (ar j_ (w_ q7 (ai (bT bP.m (ai (af 0) (ai (af 1) (ai (af 2) h_)))) h_)) (ar bC (af 5) (mC (.int 0)))) (ai (ar j_ (fF (ai (af 2) h_)) (ar bC (af 5) (mC (.int 1)))) h_))))))
def fC(F:VL->MH->VZ):l_:=(aL (CK (mB (ar (n8 I) (af 1) (af 2))) (uh (ar gz (fJ 1 [0,1,2] (jz (af 1)) (EH 0) AQ (bT F (ai (af 1) (ai (af 2) (ai (af 0) (ai (af 3) h_)))))) (j4 (ai (mC (.int 0)) (ai (fF h_) h_)))) (vc (af 2) (af 1))) mm)
 (b9 (ar kH (af 2) (af 1))))
def fy:Nat->VL->MH->VZ
 |0=>cC 3 3 (λ_ _=>.bad)
 |n+1=>cC 3 3 (fC (cC 6 4 (ce (fy n))))
def lG:VL->MH->VZ:=fy 8
def xD:l_:=(aL (CK (mB (ar Cj (ar bC (af 0) (mC (.int 0))) (mC (.int 7)))) (o9 "TooMany" (ai (mC (.str "the least is told of at most seven places")) h_)) mm)
 (aL (bG 1 (bT lG (ai (af 0) (ai (Qh (ai (ar bC (af 0) (mC (.int 0))) h_)) (ai IM h_)))))
 (b9 (j4 (ai (ar bC (af 1) (mC (.int 0))) (ai (ar bC (af 1) (mC (.int 1))) (ai (bT cZ.m (ai (af 0) (ai (ar C6 (ar bC (af 1) (mC (.int 0))) (mC (.int 1))) h_))) h_)))))))
def mj:VL->MH->VZ:=cC 2 1 xD
end
end Law
namespace Law
open MM PU SetT SortT
open L2 (wk n5 iM)
set_option maxHeartbeats 1000000
def F4:fN.p [.int i] s=.ok (.bl I) s:=by unfold fN;rw[bz (by rfl)];unfold iz;simp[qb,g7]
def F5:fL.p [.int n,.int i] s=.ok (.bl (decide (0<=i)&&decide (i<n))) s:=by unfold fL;rw[bz (by rfl)];unfold ip;by_cases z:0<=i<;>simp[qb,F4,z]
def qx(f:0<=i)(j:i<n):aZ.p [.int n,.int i] s=.ok .non s:=by unfold aZ;rw[bz (by rfl)];unfold fj;simp[qb,F5,f,j]
abbrev Th(d:D)(ks:VP):Prop:=d.items=J (ks.map kD)
def gZ:∀(f:VP),gK (f.map kD)=J f
 |[]=>rfl
 |k::f=>by
  have:eP (kD k)=J k:=by
   show fG (k.map .int)=J k
   induction k with
   |nil=>rfl
   |cons i k j=>rw[qw,fG,j];rfl
  rw[qw,gK,this,gZ f]
open Classical in
theorem He(h:(∀k∈f,k≠[])/\(SetT.k_ f).length<=66):Qr.p [.lst (f.map kD)]=J (.lst ((bu (SetT.k_ f)).map kD)):=by show(gK (f.map kD)).bind _=_;rw[gZ,Eb,c_ h]
def KH:nY.p [.tup [.int a,.int b]]=J (.int (if b<a then b else a)):=by
 simp[nY,sS,fG,lM,argBest]
 split<;>simp
def KI:pf.p [.tup [.int a,.int b]]=J (.int (if b>a then b else a)):=by
 simp[pf,sS,fG,lM,argBest]
 split<;>simp
def aj(n:Int)(f:VP):D:=.tup [.int n,.tup (f.map kD)]
def yH:∀(f:VP),(∀k∈f,∃a b:Int,k=[a,b]/\0<=a/\a<b/\b<n)->(((f.map kD).filter λx=>match x with|.tup [.int a,.int b]=>decide (b=v)|_=>T).map λx=>match x with|.tup [.int a,.int b]=>.int a|_=>.non)=(below v f).map D.int:=by
 intro f
 induction f with
 |nil=>intro _;rfl
 |cons k f l =>
  intro j;obtain⟨a,b,rfl,_⟩:=j k (by simp)
  have:=l λk i=>j k (m_ _ i)
  by_cases z:b=v<;>simp[below,kD,z]at this ⊢<;>exact this
def yn:∀(f:VP),(∀k∈f,∃a b:Int,k=[a,b]/\0<=a/\a<b/\b<n)->(((f.map kD).filter λx=>match x with|.tup [.int a,.int b]=>decide (a=v)|_=>T).map λx=>match x with|.tup [.int a,.int b]=>.int b|_=>.non)=(above v f).map D.int:=by
 intro f
 induction f with
 |nil=>intro _;rfl
 |cons k f l =>
  intro j;obtain⟨a,b,rfl,_⟩:=j k (by simp)
  have:=l λk i=>j k (m_ _ i)
  by_cases z:a=v<;>simp[above,kD,z]at this ⊢<;>exact this
def BI(v:Int)(f:VP):VN:=below v f++above v f
def yL(w:g_ n ks)(z:0<=v)(hv:v<n):bp.p [aj n ks,.int v] s=.ok (.lst ((BI v ks).map .int)) s:=by
 have u:=gL w.n12 w.tie w.nd;unfold bp;rw[bz (by rfl)];unfold fE
 have l:=kJ (ws:=[]) (ws':=[]) (env:=[J (aj n ks),J (.int v),Y,Y]) (s:=s) (fm:=[1]) (i:=aY (ae jj (ac 0) (xC (.int 1)))) (t:=xB (ae x3 (ac 1) (ac 2))) (e:=ac 0) (ds:=ks.map kD) (λx=>match x with|.tup [.int a,.int b]=>decide (b=v)|_=>T) (λx=>match x with|.tup [.int a,.int b]=>.int a|_=>.non) (by simp[aj]) (by simp;ext) (λx f=>by
   obtain⟨k,j,rfl⟩:=ml.mp f;obtain⟨a,b,rfl,_⟩:=w.tie k j
   exact⟨.int a,.int b,rfl,by simp[kD],λ_=>by simp[kD]⟩)
 have r:=kJ (ws:=[]) (ws':=[]) (env:=[J (aj n ks),J (.int v),J (.lst ((below v ks).map .int)),Y]) (s:=s) (fm:=[1]) (i:=aY (ae jj (ac 0) (xC (.int 1)))) (t:=xB (ae x3 (ac 0) (ac 2))) (e:=ac 1) (ds:=ks.map kD) (λx=>match x with|.tup [.int a,.int b]=>decide (a=v)|_=>T) (λx=>match x with|.tup [.int a,.int b]=>.int b|_=>.non) (by simp[aj]) (by simp;ext) (λx f=>by
   obtain⟨k,j,rfl⟩:=ml.mp f;obtain⟨a,b,rfl,_⟩:=w.tie k j
   exact⟨.int a,.int b,rfl,by simp[kD],λ_=>by simp[kD]⟩)
 rw[yH ks w.tie]at l;rw[yn ks w.tie]at r;have bl:(below v ks).length<=66:=o0 (O_ _ _) u;have al:(above v ks).length<=66:=o0 (O_ _ _) u;have B:(fS (ag aZ (aa (ae jj (ac 0) (xC (.int 0))) (aa (ac 1) a_))):Xd []).p (qb 4 [aj n ks,.int v]) s=.nx [J (aj n ks),J (.int v),Y,Y] s:=by simp[qb,aj,qx z hv]
 rw[aA,B,PU.aq,aA,bS,l,Pg,PU.aq,aA,bS];show(((aG 2 [1] _ _ _ _ _ _).p [J (aj n ks),J (.int v),J (.lst ((below v ks).map .int)),Y] s).go _ _ |>.then _).fin=_;rw[r];simp[fA (x:=(below v ks).map .int) (y:=(above v ks).map .int) (by simp;ext),BI]
def rq(n:Nat):cP 0 n=(b_ n).map .int:=by simp[cP,b_]
def BJ{ns:VN}{j:Nat}(f:j<=ns.length):nD (ns.map D.int) (J (j:Int)) Y=(ns.drop j).map .int:=by unfold nD;rw[HT.B9,BL,HT.Et,Lm f,List.map_drop];exact LZ (by simp)
def fB(e1:a.p env s=.ok as s1)(e2:env[i]?=J (J (.lst ds)))(e3:o.p ds as=J (r,ds')):(w4 o i a hi hz).p env s=.nx (env.set i (J (.lst ds'))) s1:=by rw[N0,zr e1 e2 e3]
def mW{ns:VN}{j:Nat}{x:D}(e:(ns.map D.int)[j]?=J x):x=.int (ns.getD j 0)/\j<ns.length:=by rw[vu,yJ]at e;obtain⟨i,e1,rfl⟩:=e;obtain⟨f,l⟩:=qt.mp e1;exact⟨by simp[e1],f⟩
def BR{n:Int}{left:VN}{d:D}{s:iw}(hd:d.items=J (left.map .int))(h:∀x∈left,0<=x/\x<n):cH.p [.int n,d] s=.ok .non s:=by
 unfold cH;rw[bz (by rfl)];unfold d9;obtain⟨l,f,e,z,rfl,E⟩:=gq (g:=(i_ 2:Xg []).p) (b:=(fS (ag aZ (aa (ac 0) (aa (ac 2) a_))):Xd []).p)
  (λj env f=>∃z,env=[J (.int n),J (d),z]/\f=s) (left.map .int) 0 [J (.int n),J (d),Y] s ⟨Y,rfl,rfl⟩ (λj env f e ⟨z,u,C⟩ B=>by
   subst u C;obtain⟨i,r,rfl⟩:=ml.mp (Df B)
   exact⟨[J (.int n),J (d),J (.int i)],[J (.int n),J (d),J (.int i)],f,rfl,by simp[qx (h i r).1 (h i r).2],_,rfl,rfl⟩)
 rw[show qb 3 [D.int n,d]=[J (.int n),J (d),Y]from rfl,lc]
 simp_all
def cW(l:0<=n)(i:n<=12)(j:∀k∈f,∃a b:Int,k=[a,b]/\0<=a/\a<b/\b<n):g_ n (bu (SetT.k_ f)) :=
 ⟨l,i,λk r=>j k ((SetT.eB k f).mp ((bZ _).mem_iff.mp r)),kC _,(bZ _).symm.nodup (jd f)⟩
def lu(i:n<=12)(j:∀k∈f,∃a b:Int,k=[a,b]/\0<=a/\a<b/\b<n):(SetT.k_ f).length<=66 :=
 gL i (λk l=>j k ((SetT.eB k f).mp l)) (jd f)
def Ad{n:Int}{f:VP}(i:∀k∈f,∃a b:Int,k=[a,b]/\0<=a/\a<b/\b<n):∀k∈f,IsT n k:=λk l=>by
 obtain⟨a,b,rfl,r,u,j⟩:=i k l;exact⟨a,b,rfl,r,by ext,by ext,j,by ext⟩
structure Ord(n:Nat)(qs:VN):Prop where
 n12:n<=12
 pm:qs.Perm (b_ n)
def Ord.len(o:Ord n qs):qs.length=n:=by have:=o.pm.length_eq;simpa [b_]using this
def Ord.bd(o:Ord n i):∀q∈i,0<=q/\q<(n:Int):=λq f=>ah.mp (o.pm.mem_iff.mp f)
def Ord.at(o:Ord n qs)(f:j<qs.length):0<=qs.getD j 0/\qs.getD j 0<(n:Int):=o.bd _ (by
 have:qs.getD j 0=qs[j]:=by simp[f]
 rw[this];exact Ps f)
def kG(S:av->Prop)(P:D->Prop):∀(l:VR)(env:av)(s:iw),S env ->
  (∀x∈l,∀env s,S env->∃f,g x env=J f/\S f/\∃b B,t f s=.ok b B/\(b=I->∃y C,e f B=.ok y C/\P y))->∃r H,fe g t e l env s=.ok r H/\r.length<=l.length/\∀y∈r,P y
 |[],env,s,G,i=>⟨[],s,rfl,by simp,by simp⟩
 |x::l,env,s,G,i=>by
  obtain⟨f,e1,u,b,B,e2,e3⟩:=i x (by simp) env s G;have j:=λy L=>i y (m_ x L);rw[fe,e1];dsimp only;rw[e2,Pb]
  cases b with
  |true =>
   obtain⟨y,C,e4,py⟩:=e3 rfl;obtain⟨r,E,e5,M,F⟩:=kG S P l f C u j;refine⟨y::r,E,by simp[e4,e5],by simp;ext,λz O=>?_⟩
   grind
  |false =>
   obtain⟨r,E,e5,M,F⟩:=kG S P l f B u j;exact⟨r,E,by simp[e5],by simp;ext,F⟩
def oU{ws ws':VQ}{env:av}{s E:iw}{fm:VQ}{i:Xi ws}{t:Xt ws'}{e:Xe ws'}{f:VR}(P:D->Prop)(L:i.p env s=.ok f E)(H:f.length<=100000)(j:∀x∈f,∀s,∃b l,t.p (J x::fm.map λi=>(env[i]?).getD Y) s=.ok b l/\(b=I->∃y O,e.p (J x::fm.map λi=>(env[i]?).getD Y) l=.ok y O/\P y))(B:ws'.contains 0=T:=by exact ys rfl)(hw:Dn 1 fm ws=ws':=by exact ys rfl)(hz:e.fz=I:=by exact ys rfl):
  ∃r u,(aG 1 fm i (i_ 0 B) t e hw hz).p env s=.ok (.lst r) u/\r.length<=f.length/\∀y∈r,P y:=by
 obtain⟨r,u,e1,G,M⟩:=kG (g:=(i_ 0 B:Xg ws').p) (λv=>∃z,v=z::fm.map λi=>(env[i]?).getD Y) P f (wx 1 fm env) E ⟨Y,rfl⟩ λx F C s ⟨z,hz⟩=>by
  subst hz;obtain⟨b,l,e2,e3⟩:=j x F s;exact⟨_,rfl,⟨J x,rfl⟩,b,l,e2,e3⟩
 refine⟨r,u,?_,G,M⟩;rw[xc,L,Pb,c_ H,e1]
def dj:(cP lo c).length=c:=by simp[cP]
def ko(h:x∈cP lo c):∃i:Int,x=.int i/\lo<=i/\i<lo+c:=by obtain⟨k,f,rfl⟩:=ml.mp h;rw[w5]at f;exact⟨_,rfl,by ext,by ext⟩
def m5(h:(cP 0 c)[i]?=J x):x=.int (i:Int)/\i<c:=by unfold cP at h;rw[vu,yJ]at h;obtain⟨k,f,rfl⟩:=h;obtain⟨a,b⟩:=qt.mp f;simp at a b;subst b;exact⟨by simp,a⟩
def vP{n:Nat}{s:iw}(F:n<=12):∃f i,bN.p [.pen,.int n] s=.ok (.lst (f.map .int)) i/\Ord n f:=by
 unfold bN;rw[bz (by rfl)];unfold jp;have H:qb 4 [D.pen,.int n]=[J .pen,J (.int n),Y,Y]:=rfl;obtain⟨l,i,e,z,f,rfl,pm⟩:=gq (g:=(i_ 3:Xg [2]).p) (b:=(w4 xg 2 (aa (ag aE (aa (ac 0) (aa (ae aK (ac 3) (xC (.int 1))) a_))) (aa (ac 3) a_)):Xd [2]).p)
  (λj env i=>∃z f,env=[J .pen,J (.int n),J (.lst ((f:VN).map .int)),z]/\f.Perm (b_ j)) (cP 0 n) 0 [J .pen,J (.int n),J (.lst []),Y] s ⟨Y,[],rfl,by simp[b_]⟩ (λj env i d ⟨z,f,C,pm⟩ hd=>by
   rw[vw]at pm ⊢;subst C;obtain⟨rfl,L⟩:=m5 hd;have B:f.length=j:=by have:=pm.length_eq;simpa [b_]using this
   obtain⟨d,u,G,M,E⟩:=b8 (s:=i) (size:=(j:Int)+1) (by ext) (by ext);obtain⟨k,rfl⟩:=cF G;refine⟨[J .pen,J (.int n),J (.lst (f.map .int)),J (.int (j:Int))],[J .pen,J (.int n),J (.lst ((f.take k++(j:Int)::f.drop k).map .int)),J (.int (j:Int))],u,rfl,?_,_,f.take k++(j:Int)::f.drop k,rfl,?_⟩
   .rw[fB (s1:=u) (as:=[.int (k:Int),.int (j:Int)]) (ds':=(f.take k++(j:Int)::f.drop k).map .int) (r:=.non) (by simp[E]) rfl (by
     rw[AL (by simp;omega) (by simp;omega)];simp)]
    rfl
   .have:(f.take k++((j:Int))::f.drop k).Perm (((j:Int))::f):=by
     have:=Mc (a:=(j:Int)) (l₁:=f.take k) (l₂:=f.drop k)
     rwa [DZ]at this
    refine this.trans ((pm.cons _).trans ?_);have e1:b_ (j+1)=b_ j++[(j:Int)]:=by simp[b_,Pt]
    rw[e1]
    exact(TQ _ _).symm)
 rw[dj,vw]at pm;refine⟨f,i,?_,F,pm⟩;rw[H,aA,pR];simp;rw[jb (by ext),yT,Pf,Pg,e,PU.aq,v6 rfl,PU.lz]
def dW{n:Int}{i:VP}(h:∀k∈i,IsT n k):∀k∈i.map o_,∃a b:Int,k=[a,b]/\0<=a/\a<b/\b<n:=λk l=>by
 obtain⟨u,f,rfl⟩:=ml.mp l;obtain⟨a,b,rfl,r,C,j,B,ne⟩:=h u f;rcases Dr ne with z|z
 .rw[dI z];exact⟨a,b,rfl,r,z,B⟩
 .rw[d8 z];exact⟨b,a,rfl,j,z,C⟩
def C3(n:Nat)(y:D):Prop:=∃k,y=kD k/\IsT n k
def zB:∀{ys:VR},(∀y∈ys,C3 n y)->∃f:VP,ys=f.map kD/\∀k∈f,IsT n k
 |[],_=>⟨[],rfl,(λ_ h=>nomatch h)⟩
 |y::ys,h=>by
  obtain⟨f,e,i⟩:=zB λy r=>h y (m_ _ r);obtain⟨k,rfl,j⟩:=h y (by simp);exact⟨k::f,by rw[e];rfl,λx l=>(lb.mp l).elim (λq=>q▸j) (i x)⟩
def F6{l:VQ}{env:av}{i:Nat}{j:VP}{n:Int}{d:D}{s:iw}(hd:d.items=J (j.map kD))(e:env[i]?=J (J d))(u:∀k∈j,IsT n k)(B:j.length<=100000)(r:Dn 2 [] l=[]){hz}:
  (aG 2 [] (aY (ac i)) (ws':=[]) (Bn (pu (i_ 0) (pu (i_ 1) Bi)) 2) ix (aI (aa (qo FS (aa (ac 0) (aa (ac 1) a_))) (aa (qo FT (aa (ac 0) (aa (ac 1) a_))) a_))) r hz:Xe l).p env s=.ok (.lst ((j.map o_).map kD)) s:=by
 have q:=kJ (ws':=[]) (s:=s) (t:=ix) (λ_=>I) (λx=>match eP x with|some k=>kD (o_ k)|none=>.non) (by
  rw[Kb,FU e,Pb,hd];rfl) (by simpa using B) (λx z=>by
   obtain⟨k,f,rfl⟩:=ml.mp z;obtain⟨a,b,rfl,_⟩:=u k f;refine⟨.int a,.int b,rfl,rfl,λ_=>?_⟩
   simp[kD,eP,fG,o_]) (hw:=r) (hz:=hz)
 rw[c6,wc]at q;rw[q,wc];congr 2;refine Dp λk f=>?_;obtain⟨a,b,rfl,_⟩:=u k f;rfl
def jO{n:Nat}{f:VP}{d:D}{s:iw}(hd:d.items=J (f.map kD))(z:n<=12)(i:∀k∈f,IsT n k)(l:f.length<=100000):bF.p [.int (n:Int),d] s=.ok (aj n (bu (SetT.k_ (f.map o_)))) s:=by have mt:=dW i;have j:=He ⟨λk r=>by obtain⟨a,b,rfl,_⟩:=mt k r;simp,lu (by ext) mt⟩;have u:∀{x y:D}{s:iw},(if [x,y].length<=100000 then PR.ok (D.tup [x,y]) s else .bad)=.ok (.tup [x,y]) s:=λ{x y s}=>c_ (by simp);unfold bF;rw[bz (by rfl)];unfold jX;rw[show qb 2 [.int (n:Int),d]=[J (.int (n:Int)),J d]from rfl];rw[dJ,J8,aD,bJ,Pb,aD,jf,aD,jf,aD,F6 hd rfl i l rfl];simp only[Pb,cm,j,Pf,nF,u,Pg,PU.lz,aj]
structure Rg(n:Nat)(rs:VN):Prop where
 nd:rs.Nodup
 bd:∀x∈rs,0<=x/\x<(n:Int)
 n12:n<=12
 l3:3<=rs.length
def Rg.len(g:Rg n rs):rs.length<=12:=by
 have:=List.Nodup.length_le_of_subset (l₂:=b_ 12) g.nd λx f=>by
  rw[ah];have:=g.bd x f;have:=g.n12;ext
 simpa [b_]using this
def xY{f:VN}(nd:f.Nodup){i j:Nat}(l:i<f.length)(r:j<f.length)(e:f.getD i 0=f.getD j 0):i=j :=
 (List.getElem?_inj l nd).mp (by simp[l,r]at e ⊢;exact e)
def KJ{n:Nat}{f:VN}(g:Rg n f){i j:Nat}(z:i<f.length)(u:j<f.length)(ne:i≠j):IsT n [f.getD i 0,f.getD j 0]:=by have l:=g.bd (f.getD i 0) (by simp[z]);have r:=g.bd (f.getD j 0) (by simp[u]);exact⟨_,_,rfl,l.1,l.2,r.1,r.2,λe=>ne (xY g.nd z u e)⟩
def jR{f:VN}{i:Nat}(j:i<f.length):n5 (f.map D.int) (i:Int)=J (.int (f.getD i 0)):=L2.iD (by simp[List.getD,j])
def F7{f:VN}{k:Nat}(i:k<f.length):n5 (f.map D.int) ((k:Int)-1)=J (.int (f.getD (if k=0 then f.length-1 else k-1) 0)):=by
 by_cases z:k=0
 .subst z;unfold n5 wk;rw[f_ (by omega),c_ (by simp;omega)]
  have:(((0:Nat):Int)-1+((f.map D.int).length:Int)).toNat=f.length-1:=by simp;omega
  rw[this];simp[show f.length-1<f.length by omega]
 .rw[f_ z,show(k:Int)-1=((k-1:Nat):Int) by omega];exact jR (by omega)
def bg(f:VN):VP:=(List.range f.length).map λk=>[f.getD (if k=0 then f.length-1 else k-1) 0,f.getD k 0]
def fX(g:Rg n l):∀k∈bg l,IsT n k:=λk j=>by
 obtain⟨i,f,rfl⟩:=ml.mp j;rw[w5]at f;have l3:=g.l3;exact KJ g (by split<;>ext) f (by split<;>ext)
def mH{n:Nat}{rs:VN}{s:iw}(g:Rg n rs):bM.p [.lst (rs.map .int)] s=.ok (.lst ((bg rs).map kD)) s:=by
 have j:=g.len
 have q:=fk (ws:=[]) (ws':=[]) (env:=[J (.lst (rs.map .int))]) (s:=s) (fm:=[0]) (i:=bL v2 (aa (qo lg (aa (ac 0) a_)) a_)) (t:=ix) (e:=aI (aa (ae jj (ac 1) (ae bO (ac 0) (xC (.int 1)))) (aa (ae jj (ac 1) (ac 0)) a_))) (λ_=>I) (λx=>match x with|.int k=>kD [rs.getD (if k.toNat=0 then rs.length-1 else k.toNat-1) 0,rs.getD k.toNat 0]|_=>.non) (by
  simp
  rw[jb (by ext),yT];rfl) (by rw[dj];ext) (λx l=>by
   obtain⟨i,rfl,f,r⟩:=ko l;obtain⟨k,rfl⟩:=cF f;refine⟨rfl,λ_=>?_⟩;simp[F7 (show k<rs.length by ext),jR (show k<rs.length by ext)]
   rfl)
 rw[c6]at q;unfold bM;rw[bz (by rfl)];unfold ji;rw[show qb 1 [D.lst (rs.map .int)]=[J (.lst (rs.map .int))]from rfl,dJ,q];refine congrArg (λz=>PR.ok (D.lst z) s) ?_;unfold cP bg;rw[wc,wc];exact Dp λk _=>by simp
def F8(g:Rg n rs):∃f i,bM.p [.lst (rs.map .int)] s=.ok (.lst f) i/\f.length<=12/\∀y∈f,C3 n y :=
 ⟨_,s,mH g,by have:=g.len;simp[bg];omega,λy l=>by obtain⟨k,j,rfl⟩:=ml.mp l;exact⟨k,rfl,fX g k j⟩⟩
variable{M:Int}
abbrev wE(M:Int)(n:Nat)(qs:VN)(way cut:Int)(ps:VR)(z7 z8 z9 z10:VD):av:=[J .pen,J (.int M),J (.int n),J (.lst (qs.map .int)),J (.int way),J (.int cut),J (.lst ps),z7,z8,z9,z10]
def xE{hi hz}(l:t.p (wE M n qs way cut f z7 z8 z9 z10) s=.ok b s)(u:b=I->∃r j,c.p (wE M n qs way cut f z7 z8 z9 z10) s=.ok (.lst r) j/\r.length<=12/\∀y∈r,C3 n y)(C:f.length<=1000)(pt:∀y∈f,C3 n y):
  ∃i j,(ul t (w4 i3 6 (aa c a_) hi hz) i0:Xd [6]).p (wE M n qs way cut f z7 z8 z9 z10) s=.nx (wE M n qs way cut i z7 z8 z9 z10) j/\i.length<=f.length+12/\∀y∈i,C3 n y:=by
 rw[eW,l]
 cases b with
 |false=>exact⟨f,s,rfl,by ext,pt⟩
 |true =>
  obtain⟨r,j,e,E,z⟩:=u rfl;exact⟨f++r,j,fB (ds':=f++r) (by rw[aD,e];rfl) rfl (gO (by ext)),by rw[xK];ext,λy B=>(nq.mp B).elim (pt y) (z y)⟩
def OM(i:j<n)(f:k<j):C3 n (.tup [.int (j:Int),.int (k:Int)]):=⟨[(j:Int),(k:Int)],rfl,_,_,rfl,by ext,by ext,by ext,by ext,by ext⟩
def ua{hw hz}(z:j<n)(n12:n<=12)(C:∀k:Nat,k<j->∀s,∃b f,t.p (J (.int (k:Int))::J (.int (j:Int))::fm.map λi=>((wE M n qs way cut ps (J (.int (j:Int))) z8 z9 z10)[i]?).getD Y) s=.ok b f):
  ∃r l,(aG 1 (7::fm) (bL v2 (aa (ac 7) a_)) (ws':=[]) (i_ 0) t (aI (aa (ac 1) (aa (ac 0) a_))) hw hz:Xe [6]).p (wE M n qs way cut ps (J (.int (j:Int))) z8 z9 z10) s=.ok (.lst r) l/\r.length<=12/\∀y∈r,C3 n y:=by
 obtain⟨r,f,q,F,E⟩:=oU (ws':=[]) (env:=wE M n qs way cut ps (J (.int (j:Int))) z8 z9 z10) (i:=bL v2 (aa (ac 7) a_)) (C3 n) (by
  simp
  rw[jb (by ext),yT];rfl) (by rw[dj];ext) (λx B s=>by
   obtain⟨i,rfl,u,G⟩:=ko B;obtain⟨k,rfl⟩:=cF u;obtain⟨b,f,e⟩:=C k (by ext) s;refine⟨b,f,e,λ_=>⟨_,f,?_,OM z (k:=k) (by ext)⟩⟩
   simp) (hw:=hw) (hz:=hz)
 rw[dj]at F;exact⟨r,f,q,by ext,E⟩
abbrev UZ:Xd [6]:=(aB (ul (xB (ae CQ (ac 4) (xC (.int 2)))) (w4 i3 6 (aa (aG 1 [7,0,4] (bL v2 (aa (ac 7) a_)) (ws':=[]) (i_ 0) (xB (ae x3 (ag aE (aa (ac 2) (aa (ae aK (xC (.int 2)) (ac 3)) a_))) (xC (.int 0)))) (aI (aa (ac 1) (aa (ac 0) a_)))) a_)) i0)
 (aB (ul (xB (ae x3 (ac 4) (xC (.int 2)))) (w4 i3 6 (aa (aG 1 [7,5] (bL v2 (aa (ac 7) a_)) (ws':=[]) (i_ 0) (xB (ae BV (ae CQ (ac 1) (ac 2)) (ae CQ (ac 0) (ac 2)))) (aI (aa (ac 1) (aa (ac 0) a_)))) a_)) i0)
 (ul (xB (ae x3 (ac 4) (xC (.int 4)))) (w4 i3 6 (aa (aG 1 [7,0,2] (bL v2 (aa (ac 7) a_)) (ws':=[]) (i_ 0) (LG (xB (ae (x4 T) (ae bO (ac 1) (ac 0)) (aI (aa (xC (.int 1)) (aa (ae bO (ac 3) (xC (.int 1))) a_))))) (xB (ae x3 (ag aE (aa (ac 2) (aa (xC (.int 6)) a_))) (xC (.int 0))))) (aI (aa (ac 1) (aa (ac 0) a_)))) a_)) i0)))
def Ti(r:j<n)(n12:n<=12)(w0:0<=way)(Z:l.length<=900)(pt:∀y∈l,C3 n y):
  ∃f C,UZ.p (wE M n qs way cut l (J (.int (j:Int))) z8 z9 z10) s=.nx (wE M n qs way cut f (J (.int (j:Int))) z8 z9 z10) C/\f.length<=l.length+36/\∀y∈f,C3 n y:=by
 obtain⟨p1,i,E,W,O⟩:=xE (way:=way) (t:=xB (ae CQ (ac 4) (xC (.int 2)))) (c:=aG 1 [7,0,4] (bL v2 (aa (ac 7) a_)) (ws':=[]) (i_ 0) (xB (ae x3 (ag aE (aa (ac 2) (aa (ae aK (xC (.int 2)) (ac 3)) a_))) (xC (.int 0)))) (aI (aa (ac 1) (aa (ac 0) a_)))) (b:=decide (way<2)) (by simp) (λz=>ua r n12 λk B s=>by
   have:=of_decide_eq_true z
   obtain⟨d,i,R,H,u⟩:=b8 (s:=s) (size:=2+way) (by ext) (by ext)
   exact⟨_,i,by simp[u];rfl⟩) (by ext) pt
 obtain⟨X,s2,G,l2,U⟩:=xE (way:=way) (t:=xB (ae x3 (ac 4) (xC (.int 2)))) (c:=aG 1 [7,5] (bL v2 (aa (ac 7) a_)) (ws':=[]) (i_ 0) (xB (ae BV (ae CQ (ac 1) (ac 2)) (ae CQ (ac 0) (ac 2)))) (aI (aa (ac 1) (aa (ac 0) a_)))) (b:=decide (way=2)) (by simp) (λz=>ua r n12 λk B s=>by
   exact⟨_,s,by rfl⟩) (by ext) O
 obtain⟨F,Q,L,l3,S⟩:=xE (way:=way) (t:=xB (ae x3 (ac 4) (xC (.int 4)))) (c:=aG 1 [7,0,2] (bL v2 (aa (ac 7) a_)) (ws':=[]) (i_ 0) (LG (xB (ae (x4 T) (ae bO (ac 1) (ac 0)) (aI (aa (xC (.int 1)) (aa (ae bO (ac 3) (xC (.int 1))) a_))))) (xB (ae x3 (ag aE (aa (ac 2) (aa (xC (.int 6)) a_))) (xC (.int 0))))) (aI (aa (ac 1) (aa (ac 0) a_)))) (b:=decide (way=4)) (by simp) (λz=>ua r n12 λk B s=>by
   have P:=jC (neg:=T) (x:=(j:Int)-(k:Int)) (d:=.tup [.int 1,.int ((n:Int)-1)]) (xs:=[1,(n:Int)-1]) rfl;obtain⟨d,i,R,H,u⟩:=b8 (s:=s) (size:=6) (by decide) (by decide);have e:∀b:Bool,((if b=I then PR.ok I s else PR.ok (decide (d=0)) i):PR Bool)=.ok (if b=I then I else decide (d=0)) (if b=I then s else i):=λb=>by cases b<;>rfl
   refine⟨_,_,Eq.trans ?_ (e (decide ((j:Int)-(k:Int)∈[1,(n:Int)-1])))⟩
   simp[P,u]) (by ext) U
 refine⟨F,Q,?_,by ext,S⟩;rw[aA,E,PU.aq,aA,G,PU.aq,L]
def iG(k:VN):eP (kD k)=J k:=by
 have:=gZ [k]
 simp only[qw,List.map_nil,gK]at this;revert this
 cases eP (kD k) with
 |none=>intro h;cases h
 |some y=>intro h;simp at h;rw[h]
def F9(w:g_ n ks):(below v ks++above v ks).length<=12:=by
 have:=List.Nodup.length_le_of_subset (l₂:=b_ 12) (lH w).1 λx f=>by
  rw[ah]
  have:=(lH (v:=v) w).2 x f
  have:=w.n12
  omega
 simpa [b_]using this
variable{M:Int}
abbrev U3:Xt [6]:=(i7 (xB (ae x3 (ac 4) (xC (.int 3)))) (xB (ae FQ (ae bO (ac 2) (ac 8)) (xC (.int 2)))))
abbrev U_:Xd [6]:=(aB (bf 9 (ae aK (xC (.int 3)) (ag aE (aa (ac 0) (aa (ae bO (ae bO (ac 2) (ac 8)) (xC (.int 2))) a_)))))
 (aB (w4 i3 6 (aa (ag bM (aa (qo ni (aa (ac 8) (aa (ae aK (ac 8) (ac 9)) a_))) a_)) a_))
 (bf 8 (ae aK (ac 8) (ac 9)))))
def As(h:(-10000<=i/\i<=10000) /\ -10000<=j/\j<=10000):ni.p [.int i,.int j]=J (.lst (cP i (j-i).toNat)):=c_ h
def Ap{n lo m:Nat}(n12:n<=12)(f:3<=m)(l:lo+m<=n):Rg n ((List.range m).map λi:Nat=>(lo:Int)+(i:Int)):=by
 refine⟨List.Pairwise.map _ (λa b h z=>h (by ext)) Mb,λx j=>?_,n12,by simpa using f⟩
 grind
local macro_rules | `(tactic| simp! [$a,*]) => `(tactic| simp only [$a,*, Pb, bJ, cu])
def KL{n:Nat}{qs:VN}{way cut:Int}{z7 z10:VD}(n12:n<=12):∀(N lo:Nat)(f:VR)(u:VD)(s:iw),n-lo+1<=N->lo<=n->f.length+12*(n-lo)<=900->(∀y∈f,C3 n y) ->
  ∃j C l B,i8 U3.p U_.p N (wE M n qs way cut f z7 (J (.int (lo:Int))) u z10) s=.nx (wE M n qs way cut j z7 C l z10) B/\j.length<=900/\∀y∈j,C3 n y:=by
 intro N
 induction N with
 |zero=>ext
 |succ N O =>
  intro lo f u s hN Q X pt;have U:U3.p (wE M n qs way cut f z7 (J (.int (lo:Int))) u z10) s=.ok (decide (way=3)&&decide (2<(n:Int)-(lo:Int))) s:=by by_cases z:way=3<;>simp[z]
  rw[i8,U,Pg];by_cases z:way=3/\2<(n:Int)-(lo:Int)
  .rw[c_ (by simp[z.1,z.2])];obtain⟨d,W,d0,Z,G⟩:=b8 (s:=s) (size:=(n:Int)-(lo:Int)-2) (by ext) (by ext);obtain⟨m,R⟩:=cF (i:=3+d) (by ext);obtain⟨r,E,L,rl,rt⟩:=F8 (s:=W) (Ap (lo:=lo) (m:=m) n12 (by ext) (by ext));have F:ni.p [.int (lo:Int),.int ((lo:Int)+(m:Int))]=J (.lst (((List.range m).map λi:Nat=>(lo:Int)+(i:Int)).map .int)):=by
    rw[As ⟨⟨by ext,by ext⟩,by ext,by ext⟩,show((lo:Int)+(m:Int)-(lo:Int)).toNat=m by ext,wc];rfl
   obtain⟨j,C,l,B,e,H,S⟩:=O (lo+m) (f++r) (J (.int (m:Int))) E (by ext) (by ext) (by
    rw[xK];ext) λy P=>(nq.mp P).elim (pt y) (rt y)
   refine⟨j,C,l,B,?_,H,S⟩;rw[<-e];have st:U_.p (wE M n qs way cut f z7 (J (.int (lo:Int))) u z10) s=.nx (wE M n qs way cut (f++r) z7 (J (.int ((lo+m:Nat):Int))) (J (.int (m:Int))) z10) E:=by
    rw[aA,bS];simp![b7,hZ,dE,bB,aD,we,Pf,cm,G,gc,R,Pg,CU,CV,PU.aq]
    rw[aA,fB (s1:=E) (ds:=f) (ds':=f++r) (r:=.non) (by
     simp![aD,bB,jf,b7,gc,Pf,cm,F,L]) rfl (gO (by ext)),PU.aq]
    simp
   rw[st];rfl
  .refine⟨f,J (.int (lo:Int)),u,s,?_,by ext,pt⟩;rw[f_ (by simpa using z)]
abbrev VA:Xd [6]:=(ul (xB (ae FQ (ac 2) (xC (.int 1)))) (aB (bf 10 (aG 1 [0,2] (bL v2 (aa (ag aE (aa (ac 0) (aa (xC (.int 3)) a_))) a_)) (ws':=[]) (i_ 0) ix (aI (aa (ag aE (aa (ac 1) (aa (ac 2) a_))) (aa (ag aE (aa (ac 1) (aa (ac 2) a_))) a_)))))
 (w4 i3 6 (aa (aG 2 [] (aY (ac 10)) (ws':=[]) (Bn (pu (i_ 0) (pu (i_ 1) Bi)) 2) (xB (ae BV (ac 0) (ac 1))) (aI (aa (ac 0) (aa (ac 1) a_)))) a_))) i0)
def Tj(n12:n<=12)(pl:f.length<=900)(pt:∀y∈f,C3 n y):
  ∃j l P,VA.p (wE M n qs way cut f z7 z8 z9 z10) s=.nx (wE M n qs way cut j z7 z8 z9 l) P/\j.length<=902/\∀y∈j,C3 n y:=by
 have Z:(xB (ae FQ (ac 2) (xC (.int 1))):Xt [6]).p (wE M n qs way cut f z7 z8 z9 z10) s=.ok (decide ((1:Int)<(n:Int))) s:=by simp
 rw[eW,Z,Pg];by_cases z:(1:Int)<(n:Int)
 .rw[c_ (by simpa using z)];obtain⟨d,s1,d0,d1,R⟩:=b8 (s:=s) (size:=3) (by decide) (by decide);obtain⟨m,rfl⟩:=cF d0
  obtain⟨r,G,q,U,L⟩:=oU (ws:=[6]) (ws':=[]) (env:=wE M n qs way cut f z7 z8 z9 z10) (s:=s) (fm:=[0,2]) (i:=bL v2 (aa (ag aE (aa (ac 0) (aa (xC (.int 3)) a_))) a_)) (t:=ix) (e:=aI (aa (ag aE (aa (ac 1) (aa (ac 2) a_))) (aa (ag aE (aa (ac 1) (aa (ac 2) a_))) a_))) (λy=>∃a b:Int,y=.tup [.int a,.int b]/\0<=a/\a<n/\0<=b/\b<n) (by
   simp[R]
   rw[jb (by ext),yT];rfl) (by rw[dj];ext) (λx H s=>by
    obtain⟨a,s3,u,E,Q⟩:=b8 (s:=s) (size:=(n:Int)) (by ext) (by ext);obtain⟨b,s4,F,C,W⟩:=b8 (s:=s3) (size:=(n:Int)) (by ext) (by ext);refine⟨I,s,rfl,λ_=>⟨_,s4,?_,a,b,rfl,u,E,F,C⟩⟩
    simp[Q,W])
  rw[dj]at U
  have O:=kJ (ws:=[6]) (ws':=[]) (env:=wE M n qs way cut f z7 z8 z9 (J (.lst r))) (s:=G) (fm:=[]) (i:=aY (ac 10)) (t:=xB (ae BV (ac 0) (ac 1))) (e:=aI (aa (ac 0) (aa (ac 1) a_))) (ds:=r) (λx=>match x with|.tup [.int a,.int b]=>!decide (a=b)|_=>T) (λx=>x) (by simp) (by ext) (λx H=>by
   obtain⟨a,b,rfl,_⟩:=L x H
   exact⟨.int a,.int b,rfl,by simp,λ_=>by simp⟩)
  rw[List.map_id']at O;have fl:=Hr (λx:D=>match x with|.tup [.int a,.int b]=>!decide (a=b)|_=>T) r;refine⟨f++r.filter λx=>match x with|.tup [.int a,.int b]=>!decide (a=b)|_=>T,J (.lst r),G,?_,by rw[xK];ext,λy B=>(nq.mp B).elim (pt y) λB=>?_⟩
  .rw[aA,bS,q,Pg];simp only[CU,CV,PU.aq];exact fB (s1:=G) (as:=[.lst _]) (ds:=f) (ds':=f++_) (r:=.non) (by rw[aD,O];rfl) rfl (gO (by ext))
  .obtain⟨S,X⟩:=p_.mp B;obtain⟨a,b,rfl,u,E,F,C⟩:=L y S;exact⟨[a,b],rfl,a,b,rfl,u,E,F,C,by simpa using X⟩
 .rw[f_ (by simpa using z)];exact⟨f,z10,s,rfl,by ext,pt⟩
def ON{n:Nat}{f:VN}{way cut:Int}{l:VP}{z7 z8 z9 z10:VD}{s:iw}(o:Ord n f)(C:∀k∈l,IsT n k)(P:l.length<=902):
  ∃u:VP,(aG 2 [3] (aY (ac 6)) (ws':=[]) (Bn (pu (i_ 0) (pu (i_ 1) Bi)) 2) ix (aI (aa (ae jj (ac 2) (ac 0)) (aa (ae jj (ac 2) (ac 1)) a_))):Xe [6]).p (wE M n f way cut (l.map kD) z7 z8 z9 z10) s=.ok (.lst (u.map kD)) s/\(∀k∈u,IsT n k)/\u.length<=902:=by
 have S:=o.len;have nd:=o.pm.symm.nodup (br n);refine⟨l.map λk=>match k with|[a,b]=>[f.getD a.toNat 0,f.getD b.toNat 0]|_=>[],?_,λk r=>?_,by simpa using P⟩
 .have G:=kJ (ws:=[6]) (ws':=[]) (env:=wE M n f way cut (l.map kD) z7 z8 z9 z10) (s:=s) (fm:=[3]) (i:=aY (ac 6)) (t:=ix) (e:=aI (aa (ae jj (ac 2) (ac 0)) (aa (ae jj (ac 2) (ac 1)) a_))) (ds:=l.map kD) (λ_=>I) (λx=>match eP x with|some [a,b]=>kD [f.getD a.toNat 0,f.getD b.toNat 0]|_=>kD []) (by simp) (by simp;ext) (λx O=>by
   obtain⟨k,r,rfl⟩:=ml.mp O;obtain⟨a,b,rfl,z,R,E,Q,_⟩:=C k r;obtain⟨a,rfl⟩:=cF z;obtain⟨b,rfl⟩:=cF E;refine⟨.int (a:Int),.int (b:Int),rfl,rfl,λ_=>?_⟩;simp[jR (show a<f.length by ext),jR (show b<f.length by ext)]
   rfl)
  rw[c6,wc]at G;rw[G,wc];congr 2;refine Dp λk r=>?_;obtain⟨a,b,rfl,_⟩:=C k r;simp[iG]
 .obtain⟨L,B,rfl⟩:=ml.mp r;obtain⟨a,b,rfl,z,R,E,Q,ne⟩:=C L B;obtain⟨a,rfl⟩:=cF z;obtain⟨b,rfl⟩:=cF E;have F:=o.at (j:=a) (by ext);have H:=o.at (j:=b) (by ext);refine⟨_,_,rfl,F.1,F.2,H.1,H.2,λe=>ne ?_⟩;rw[xY nd (i:=a) (j:=b) (by ext) (by ext) e]
def Hf{s:iw}(hM:0<=M/\M<=12):∃(n:Nat)(E:VP)(r:iw),iF.p [.pen,.int M] s=.ok (aj n E) r/\(n:Int)<=M/\g_ n E:=by
 obtain⟨a,s1,a0,a9,W⟩:=b8 (s:=s) (size:=M+1) (by ext) (by ext);obtain⟨n,rfl⟩:=cF a0;obtain⟨u,s2,q2,o⟩:=vP (n:=n) (s:=s1) (by ext);obtain⟨f,s3,w0,w9,Z⟩:=b8 (s:=s2) (size:=5) (by decide) (by decide);obtain⟨cut,s4,c0,c9,qc⟩:=b8 (s:=s3) (size:=(n:Int)+1) (by ext) (by ext);obtain⟨P,s5,e5,l,i,rfl,O,pt⟩:=gq (g:=(i_ 7:Xg [6]).p) (b:=UZ.p)
  (λj env r=>∃l i,env=wE M n u f cut i l Y Y Y/\i.length<=36*j/\∀y∈i,C3 n y) (cP 0 n) 0 _ s4 ⟨Y,[],rfl,by simp,by simp⟩ (λj env r d ⟨z,i,X,O,pt⟩ hd=>by
   subst X;obtain⟨rfl,hj⟩:=m5 hd;obtain⟨G,C,q,ab,H⟩:=Ti (cut:=cut) (z8:=Y) (z9:=Y) (z10:=Y) (s:=r) (qs:=u) hj (by ext) w0 (by ext) pt
   exact⟨_,_,C,rfl,q,_,G,rfl,by ext,H⟩)
 rw[dj,vw]at O;obtain⟨p6,R,U,s6,e6,l6,t6⟩:=KL (n:=n) (qs:=u) (way:=f) (cut:=cut) (z7:=l) (z10:=Y) (by ext) 400 0 i Y s5 (by ext) (by ext) (by ext) pt;obtain⟨p7,F,B,e7,S,t7⟩:=Tj (n:=n) (qs:=u) (way:=f) (cut:=cut) (z7:=l) (z8:=R) (z9:=U) (z10:=Y) (s:=s6) (by ext) l6 t6;obtain⟨E,rfl,kt⟩:=zB t7;rw[BL]at S;obtain⟨L,e8,Q,hl⟩:=ON (way:=f) (cut:=cut) (z7:=l) (z8:=R) (z9:=U) (z10:=F) (s:=B) o kt S;have mk:=jO (d:=.lst (L.map kD)) (s:=B) (n:=n) rfl (by ext) Q (by ext);refine⟨n,bu (SetT.k_ (L.map o_)),B,?_,by ext,cW (by ext) (by ext) (dW Q)⟩;unfold iF;rw[bz (by rfl)];unfold lJ;rw[show qb 11 [D.pen,.int M]=[J .pen,J (.int M),Y,Y,Y,Y,Y,Y,Y,Y,Y]from rfl];rw[aA,bS];simp![b7,hZ,dE,bB,aD,cm,gc,Pf,W,Pg,CU,CV,PU.aq];rw[aA,bS];simp![bB,aD,cm,q2,Pg,CU,CV,PU.aq];rw[aA,bS];simp![bB,aD,hZ,dE,cm,Z,Pg,CU,CV,PU.aq];rw[aA,bS];simp![b7,hZ,dE,bB,aD,cm,gc,Pf,qc,Pg,CU,CV,PU.aq];rw[aA,pR];simp only[ut,cm,Pb,Ln,ya,if_true,Pg,CU,CV,PU.aq];rw[aA,lc,zO,aD];simp;rw[jb (by ext),yT,Pf,Pg];refine(congrArg (λz:PS=>(z.then _).fin) e5).trans ?_;rw[PU.aq,aA,bS];simp;refine(congrArg (λz:PS=>(z.then _).fin) e6).trans ?_;refine(congrArg (λz:PS=>(z.then _).fin) e7).trans ?_;rw[PU.aq,dJ,bB,aD];simp![Pb];rw[aD,e8];simp[mk]
def Td(f:VP)(a b:Int):Prop:=[a,b]∈f\/[b,a]∈f
def Td.symm(h:Td ks a b):Td ks b a:=h.elim .inr .inl
def iC(w:g_ n ks)(h:Td ks a b):a≠b/\(0<=a/\a<n)/\0<=b/\b<n:=by rcases h with h|h<;>obtain⟨x,y,e,i,j,f⟩:=w.tie _ h<;>injection e with e1 e<;>injection e with e2 _<;>subst e1 e2<;>ext
def cY(w:g_ n ks):x∈BI v ks↔Td ks v x:=by
 unfold BI Td below above;rw[nq,Dq,Dq];constructor
 .rintro (⟨k,f,e⟩|⟨k,f,e⟩)<;>obtain⟨a,b,rfl,_⟩:=w.tie k f
  .by_cases z:b=v
   .simp[z]at e;subst e z;exact .inr f
   .simp[z]at e
  .by_cases z:a=v
   .simp[z]at e;subst e z;exact .inl f
   .simp[z]at e
 .rintro (h|h)
  .exact .inr ⟨_,h,by simp⟩
  .exact .inl ⟨_,h,by simp⟩
def nk(u:Nat->av->iw->Prop)(R:D->iw->Prop):∀(B:VR)(j:Nat)(env:av)(s:iw),u j env s ->
  (∀m env s d,u (j+m) env s->B[m]?=J d->∃i,g d env=J i/\((∃f l,b i s=.nx f l/\u (j+m+1) f l)\/∃r l,b i s=.rt r l/\R r l)) ->
  (∃f l,CP g b B env s=.nx f l/\u (j+B.length) f l)\/∃r l,CP g b B env s=.rt r l/\R r l
 |[],j,env,s,F,_=>.inl ⟨env,s,rfl,F⟩
 |d::B,j,env,s,F,st=>by
  obtain⟨i,e1,h⟩:=st 0 env s d F rfl;rcases h with⟨C,G,e2,H⟩|⟨r,G,e2,E⟩
  .rcases nk u R B (j+1) C G H (λm f l x q z=>by
    have:=st (m+1) f l x (by rw[show j+(m+1)=j+1+m by ext];exact q) (by simpa using z)
    rw[show j+(m+1)+1=j+1+m+1 by ext]at this
    exact this)with⟨env3,s3,e3,I3⟩|⟨r,s3,e3,E⟩
   .refine .inl ⟨env3,s3,?_,by rw[DN,show j+(B.length+1)=j+1+B.length by ext];exact I3⟩;rw[kj e1,e2];exact e3
   .refine .inr ⟨r,s3,?_,E⟩;rw[kj e1,e2];exact e3
  .refine .inr ⟨r,G,?_,E⟩;rw[kj e1,e2];rfl
inductive Iw(ks:VP)(ps:VN)(a:Int):VN->Int->Prop where
 |one:Iw ks ps a [a] a
 |more{wy:VN}{e p:Int}:Iw ks ps a wy e->Td ks e p->p∈ps->p∉wy->(∀x∈wy,x≠e->¬Td ks x p)->Iw ks ps a (wy++[p]) p
inductive Rc(ks:VP)(ps:VN)(a:Int):Int->Prop where
 |base:Rc ks ps a a
 |step{x y:Int}:Rc ks ps a x->Td ks x y->y∈ps->Rc ks ps a y
def Iw.last(h:Iw ks ps a wy e):∃f,wy=f++[e]:=by
 cases h with
 |one=>exact⟨[],rfl⟩
 |@more w e p=>exact⟨w,rfl⟩
def Iw.nd(h:Iw ks ps a f e):f.Nodup:=by
 induction h with
 |one=>simp
 |@more f e p _ _ _ i _ j =>
  rw[CJ];refine⟨j,by simp,λx l y r z=>i ?_⟩
  have:y=p:=by simpa using r
  rw[<-this,<-z];exact l
def BE{f:VR}{d:D}:n5 (f++[d]) (-1)=J d:=by
 unfold n5 wk;rw[f_ (by decide),c_ (by simp;ext)]
 have:((-1:Int)+((f++[d]).length:Int)).toNat=f.length:=by simp;ext
 rw[this];simp
structure Bf(n:Nat)(ks:VP)(ps:VN)(a b:Int)(pd:VN)(qu:List (VN×Int))(sn:VN):Prop where
 eq:sn=pd++qu.map (·.2)
 nd:sn.Nodup
 bd:∀x∈sn,0<=x/\x<(n:Int)
 st:a∈sn
 gw:∀q∈qu,Iw ks ps a q.1 q.2/\∀x∈q.1,x≠q.2->x∈pd
 cl:∀x∈pd,∀y,Td ks x y->y∈ps->y∈sn
 nb:b∉pd
def bV(i f ns:VN):VN:=ns.filter λp=>decide (p∈i) && !decide (p∈f)
def iQ:p∈bV ps sn ns↔p∈ns/\p∈ps/\p∉sn:=by simp[bV]
def Bf.len(h:Bf n ks ps a b pd qu sn):pd.length+qu.length<=n:=by
 have:=List.Nodup.length_le_of_subset h.nd λx f=>ah.mpr (h.bd x f)
 rw[h.eq]at this;simpa [b_]using this
def Bf.step{n:Nat}{l:VP}{B:VN}{a b e:Int}{H F:VN}{L:List (VN×Int)}{j:VN}(w:g_ n l)(h:Bf n l B a b H ((F,e)::L) j)(ne:e≠b):Bf n l B a b (H++[e]) (L++(bV B j (BI e l)).map λp=>(F++[p],p)) (j++bV B j (BI e l)):=by
 obtain⟨P,C⟩:=h.gw (F,e) t3;have U:e∈j:=by rw[h.eq];simp
 have E:∀x∈H,x∈j:=λx f=>by rw[h.eq];exact s_ _ f
 refine⟨?_,?_,λx f=>?_,s_ _ h.st,λq u=>?_,λx f y t py=>?_,λr=>?_⟩
 .have e1:=h.eq;rw[e1];simp[Function.comp_def]
 .rw[CJ];refine⟨h.nd,((lH w).1).filter _,λx f y S z=>?_⟩;subst z;exact(iQ.mp S).2.2 f
 .rcases nq.mp f with f|f
  .exact h.bd x f
  .exact (iC w ((cY w).mp (iQ.mp f).1)).2.2
 .rcases nq.mp u with u|u
  .obtain⟨W,R⟩:=h.gw q (m_ _ u);exact⟨W,λx f i=>s_ _ (R x f i)⟩
  .obtain⟨p,X,rfl⟩:=ml.mp u;obtain⟨Q,O,G⟩:=iQ.mp X;refine⟨.more P ((cY w).mp Q) O (λz=>?_) λx f i t=>G (h.cl x (C x f i) p t O),λx f i=>?_⟩
   .by_cases y:p=e
    .exact G (y▸U)
    .exact G (E p (C p z y))
   .rcases nq.mp f with f|f
    .by_cases y:x=e
     .subst y;simp
     .exact s_ _ (C x f y)
    .exact absurd (by simpa using f) i
 .rcases nq.mp f with f|f
  .exact s_ _ (h.cl x f y t py)
  .have:x=e:=by simpa using f
   subst this;by_cases z:y∈j
   .exact s_ _ z
   .exact oI _ (iQ.mpr ⟨(cY w).mpr t,py,z⟩)
 .rcases nq.mp r with r|r
  .exact h.nb r
  .have:b=e:=by simpa using r
   exact ne this.symm
def Bf.stop(h:Bf n ks ps a b pd [] sn):¬Rc ks ps a b:=λr=>by
 have e:sn=pd:=by rw[h.eq];simp
 have:∀y,Rc ks ps a y->y∈sn:=λy r=>by
  induction r with
  |base=>exact h.st
  |step _ t py f=>exact h.cl _ (e▸f) _ t py
 exact h.nb (e▸this b r)
def QC(q:VN×Int):D:=.lst (q.1.map .int)
abbrev CG(n:Nat)(ks:VP)(ps:VN)(a b:Int)(qu:List (VN×Int))(sn:VN)(z6 z7:VD):av:=[J (aj n ks),J (.lst (ps.map .int)),J (.int a),J (.int b),J (.lst (qu.map QC)),J (.lst (sn.map .int)),z6,z7]
abbrev Tk:Xd [4,5]:=(ul (i7 (xB (ae (x4 T) (ac 7) (ac 1))) (xB (ae (x4 I) (ac 7) (ac 5)))) (aB (w4 qp 5 (aa (ac 7) a_))
 (w4 qp 4 (aa (ae aK (ac 6) (cU (aa (ac 7) a_))) a_))) i0)
abbrev QD:Xd [4,5]:=(aB (u6 6 Dc 4 (aa (xC (.int 0)) a_))
 (aB (ul (xB (ae x3 (ae jj (ac 6) (Dm pJ (xC (.int 1)))) (ac 3))) (bo (ac 6)) i0)
 (gf (aY (ag bp (aa (ac 0) (aa (ae jj (ac 6) (Dm pJ (xC (.int 1)))) a_)))) (i_ 7) Tk)))
abbrev OO:Xt [4,5]:=N6 (ac 4)
def KN(nd:ns.Nodup)(W:ns.length<=12)(X:qu.length<=100)(l3:sn.length<=100)(l4:wy.length<=100):
  ∃i,CP (i_ 7:Xg [4,5]).p Tk.p (ns.map .int) (CG n ks ps a b qu sn (J (.lst (wy.map .int))) z7) s=.nx (CG n ks ps a b (qu++(bV ps sn ns).map λp=>(wy++[p],p)) (sn++bV ps sn ns) (J (.lst (wy.map .int))) i) s:=by
 obtain⟨E,f,e,i,rfl,rfl⟩:=gq (g:=(i_ 7:Xg [4,5]).p) (b:=Tk.p)
  (λj env f=>∃i,env=CG n ks ps a b (qu++(bV ps sn (ns.take j)).map λp=>(wy++[p],p)) (sn++bV ps sn (ns.take j)) (J (.lst (wy.map .int))) i/\f=s) (ns.map .int) 0 (CG n ks ps a b qu sn (J (.lst (wy.map .int))) z7) s ⟨z7,by simp[bV],rfl⟩ (λj env f d ⟨i,C,R⟩ hd=>by
   rw[vw]at C ⊢;subst C R;obtain⟨rfl,u⟩:=mW hd;have U:ns.getD j 0=ns[j]:=by simp[List.getD,u]
   rw[U];have S:ns.take (j+1)=ns.take j++[ns[j]]:=by simp[u]
   have O:ns[j]∉ns.take j:=λz=>by
    have:=nd
    rw[<-DZ j ns,CJ]at this;exact this.2.2 _ z _ (by rw[Hm u];exact t3) rfl
   have al:(bV ps sn (ns.take j)).length<=12:=by
    have:=Hr (λp=>decide (p∈ps) && !decide (p∈sn)) (ns.take j)
    unfold bV;rw[L_]at this;omega
   have P:=jC (neg:=T) (x:=ns[j]) (d:=.lst (ps.map .int)) (xs:=ps) rfl;have F:=jC (neg:=I) (x:=ns[j]) (d:=.lst ((sn++bV ps sn (ns.take j)).map .int)) (xs:=sn++bV ps sn (ns.take j)) rfl;refine⟨CG n ks ps a b (qu++(bV ps sn (ns.take j)).map λp=>(wy++[p],p)) (sn++bV ps sn (ns.take j)) (J (.lst (wy.map .int))) (J (.int ns[j])),CG n ks ps a b (qu++(bV ps sn (ns.take (j+1))).map λp=>(wy++[p],p)) (sn++bV ps sn (ns.take (j+1))) (J (.lst (wy.map .int))) (J (.int ns[j])),f,rfl,?_,_,rfl,rfl⟩;have G:bV ps sn (ns.take (j+1))=bV ps sn (ns.take j)++(if ns[j]∈ps/\ns[j]∉sn then [ns[j]]else []):=by unfold bV;rw[S,List.filter_append];by_cases l:ns[j]∈ps<;>by_cases B:ns[j]∈sn<;>simp[l,B]
   have H:ns[j]∈sn++bV ps sn (ns.take j)↔ns[j]∈sn:=by rw[nq];exact⟨λh=>h.elim id λh=>absurd (iQ.mp h).1 O,.inl⟩
   have Q:(i7 (xB (ae (x4 T) (ac 7) (ac 1))) (xB (ae (x4 I) (ac 7) (ac 5))):Xt [4,5]).p (CG n ks ps a b (qu++(bV ps sn (ns.take j)).map λp=>(wy++[p],p)) (sn++bV ps sn (ns.take j)) (J (.lst (wy.map .int))) (J (.int ns[j]))) f=.ok (decide (ns[j]∈ps/\ns[j]∉sn)) f:=by
    simp![Ka,J9,b7,N4,P,F,Pf,Pl,sf,if_false,if_true];by_cases l:ns[j]∈ps
    .simp only[l,decide_true,if_true,true_and,decide_not];by_cases B:ns[j]∈sn<;>simp[H,B]
    .simp[l]
   rw[eW,Q,Pg,G];by_cases z:ns[j]∈ps/\ns[j]∉sn
   .rw[c_ (by simpa using z),c_ z,aA];rw[fB (s1:=f) (as:=[.int ns[j]]) (ds:=(sn++bV ps sn (ns.take j)).map .int) (ds':=(sn++(bV ps sn (ns.take j)++[ns[j]])).map .int) (r:=.non) (by simp) rfl (by rw[rQ (by simp;omega)];simp),PU.aq];have L:aK.p (.lst (wy.map .int)) (.lst [.int ns[j]])=J (.lst ((wy++[ns[j]]).map .int)):=by
     rw[fA (by simp;omega)];simp
    rw[fB (s1:=f) (as:=[.lst ((wy++[ns[j]]).map .int)]) (ds:=(qu++(bV ps sn (ns.take j)).map λp=>(wy++[p],p)).map QC) (ds':=(qu++(bV ps sn (ns.take j)++[ns[j]]).map λp=>(wy++[p],p)).map QC) (r:=.non) (by
     simp[show(0+1:Nat)<=100000 by decide,L]) rfl (by rw[rQ (by simp;omega)];simp[QC])]
    rfl
   .rw[f_ (by simpa using z),f_ z,GK]
    rfl)
 rw[BL,vw,Pr]at e;exact⟨i,e⟩
def KO{n:Nat}{f:VP}{j:VN}{a b:Int}{s:iw}(w:g_ n f):∀(N:Nat)(F:VN)(u:List (VN×Int))(r:VN)(C B:VD),n-F.length+1<=N->Bf n f j a b F u r ->
  (∃i,i8 OO.p QD.p N (CG n f j a b u r C B) s=.rt (.lst (i.map .int)) s/\Iw f j a i b)\/(∃E,i8 OO.p QD.p N (CG n f j a b u r C B) s=.nx E s/\¬Rc f j a b):=by
 intro N
 induction N with
 |zero=>ext
 |succ N W =>
  intro F u r C B hd h;have O:=h.len;have n12:=w.n12
  cases u with
  |nil=>exact .inr ⟨CG n f j a b [] r C B,by rw[i8,show OO.p (CG n f j a b [] r C B) s=.ok T s by simp[qL]];rfl,h.stop⟩
  |cons q u =>
   obtain⟨i,e⟩:=q;obtain⟨G,U⟩:Iw f j a i e/\∀x∈i,x≠e->x∈F:=h.gw (i,e) t3;have X:e∈r:=by rw[h.eq];simp
   have P:=h.bd e X;have tt:OO.p (CG n f j a b ((i,e)::u) r C B) s=.ok I s:=by simp[qL]
   rw[i8,tt,Pg,c_ rfl];obtain⟨w0,H⟩:=G.last;have en:pJ.p (.int 1)=J (.int (-1)):=rfl;have L:n5 (i.map D.int) (-1)=J (.int e):=by rw[H,Hx];exact BE
   have Q:(u6 6 Dc 4 (aa (xC (.int 0)) a_):Xd [4,5]).p (CG n f j a b ((i,e)::u) r C B) s=.nx (CG n f j a b u r (J (.lst (i.map .int))) B) s:=by refine Eq.trans (rfl) ?_;rfl
   by_cases z:e=b
   .subst z;refine .inl ⟨i,?_,G⟩;rw[aA,Q,PU.aq,aA,eW];simp[en,L,decide_true]
   .have Z:i.length<=100:=by
     have l:=List.Nodup.length_le_of_subset G.nd λx S=>ah.mpr (by
      by_cases y:x=e
      .subst y;exact P
      .exact h.bd x (by rw[h.eq];exact s_ _ (U x S y)))
     simp[b_]at l;ext
    have sl:r.length<=100:=by
     have:=congrArg List.length h.eq
     simp at this O;ext
    have nl:=F9 (v:=e) w;obtain⟨y7,R⟩:=KN (qu:=u) (wy:=i) (z7:=B) (s:=s) (lH (v:=e) w).1 nl (by simp at O;ext) sl Z;have st:QD.p (CG n f j a b ((i,e)::u) r C B) s=.nx (CG n f j a b (u++(bV j r (BI e f)).map λp=>(i++[p],p)) (r++bV j r (BI e f)) (J (.lst (i.map .int))) y7) s:=by rw[aA,Q,PU.aq,aA,eW];simp![J9,b7,NY,hZ,dE,en,Pf,oJ,L,Ha,zQ,z,decide_false,Pl,Pg,sf,if_false,mD,PU.aq];rw[lc];simp[en,L,yL w P.1 P.2];exact R
    rw[st];exact W (F++[e]) _ _ _ _ (by simp at O ⊢;ext) (h.step w z)
def F_{n:Nat}{f:VP}{i:VN}{a b:Int}{s:iw}(w:g_ n f)(B:0<=a/\a<(n:Int)):
  (∃j,bq.p [aj n f,.lst (i.map .int),.int a,.int b] s=.ok (.lst (j.map .int)) s/\Iw f i a j b)\/(bq.p [aj n f,.lst (i.map .int),.int a,.int b] s=.ok .non s/\¬Rc f i a b):=by
 have E:Bf n f i a b [] [([a],a)] [a]:=by
  refine⟨rfl,by simp,λx l=>?_,by simp,λq C=>?_,by simp,by simp⟩
  .have:x=a:=by simpa using l
   subst this;exact B
  .have:q=([a],a):=by simpa using C
   subst this;exact⟨.one,λx l u=>absurd (by simpa using l) u⟩
 have r:=KO (s:=s) w 400 [] [([a],a)] [a] Y Y (by have:=w.n12;ext) E;have pre:bq.p [aj n f,.lst (i.map .int),.int a,.int b] s=((i8 OO.p QD.p 400 (CG n f i a b [([a],a)] [a] Y Y) s).then (bo (xC .non):Xd [4,5]).p).fin:=by unfold bq;rw[bz (by rfl)];unfold eG;rw[show qb 8 [aj n f,.lst (i.map .int),.int a,.int b]=[J (aj n f),J (.lst (i.map .int)),J (.int a),J (.int b),Y,Y,Y,Y]from rfl];simp;rfl
 rw[pre];rcases r with⟨j,r,t⟩|⟨z,r,t⟩
 .refine .inl ⟨j,?_,t⟩;rw[r];rfl
 .refine .inr ⟨?_,t⟩;rw[r];rfl
def kW:(fQ ds).length=ds.length:=by simp[fQ]
def qV{f:VR}{j:Nat}{d:D}(e:(fQ f)[j]?=J d):∃x,f[j]?=J x/\d=.tup [.int (j:Int),x]:=by
 unfold fQ at e;rw[vu,List.getElem?_zipIdx]at e
 cases e1:f[j]? with
 |none=>rw[e1]at e;cases e
 |some x=>rw[e1]at e;simp at e;exact⟨x,rfl,e.symm⟩
def wG{ns:VN}{s:iw}(G:ns.length<=12):bX.p [.lst (ns.map .int)] s=.ok (.lst ((aP ns ns.length).map kD)) s:=by
 unfold bX;rw[bz (by rfl)];unfold fc;have L:qb 4 [D.lst (ns.map .int)]=[J (.lst (ns.map .int)),Y,Y,Y]:=rfl;obtain⟨C,f,e,u,l,rfl,E⟩:=gq (g:=(Bn (pu (i_ 2) (pu (i_ 3) Bi)) 2:Xg [1]).p) (b:=(w4 i3 1 (aa (aG 1 [3] (aY (LP (ac 0) (LM (ae aK (ac 2) (xC (.int 1)))) LL)) (ws':=[]) (i_ 0) ix (aI (aa (ac 1) (aa (ac 0) a_)))) a_):Xd [1]).p)
  (λj env f=>∃u l,env=[J (.lst (ns.map .int)),J (.lst ((aP ns j).map kD)),u,l]/\f=s) (fQ (ns.map .int)) 0 [J (.lst (ns.map .int)),J (.lst []),Y,Y] s ⟨Y,Y,rfl,rfl⟩ (λj env f d ⟨u,l,z,H⟩ hd=>by
   rw[vw]at z ⊢;subst z H;obtain⟨x,B,rfl⟩:=qV hd;obtain⟨rfl,P⟩:=mW B;have F:=fP G j
   have q:=fk (ws:=[1]) (ws':=[]) (env:=[J (.lst (ns.map .int)),J (.lst ((aP ns j).map kD)),J (.int (j:Int)),J (.int (ns.getD j 0))]) (s:=f) (fm:=[3]) (i:=(aY (LP (ac 0) (LM (ae aK (ac 2) (xC (.int 1)))) LL))) (t:=ix) (e:=(aI (aa (ac 1) (aa (ac 0) a_)))) (ds:=(ns.drop (j+1)).map .int) (λ_=>I) (λx=>.tup [.int (ns.getD j 0),x]) (by
     have:=BJ (ns:=ns) (j:=j+1) (by omega)
     push_cast at this
     simp[this]) (by simp;omega) (λx B=>⟨rfl,λ_=>by simp⟩)
   have e2:((((ns.drop (j+1)).map D.int).filter λ_=>I).map λx=>D.tup [.int (ns.getD j 0),x])=((ns.drop (j+1)).map λb=>[ns.getD j 0,b]).map kD:=by rw[c6,wc,wc];rfl
   rw[e2]at q;refine⟨[J (.lst (ns.map .int)),J (.lst ((aP ns j).map kD)),J (.int (j:Int)),J (.int (ns.getD j 0))],_,f,by simp,fB (as:=[.lst (((ns.drop (j+1)).map λb=>[ns.getD j 0,b]).map kD)]) (ds':=(aP ns (j+1)).map kD) (r:=.non) (by rw[aD,q];simp) rfl ?_,_,_,rfl,rfl⟩
   rw[gO (by simp;omega),nC,Hx])
 rw[kW,BL,vw,E]at e;have O:(gE 1 (cU a_):Xd [1]).p [J (.lst (ns.map .int)),Y,Y,Y] s=.nx [J (.lst (ns.map .int)),J (.lst []),Y,Y] s:=by simp
 rw[L,aA,O,PU.aq,aA,lc,zO,aD];simp;rw[e,PU.aq,v6 rfl,PU.lz]
def kh(e:Th d j)(r:∀k∈j,IsT n k)(C:j.length<=100000)(hd:(SetT.k_ (j.map o_)).length<=66):
  bc.p [d] s=.ok (.tup ((bu (SetT.k_ (j.map o_))).map kD)) s:=by
 unfold bc;rw[bz (by rfl)];unfold fb
 have q:=fk (ws:=[]) (ws':=[]) (env:=qb 1 [d]) (s:=s) (fm:=[]) (i:=aY (ac 0)) (t:=ix) (e:=(aI (aa (qo nY (aa (ac 0) a_)) (aa (qo pf (aa (ac 0) a_)) a_)))) (ds:=j.map kD) (λ_=>I) (λx=>match eP x with|some k=>kD (o_ k)|none=>.non) (by simp[qb,e]) (by simpa using C) (λx z=>by
   obtain⟨k,f,rfl⟩:=ml.mp z;obtain⟨a,b,rfl,_⟩:=r k f
   simp[kD,KH,KI,eP,fG,o_])
 have e2:(((j.map kD).filter λ_=>I).map λx=>match eP x with|some k=>kD (o_ k)|none=>.non)=(j.map o_).map kD:=by rw[c6,wc,wc];refine Dp λk f=>?_;obtain⟨a,b,rfl,_⟩:=r k f;rfl
 rw[e2]at q
 have B:=He ⟨λk f=>by
  obtain⟨u,l,rfl⟩:=ml.mp f;obtain⟨a,b,rfl,_⟩:=r u l
  simp[o_],hd⟩
 rw[dJ,jf,aD,jf,aD,q];simp only[Pb,cm,B,Pf,nF,Pg,PU.lz]
def Tl(left:VN)(x:D):Bool:=match x with
 |.int i=>decide (i∈left)
 |_=>T
def Ga(v:Int)(x:D):Bool:=match eP x with
 |some k=>!decide (v∈k)
 |none=>T
@[simp]theorem Va:Tl left (.int i)=decide (i∈left):=rfl
@[simp]theorem Tn:Ga v (kD k)=!decide (v∈k):=by simp[Ga,iG]
def CH(v:Int)(f:VP):VP:=f.filter λk=>!decide (v∈k)
def qr(left:VN)(v:Int)(f:VP):VN:=(BI v f).filter λx=>decide (x∈left)
def cQ(left:VN)(v:Int)(f:VP):VP:=bu (SetT.k_ (CH v f++aP (qr left v f) (qr left v f).length))
def dw(w:g_ n f):(qr left v f).Pairwise (·<·)/\(∀x∈qr left v f,0<=x/\x<n)/\(qr left v f).length<=12:=by
 obtain⟨nd,l⟩:=lH w;have ris:=FY (v:=v) w;have lt:(BI v f).Pairwise (·<·):=by
  refine(ris.and nd).imp λ{a b} h=>?_
  grind
 refine⟨lt.filter _,λx i=>l x (p_.mp i).1,?_⟩;have j:(qr left v f).Nodup:=nd.filter _
 have:=List.Nodup.length_le_of_subset (l₂:=b_ 12) j λx i=>by
  rw[ah]
  have:=l x (p_.mp i).1
  have:=w.n12
  ext
 simpa [b_]using this
def jP(w:g_ n f):∀k∈CH v f++aP (qr left v f) (qr left v f).length,∃a b:Int,k=[a,b]/\0<=a/\a<b/\b<n:=λk i=>by
 obtain⟨j,l,r⟩:=dw w;rcases nq.mp i with q|q
 .exact w.tie k (p_.mp q).1
 .exact dy j l k q
def og{n:Int}{f:VP}(i:∀k∈f,∃a b:Int,k=[a,b]/\0<=a/\a<b/\b<n):f.map o_=f:=by
 have:f.map o_=f.map id:=Dp λk j=>by
  obtain⟨a,b,rfl,_,lt,_⟩:=i k j;exact dI lt
 rw[this,List.map_id]
def bW(w:g_ n ks):g_ n (cQ left v ks):=cW w.n0 w.n12 (jP w)
def ur:∀(i:VP),(((i.map kD).filter (Ga v)).map λx=>x)=(CH v i).map kD
 |[]=>rfl
 |k::i=>by
  have f:=ur (v:=v) i;unfold CH at f ⊢;by_cases z:v∈k
  .simp[z]at f ⊢;exact f
  .simp[z]at f ⊢;exact f
def qT:∀(ns:VN),(((ns.map D.int).filter (Tl left)).map λx=>x)=(ns.filter λx=>decide (x∈left)).map D.int
 |[]=>rfl
 |i::ns=>by
  have f:=qT (left:=left) ns;by_cases z:i∈left<;>simp[z]at f ⊢<;>exact f
def v8(hd:d.items=J (left.map .int))(w:g_ n ks)(j:0<=v)(hv:v<n):bY.p [aj n ks,d,.int v] s=.ok (.lst ((aP (qr left v ks) (qr left v ks).length).map kD)) s:=by
 obtain⟨u,z,f⟩:=dw w;have B:(BI v ks).length<=132:=by
  have:=gL w.n12 w.tie w.nd
  have a:(below v ks).length<=ks.length:=O_ _ _;have b:(above v ks).length<=ks.length:=O_ _ _;simp[BI];ext
 unfold bY;rw[bz (by rfl)];unfold fo;have l:qb 3 [aj n ks,d,.int v]=[J (aj n ks),J (d),J (.int v)]:=rfl
 have q:=fk (ws:=[]) (ws':=[]) (env:=[J (aj n ks),J (d),J (.int v)]) (s:=s) (fm:=[1]) (i:=aY (ag bp (aa (ac 0) (aa (ac 2) a_)))) (t:=xB (ae (x4 T) (ac 0) (ac 1))) (e:=ac 0) (ds:=(BI v ks).map .int) (Tl left) (λx=>x) (by simp[yL w j hv]) (by simp;ext) (λx r=>by
   obtain⟨i,C,rfl⟩:=ml.mp r
   exact⟨by simp[jC hd],λ_=>by simp⟩)
 rw[qT]at q;rw[l,dJ,bB,aD,q]
 have:=wG (s:=s) f
 simp;unfold qr at this ⊢;rw[this];simp
def t8{n v:Int}{left:VN}{f:VP}{d:D}{s:iw}(hd:d.items=J (left.map .int))(w:g_ n f)(l:0<=v)(hv:v<n)(j:∀x∈left,0<=x/\x<n):cL.p [aj n f,d,.int v] s=.ok (aj n (cQ left v f)) s:=by
 have z:=gL w.n12 w.tie w.nd;obtain⟨H,L,C⟩:=dw (v:=v) (left:=left) w;have G:=fP C (qr left v f).length;have P:(CH v f).length<=66:=o0 (Hr _ _) z;unfold cL;rw[bz (by rfl)];unfold fM;have E:qb 4 [aj n f,d,.int v]=[J (aj n f),J (d),J (.int v),Y]:=rfl
 have q:=fk (ws:=[]) (ws':=[]) (env:=[J (aj n f),J (d),J (.int v),Y]) (s:=s) (fm:=[2]) (i:=aY (ae jj (ac 0) (xC (.int 1)))) (t:=xB (ae (x4 I) (ac 1) (ac 0))) (e:=ac 0) (ds:=f.map kD) (Ga v) (λx=>x) (by simp[aj]) (by simp;ext) (λx u=>by
   obtain⟨k,O,rfl⟩:=ml.mp u
   exact⟨by simp[jC (d:=kD k) rfl],λ_=>by simp⟩)
 rw[ur]at q;have r:=kh (d:=.lst ((CH v f++aP (qr left v f) (qr left v f).length).map kD)) (s:=s) rfl (Ad (jP w)) (by simp;ext) (by rw[og (jP w)];exact lu w.n12 (jP w));rw[og (jP w)]at r;have F:(fS (ag aZ (aa (ae jj (ac 0) (xC (.int 0))) (aa (ac 2) a_))):Xd []).p [J (aj n f),J (d),J (.int v),Y] s=.nx [J (aj n f),J (d),J (.int v),Y] s:=by simp[aj,qx l hv]
 have B:(fS (ag cH (aa (ae jj (ac 0) (xC (.int 0))) (aa (ac 1) a_))):Xd []).p [J (aj n f),J (d),J (.int v),Y] s=.nx [J (aj n f),J (d),J (.int v),Y] s:=by simp[aj,BR hd j]
 rw[E,aA,F,PU.aq,aA,B,PU.aq,aA,bS,q];simp[v8 hd w l hv];rw[fA (by simp;ext)];rw[Hx]at r;simp[r,aj];simp[cQ]
def tN(f:VP)(x:D):Bool:=match eP x with
 |some k=>!decide (k∈f)
 |none=>T
@[simp]theorem To:tN ks (kD k)=!decide (k∈ks):=by simp[tN,iG]
theorem nA:∀(f:VP),(((f.map kD).filter (tN ks)).map λx=>x)=(f.filter λk=>!decide (k∈ks)).map kD
 |[]=>rfl
 |k::f=>by
  have i:=nA (ks:=ks) f;by_cases z:k∈ks<;>simp[z]at i ⊢<;>exact i
def de(r:ns.Pairwise (·<·)):[a,b]∈aP ns ns.length↔a∈ns/\b∈ns/\a<b:=by
 unfold aP;rw[Ll];constructor
 .rintro⟨i,f,h⟩;rw[w5]at f;obtain⟨c,B,e⟩:=ml.mp h;injection e with e1 e
  injection e with e2 _
  subst e1 e2;have e1:ns.getD i 0=ns[i]:=by simp[f]
  rw[e1];obtain⟨j,l,u⟩:=Ht B;rw[Dt]at l;rw[Pp]at u;have lt:=GD.mp r i (i+1+j) f (by ext) (by ext);rw[u]at lt;exact⟨Ps f,Ph B,lt⟩
 .rintro⟨C,E,lt⟩;obtain⟨i,f,rfl⟩:=Ht C;obtain⟨j,l,rfl⟩:=Ht E;have F:i<j:=by
   rcases Nat.lt_trichotomy i j with z|z | z
   .exact z
   .subst z;ext
   .have:=GD.mp r j i l f z;ext
  refine⟨i,w5.mpr f,ml.mpr ⟨ns[j],?_,by simp[f]⟩⟩;rw[List.mem_iff_getElem];exact⟨j-(i+1),by rw[Dt];ext,by rw[Pp];congr 1;ext⟩
def cD(w:g_ n ks):Td (cQ left v ks) x y↔(Td ks x y/\x≠v/\y≠v)\/(x≠y/\x∈left/\y∈left/\Td ks v x/\Td ks v y):=by
 obtain⟨B,E,C⟩:=dw w;have mem:∀a b:Int,[a,b]∈cQ left v ks↔([a,b]∈ks/\a≠v/\b≠v)\/(a<b/\a∈left/\b∈left/\Td ks v a/\Td ks v b):=λa b=>by
  unfold cQ;rw[(bZ _).mem_iff,SetT.eB,nq,de B];unfold CH qr;rw[p_,p_,p_,cY w,cY w];simp[lb,DM,or_false,DK,decide_eq_false_iff_not,decide_eq_true_eq,not_or];constructor
  .rintro (⟨q,j,f⟩|⟨⟨l,u⟩,⟨r,i⟩,lt⟩)
   .exact .inl ⟨q,λz=>j z.symm,λz=>f z.symm⟩
   .exact .inr ⟨lt,u,i,l,r⟩
  .rintro (⟨q,j,f⟩|⟨lt,u,i,l,r⟩)
   .exact .inl ⟨q,λz=>j z.symm,λz=>f z.symm⟩
   .exact .inr ⟨⟨l,u⟩,⟨r,i⟩,lt⟩
 unfold Td;rw[mem,mem];constructor
 .rintro ((⟨q,j,f⟩|⟨lt,u,i,l,r⟩)|⟨q,j,f⟩|⟨lt,u,i,l,r⟩)
  .exact .inl ⟨.inl q,j,f⟩
  .exact .inr ⟨by ext,u,i,l,r⟩
  .exact .inl ⟨.inr q,f,j⟩
  .exact .inr ⟨by ext,i,u,r,l⟩
 .rintro (⟨q|q,j,f⟩|⟨ne,u,i,l,r⟩)
  .exact .inl (.inl ⟨q,j,f⟩)
  .exact .inr (.inl ⟨q,f,j⟩)
  .rcases Dr ne with lt|lt
   .exact .inl (.inr ⟨lt,u,i,l,r⟩)
   .exact .inr (.inr ⟨lt,i,u,r,l⟩)
def nW(f:VN):VP:=bu (SetT.k_ ((bg f).map o_))
def Gb(g:Rg n rs):jI.p [.lst (rs.map .int)] s=.ok (.tup ((nW rs).map kD)) s:=by
 have F:=g.len
 have q:=kJ (ws:=[]) (ws':=[]) (env:=[J (.lst (rs.map .int))]) (s:=s) (fm:=[0]) (i:=bL iE (aa (ac 0) a_)) (t:=ix) (e:=aI (aa (ae jj (ac 2) (ae bO (ac 0) (xC (.int 1)))) (aa (ac 1) a_))) (ds:=fQ (rs.map .int)) (λ_=>I) (λx=>match x with|.tup [.int k,.int v]=>kD [rs.getD (if k=0 then rs.length-1 else (k-1).toNat) 0,v]|_=>.non) (by simp) (by rw[kW];simp;ext) (λx l=>by
  obtain⟨j,f⟩:=Bs.mp l;obtain⟨y,C,rfl⟩:=qV f;obtain⟨rfl,u⟩:=mW C;refine⟨_,_,rfl,rfl,λ_=>?_⟩;have E:n5 (rs.map D.int) ((j:Int)-1)=J (.int (rs.getD (if(j:Int)=0 then rs.length-1 else((j:Int)-1).toNat) 0)):=by
   unfold n5 wk;rw[BL];by_cases z:j=0
   .subst z;rw[f_ (by decide),c_ (by ext),c_ (show((0:Nat):Int)=0 from rfl)];have e1:(((0:Nat):Int)-1+(rs.length:Int)).toNat=rs.length-1:=by ext
    rw[Eb,e1,vu,zb (by ext)];simp[List.getD,show rs.length-1<rs.length by ext]
   .rw[c_ (by ext),c_ (by ext),f_ (by ext),Eb,vu,zb (by ext)];simp[List.getD,show j-1<rs.length by ext]
  simp[E,kD])
 have B:((fQ (rs.map D.int)).filter λ_=>I).map (λx=>match x with|.tup [.int k,.int v]=>kD [rs.getD (if k=0 then rs.length-1 else(k-1).toNat) 0,v]|_=>.non)=(bg rs).map kD:=by
  rw[c6];apply Lh;intro j;unfold bg;rw[vu,wc,vu];by_cases f:j<rs.length
  .have e1:(fQ (rs.map D.int))[j]?=J (.tup [.int (j:Int),.int (rs.getD j 0)]):=by
    unfold fQ;simp[List.getD,f]
   rw[e1,List.getElem?_range f];simp only[Me,Function.comp_apply];congr 3;by_cases z:j=0
   .subst z;rfl
   .rw[f_ (by ext),f_ z];congr 1;ext
  .rw[Do (by rw[kW];simp;ext),Do (by simp;ext)];rfl
 rw[B]at q;have dl:(SetT.k_ ((bg rs).map o_)).length<=66:=lu (n:=n) (by have:=g.n12;ext) (dW (fX g));have r:=kh (n:=n) (d:=.lst ((bg rs).map kD)) (s:=s) rfl (fX g) (by unfold bg;simp;ext) dl;unfold jI;rw[bz (by rfl)];unfold lK;rw[show qb 1 [D.lst (rs.map .int)]=[J (.lst (rs.map .int))]from rfl,dJ,bB,aD,q];simp[r];rfl
def ly(g:Rg n l):∀k∈aP l l.length,IsT n k:=λk r=>by
 obtain⟨i,f,r⟩:=Ll.mp r;rw[w5]at f;obtain⟨b,u,rfl⟩:=ml.mp r;obtain⟨j,E,B⟩:=Ht u;rw[Dt]at E;rw[Pp]at B;have e1:l.getD i 0=l[i]:=by simp[f]
 have C:=g.bd _ (Ps f);have bb:=g.bd b (Ph u);refine⟨_,_,rfl,by rw[e1];exact C.1,by rw[e1];exact C.2,bb.1,bb.2,λz=>?_⟩;rw[e1,<-B]at z
 have:=(List.getElem?_inj (j:=i+1+j) f g.nd).mp (by rw[zb f,zb (by ext),z])
 ext
def tV(f:VN):VP:=(bu (SetT.k_ ((aP f f.length).map o_))).filter λk=>!decide (k∈nW f)
def mK(g:Rg n rs):g_ n (bu (SetT.k_ ((aP rs rs.length).map o_))):=cW (by ext) (by have:=g.n12;ext) (dW (ly g))
def Gc(g:Rg n rs):dD.p [.lst (rs.map .int)] s=.ok (.lst ((tV rs).map kD)) s:=by
 have j:=g.len;have f:=mK g;have al:=gL f.n12 f.tie f.nd;have z:=fP j rs.length;have r:=kh (d:=.lst ((aP rs rs.length).map kD)) (s:=s) rfl (ly g) (by ext) (lu (by have:=g.n12;ext) (dW (ly g)));unfold dD;rw[bz (by rfl)];unfold eV;rw[show qb 2 [D.lst (rs.map .int)]=[J (.lst (rs.map .int)),Y]from rfl,aA,bS];simp only[bB,aD,bJ,Pb,cm,Gb g,Pg,CU,CV,PU.aq]
 have q:=fk (ws:=[]) (ws':=[]) (env:=[J (.lst (rs.map .int)),J (.tup ((nW rs).map kD))]) (s:=s) (fm:=[1]) (i:=aY (ag bc (aa (ag bX (aa (ac 0) a_)) a_))) (t:=xB (ae (x4 I) (ac 0) (ac 1))) (e:=ac 0) (tN (nW rs)) (λx=>x) (by
   simp[wG j,r];rfl) (by simp;ext) (λx l=>by
   obtain⟨k,u,rfl⟩:=ml.mp l
   exact⟨by simp[iG,wK (d:=.tup ((nW rs).map kD)) rfl],λ_=>by simp⟩)
 rw[nA]at q;rw[dJ,q];rfl
def Ge(g:Rg n rs):(tV rs).length<=66:=by have f:=mK g;exact o0 (Hr _ _) (gL f.n12 f.tie f.nd)
section
variable{n:Nat}{ks:VP}{left ns:VN}{a b v e:Int}{wy:VN}{ps:VN}{s:iw}
def nZ(w:g_ n ks)(lt:a<b)(h:Td ks a b):[a,b]∈ks:=by
 rcases h with h|h
 .exact h
 .obtain⟨x,y,e,i,j,f⟩:=w.tie _ h;injection e with e1 e
  injection e with e2 _
  ext
def aO(left:VN)(v:Int)(ks:VP):VP:=(aP (qr left v ks) (qr left v ks).length).filter λk=>!decide (k∈ks)
def cg(w:g_ n ks):∀k∈aO left v ks,∃a b:Int,k=[a,b]/\0<=a/\a<b/\b<n:=λk f=>by
 obtain⟨i,j,l⟩:=dw w;exact dy i j k (p_.mp f).1
def aV(w:g_ n ks):[a,b]∈aO left v ks↔a<b/\a∈left/\b∈left/\Td ks v a/\Td ks v b/\¬Td ks a b:=by
 obtain⟨r,z,u⟩:=dw w;unfold aO;rw[p_,de r];unfold qr;rw[p_,p_,cY w,cY w];simp[DK,decide_eq_false_iff_not,decide_eq_true_eq];constructor
 .rintro⟨⟨⟨f,j⟩,⟨i,l⟩,lt⟩,no⟩;exact⟨lt,j,l,f,i,λt=>no (nZ w lt t)⟩
 .rintro⟨lt,j,l,f,i,no⟩;exact⟨⟨⟨f,j⟩,⟨i,l⟩,lt⟩,λt=>no (.inl t)⟩
def Hg(hd:d.items=J (left.map .int))(w:g_ n ks)(j:0<=v)(hv:v<n):bP.p [aj n ks,d,.int v] s=.ok (.lst ((aO left v ks).map kD)) s:=by
 obtain⟨z,B,f⟩:=dw (v:=v) (left:=left) w;have C:=fP f (qr left v ks).length;unfold bP;rw[bz (by rfl)];unfold gu;have l:qb 3 [aj n ks,d,.int v]=[J (aj n ks),J (d),J (.int v)]:=rfl
 have q:=fk (ws:=[]) (ws':=[]) (env:=[J (aj n ks),J (d),J (.int v)]) (s:=s) (fm:=[0]) (i:=aY (ag bY (aa (ac 0) (aa (ac 1) (aa (ac 2) a_))))) (t:=xB (ae (x4 I) (ac 0) (ae jj (ac 1) (xC (.int 1))))) (e:=ac 0) (ds:=(aP (qr left v ks) (qr left v ks).length).map kD) (tN ks) (λx=>x) (by simp[v8 hd w j hv]) (by simp;ext) (λx r=>by
   obtain⟨k,u,rfl⟩:=ml.mp r
   exact⟨by simp[aj,wK (d:=.tup (ks.map kD)) rfl],λ_=>by simp⟩)
 rw[nA]at q;rw[l,dJ,q];rfl
structure Dk(n:Nat)(rs:VN):Prop where
 g:Rg n rs
 l4:4<=rs.length
def fx(n:Nat)(v:Int)(ks:VP):VN:=(b_ n).filter λx=>!decide (x=v) && !decide (x∈BI v ks)
def pi(w:g_ n ks):x∈fx n v ks↔(0<=x/\x<(n:Int))/\x≠v/\¬Td ks v x:=by unfold fx;rw[p_,ah];simp[Lj,DK,decide_eq_false_iff_not,cY w]
def Iw.mem(h:Iw ks ps a wy e):(∀x∈wy,x=a\/x∈ps)/\((wy=[a]/\e=a)\/(wy=[a,e]/\Td ks a e)\/3<=wy.length):=by
 induction h with
 |one=>exact⟨λx h=>.inl (by simpa using h),.inl ⟨rfl,rfl⟩⟩
 |@more wy e p h t i _ _ f =>
  refine⟨λx j=>(nq.mp j).elim (f.1 x) λz=>.inr (by rw[CT.mp z];exact i),.inr ?_⟩;rcases f.2 with⟨e1,e2⟩|⟨e1,_⟩|l
  .subst e1 e2;exact .inl ⟨rfl,t⟩
  .subst e1;exact .inr (by simp)
  .exact .inr (by rw[xK];ext)
def Gf(w:g_ n ks)(hv:0<=v/\v<(n:Int))(l:[a,b]∈aO (b_ n) v ks)(h:Iw ks (fx n v ks++[b]) a wy b):Dk n (v::wy):=by
 obtain⟨lt,u,mb,i,tb,B⟩:=(aV w).mp l;obtain⟨j,r⟩:=h.mem;have l3:3<=wy.length:=by grind
 have bd:∀x∈wy,(0<=x/\x<(n:Int))/\x≠v:=λx f=>by
  rcases j x f with rfl|q
  .exact⟨(iC w i).2.2,λz=>(iC w i).1 z.symm⟩
  .rcases nq.mp q with q|q
   .exact⟨((pi w).mp q).1,((pi w).mp q).2.1⟩
   .rw[CT.mp q];exact⟨(iC w tb).2.2,λz=>(iC w tb).1 z.symm⟩
 exact⟨⟨B_.mpr ⟨λz=>(bd v z).2 rfl,h.nd⟩,λx f=>(lb.mp f).elim (λz=>z▸hv) λz=>(bd x z).1,by have:=w.n12;ext,by simp;ext⟩,by simp;ext⟩
def uv(v:Int)(ns:VN)(x:D):Bool:=match x with
 |.int i=>!decide (i=v) && !decide (i∈ns)
 |_=>T
def ub:∀(f:VN),(((f.map D.int).filter (uv v ns)).map λx=>x)=(f.filter λx=>!decide (x=v) && !decide (x∈ns)).map D.int
 |[]=>rfl
 |i::f=>by
  have j:=ub f;rw[qw,List.filter_cons,List.filter_cons];by_cases z:(!decide (i=v) && !decide (i∈ns))=I
  .rw[c_ z,c_ (show uv v ns (.int i)=I from z),qw,j,qw]
  .rw[f_ z,f_ (show ¬uv v ns (.int i)=I from z),j]
abbrev Tq:Xd []:=(aB (bf 7 (ag bq (aa (ac 0) (aa (ae aK (ac 4) (cU (aa (ac 6) a_))) (aa (ac 5) (aa (ac 6) a_))))))
 (ul (xB (ae (NT I) (ac 7) (xC .non))) (bo (ae aK (cU (aa (ac 2) a_)) (ac 7))) i0))
abbrev Tr:Xd []:=(aB (bf 3 (ag bp (aa (ac 0) (aa (ac 2) a_))))
 (aB (bf 4 (aG 1 [2,3] (aY (ac 1)) (ws':=[]) (i_ 0) (i7 (xB (ae BV (ac 0) (ac 1))) (xB (ae (x4 I) (ac 0) (ac 2)))) (ac 0)))
 (gf (aY (ag bP (aa (ac 0) (aa (ac 1) (aa (ac 2) a_))))) (Bn (pu (i_ 5) (pu (i_ 6) Bi)) 2) Tq)))
abbrev DW(n:Nat)(ks:VP)(v:Int)(x0 x1 x2:VD):av:=[J (aj n ks),J (.lst ((b_ n).map .int)),J (.int v),J (.lst ((BI v ks).map .int)),J (.lst ((fx n v ks).map .int)),x0,x1,x2]
abbrev Tt:=CP (Bn (pu (i_ 5) (pu (i_ 6) Bi)) 2:Xg []).p Tq.p
def OP(w:g_ n ks)(hv:0<=v/\v<(n:Int)):
  (∃z u i,Tt ((aO (b_ n) v ks).map kD) (DW n ks v z5 z6 z7) s=.nx (DW n ks v z u i) s/\∀a b,[a,b]∈aO (b_ n) v ks->¬Rc ks (fx n v ks++[b]) a b) \/
  (∃l,Tt ((aO (b_ n) v ks).map kD) (DW n ks v z5 z6 z7) s=.rt (.lst (l.map .int)) s/\Dk n l):=by
 have n12:=w.n12;have fl:(fx n v ks).length<=12:=by
  have:=Hr (λx=>!decide (x=v) && !decide (x∈BI v ks)) (b_ n)
  unfold fx;simp[b_]at this ⊢;ext
 have r:=nk (g:=(Bn (pu (i_ 5) (pu (i_ 6) Bi)) 2:Xg []).p) (b:=Tq.p)
  (λj env f=>∃z u i,env=(DW n ks v z u i)/\f=s/\∀a b,[a,b]∈(aO (b_ n) v ks).take j->¬Rc ks (fx n v ks++[b]) a b) (λr f=>∃l,r=.lst (l.map .int)/\f=s/\Dk n l)
  ((aO (b_ n) v ks).map kD) 0 (DW n ks v z5 z6 z7) s ⟨z5,z6,z7,rfl,rfl,by simp⟩ (λj env f d ⟨z,u,i,Q,X,E⟩ hd=>by
   rw[vw]at E ⊢;subst Q X;rw[vu,yJ]at hd;obtain⟨k,H,rfl⟩:=hd;have mk:=Df H;obtain⟨a,b,rfl,R,lt,bn⟩:=cg w k mk;refine⟨(DW n ks v (J (.int a)) (J (.int b)) i),by simp[kD],?_⟩;have U:aK.p (.lst ((fx n v ks).map .int)) (.lst [.int b])=J (.lst ((fx n v ks++[b]).map .int)):=by rw[fA (by simp;ext)];simp
   have Z:(aO (b_ n) v ks).take (j+1)=(aO (b_ n) v ks).take j++[[a,b]]:=by rw[Mh,H];rfl
   have O:∀{r:D},bq.p [aj n ks,.lst ((fx n v ks++[b]).map .int),.int a,.int b] f=.ok r f->(bf 7 (ag bq (aa (ac 0) (aa (ae aK (ac 4) (cU (aa (ac 6) a_))) (aa (ac 5) (aa (ac 6) a_))))):Xd []).p (DW n ks v (J (.int a)) (J (.int b)) i) f=.nx (DW n ks v (J (.int a)) (J (.int b)) (J r)) f:=λ{r} C=>by
    simp![bS,bB,aD,b7,ut,cm,DN,Ln,show(0+1:Nat)<=100000 by decide,if_true,U,Pf,C,Pg,CU,CV]
   rcases F_ w ⟨R,show a<(n:Int) by ext⟩with⟨wy,C,S⟩|⟨C,W⟩
   .right;have B:=Gf w hv mk S;have bl:=B.g.len;refine⟨.lst ((v::wy).map .int),f,?_,v::wy,rfl,rfl,B⟩;have P:aK.p (.lst [.int v]) (.lst (wy.map .int))=J (.lst ((v::wy).map .int)):=by
     rw[fA (by simp at bl ⊢;ext)];simp
    rw[aA,O C,PU.aq,eW];simp[show(NT I).p (.lst (wy.map .int)) .non=J (.bl I)from rfl,show(0+1:Nat)<=100000 by decide,P]
   .left;refine⟨(DW n ks v (J (.int a)) (J (.int b)) (J .non)),f,?_,_,_,_,rfl,rfl,λL G h=>?_⟩
    .rw[aA,O C,PU.aq,eW];simp[show(NT I).p .non .non=J (.bl T)from rfl]
    .rw[Z]at h;rcases nq.mp h with h|h
     .exact E L G h
     .have:L=a/\G=b:=by simpa using h
      rw[this.1,this.2];exact W)
 rcases r with⟨F,f,e,z,u,i,rfl,rfl,E⟩|⟨r,f,e,l,rfl,rfl,B⟩
 .rw[BL,vw,Pr]at E;exact .inl ⟨z,u,i,e,E⟩
 .exact .inr ⟨l,e,B⟩
def vx(w:g_ n ks):(∃l,di.p [aj n ks] s=.ok (.lst (l.map .int)) s/\Dk n l)\/(di.p [aj n ks] s=.ok .non s/\∀v∈b_ n,∀a b,[a,b]∈aO (b_ n) v ks->¬Rc ks (fx n v ks++[b]) a b):=by
 have n12:=w.n12;have r:=nk (g:=(i_ 2:Xg []).p) (b:=Tr.p)
  (λj env f=>∃O G F E u C,env=[J (aj n ks),J (.lst ((b_ n).map .int)),O,G,F,E,u,C]/\f=s/\∀v∈(b_ n).take j,∀a b,[a,b]∈aO (b_ n) v ks->¬Rc ks (fx n v ks++[b]) a b) (λr f=>∃l,r=.lst (l.map .int)/\f=s/\Dk n l)
  ((b_ n).map .int) 0 [J (aj n ks),J (.lst ((b_ n).map .int)),Y,Y,Y,Y,Y,Y] s ⟨_,_,_,_,_,_,rfl,rfl,by simp⟩ (λj env f d ⟨O,G,F,E,u,C,S,Z,L⟩ hd=>by
   rw[vw]at L ⊢;subst S Z;rw[vu,yJ]at hd;obtain⟨v,Q,rfl⟩:=hd;have hv:=ah.mp (Df Q);have et:(b_ n).take (j+1)=(b_ n).take j++[v]:=by rw[Mh,Q];rfl
   refine⟨[J (aj n ks),J (.lst ((b_ n).map .int)),J (.int v),G,F,E,u,C],rfl,?_⟩
   have q:=fk (ws:=[]) (ws':=[]) (env:=[J (aj n ks),J (.lst ((b_ n).map .int)),J (.int v),J (.lst ((BI v ks).map .int)),F,E,u,C]) (s:=f) (fm:=[2,3]) (i:=aY (ac 1)) (t:=i7 (xB (ae BV (ac 0) (ac 1))) (xB (ae (x4 I) (ac 0) (ac 2)))) (e:=ac 0) (ds:=(b_ n).map .int) (uv v (BI v ks)) (λx=>x) (by simp) (by simp[b_];omega) (λx U=>by
    obtain⟨i,hi,rfl⟩:=ml.mp U;refine⟨?_,λ_=>by simp⟩;have X:=jC (neg:=I) (x:=i) (d:=.lst ((BI v ks).map .int)) rfl
    by_cases z:i=v<;>simp[z,X,uv])
   rw[ub]at q;have pre:Tr.p [J (aj n ks),J (.lst ((b_ n).map .int)),J (.int v),G,F,E,u,C] f=Tt ((aO (b_ n) v ks).map kD) (DW n ks v E u C) f:=by rw[aA,bS];simp![bB,aD,cm,yL w hv.1 hv.2,Pg,CU,CV,PU.aq];rw[aA,bS,q];simp only[Pg,CU,CV,PU.aq];rw[lc];simp[Hg (d:=.lst ((b_ n).map .int)) rfl w hv.1 hv.2];rfl
   rw[pre];rcases OP w hv with⟨x5,x6,x7,e,no⟩|⟨l,e,B⟩
   .refine .inl ⟨_,f,e,_,_,_,_,_,_,rfl,rfl,λR H=>?_⟩;rw[et]at H;rcases nq.mp H with h|h
    .exact L R h
    .have:R=v:=by simpa using h
     rw[this];exact no
   .exact .inr ⟨_,f,e,l,rfl,rfl,B⟩)
 have pre:di.p [aj n ks] s=((CP (i_ 2:Xg []).p Tr.p ((b_ n).map .int) [J (aj n ks),J (.lst ((b_ n).map .int)),Y,Y,Y,Y,Y,Y] s).then (bo (xC .non):Xd []).p).fin:=by unfold di;rw[bz (by rfl)];unfold gD;rw[show qb 8 [aj n ks]=[J (aj n ks),Y,Y,Y,Y,Y,Y,Y]from rfl];have W:jj.p (aj n ks) (.int 0)=J (.int (n:Int)):=rfl;rw[aA,bS];simp[W];rw[G_ (by omega),yT,rq];simp
 rw[pre];rcases r with⟨P,f,e,O,G,F,E,u,C,rfl,rfl,L⟩|⟨r,f,e,l,rfl,rfl,B⟩
 .rw[BL,vw,Pr]at L;exact .inr ⟨by rw[e];rfl,L⟩
 .exact .inl ⟨l,by rw[e];rfl,B⟩
end
def Rc.on(h:Rc ks ps a t)(sub:∀x∈f,x∈ps)(r:Rc ks f t y):Rc ks ps a y:=by
 induction r with
 |base=>exact h
 |step _ t py i=>exact .step i t (sub _ py)
structure Gd'(ks:VP)(ls T:VN):Prop where
 sub:∀t∈T,t∈ls
 nd:T.Nodup
 ne:T≠[]
 con:∀x∈T,∀y∈T,Rc ks T x y
 ex:∃r∈ls,r∉T/\∀t∈T,¬Td ks t r
def yO:∀(k:Nat)(f:VN),Gd' ks ls f->ls.length-f.length<=k->∃f,Gd' ks ls f/\∀i,Gd' ks ls i->i.length<=f.length
 |0,f,g,h=>⟨f,g,λi j=>by
  have:=List.Nodup.length_le_of_subset j.nd λx l=>j.sub x l
  omega⟩
 |k+1,f,g,h=>by
  by_cases z:∃i,Gd' ks ls i/\f.length<i.length
  .obtain⟨i,j,lt⟩:=z;exact yO k i j (by omega)
  .exact⟨f,g,λi j=>Nat.le_of_not_lt λq=>z ⟨i,j,q⟩⟩
open Classical in
theorem Hh{n:Nat}{j:VP}(w:g_ n j)(nb:∀v∈b_ n,∀a b,[a,b]∈aO (b_ n) v j->¬Rc j (fx n v j++[b]) a b):∀(m:Nat)(l:VN),l.length<=m->l≠[]->(∀v∈l,0<=v/\v<(n:Int))->∃v∈l,∀x∈l,∀y∈l,Td j v x->Td j v y->x≠y->Td j x y
 |0,l,hm,ne,_=>absurd (DX.mp (by ext)) ne
 |m+1,l,hm,ne,hb=>by
  by_cases cq:∀x∈l,∀y∈l,x≠y->Td j x y
  .obtain⟨v,hv⟩:=TU l ne;exact⟨v,hv,λx i y C _ _=>cq x i y C⟩
  .obtain⟨u,hu,z,hz,uz,nt⟩:∃u∈l,∃z∈l,u≠z/\¬Td j u z:=Classical.byContradiction λq=>cq λx i y C e=>Classical.byContradiction λt=>q ⟨x,i,y,C,e,t⟩;have one:∀{t:Int},t∈[u]->t=u:=λh=>by simpa using h
   obtain⟨f,g,mx⟩:=yO (ks:=j) (ls:=l) l.length [u] ⟨λt h=>by rw[one h];exact hu,by simp,by simp,λx i y C=>by rw[one i,one C];exact .base,z,hz,by simpa using uz.symm,λt h=>by rw[one h];exact nt⟩ (by ext);have A:∀s∈l,s∉f->(∃t∈f,Td j t s)->∀r∈l,r∉f->(∀t∈f,¬Td j t r)->Td j s r:=λs hs sT ⟨t,E,S⟩ r Q X O=>by
    refine Classical.byContradiction λno=>?_;have up:∀x∈f,x∈s::f:=λx i=>m_ _ i;have ms:s∈s::f:=t3;have fr:∀x∈f,Rc j (s::f) s x:=λx i=>Rc.on (.step .base S.symm (up t E)) up (g.con t E x i);have to:∀x∈f,Rc j (s::f) x s:=λx i=>.step (Rc.on .base up (g.con x i t E)) S ms
    have:=mx (s::f) ⟨λx i=>by
      rcases lb.mp i with rfl|i
      .exact hs
      .exact g.sub x i,B_.mpr ⟨sT,g.nd⟩,by simp,λx i y C=>by
      rcases lb.mp i with h1|h1<;>rcases lb.mp C with P|P
      .rw[h1,P];exact .base
      .rw[h1];exact fr y P
      .rw[P];exact to x h1
      .exact Rc.on .base up (g.con x h1 y P),r,Q,λq=>by
      rcases lb.mp q with h|h
      .subst h;exact O t E S
      .exact X h,λx i q=>by
      rcases lb.mp i with h|h
      .subst h;exact no q
      .exact O x h q⟩
    rw[DN]at this;ext
   have B:∀s∈l,s∉f->(∃t∈f,Td j t s)->∀F∈l,F∉f->(∃t∈f,Td j t F)->s<F->Td j s F:=λs hs sT W F Z ay L lt=>by
    refine Classical.byContradiction λno=>?_;obtain⟨r,Q,X,O⟩:=g.ex;have t1:=A s hs sT W r Q X O;have t2:=A F Z ay L r Q X O;obtain⟨t,E,S⟩:=W;obtain⟨t',ab,ap⟩:=L;have U:∀x∈f,x∈fx n r j++[F]:=λx i=>s_ _ ((pi w).mpr ⟨hb x (g.sub x i),λq=>X (q▸i),λq=>O x i q.symm⟩);exact nb r (ah.mpr (hb r Q)) s F ((aV w).mpr ⟨lt,ah.mpr (hb s hs),ah.mpr (hb F Z),t1.symm,t2.symm,no⟩) (.step (Rc.on (.step .base S.symm (U t E)) U (g.con t E t' ab)) ap (by simp))
   have inR:∀x,x∈(l.filter λx=>decide (x∉f/\∀t∈f,¬Td j t x))↔x∈l/\x∉f/\∀t∈f,¬Td j t x:=λx=>by
    rw[p_];exact and_congr_right λ_=>by rw[decide_eq_true_eq]
   obtain⟨r0,ax,as,an⟩:=g.ex
   obtain⟨v,hv,fv⟩:=Hh w nb m (l.filter λx=>decide (x∉f/\∀t∈f,¬Td j t x)) (by
    obtain⟨t,E⟩:=TU f g.ne;refine GH (pq ?_ hm);refine Nat.lt_of_le_of_ne (Hr _ _) λe=>?_
    have:=List.length_filter_eq_length_iff.mp e t (g.sub t E)
    rw[decide_eq_true_eq]at this
    exact this.1 E) (List.ne_nil_of_mem ((inR r0).mpr ⟨ax,as,an⟩)) (λv hv=>hb v ((inR v).mp hv).1)
   obtain⟨vl,vT,nv⟩:=(inR v).mp hv;refine⟨v,vl,λx i y C tx ty ne=>?_⟩
   have cs:∀x∈l,Td j v x->x∉f/\((∃t∈f,Td j t x)\/∀t∈f,¬Td j t x):=λx i t=>⟨λq=>nv x q t.symm,by
    by_cases q:∃t∈f,Td j t x
    .exact .inl q
    .exact .inr λt E h=>q ⟨t,E,h⟩⟩
   obtain⟨xT,G⟩:=cs x i tx;obtain⟨R,H⟩:=cs y C ty;rcases G with G|G<;>rcases H with H|H
   .rcases Dr ne with lt|lt
    .exact B x i xT G y C R H lt
    .exact (B y C R H x i xT G lt).symm
   .exact A x i xT G y C R H
   .exact (A y C R H x i xT G).symm
   .exact fv x ((inR x).mpr ⟨i,xT,G⟩) y ((inR y).mpr ⟨C,R,H⟩) tx ty ne
def aH(f:VP):VN->Nat
 |[]=>0
 |v::r=>(aO (v::r) v f).length+aH (cQ (v::r) v f) r
section
variable{n:Nat}{ks ks':VP}{left l l' qs:VN}{v a b:Int}
def zP(h:∀x,x∈l↔x∈l'):qr l v ks=qr l' v ks:=List.filter_congr λx _=>decide_eq_decide.mpr (h x)
def Gg(h:∀x,x∈l↔x∈l'):aO l v ks=aO l' v ks:=by unfold aO;rw[zP h]
def vH(h:∀x,x∈l↔x∈l'):cQ l v ks=cQ l' v ks:=by unfold cQ;rw[zP h]
def wC:k∈cQ left v ks↔k∈CH v ks\/k∈aP (qr left v ks) (qr left v ks).length:=by unfold cQ;rw[(bZ _).mem_iff,SetT.eB,nq]
def q0(f:ns.Pairwise (·<·)):(aP ns ns.length).Nodup:=by
 unfold aP List.Nodup;rw[List.pairwise_flatMap];refine⟨λi _=>DL.mpr ((f.sublist (List.drop_sublist _ _)).imp λh e=>?_),QN.imp_of_mem λ{i j} u r lt x z y B e=>?_⟩
 .injection e with _ e
  injection e with e _
  ext
 .rw[w5]at u r
  have:=GD.mp f i j u r lt
  grind
def pQ(w:g_ n ks):(cQ left v ks).length=(CH v ks).length+(aO left v ks).length:=by
 obtain⟨i,C,F⟩:=dw w;have d:∀k∈aP (qr left v ks) (qr left v ks).length,v∉k:=λk j hv=>by
  obtain⟨a,b,rfl,_⟩:=dy i C k j;obtain⟨r,B,_⟩:=(de i).mp j;have na:∀x,x∈qr left v ks->v≠x:=λx f=>(iC w ((cY w).mp (p_.mp f).1)).1;simp only[lb,DM,or_false]at hv;exact hv.elim (na a r) (na b B)
 rw[<-xK];have E:(aO left v ks).Nodup:=by exact(q0 i).filter _
 have nd:(CH v ks++aO left v ks).Nodup:=by rw[CJ];refine⟨w.nd.filter _,E,λx f y u e=>?_⟩;subst e;have h:=(p_.mp u).2;rw[decide_eq_true (p_.mp f).1]at h;cases h
 refine((GC (bW w).nd nd).mpr λk=>?_).length_eq;rw[wC,nq];refine⟨λh=>h.elim .inl λq=>?_,λh=>h.elim .inl λq=>.inr (p_.mp q).1⟩;by_cases z:k∈ks
 .exact .inl (p_.mpr ⟨z,by simp[d k q]⟩)
 .exact .inr (p_.mpr ⟨q,by simp[z]⟩)
def jq:∀(qs:VN){ks ks':VP},g_ n ks->g_ n ks'->(∀k∈ks,k∈ks')->aH ks qs+ks.length<=aH ks' qs+ks'.length
 |[],ks,ks',w,f,h=>by
  have:=List.Nodup.length_le_of_subset w.nd h
  simp only[aH];ext
 |v::r,ks,ks',w,f,h=>by
  have G:∀{a b:Int},Td ks a b->Td ks' a b:=λt=>t.imp (h _) (h _);have j:=jq r (bW w) (bW f) λk i=>by
   rw[wC]at i ⊢;refine i.imp (λq=>p_.mpr ⟨h k (p_.mp q).1,(p_.mp q).2⟩) λq=>?_;obtain⟨B,L,Q⟩:=dw w;obtain⟨a,b,rfl,_⟩:=dy B L k q;obtain⟨F,H,lt⟩:=(de B).mp q;have E:∀x,x∈qr (v::r) v ks->x∈qr (v::r) v ks':=λx u=>p_.mpr ⟨(cY f).mpr (G ((cY w).mp (p_.mp u).1)),(p_.mp u).2⟩;exact(de (dw f).1).mpr ⟨E a F,E b H,lt⟩
  have O:=pQ (left:=v::r) (v:=v) w;have S:=pQ (left:=v::r) (v:=v) f;have C:∀{ks:VP},(CH v ks).length+(ks.filter λk=>decide (v∈k)).length=ks.length:=λ{ks}=>by
   induction ks with
   |nil=>rfl
   |cons k ks j =>
    unfold CH at j ⊢;by_cases z:v∈k<;>simp[z]at j ⊢<;>ext
  have U:=C (ks:=ks);have P:=C (ks:=ks');have R:(ks.filter λk=>decide (v∈k)).length<=(ks'.filter λk=>decide (v∈k)).length:=List.Nodup.length_le_of_subset (w.nd.filter _) λk i=>p_.mpr ⟨h k (p_.mp i).1,(p_.mp i).2⟩;simp only[aH];ext
def rn(L:g_ n ks)(fr:∀f:VN,f≠[]->(∀v∈f,0<=v/\v<(n:Int))->∃v∈f,∀x∈f,∀y∈f,Td ks v x->Td ks v y->x≠y->Td ks x y):
  ∀(m:Nat)(f:VN)(ks':VP),f.length=m->(∀v∈f,0<=v/\v<(n:Int))->f.Nodup->g_ n ks'->(∀x∈f,∀y∈f,Td ks' x y->Td ks x y)->(∀x∈f,∀y∈f,Td ks x y->Td ks' x y)->∃qs,qs.Perm f/\aH ks' qs=0
 |0,f,ks',r,_,_,_,_,_=>⟨[],by rw[DX.mp r],rfl⟩
 |m+1,f,ks',r,E,nd,w,u,Q=>by
  obtain⟨v,hv,H⟩:=fr f (λz=>by rw[z]at r;cases r) E;have O:=QP hv;have sub:∀x∈f.erase v,x∈f:=λx i=>T7 i;have C:∀x∈f.erase v,x≠v:=λx i z=>by rw[z]at i;exact(List.Nodup.not_mem_erase nd) i
  obtain⟨qs,S,P⟩:=rn L fr m (f.erase v) (cQ f v ks') (by rw[QL hv];ext) (λx i=>E x (sub x i)) (nd.erase v) (bW w) (λx i y j t=>by
    rcases(cD w).mp t with⟨t,_⟩|⟨ne,B,F,R,ty⟩
    .exact u x (sub x i) y (sub y j) t
    .exact H x B y F (u v hv x B R) (u v hv y F ty) ne) λx i y j t=>(cD w).mpr (.inl ⟨Q x (sub x i) y (sub y j) t,C x i,C y j⟩)
  have pm:=(S.cons v).trans O.symm;refine⟨v::qs,pm,?_⟩;have e1:aO (v::qs) v ks'=[]:=O8.mpr λk G=>by
   obtain⟨a,b,rfl,_⟩:=cg w k G;obtain⟨lt,W,mb,U,tb,no⟩:=(aV w).mp G
   grind
  rw[aH,e1,vH (λx=>pm.mem_iff),P];rfl
end
inductive Wy(ks:VP)(P:Int->Prop):Int->Int->Prop where
 |tie{a b:Int}:Td ks a b->Wy ks P a b
 |thru{a b c:Int}:Wy ks P a c->P c->Wy ks P c b->Wy ks P a b
def Wy.symm(h:Wy ks P a b):Wy ks P b a:=by
 induction h with
 |tie t=>exact .tie t.symm
 |thru _ p _ i j=>exact .thru j p i
def Wy.mono(f:∀x,P x->Q x)(h:Wy ks P a b):Wy ks Q a b:=by
 induction h with
 |tie t=>exact .tie t
 |thru _ p _ i j=>exact .thru i (f _ p) j
def Wy.cut(u:∀x,Q x->P x\/x=v)(h:Wy ks Q a b):Wy ks P a b\/(Wy ks P a v/\Wy ks P v b):=by
 induction h with
 |tie t=>exact .inl (.tie t)
 |@thru a b c _ p _ i j =>
  rcases u _ p with p|rfl
  .rcases i with i|⟨f,z⟩<;>rcases j with j|⟨r,l⟩
   .exact .inl (.thru i p j)
   .exact .inr ⟨.thru i p r,l⟩
   .exact .inr ⟨f,.thru z p j⟩
   .exact .inr ⟨f,l⟩
  .exact .inr ⟨i.elim id (·.1),j.elim id (·.2)⟩
open Classical in
def KW(n:Nat)(f:VP)(left:VN):VP:=bu (SetT.k_ ((aP (b_ n) (b_ n).length).filter λk=>decide (∃a b:Int,k=[a,b]/\a∈left/\b∈left/\Wy f (λx=>(0<=x/\x<(n:Int))/\x∉left) a b)))
def mI(n:Nat):(b_ n).Pairwise (·<·):=by unfold b_;exact DL.mpr (QN.imp λh=>by ext)
section
variable{n:Nat}{ks ks':VP}{left qs:VN}{v a b:Int}
def wg(w:g_ n ks)(i:g_ n ks')(h:∀a b:Int,a<b->(Td ks a b↔Td ks' a b)):ks=ks':=by
 refine kg w.ris i.ris ((GC w.nd i.nd).mpr λk=>?_);constructor
 .intro f;obtain⟨a,b,rfl,_,lt,_⟩:=w.tie k f;exact nZ i lt ((h a b lt).mp (.inl f))
 .intro f;obtain⟨a,b,rfl,_,lt,_⟩:=i.tie k f;exact nZ w lt ((h a b lt).mpr (.inl f))
def oQ(w:g_ n ks):g_ n (KW n ks left):=cW (by ext) w.n12 λk f=>by
 have f:=(p_.mp f).1;exact dy (mI n) (λx i=>ah.mp i) k f
open Classical in
theorem oN(w:g_ n ks)(j:∀x∈left,0<=x/\x<(n:Int)):Td (KW n ks left) a b↔a≠b/\a∈left/\b∈left/\Wy ks (λx=>(0<=x/\x<(n:Int))/\x∉left) a b:=by
 have mem:∀a b:Int,[a,b]∈KW n ks left↔a<b/\a∈left/\b∈left/\Wy ks (λx=>(0<=x/\x<(n:Int))/\x∉left) a b:=λa b=>by
  unfold KW;rw[(bZ _).mem_iff,SetT.eB,p_,de (mI n),decide_eq_true_eq];constructor
  .simp_all
  .rintro⟨lt,i,f,h⟩;exact⟨⟨ah.mpr (j a i),ah.mpr (j b f),lt⟩,a,b,rfl,i,f,h⟩
 unfold Td;rw[mem,mem];constructor
 .rintro (⟨lt,i,f,h⟩|⟨lt,i,f,h⟩)
  .exact⟨by ext,i,f,h⟩
  .exact⟨by ext,f,i,h.symm⟩
 .rintro⟨ne,i,f,h⟩;rcases Dr ne with lt|lt
  .exact .inl ⟨lt,i,f,h⟩
  .exact .inr ⟨lt,f,i,h.symm⟩
def ph(w:g_ n ks):KW n ks (b_ n)=ks:=wg (oQ w) w λa b lt=>by
 rw[oN w λx i=>ah.mp i];constructor
 .rintro⟨_,_,_,h⟩
  have:∀a b,Wy ks (λx=>(0<=x/\x<(n:Int))/\x∉b_ n) a b->Td ks a b:=λa b h=>by
   induction h with
   |tie t=>exact t
   |thru _ p=>exact absurd (ah.mpr p.1) p.2
  exact this _ _ h
 .intro t;obtain⟨ne,f,bb⟩:=iC w t;exact⟨ne,ah.mpr f,ah.mpr bb,.tie t⟩
def aT(left:VN)(v:Int):VN:=left.filter λx=>!decide (x=v)
def dQ:x∈aT left v↔x∈left/\x≠v:=by simp[aT]
def zu(w:g_ n ks)(j:∀x∈left,0<=x/\x<(n:Int))(hv:v∈left):cQ left v (KW n ks left)=KW n ks (aT left v):=by
 have C:=oQ (left:=left) w;have B:∀x∈aT left v,0<=x/\x<(n:Int):=λx E=>j x (dQ.mp E).1;have F:∀x,(0<=x/\x<(n:Int))/\x∉aT left v->((0<=x/\x<(n:Int))/\x∉left)\/x=v:=λx h=>by
  by_cases z:x=v
  .exact .inr z
  .exact .inl ⟨h.1,λq=>h.2 (dQ.mpr ⟨q,z⟩)⟩
 have r:∀x,(0<=x/\x<(n:Int))/\x∉left->(0<=x/\x<(n:Int))/\x∉aT left v:=λx h=>⟨h.1,λq=>h.2 (dQ.mp q).1⟩;refine wg (bW C) (oQ w) λa b lt=>?_;rw[cD C,oN w j,oN w j,oN w j,oN w B,dQ,dQ];constructor
 .rintro (⟨⟨ne,f,i,h⟩,na,nb⟩|⟨ne,f,i,⟨na,_,_,l⟩,nb,_,_,u⟩)
  .exact⟨ne,⟨f,na⟩,⟨i,nb⟩,h.mono r⟩
  .exact⟨ne,⟨f,na.symm⟩,⟨i,nb.symm⟩,.thru (l.mono r).symm ⟨j v hv,λq=>(dQ.mp q).2 rfl⟩ (u.mono r)⟩
 .rintro⟨ne,⟨f,na⟩,⟨i,nb⟩,h⟩;rcases h.cut F with h|⟨l,u⟩
  .exact .inl ⟨⟨ne,f,i,h⟩,na,nb⟩
  .exact .inr ⟨ne,f,i,⟨na.symm,hv,f,l.symm⟩,nb.symm,hv,i,u⟩
def KP(n:Nat)(ks:VP):Nat->VN->Int×VN
 |0,_=>(0,[])
 |m+1,left=>(left.map λv=>(((aO left v (KW n ks left)).length:Int)+(KP n ks m (aT left v)).1,v::(KP n ks m (aT left v)).2)).getD (argBest (c7 (left.map λv=>(((aO left v (KW n ks left)).length:Int)+(KP n ks m (aT left v)).1,v::(KP n ks m (aT left v)).2))) (left.length-1)) (0,[])
def Wt(n:Nat)(ks:VP)(left:VN):Int×VN:=KP n ks left.length left
def dO(n:Nat)(ks:VP)(left:VN)(v:Int):Int×VN:=(((aO left v (KW n ks left)).length:Int)+(Wt n ks (aT left v)).1,v::(Wt n ks (aT left v)).2)
def qe(nd:left.Nodup):aT left v=left.erase v:=by rw[nd.erase_eq_filter];exact List.filter_congr λx _=>by by_cases z:x=v<;>simp[z]
def nN(nd:left.Nodup)(hv:v∈left):(aT left v).length+1=left.length:=by
 have:=List.length_pos_of_mem hv
 rw[qe nd,QL hv];ext
def Hi(nd:left.Nodup):Wt n ks left=(left.map (dO n ks left)).getD (argBest (c7 (left.map (dO n ks left))) (left.length-1)) (0,[]):=by
 cases left with
 |nil=>rfl
 |cons c r =>
  have e:(c::r).map (dO n ks (c::r))=(c::r).map λv=>(((aO (c::r) v (KW n ks (c::r))).length:Int)+(KP n ks r.length (aT (c::r) v)).1,v::(KP n ks r.length (aT (c::r) v)).2):=Dp λv hv=>by
   have:=nN nd hv
   rw[DN]at this;have l:(aT (c::r) v).length=r.length:=by ext
   unfold dO Wt;rw[l]
  rw[e];rfl
def OQ(h:c7 rows i j=I):(rows.getD i (0,[])).1<=(rows.getD j (0,[])).1:=by
 unfold c7 oV at h
 split at h
 .ext
 .have:=of_decide_eq_true h;ext
def OR(h:¬c7 rows i j=I):(rows.getD j (0,[])).1<=(rows.getD i (0,[])).1:=by
 unfold c7 oV at h
 split at h
 .omega
 .rw[decide_eq_true_eq]at h;omega
def wp{rows:List (Int×VN)}:∀m,∀j≤m,(rows.getD (argBest (c7 rows) m) (0,[])).1<=(rows.getD j (0,[])).1
 |0,j,h=>by rw[Nat.le_zero.mp h];exact Int.le_refl _
 |m+1,j,h=>by
  have f:=wp (rows:=rows) m;rw[argBest];by_cases z:c7 rows (m+1) (argBest (c7 rows) m)=I
  .rw[c_ z];by_cases q:j=m+1
   .rw[q];exact Int.le_refl _
   .exact Int.le_trans (OQ z) (f j (by ext))
  .rw[f_ z];by_cases q:j=m+1
   .rw[q];exact OR z
   .exact f j (by ext)
def oH(w:g_ n ks):∀(m:Nat)(left:VN),left.length=m->left.Nodup->(∀x∈left,0<=x/\x<(n:Int))->(Wt n ks left).2.Perm left/\(aH (KW n ks left) (Wt n ks left).2:Int)=(Wt n ks left).1/\∀qs:VN,qs.Perm left->(Wt n ks left).1<=aH (KW n ks left) qs
 |0,left,E,_,_=>by
  have e:=DX.mp E;subst e;exact⟨.nil,rfl,λqs h=>by rw[List.Perm.eq_nil h];exact Int.le_refl _⟩
 |m+1,left,E,nd,C=>by
  have st:∀v∈left,∀r:VN,r.Perm (aT left v)->(v::r).Perm left/\aH (KW n ks left) (v::r)=(aO left v (KW n ks left)).length+aH (KW n ks (aT left v)) r:=λv hv r i=>by
   have pm:=((qe nd▸i).cons v).trans (QP hv).symm;refine⟨pm,?_⟩;rw[aH,Gg λx=>pm.mem_iff,vH λx=>pm.mem_iff,zu w C hv]
  have B:∀v∈left,_:=λv hv=>oH w m (aT left v) (by have:=nN nd hv;ext) (nd.filter _) λx L=>C x (dQ.mp L).1;rw[Hi nd];have F:argBest (c7 (left.map (dO n ks left))) (left.length-1)<left.length:=Lg (jW _ _) (by ext);have G:=wp (rows:=left.map (dO n ks left)) (left.length-1);have gd:∀j,j<left.length->(left.map (dO n ks left)).getD j (0,[])=dO n ks left (left.getD j 0):=λj f=>by simp[f]
  have mg:∀j,j<left.length->left.getD j 0∈left:=λj f=>by simp[f]
  rw[gd _ F]at G ⊢;have hv:=mg _ F;obtain⟨O,P,S⟩:=B _ hv;obtain⟨R,Q⟩:=st _ hv _ O;refine⟨R,?_,λqs z=>?_⟩
  .show (aH (KW n ks left) (_::_):Int)=_+_;rw[Q,<-P];rfl
  .cases qs with
   |nil=>have:=z.length_eq;rw[Ln]at this;ext
   |cons u r =>
    have l:=z.mem_iff.mp t3;obtain⟨j,f,H⟩:=Ht l
    have:=G j (by ext)
    rw[gd j f,show left.getD j 0=u by simp[f,H]]at this;have i:r.Perm (aT left u):=by rw[qe nd];exact(List.perm_cons u).mp (z.trans (QP l))
    rw[(st u l r i).2]
    have:=(B u l).2.2 r i
    refine Int.le_trans ‹_› ?_;show _+_<=_;ext
end
def rG(p:Int->Bool)(q:D->Bool):∀(ns:VN),(∀i∈ns,q (.int i)=p i)->(((ns.map D.int).filter q).map λx=>x)=(ns.filter p).map .int
 |[],_=>rfl
 |i::ns,h=>by
  have j:=rG p q ns λi f=>h i (m_ _ f);rw[qw]
  grind
def Vb(p:Int->Bool):D->Bool
 |.int i=>p i
 |_=>T
def gM{n:Nat}:∀(i:VN)(f:VP),g_ n f->i.Nodup->(∀x∈i,∀y∈i,x≠y->Td f x y)->aH f i=0
 |[],_,_,_,_=>rfl
 |v::r,f,w,nd,h=>by
  have e1:aO (v::r) v f=[]:=O8.mpr λk B=>by
   obtain⟨a,b,rfl,_⟩:=cg w k B;obtain⟨lt,E,mb,_,_,no⟩:=(aV w).mp B;exact no (h a E b mb (by omega))
  obtain⟨u,C⟩:=B_.mp nd;rw[aH,e1,Ln,vw];exact gM r _ (bW w) C λx j y l ne=>(cD w).mpr (.inl ⟨h x (m_ _ j) y (m_ _ l) ne,λz=>u (z▸j),λz=>u (z▸l)⟩)
def pg(n:Nat):VP:=bu (SetT.k_ (aP (b_ n) (b_ n).length))
def nT:[a,b]∈pg n↔a∈b_ n/\b∈b_ n/\a<b:=by unfold pg;rw[(bZ _).mem_iff,SetT.eB,de (mI n)]
def A1{n:Nat}(j:n<=12):g_ n (pg n):=cW (by ext) (by ext) λk f=>dy (mI n) (λx i=>ah.mp i) k f
def Cv{n:Nat}{f:VP}(w:g_ n f):∀k∈f,k∈pg n:=λk j=>by
 obtain⟨a,b,rfl,i,lt,l⟩:=w.tie k j;exact nT.mpr ⟨ah.mpr ⟨i,by ext⟩,ah.mpr ⟨by ext,l⟩,lt⟩
def Gh(f:a∈b_ n)(i:b∈b_ n)(ne:a≠b):Td (pg n) a b:=by
 rcases Dr ne with lt|lt
 .exact .inl (nT.mpr ⟨f,i,lt⟩)
 .exact .inr (nT.mpr ⟨i,f,lt⟩)
def Gi{n:Nat}{i:VP}{f:VN}(w:g_ n i)(o:Ord n f):aH i f<=66:=by have wf:=A1 o.n12;have j:=jq f w wf (Cv w);rw[gM f _ wf (o.pm.symm.nodup (br n)) λx l y r ne=>Gh (o.pm.mem_iff.mp l) (o.pm.mem_iff.mp r) ne]at j;have u:=gL wf.n12 wf.tie wf.nd;ext
section
variable{n:Nat}{ks:VP}{s:iw}
def kq(ks:VP)(p:VN):VP:=bu (SetT.k_ (ks++[p]))
def wR:k∈kq ks p↔k∈ks\/k=p:=by unfold kq;rw[(bZ _).mem_iff,SetT.eB,nq,CT]
def xl(w:g_ n ks)(i:∃a b:Int,p=[a,b]/\0<=a/\a<b/\b<(n:Int)):∀k∈ks++[p],∃a b:Int,k=[a,b]/\0<=a/\a<b/\b<(n:Int):=λk f=>by
 rcases nq.mp f with h|h
 .exact w.tie k h
 .rw[CT.mp h];exact i
def wT(w:g_ n ks)(f:∃a b:Int,p=[a,b]/\0<=a/\a<b/\b<(n:Int)):g_ n (kq ks p):=cW w.n0 w.n12 (xl w f)
def Gj(w:g_ n ks):(kq ks p).length<=ks.length+1:=by
 have:=List.Nodup.length_le_of_subset (l₁:=kq ks p) (l₂:=p::ks) ((bZ _).symm.nodup (jd _)) λk f=>(wR.mp f).elim (λh=>m_ _ h) λh=>h▸t3
 simpa using this
def Cq(w:g_ n ks)(j:∃a b:Int,p=[a,b]/\0<=a/\a<b/\b<(n:Int))(f:VN):aH ks f<=aH (kq ks p) f+1:=by have l:=jq f w (wT w j) λk i=>wR.mpr (.inl i);have r:=Gj (p:=p) w;ext
def KQ(w:g_ n ks)(i:∃a b:Int,p=[a,b]/\0<=a/\a<b/\b<(n:Int)):dN.p [aj n ks,kD p] s=.ok (aj n (kq ks p)) s:=by have u:=gL w.n12 w.tie w.nd;have f:=xl w i;have r:=kh (d:=.lst ((ks++[p]).map kD)) (s:=s) rfl (Ad f) (by simp;ext) (by rw[og f];exact lu w.n12 f);rw[og f,Hx]at r;rw[tO (by rfl)];unfold eR;rw[show qb 2 [aj n ks,kD p]=[J (aj n ks),J (kD p)]from rfl];have j:jj.p (aj n ks) (.int 0)=J (.int (n:Int)):=rfl;have l:jj.p (aj n ks) (.int 1)=J (.tup (ks.map kD)):=rfl;simp[j,l,show(0+1:Nat)<=100000 by decide];rw[FX (by simp;ext)];simp;rw[fA (by simp;ext)];simp;rw[show([kD p]:VR)=[p].map kD from rfl,r];rfl
def xH(w:g_ n ks)(h:∀f,Ord n f->0<aH ks f):∃i,di.p [aj n ks] s=.ok (.lst (i.map .int)) s/\Dk n i:=by
 rcases vx w with r|⟨_,no⟩
 .exact r
 .have n12:=w.n12;obtain⟨f,pm,u⟩:=rn w (λj ne l=>Hh w no j.length j (ii _) ne l) n (b_ n) ks (by simp[b_]) (λv hv=>ah.mp hv) (br n) w (λ_ _ _ _ h=>h) λ_ _ _ _ h=>h
  have:=h f ⟨by ext,pm⟩
  ext
open Classical in
theorem vU:∀(N:Nat)(k:Int)(ks:VP),g_ n ks->k<N->0<N->(0<=k->∀j,Ord n j->k<(aH ks j:Int))->∃d,(aX N).p [aj n ks,.int k] s=.ok d s
 |N+1,k,ks,w,L,_,h=>by
  rw[ng (by rfl)];unfold c5;rw[show qb 4 [aj n ks,D.int k]=[J (aj n ks),J (.int k),Y,Y]from rfl,aA,eW];have E:(xB (ae CQ (ac 1) (xC (.int 0))):Xt []).p [J (aj n ks),J (.int k),Y,Y] s=.ok (decide (k<0)) s:=by simp
  rw[E,Pg];by_cases z:k<0
  .exact⟨.non,by rw[c_ (by simpa using z)];simp⟩
  .rw[f_ (by simpa using z),mD,PU.aq];obtain⟨f,u,B⟩:=xH (s:=s) w λj o=>by have:=h (by ext) j o;ext
   have H:=B.l4;rw[aA,bS];simp only[bB,aD,bJ,Pb,cm,u,Pg,CU,CV,PU.aq];rw[aA,eW];have F:(xB (ae FQ (ae bO (qo lg (aa (ac 2) a_)) (xC (.int 3))) (ac 1)):Xt []).p [J (aj n ks),J (.int k),J (.lst (f.map .int)),Y] s=.ok (decide (k<(f.length:Int)-3)) s:=by simp
   rw[F,Pg];by_cases y:k<(f.length:Int)-3
   .exact⟨.tup [.str "need",.lst (f.map .int)],by rw[c_ (by simpa using y)];simp⟩
   .rw[f_ (by simpa using y),mD,PU.aq];have al:=Ge B.g;have C:∀p∈tV f,∃d,(aX N).p [aj n (kq ks p),.int (k-1)] s=.ok d s:=λp l=>by
     have l:=(mK B.g).tie p (p_.mp l).1;exact vU N (k-1) (kq ks p) (wT w l) (by ext) (by ext) λG j o=>by
      have:=h (by ext) j o
      have:=Cq w l j
      ext
    have fd:∀x∈(tV f).map kD,∃d,(ag (aX N) (aa (ag dN (aa (ac 1) (aa (ac 0) a_))) (aa (ae bO (ac 2) (xC (.int 1))) a_)):Xe []).p [J x,J (aj n ks),J (.int k)] s=.ok d s:=λx r=>by
     obtain⟨p,l,rfl⟩:=ml.mp r;obtain⟨d,e⟩:=C p l;refine⟨d,?_⟩;simp[KQ w ((mK B.g).tie p (p_.mp l).1),e]
    have q:=fk (ws:=[]) (ws':=[]) (env:=[J (aj n ks),J (.int k),J (.lst (f.map .int)),Y]) (fm:=[0,1]) (i:=aY (ag dD (aa (ac 2) a_))) (t:=ix) (ds:=(tV f).map kD) (λ_=>I) (λx=>if h:∃d,(ag (aX N) (aa (ag dN (aa (ac 1) (aa (ac 0) a_))) (aa (ae bO (ac 2) (xC (.int 1))) a_)):Xe []).p [J x,J (aj n ks),J (.int k)] s=.ok d s then Classical.choose h else .non) (by
     simp[Gc B.g]) (by simp;ext) (λx r=>⟨rfl,λ_=>by
      have h:=fd x r;rw[dif_pos h]
      exact Classical.choose_spec h⟩)
    rw[aA,bS,q];exact⟨_,rfl⟩
end
abbrev BZ(p:Int×VN):D:=.tup [.int p.1,.lst (p.2.map .int)]
abbrev xI(left:VN):PV:=.tup (left.map .int)
abbrev KR(k:VN):PV:=.tup (k.map .int)
abbrev bw(n:Int)(ks:VP):PV:=.tup [.int n,.tup (ks.map KR)]
structure Up(E:VQ)(h h':MH):Prop where
 len:h.length<=h'.length
 keep:∀i,i<h.length->i∉E->h'[i]?=h[i]?
def Up.trans(a:Up E h h1)(b:Up E h1 h2):Up E h h2 :=
 ⟨o0 a.len b.len,λi f n=>(b.keep i (pq f a.len) n).trans (a.keep i f n)⟩
def Up.more(a:Up E h h1)(s:∀e∈E,e∈E'):Up E' h h1:=⟨a.len,λi f n=>a.keep i f λz=>n (s i z)⟩
def Up.set(f:m∈E):Up E h (h.set m o):=⟨by simp,λi _ n=>pc (by rintro rfl;exact n f)⟩
section
variable{q:Nat}{h h':MH}{A:VQ}
def pE:∀{f:VN},Rps q h A (f.map .int) (f.map .int)
 |[]=>rfl
 |_::_=>⟨_,_,rfl,rfl,pE⟩
def qh:∀{f:VN}{i:VL},Rps q h A (f.map .int) i->i=f.map .int
 |[],_,r=>r
 |_::_,_,⟨_,_,e,a,b⟩=>by rw[e,show _=PV.int _ from a,qh b];rfl
def xo:∀{f:VP},Rps q h A (f.map kD) (f.map KR)
 |[]=>rfl
 |_::_=>⟨_,_,rfl,⟨_,rfl,pE⟩,xo⟩
def vO:∀{f:VP}{i:VL},Rps q h A (f.map kD) i->i=f.map KR
 |[],_,r=>r
 |_::_,_,⟨_,_,e,⟨xs,e2,r⟩,b⟩=>by rw[e,e2,qh r,vO b];rfl
def zl:Rp q h A (aj n ks) (bw n ks):=⟨_,rfl,_,_,rfl,rfl,_,_,rfl,⟨_,rfl,xo⟩,rfl⟩
def uV(r:Rp q h A (aj n ks) v):v=bw n ks:=by obtain⟨xs,rfl,x,t,rfl,e,y,f,rfl,⟨j,rfl,i⟩,e3⟩:=r;rw[show x=PV.int n from e,show f=[]from e3,vO i]
def OS(r:Rp q h A (.tup (left.map .int)) v):v=xI left:=by obtain⟨xs,rfl,r⟩:=r;rw[qh r]
end
def Gk{f:VP}{xs:VL}{i k:VN}{v w:PV}(l:xs.length=f.length)(e:qa (i4 f xs i v).1 (i4 f xs i v).2 k=J w):(k=i/\w=v)\/qa f xs k=J w:=by
 induction f generalizing xs with
 |nil =>
  cases xs with
  |cons _ _=>cases l
  |nil =>
   by_cases z:i=k
   .simp[i4,qa,z]at e;exact .inl ⟨z.symm,e.symm⟩
   .simp[i4,qa,z]at e
 |cons j f r =>
  cases xs with
  |nil=>cases l
  |cons x xs =>
   unfold i4 at e;by_cases z:j=i
   .rw[c_ z]at e;by_cases y:j=k
    .simp[qa,y]at e;exact .inl ⟨y▸z,e.symm⟩
    .simp[qa,y]at e;simp[qa,y,e]
   .rw[f_ z]at e;by_cases y:j=k
    .simp[qa,y]at e;simp[qa,y,e]
    .simp only[qa,f_ y]at e ⊢;exact r (by simpa using l) e
def Gm{f:VP}{xs:VL}{i:VN}{v:PV}(l:xs.length=f.length):qa (i4 f xs i v).1 (i4 f xs i v).2 i=J v/\(i4 f xs i v).2.length=(i4 f xs i v).1.length/\(i4 f xs i v).1=if i∈f then f else f++[i]:=by
 induction f generalizing xs with
 |nil =>
  cases xs with
  |cons _ _=>cases l
  |nil=>simp[i4,qa]
 |cons j f B =>
  cases xs with
  |nil=>cases l
  |cons x xs =>
   obtain⟨u,C,r⟩:=B (by simpa using l);unfold i4;by_cases z:j=i
   .simp[qa,z];simpa using l
   .rw[f_ z];refine⟨by simp[qa,z,u],by simp[C],?_⟩;rw[r];by_cases y:i∈f<;>simp[y,Ne.symm z]
structure Tb(q b n:Nat)(ks:VP)(s:iw)(A:VQ)(h:MH):Prop where
 low:∀i≤b,i∈A
 bd:∀a∈A,a<h.length
 pen:bA h q s
 tab:∃js xs,h[b]?=J (.dic js xs)/\xs.length=js.length/\js.Nodup/\(∀j∈js,j.Sublist (b_ n))/\∀j v,qa js xs j=J v->Rp q h A (BZ (Wt n ks j)) v
section
variable{q b n:Nat}{ks:VP}{s:iw}{A:VQ}{h h':MH}{left:VN}
def Tb.mv(f:Tb q b n ks s A h)(l:h.length<=h'.length)(k:∀i,i<h.length->i∉A->h'[i]?=h[i]?)(p:bA h' q s)(t:h'[b]?=h[b]?):Tb q b n ks s A h':=by obtain⟨C,xs,e,r,nd,sb,v⟩:=f.tab;exact⟨f.low,λa u=>pq (f.bd a u) l,p,C,xs,t.trans e,r,nd,sb,λj w B=>(v j w B).mv ⟨k,λo z=>.inl z⟩⟩
def Tb.kb(f:Tb q b n ks s A h)(j:q<b)(k:KB q h h')(p:bA h' q s):Tb q b n ks s A h' :=
 f.mv k.len (λi l no=>k.keep i l λz=>no (z▸f.low q (vv j))) p (k.keep b (f.bd b (f.low b (ii b))) (by ext))
def ye(k:KB q h h'):Up [q,b] h h':=⟨k.len,λi f n=>k.keep i f λz=>n (by simp[z])⟩
def Tb.set(f:Tb q b n ks s A h)(r:q<b)(l:b<m)(j:m∈A):Tb q b n ks s A (h.set m o) :=
 f.mv (by simp) (λi _ no=>pc (by rintro rfl;exact no j)) (by unfold bA;rw[pc (by ext)];exact f.pen) (pc (by ext))
def Tb.app(f:Tb q b n ks s A h):Tb q b n ks s A (h++g) :=
 f.mv (by simp) (λi j _=>sd j) f.pen.app (sd (f.bd b (f.low b (ii b))))
def Tb.grow(f:Tb q b n ks s A h):Tb q b n ks s (h.length::A) (h++[o]):=by
 obtain⟨C,xs,e,z,nd,sb,v⟩:=f.tab;refine⟨λi r=>m_ _ (f.low i r),λa l=>?_,f.pen.app,C,xs,?_,z,nd,sb,λj w B=>(v j w B).mv ⟨λi r _=>sd r,λo u=>?_⟩⟩
 .rcases lb.mp l with rfl|l
  .simp
  .have:=f.bd a l;simp;ext
 .rw[sd (f.bd b (f.low b (ii b)))];exact e
 .rcases lb.mp u with rfl|u
  .exact .inr (ii _)
  .exact .inl u
def Hj(f:Tb q b n ks s A h)(j:q<b)(l:Z.length=env.length)(fz:∀(i:Nat)(d:D),env[i]?=J (J d)->∃v,Z[i]?=J (J v)/\Rp q h A d v):PU.Cx q h h.length A A [] Z env s :=
 ⟨f.bd,λ_ h=>h,f.bd,f.low q (vv j),ii _,f.pen,l,λi d e _=>fz i d e,λi d e r=>by cases r⟩
def sQ{E:Xe []}{d:D}{Z:mh}{env:av}(c:PU.Cx q h h.length A A [] Z env s)(e:E.p env s=.ok d s):∃w f,E.m Z h=.ok w f/\KB q h f/\bA f q s/\Rp q f A d w:=by have o:=E.ok c;rw[e]at o;obtain⟨w,f,e1,k,p,i,_⟩:=o;exact⟨w,f,e1,k,p,i.base (λ_ h=>h) c.bd⟩
def E4:Xe []:=qo gW (aa (aG 1 [2] (aY (ac 1)) (ws':=[]) (i_ 0) (xB (ae BV (ac 0) (ac 1))) (ac 0)) a_)
def E5:Xe []:=ag cL (aa (ac 0) (aa (ac 1) (aa (ac 2) a_)))
def E6:Xe []:=aI (aa (ae aK (qo lg (aa (ag bP (aa (ac 0) (aa (ac 1) (aa (ac 2) a_)))) a_)) (ae jj (ac 5) (xC (.int 0)))) (aa (ae aK (cU (aa (ac 2) a_)) (ae jj (ac 5) (xC (.int 1)))) a_))
def OT:ce F=aL (bG 4 E4.m) (aL (bG 5 (bT F (ai E5.m (ai (af 4) (ai (af 3) h_))))) (b9 E6.m)):=rfl
def qg(q b n:Nat)(ks:VP)(s:iw)(d:D)(o:MH->VZ):Prop:=∀A h,Tb q b n ks s A h->∃w h',o h=.ok w h'/\Up [q,b] h h'/\Tb q b n ks s A h'/\Rp q h' A d w
def KU{F:VL->MH->VZ}{v:Int}(H:q<b)(G:g_ n ks)(Q:left.Sublist (b_ n))(hv:v∈left)(hF:qg q b n ks s (BZ (Wt n ks (aT left v))) (F [bw n (KW n ks (aT left v)),xI (aT left v),.loc b])):
  qg q b n ks s (BZ (dO n ks left v)) (cC 6 4 (ce F) [bw n (KW n ks left),xI left,.int v,.loc b]):=λA h B=>by
 have n12:=G.n12;have l:∀x∈left,0<=x/\x<(n:Int):=λx z=>ah.mp (Q.subset z);have nd:left.Nodup:=Q.nodup (br n);have ll:left.length<=12:=by have:=Q.length_le;simp[b_]at this;ext
 have Z:=oQ (left:=left) G;have hd:(D.tup (left.map .int)).items=J (left.map .int):=rfl;have p4:∀{j u:VD},E4.p [J (aj n (KW n ks left)),J (.tup (left.map .int)),J (.int v),Y,j,u] s=.ok (.tup ((aT left v).map .int)) s:=λ{j u}=>by
  have c:=fk (ws:=[]) (ws':=[]) (env:=[J (aj n (KW n ks left)),J (.tup (left.map .int)),J (.int v),Y,j,u]) (s:=s) (fm:=[2]) (i:=aY (ac 1)) (t:=xB (ae BV (ac 0) (ac 1))) (e:=ac 0) (ds:=left.map .int) (Vb λx=>!decide (x=v)) (λx=>x) (by simp[hd]) (by simp;ext) (λx z=>by
   obtain⟨i,hi,rfl⟩:=ml.mp z
   exact⟨by simp[Vb],λ_=>by simp⟩)
  rw[rG (λx=>!decide (x=v)) _ _ λi _=>rfl]at c;unfold E4;rw[jf,aD,c];rfl
 have p5:∀{j u:VD},E5.p [J (aj n (KW n ks left)),J (.tup (left.map .int)),J (.int v),Y,j,u] s=.ok (aj n (KW n ks (aT left v))) s:=λ{j u}=>by
  unfold E5;simp[t8 hd Z (l v hv).1 (l v hv).2 l,zu G l hv]
 have ol:=(oH G (aT left v).length (aT left v) rfl (nd.filter _) λx z=>l x (dQ.mp z).1).1.length_eq;have l2:(aT left v).length<=12:=o0 (Hr _ _) ll;have p6:∀{j:VD},E6.p [J (aj n (KW n ks left)),J (.tup (left.map .int)),J (.int v),Y,j,J (BZ (Wt n ks (aT left v)))] s=.ok (BZ (dO n ks left v)) s:=λ{j}=>by
  unfold E6;simp[Hg hd Z (l v hv).1 (l v hv).2,show(0+1:Nat)<=100000 by decide];rw[fA (by simp;ext)];rfl
 have R:∀{f:MH}(L C:Option PV)(e4 e5:VD)(T':Tb q b n ks s A f),e4=Y->(∀d,e5=J d->∃w,C=J w/\Rp q f A d w)->PU.Cx q f f.length A A [] [J (bw n (KW n ks left)),J (xI left),J (.int v),J (.loc b),L,C] [J (aj n (KW n ks left)),J (.tup (left.map .int)),J (.int v),Y,e4,e5] s:=λ{f} L C e4 e5 T' O h5=>Hj T' H rfl λi d e=>by
  match i,e with
  |0,e=>cases e;exact⟨_,rfl,zl⟩
  |1,e=>cases e;exact⟨_,rfl,_,rfl,pE⟩
  |2,e=>cases e;exact⟨_,rfl,rfl⟩
  |4,e=>rw[O]at e;cases e
  |5,e =>
   have e:e5=J d:=by simpa using e
   obtain⟨w,ew,r⟩:=h5 d e;exact⟨w,by rw[ew];rfl,r⟩
 obtain⟨L,h1,e1,X,P,r1⟩:=sQ (E:=E4) (R Y Y Y Y B rfl λd e=>by cases e) p4;have e4:=OS r1;subst e4;have T1:=B.kb H X P;obtain⟨C,h2,e2,W,U,r2⟩:=sQ (E:=E5) (R (J (xI (aT left v))) Y Y Y T1 rfl λd e=>by cases e) p5;have e5:=uV r2;subst e5;have T2:=T1.kb H W U;obtain⟨w,h3,e3,u3,T3,r3⟩:=hF A h2 T2;obtain⟨w6,O,e6,k4,S,r6⟩:=sQ (E:=E6) (R (J (xI (aT left v))) (J w) Y (J (BZ (Wt n ks (aT left v)))) T3 rfl λd e=>by cases e;exact⟨w,rfl,r3⟩) p6;refine⟨w6,O,?_,(ye X).trans ((ye W).trans (u3.trans (ye k4))),T3.kb H k4 S,r6⟩;refine(dM rfl).trans ?_;rw[OT,cB,jQ];have st:bH 6 [bw n (KW n ks left),xI left,.int v,.loc b]=[J (bw n (KW n ks left)),J (xI left),J (.int v),J (.loc b),Y,Y]:=rfl;have v4:∀f,af 4 [J (bw n (KW n ks left)),J (xI left),J (.int v),J (.loc b),J (xI (aT left v)),Y] f=.ok (xI (aT left v)) f:=λ_=>rfl;have v3:∀f,af 3 [J (bw n (KW n ks left)),J (xI left),J (.int v),J (.loc b),J (xI (aT left v)),Y] f=.ok (.loc b) f:=λ_=>rfl;rw[st,e1];simp[e2,v4,v3,e3,e6]
abbrev cI(x:VL):MIt:=⟨x,[]⟩
def uF(B:∀h,it.ok h)(hq:q<b)(U:m∈A)(bm:b<m):
  ∀(H:VN)(X:Option PV)(j:VL)(C:List (Int×VN))(h:MH),(∀v∈H,qg q b n ks s (BZ (f v)) (G [W,L,.int v,.loc b]))->Tb q b n ks s A h->h[m]?=J (.lst j)->Rps q h A (C.map BZ) j->j.length+H.length<1000 ->
  ∃h' l,z_ it m (EH 0) AQ (bT G (ai (af 1) (ai (af 2) (ai (af 0) (ai (af 3) h_))))) (H.map .int) [X,J W,J L,J (.loc b)] h=.ok () h'/\Up [q,b,m] h h'/\Tb q b n ks s A h'/\h'[m]?=J (.lst l)/\Rps q h' A ((C++H.map f).map BZ) l
 |[],X,j,C,h,_,u,P,r,_=>⟨h,j,E3 (B h),⟨ii _,λ_ _ _=>rfl⟩,u,P,by simpa using r⟩
 |v::H,X,j,C,h,hG,u,P,r,hl=>by
  obtain⟨w,F,e1,S,T1,r1⟩:=hG v (by simp) A h u;have O:=(S.keep m (aU P) (by simp;ext)).trans P
  have ra:=r.mv (h':=F) (O':=A) ⟨λi hi no=>S.keep i hi λz=>no (by
   simp at z
   exact u.low i (by ext)),λo R=>.inl R⟩
  have up:=Up.set (E:=[q,b,m]) (h:=F) (m:=m) (o:=.lst (j++[w])) (by simp);have mv:Mv A F A (F.set m (.lst (j++[w]))):=⟨λi _ no=>pc (by rintro rfl;exact no U),λo R=>.inl R⟩;have r2:Rps q (F.set m (.lst (j++[w]))) A ((C++[f v]).map BZ) (j++[w]):=by rw[Hx];exact(ra.mv mv).app ⟨_,_,rfl,r1.mv mv,rfl⟩
  obtain⟨h2,l,e2,u2,T2,Q,Z⟩:=uF B hq U bm H (J (.int v)) (j++[w]) (C++[f v]) (F.set m (.lst (j++[w]))) (λx hx=>hG x (m_ _ hx)) (T1.set hq bm U) (yw (aU O)) r2 (by simp at hl ⊢;ext);refine⟨h2,l,?_,((S.more λe he=>by simp at he ⊢;ext).trans up).trans u2,T2,Q,by rw[DJ]at Z;exact Z⟩
  rw[qw,E8 (B h) rfl rfl (by
   exact e1) O (by ext)]
  exact e2
def rN:∀{j:List (Int×VN)},sX (j.map BZ)=J j
 |[]=>rfl
 |p::j=>by
  have e:∀f:VN,OL (f.map .int)=J f:=λf=>by
   induction f with
   |nil=>rfl
   |cons i f l=>rw[qw,OL,l];rfl
  rw[qw,sX,show uD (BZ p)=J p by simp[uD,e],rN];rfl
def DE:VN->VP
 |[]=>[[]]
 |x::l=>DE l++(DE l).map (x::·)
def uB:∀l:VN,(DE l).length=2^l.length
 |[]=>rfl
 |x::l=>by rw[DE,xK,BL,uB l,DN];ext
def Bz(h:j.Sublist l):j∈DE l:=by
 induction h with
 |slnil=>exact CT.mpr rfl
 |cons x _ f=>exact s_ _ f
 |cons_cons x _ f=>exact oI _ (ml.mpr ⟨_,f,rfl⟩)
def Gn{n:Nat}{f:VP}(l:n<=12)(nd:f.Nodup)(h:∀j∈f,j.Sublist (b_ n)):f.length<=4096:=by
 have:=List.Nodup.length_le_of_subset nd λj i=>Bz (h j i)
 rw[uB]at this
 have:2^(b_ n).length<=2^12:=Nat.pow_le_pow_right (by decide) (by simp[b_];ext)
 ext
abbrev C4(n:Nat)(ks:VP)(left:VN)(b:Nat):mh:=[J (bw n (KW n ks left)),J (xI left),J (.loc b)]
def KY{G:VL->MH->VZ}(hq:q<b)(w0:g_ n ks)(hl:left.Sublist (b_ n))(hG:∀v∈left,qg q b n ks s (BZ (dO n ks left v)) (G [bw n (KW n ks left),xI left,.int v,.loc b])):
  qg q b n ks s (BZ (Wt n ks left)) (cC 3 3 (fC G) [bw n (KW n ks left),xI left,.loc b]):=λA h u=>by
 have n12:=w0.n12;have nd:left.Nodup:=hl.nodup (br n);have ll:left.length<=12:=by have:=hl.length_le;simp[b_]at this;ext
 have tk:tF (xI left)=J left:=tD left;have fin:∀{C:MH}{H:VP}{xs:VL}{w:PV},C[b]?=J (.dic H xs)->qa H xs left=J w->(b9 (ar kH (af 2) (af 1)) (C4 n ks left b) C)=.rt w C:=λ{C H xs w} e1 e2=>by
  have R:fR C (.loc b)=J (H,xs):=by simp[fR,e1]
  rw[qC,qz];simp[show af 2 (C4 n ks left b) C=.ok (.loc b) C from rfl,show af 1 (C4 n ks left b) C=.ok (xI left) C from rfl,kH,tk,R,e2]
 obtain⟨H,xs,et,lx,nj,sj,vj⟩:=u.tab;have R:fR h (.loc b)=J (H,xs):=by simp[fR,et]
 have B:mB (ar (n8 I) (af 1) (af 2)) (C4 n ks left b) h=.ok (!(qa H xs left).isSome) h:=by rw[GY,qz];simp[show af 2 (C4 n ks left b) h=.ok (.loc b) h from rfl,show af 1 (C4 n ks left b) h=.ok (xI left) h from rfl,n8,tk,R]
 have st:bH 3 [bw n (KW n ks left),xI left,.loc b]=C4 n ks left b:=rfl
 cases L:qa H xs left with
 |some w =>
  rw[L]at B;refine⟨w,h,?_,⟨ii _,λ_ _ _=>rfl⟩,u,vj left w L⟩;refine(dM rfl).trans ?_;rw[st,fC,cB,kT,B,MM.aR,Option.isSome_some,GN,f_ GG,nz,MM.aq,fin et L];rfl
 |none =>
  rw[L]at B;have T1:=u.grow (o:=.lst []);obtain⟨l,r,e1,u1,T2,ea,ra⟩:=uF (f:=dO n ks left) (it:=cI (left.map .int)) (λ_ p hp=>by cases hp) hq (A:=h.length::A) (m:=h.length) (by simp) (u.bd b (u.low b (ii b))) left Y [] [] (h++[MO.lst []]) hG T1 (by simp) rfl (by simp;ext);have al:r.length=left.length:=by have:=ra.length;simpa using this
  have T3:=T2.app (g:=[MO.lst []]);have Gs:=ra.mv (h':=l++[MO.lst []]) (O':=h.length::A) ⟨λi hi _=>sd hi,λo ho=>.inl ho⟩;have ab:(l++[MO.lst []])[h.length]?=J (.lst r):=by rw[sd (aU ea)];exact ea
  obtain⟨w,ew,W⟩:∃w,gz (.loc h.length) (.tup [.int 0,.loc l.length]) (l++[MO.lst []])=.ok w (l++[MO.lst []])/\Rp q (l++[MO.lst []]) (h.length::A) (BZ (Wt n ks left)) w:=by
   have lo:dP (l++[MO.lst []]) (.loc h.length)=J r:=by simp[dP,ab]
   have rp:lV (l++[MO.lst []]) r=J (left.map (dO n ks left)):=oi rN Gs;have ef:gz (.loc h.length) (.tup [.int 0,.loc l.length]) (l++[MO.lst []])=.ok (if r.length=0 then .tup [.int 0,.loc l.length]else r.getD (argBest (c7 (left.map (dO n ks left))) (r.length-1)) .non) (l++[MO.lst []]):=by simp[gz,lo,rp]
   refine⟨_,ef,?_⟩;rw[Hi nd];by_cases z:r.length=0
   .rw[c_ z]
    have:left=[]:=DX.mp (by ext)
    subst this;refine⟨_,rfl,_,_,rfl,rfl,_,_,rfl,⟨_,[],rfl,λz=>?_,by simp,rfl⟩,rfl⟩
    have:=T2.bd _ z;ext
   .rw[f_ z];have hk:argBest (c7 (left.map (dO n ks left))) (left.length-1)<left.length:=Lg (jW _ _) (by ext);obtain⟨v,L,rv⟩:=Gs.get (i:=argBest (c7 (left.map (dO n ks left))) (left.length-1)) (zb (by simpa using hk));rw[al];simp[TR,L,zb (show argBest (c7 (left.map (dO n ks left))) (left.length-1)<(left.map (dO n ks left)).length by simpa using hk)];simpa using rv
  obtain⟨F,E,U,X,Q,O,an⟩:=T3.tab;obtain⟨d1,d2,d3⟩:=Gm (i:=left) (v:=w) X;have S:b<(l++[MO.lst []]).length:=aU U;have nl:=Gn (by ext) Q O;have mA:Mv (h.length::A) (l++[MO.lst []]) A ((l++[MO.lst []]).set b (MO.dic (i4 F E left w).1 (i4 F E left w).2)):=⟨λi _ no=>pc (by rintro rfl;exact no (m_ _ (u.low _ (ii _)))),λo ho=>.inl (m_ _ ho)⟩;refine⟨w,(l++[MO.lst []]).set b (MO.dic (i4 F E left w).1 (i4 F E left w).2),?_,?_,?_,W.mv mA⟩
  .have c:fJ 1 [0,1,2] (jz (af 1)) (EH 0) AQ (bT G (ai (af 1) (ai (af 2) (ai (af 0) (ai (af 3) h_))))) (C4 n ks left b) h=.ok (.loc h.length) l:=by
    rw[B5];have ei:jz (af 1) (C4 n ks left b) h=.ok (cI (left.map .int)) h:=rfl;rw[ei,Out.bind_ok];refine(congrArg (λz:Out Unit=>z.bind λ_ h3=>Out.ok (PV.loc h.length) h3) e1).trans ?_;rfl
   have df:j4 (ai (mC (.int 0)) (ai (fF h_) h_)) (C4 n ks left b) l=.ok (.tup [.int 0,.loc l.length]) (l++[MO.lst []]):=by
    have l0:pr [] l=.ok (.loc l.length) (l++[MO.lst []]):=oK (by simp);have t0:t_ [.int 0,.loc l.length] (l++[MO.lst []])=.ok (.tup [.int 0,.loc l.length]) (l++[MO.lst []]):=by unfold t_;rw[c_ (o0 (show _<=1000 by simp) (by decide))]
    simp[l0,t0]
   have mn:ar gz (fJ 1 [0,1,2] (jz (af 1)) (EH 0) AQ (bT G (ai (af 1) (ai (af 2) (ai (af 0) (ai (af 3) h_)))))) (j4 (ai (mC (.int 0)) (ai (fF h_) h_))) (C4 n ks left b) h=.ok w (l++[MO.lst []]):=by rw[qz,c,Out.bind_ok,df,Out.bind_ok,ew];rfl
   have sb:vc (af 2) (af 1) w (C4 n ks left b) (l++[MO.lst []])=.nx (C4 n ks left b) ((l++[MO.lst []]).set b (MO.dic (i4 F E left w).1 (i4 F E left w).2)):=by
    have e0:FJ (.loc b) (xI left) w (l++[MO.lst []])=J ((l++[MO.lst []]).set b (MO.dic (i4 F E left w).1 (i4 F E left w).2)):=by
     have R:fR (l++[MO.lst []]) (.loc b)=J (F,E):=by simp[fR,U]
     simp only[FJ,tk,R];rw[c_ (by ext)]
    unfold vc;simp only[IT,show af 2 (C4 n ks left b) (l++[MO.lst []])=.ok (.loc b) (l++[MO.lst []])from rfl,show af 1 (C4 n ks left b) (l++[MO.lst []])=.ok (xI left) (l++[MO.lst []])from rfl,MM.aR,e0]
   refine(dM rfl).trans ?_;rw[st,fC,cB,kT,B,MM.aR,Option.isSome_none,Mf,c_ rfl,ET,mn,MM.aR,sb];dsimp only;rw[MM.aq,fin (yw S) d1];rfl
  .refine⟨by have:=u1.len;simp at this ⊢;ext,λi hi no=>?_⟩;have Z:i≠q/\i≠b:=by simpa using no
   have l1:=u1.len;rw[xK,List.length_singleton]at l1;rw[pc (λz=>Z.2 z.symm),sd (by ext),u1.keep i (by simp;ext) (by simp;ext),sd hi]
  .refine⟨u.low,λa ha=>?_,?_,_,_,yw S,d2,?_,?_,λj v L=>?_⟩
   .have:=T3.bd a (m_ _ ha);simpa using this
   .unfold bA;rw[pc (by ext)];exact T3.pen
   .rw[d3];split
    .exact Q
    .rename_i z
     rw[CJ];exact⟨Q,by simp,λx hx y hy e=>z (by rw[<-CT.mp hy,<-e];exact hx)⟩
   .rw[d3];intro j P
    split at P
    .exact O j P
    .rcases nq.mp P with P|P
     .exact O j P
     .rw[CT.mp P];exact hl
   .rcases Gk X L with⟨rfl,rfl⟩|z
    .exact W.mv mA
    .exact (an j v z).mv mA
def uT(j:q<b)(i:g_ n ks):∀(m:Nat)(left:VN),left.length<m->left.Sublist (b_ n)->qg q b n ks s (BZ (Wt n ks left)) (fy m [bw n (KW n ks left),xI left,.loc b])
 |m+1,left,l,f=>KY j i f λv hv=>KU j i f hv (uT j i m (aT left v) (by have:=nN (f.nodup (br n)) hv;ext) (List.filter_sublist.trans f))
end
def E7:Xe []:=aI (aa (ae jj (ac 1) (xC (.int 0))) (aa (ae jj (ac 1) (xC (.int 1))) (aa (ag cZ (aa (ac 0) (aa (ae bO (ae jj (ac 1) (xC (.int 0))) (xC (.int 1))) a_))) a_)))
structure Go(ds:VR)(s:iw)(n:Nat)(ks:VP)(d:D):Prop where
 e:ds=[aj n ks]
 w:g_ n ks
 n7:n<=7
 p:cZ.p [aj n ks,.int ((Wt n ks (b_ n)).1-1)] s=.ok d s
abbrev LU(n:Nat)(ks:VP)(d:D):D:=.tup [.int (Wt n ks (b_ n)).1,.lst ((Wt n ks (b_ n)).2.map .int),d]
open Classical in
def ot(f:VR)(s:iw):PR D:=if h:∃x:Nat×VP×D,Go f s x.1 x.2.1 x.2.2 then .ok (LU (choose h).1 (choose h).2.1 (choose h).2.2) s else .bad
def xx(l:7<n):mj [bw n ks] h=.exc ⟨"TooMany",[]⟩ h:=by
 have st:bH 2 [bw n ks]=[J (bw n ks),Y]:=rfl;have f:mB (ar Cj (ar bC (af 0) (mC (.int 0))) (mC (.int 7))) [J (bw n ks),Y] h=.ok I h:=by show Out.ok (decide ((7:Int)<n)) h=_;rw[decide_eq_true l]
 refine(dM rfl).trans ?_;rw[st,xD,cB,kT,f,MM.aR,c_ rfl,zX];rfl
def AA{q n:Nat}{f:VP}{s:iw}{d:D}{h:MH}{O:VQ}{S:VL}(bd:Bd h O)(hq:q∈O)(pn:bA h q s)(r:Rps q h O [aj n f] S)(l:Go [aj n f] s n f d):R9 q h (mj S h) (LU n f d) s (λR d v=>Rp q R O d v/\(T=I->Frs q h.length O R d v)):=by
 have L:=l.w;have n7:=l.n7;have B:q<h.length:=bd q hq;have X:Tb q h.length n f s (List.range (h.length+1)) (h++[.dic [] []]):=⟨λi Q=>w5.mpr (by ext),λa ha=>by have:=w5.mp ha;simpa using this,pn.app,[],[],by simp,rfl,.nil,(λj hj=>by cases hj),λj v e=>by cases e⟩;obtain⟨w,h2,e2,H,T2,r2⟩:=uT B L 8 (b_ n) (by simp[b_];ext) (List.Sublist.refl _) _ _ X;rw[ph L]at e2;have p7:E7.p [J (aj n f),J (BZ (Wt n f (b_ n)))] s=.ok (LU n f d) s:=by unfold E7;simp[l.p]
 obtain⟨v3,h3,e3,P,F,r3⟩:=sQ (E:=E7) (Hj T2 B (Z:=[J (bw n f),J w]) (env:=[J (aj n f),J (BZ (Wt n f (b_ n)))]) rfl λi d e=>by
  match i,e with
  |0,e=>cases e;exact⟨_,rfl,zl⟩
  |1,e=>cases e;exact⟨_,rfl,r2⟩
  |n+2,e=>simp at e) p7
 obtain⟨v,t,rfl,a,et⟩:=r;rw[show t=[]from et,uV a];refine⟨v3,h3,?_,⟨?_,λi Q ne=>?_⟩,F,r3.mv ⟨λ_ _ _=>rfl,λo ho=>.inl (w5.mpr (by have:=bd o ho;ext))⟩,λz=>by cases z⟩
 .have st:bH 2 [bw n f]=[J (bw n f),Y]:=rfl;have W:∀u,ar bC (af 0) (mC (.int 0)) [J (bw n f),Y] u=.ok (.int n) u:=λ_=>rfl;have C:mB (ar Cj (ar bC (af 0) (mC (.int 0))) (mC (.int 7))) [J (bw n f),Y] h=.ok T h:=by
   show Out.ok (decide ((7:Int)<(n:Int))) h=_;rw[decide_eq_false (by ext)]
  have rg:ck 0 n=(b_ n).map .int:=by unfold ck b_;rw[wc];exact Dp λi _=>by simp
  have tr:Qh (ai (ar bC (af 0) (mC (.int 0))) h_) [J (bw n f),Y] h=.ok (xI (b_ n)) h:=by unfold Qh;rw[dz,W,Out.bind_ok,jM,Out.bind_ok,Out.bind_ok];dsimp only;rw[c_ ⟨by ext,by ext,o0 (show _<=1000 by ext) (by decide)⟩,yT,rg]
  have U:∀u,af 0 [J (bw n f),Y] u=.ok (bw n f) u:=λ_=>rfl;refine(dM rfl).trans ?_;rw[st,xD,cB,kT,C,MM.aR,f_ GG,nz,MM.aq,cB,jQ,kL,dz,U,Out.bind_ok,dz,tr,Out.bind_ok,dz,ER,Out.bind_ok,jM,Out.bind_ok,Out.bind_ok,Out.bind_ok,Out.bind_ok];unfold lG;rw[e2,MM.aR,MM.aq,qC];refine(congrArg (λz:VZ=>(z.rt _).fin) e3).trans ?_;rfl
 .have G:=H.len;have h4:=P.len;simp at G;ext
 .have G:=H.len;rw[P.keep i (by simp at G;ext) ne,H.keep i (by simp;ext) (by simp;ext),sd Q]
open Classical in
def cw:Fn where
 m:=mj
 p:=ot
 fr:=T
 ok {q h O vs ds s} bd hq pn r:=by
  unfold ot;by_cases f:∃x:Nat×VP×D,Go ds s x.1 x.2.1 x.2.2
  .rw[dif_pos f];have i:=choose_spec f;generalize choose f=x at i ⊢;obtain⟨n,j,d⟩:=x;have e:=i.e;dsimp only at e;subst e;exact AA bd hq pn r i
  .rw[dif_neg f];trivial
def B0(e:[aj m js]=[aj n ks]):m=n/\js=ks:=by
 injection e with e _
 injection e with e
 injection e with e1 e
 injection e with e2 _
 injection e1 with e1
 injection e2 with e2
 have:=congrArg gK e2
 rw[gZ,gZ]at this;exact⟨e1,by injection this⟩
open Classical in
theorem vN{n:Nat}{f:VP}{s:iw}(w:g_ n f)(n7:n<=7):∃d,cw.p [aj n f] s=.ok (LU n f d) s:=by
 have j:=oH w (b_ n).length (b_ n) rfl (br n) λx i=>ah.mp i;rw[ph w]at j;obtain⟨p1,u,r⟩:=j;have g:=Gi w ⟨by ext,p1⟩;obtain⟨d,e⟩:=vU 70 ((Wt n f (b_ n)).1-1) f w (by ext) (by decide) λ_ l o=>by have:=r l o.pm;ext
 have i:∃x:Nat×VP×D,Go [aj n f] s x.1 x.2.1 x.2.2:=⟨(n,f,d),rfl,w,n7,e⟩;obtain⟨e1,e2⟩:=B0 (choose_spec i).e;have e1:n=(choose i).1:=by ext
 refine⟨(choose i).2.2,?_⟩;show ot _ _=_;unfold ot;rw[dif_pos i,<-e1,<-e2]
def lsN(n:Nat)(f:VP):Int:=(Wt n f (b_ n)).1
def jA{n:Nat}{i:VP}(w:g_ n i):(∃f,f.Perm (b_ n)/\(aH i f:Int)=lsN n i)/\∀f,f.Perm (b_ n)->lsN n i<=aH i f:=by have j:=oH w (b_ n).length (b_ n) rfl (br n) λx l=>ah.mp l;rw[ph w]at j;exact⟨⟨_,j.1,j.2.1⟩,j.2.2⟩
def iL{n:Nat}{q:VN}(nd:q.Nodup)(sub:∀x∈q,x∈b_ n)(j:q.length=n):q.Perm (b_ n):=by
 refine(GC nd (br n)).mpr λx=>⟨sub x,λf=>Classical.byContradiction λz=>?_⟩
 have:=List.Nodup.length_le_of_subset (B_.mpr ⟨z,nd⟩) λy i=>(lb.mp i).elim (λe=>e▸f) (sub y)
 simp[b_]at this;ext
def KZ(f:x≠y)(i:z≠u)(e:o_ [x,y]=o_ [z,u]):(x=z/\y=u)\/(x=u/\y=z):=by
 rcases Dr f with a|a<;>rcases Dr i with b|b
 .rw[dI a,dI b]at e;injection e with e1 e;injection e with e2 _;exact .inl ⟨e1,e2⟩
 .rw[dI a,d8 b]at e;injection e with e1 e;injection e with e2 _;exact .inr ⟨e1,e2⟩
 .rw[d8 a,dI b]at e;injection e with e1 e;injection e with e2 _;exact .inr ⟨e2,e1⟩
 .rw[d8 a,d8 b]at e;injection e with e1 e;injection e with e2 _;exact .inl ⟨e2,e1⟩
def jF{n:Nat}{f:VP}{l:VN}{v:Int}(w:g_ n f):(aO l v f).Nodup:=(q0 (dw w).1).filter _
def Gp{n:Nat}{K L:VP}(w:g_ n K)(C:g_ n L){f:Int->Int}{l:VN}{v:Int}(inj:∀x∈l,∀y∈l,f x=f y->x=y)(hv:v∈l)(h:∀x∈l,∀y∈l,(Td L (f x) (f y)↔Td K x y)):(aO (l.map f) (f v) L).length=(aO l v K).length:=by
 have i:∀{a b:Int},[a,b]∈aO l v K->a<b/\a∈l/\b∈l/\f a≠f b:=λ{a b} j=>by
  obtain⟨lt,r,u,_⟩:=(aV w).mp j;exact⟨lt,r,u,λz=>by have:=inj a r b u z;ext⟩
 have nd:((aO l v K).map λk=>o_ (k.map f)).Nodup:=by
  refine DL.mpr ((jF w).imp_of_mem λ{k U} j E ne e=>ne ?_);obtain⟨a,b,rfl,_⟩:=cg w k j;obtain⟨c,d,rfl,_⟩:=cg w U E;obtain⟨Z,S,Q,X⟩:=i j;obtain⟨l2,O,P,W⟩:=i E;rcases KZ X W e with⟨e1,e2⟩|⟨e1,e2⟩
  .rw[inj a S c O e1,inj b Q d P e2]
  .have:=inj a S d P e1;have:=inj b Q c O e2;ext
 have pm:(aO (l.map f) (f v) L).Perm ((aO l v K).map λk=>o_ (k.map f)):=by
  refine(GC (jF C) nd).mpr λk=>?_;rw[ml];constructor
  .intro j;obtain⟨a,b,rfl,_⟩:=cg C k j;obtain⟨lt,r,u,B,tb,no⟩:=(aV C).mp j;obtain⟨x,G,rfl⟩:=ml.mp r;obtain⟨y,H,rfl⟩:=ml.mp u;have R:=(h v hv x G).mp B;have ty:=(h v hv y H).mp tb;have F:=λt=>no ((h x G y H).mpr t);rcases Int.lt_trichotomy x y with z|z | z
   .exact⟨[x,y],(aV w).mpr ⟨z,G,H,R,ty,F⟩,dI lt⟩
   .subst z;ext
   .exact⟨[y,x],(aV w).mpr ⟨z,H,G,ty,R,λt=>F t.symm⟩,d8 lt⟩
  .rintro⟨k,j,rfl⟩;obtain⟨a,b,rfl,_⟩:=cg w k j;obtain⟨lt,r,u,B,tb,no⟩:=(aV w).mp j;have ne:=(i j).2.2.2;have B:=(h v hv a r).mpr B;have tb:=(h v hv b u).mpr tb;have F:=λt=>no ((h a r b u).mp t);show o_ [f a,f b]∈_;rcases Dr ne with z|z
   .rw[dI z];exact(aV C).mpr ⟨z,ml.mpr ⟨a,r,rfl⟩,ml.mpr ⟨b,u,rfl⟩,B,tb,F⟩
   .rw[d8 z];exact(aV C).mpr ⟨z,ml.mpr ⟨b,u,rfl⟩,ml.mpr ⟨a,r,rfl⟩,tb,B,λt=>F t.symm⟩
 have:=pm.length_eq
 rwa [BL]at this
def uc{n:Nat}{f:Int->Int}:∀(u:VN){K z:VP},g_ n K->g_ n z->(∀x∈u,∀y∈u,f x=f y->x=y)->(∀x∈u,∀y∈u,(Td z (f x) (f y)↔Td K x y))->aH z (u.map f)=aH K u
 |[],_,_,_,_,_,_=>rfl
 |v::r,K,z,w,B,inj,h=>by
  have j:∀x∈r,x∈v::r:=λx i=>m_ _ i;have hv:v∈v::r:=t3;have e1:=Gp w B inj hv h;rw[qw,aH];congr 1;refine uc r (bW w) (bW B) (λx i y l=>inj x (j x i) y (j y l)) λx i y l=>?_;have E:∀{x},x∈r->(f x≠f v↔x≠v):=λ{x} i=>not_congr ⟨λe=>inj x (j x i) v hv e,λe=>by rw[e]⟩;have C:∀{x},x∈r->(f x∈f v::r.map f↔x∈v::r):=λ{x} i=>⟨λ_=>j x i,λ_=>m_ _ (ml.mpr ⟨x,i,rfl⟩)⟩;have ne:f x≠f y↔x≠y:=not_congr ⟨λe=>inj x (j x i) y (j y l) e,λe=>by rw[e]⟩;rw[cD B,cD w,h x (j x i) y (j y l),E i,E l,ne,C i,C l,h v hv x (j x i),h v hv y (j y l)]
def dA(O:VN)(i:Int):Int:=O.getD i.toNat 0
def jt(O:VN)(f:VP):VP:=bu (SetT.k_ ((f.map λk=>k.map (dA O)).map o_))
section
variable{n:Nat}{O:VN}{ks:VP}
def iS(o:Ord n O)(h:i∈b_ n):i.toNat<O.length/\dA O i∈b_ n:=by
 have:=ah.mp h
 have j:=o.len;have f:i.toNat<O.length:=by omega
 refine⟨f,ah.mpr (o.bd _ ?_)⟩;unfold dA;simp[f]
def jL(o:Ord n O)(l:i∈b_ n)(f:j∈b_ n)(e:dA O i=dA O j):i=j:=by
 have:=xY (o.pm.symm.nodup (br n)) (iS o l).1 (iS o f).1 e
 have:=ah.mp l
 have:=ah.mp f
 ext
def pS(o:Ord n O)(w:g_ n ks):∀k∈ks.map λk=>k.map (dA O),IsT n k:=λk r=>by
 obtain⟨j,u,rfl⟩:=ml.mp r;obtain⟨a,b,rfl,l,lt,f⟩:=w.tie j u;have i:a∈b_ n:=ah.mpr ⟨l,by ext⟩;have f:=ah.mpr ⟨by ext,f⟩;have x:=ah.mp (iS o i).2;have y:=ah.mp (iS o f).2;exact⟨_,_,rfl,x.1,x.2,y.1,y.2,λe=>by have:=jL o i f e;ext⟩
def wS(o:Ord n O)(w:g_ n ks):g_ n (jt O ks):=cW w.n0 w.n12 (dW (pS o w))
def mL{f:VP}(h:∀k∈f,IsT n k){x y:Int}:Td (bu (SetT.k_ (f.map o_))) x y↔[x,y]∈f\/[y,x]∈f:=by
 have mem:∀{x y:Int},[x,y]∈bu (SetT.k_ (f.map o_))↔x<y/\([x,y]∈f\/[y,x]∈f):=λ{x y}=>by
  rw[(bZ _).mem_iff,SetT.eB,ml];constructor
  .rintro⟨k,i,e⟩;obtain⟨c,d,rfl,_,_,_,_,ne⟩:=h k i;rcases Dr ne with z|z
   .rw[dI z]at e;injection e with e1 e;injection e with e2 _;subst e1 e2;exact⟨z,.inl i⟩
   .rw[d8 z]at e;injection e with e1 e;injection e with e2 _;subst e1 e2;exact⟨z,.inr i⟩
  .rintro⟨lt,q|q⟩
   .exact⟨_,q,dI lt⟩
   .exact⟨_,q,d8 lt⟩
 unfold Td;rw[mem,mem];constructor
 .rintro (⟨_,q⟩|⟨_,q⟩)
  .exact q
  .exact q.symm
 .intro q;have ne:x≠y:=by
   rcases q with q|q
   .obtain⟨a,b,e,_,_,_,_,ne⟩:=h _ q;injection e with e1 e;injection e with e2 _;rw[e1,e2];exact ne
   .obtain⟨a,b,e,_,_,_,_,ne⟩:=h _ q;injection e with e1 e;injection e with e2 _;rw[e1,e2];exact ne.symm
  rcases Dr ne with z|z
  .exact .inl ⟨z,q⟩
  .exact .inr ⟨z,q.symm⟩
def K1(o:Ord n O)(w:g_ n ks){x y:Int}(f:x∈b_ n)(i:y∈b_ n):Td (jt O ks) (dA O x) (dA O y)↔Td ks x y:=by
 have one:∀{x y:Int},x∈b_ n->y∈b_ n->([dA O x,dA O y]∈ks.map (λk=>k.map (dA O))↔[x,y]∈ks):=λ{x y} f i=>by
  rw[ml];constructor
  .rintro⟨k,j,e⟩;obtain⟨a,b,rfl,l,lt,r⟩:=w.tie k j;injection e with e1 e
   injection e with e2 _
   rw[jL o (ah.mpr ⟨l,by ext⟩) f e1,jL o (ah.mpr ⟨by ext,r⟩) i e2]at j;exact j
  .exact λh=>⟨_,h,rfl⟩
 unfold jt;rw[mL (pS o w),one f i,one i f];exact Iff.rfl
def Aa:∀{l:VN},(∀x∈l,∃y∈b_ n,f y=x)->∃m:VN,l=m.map f/\∀y∈m,y∈b_ n
 |[],_=>⟨[],rfl,by simp⟩
 |x::l,h=>by
  obtain⟨y,r,rfl⟩:=h x (by simp);obtain⟨m,rfl,j⟩:=Aa λz i=>h z (m_ _ i);exact⟨y::m,rfl,λz i=>(lb.mp i).elim (λe=>e▸r) (j z)⟩
def K2{f:Int->Int}{m:VN}(h:(m.map f).Nodup):m.Nodup:=(DL.mp h).imp λ{a b} ne e=>ne (by rw[e])
def K3(o:Ord n O)(w:g_ n ks):lsN n (jt O ks)=lsN n ks:=by
 have C:=wS o w;obtain⟨⟨R,r,eq⟩,G⟩:=jA w;obtain⟨⟨Q,B,E⟩,P⟩:=jA C;have u:∀{m:VN},(∀y∈m,y∈b_ n)->aH (jt O ks) (m.map (dA O))=aH ks m:=λ{m} l=>uc m w C (λx f y j e=>jL o (l x f) (l y j) e) λx f y j=>K1 o w (l x f) (l y j);have z:∀x∈b_ n,∃y∈b_ n,dA O y=x:=λx f=>by
  obtain⟨i,H,e⟩:=Ht (o.pm.mem_iff.mpr f);exact⟨(i:Int),ah.mpr ⟨by ext,by have:=o.len;ext⟩,by unfold dA;simp[H,e]⟩
 have S:lsN n (jt O ks)<=lsN n ks:=by
  rw[<-eq,<-u λy j=>r.mem_iff.mp j];refine P _ (iL ?_ (λx f=>?_) (by rw[BL,r.length_eq];simp[b_]))
  .exact DL.mpr ((r.symm.nodup (br n)).imp_of_mem λ{a b} F L ne e=>ne (jL o (r.mem_iff.mp F) (r.mem_iff.mp L) e))
  .obtain⟨y,j,rfl⟩:=ml.mp f;exact(iS o (r.mem_iff.mp j)).2
 have U:lsN n ks<=lsN n (jt O ks):=by obtain⟨m,rfl,l⟩:=Aa λx f=>z x (B.mem_iff.mp f);rw[<-E,u l];exact G m (iL (K2 (B.symm.nodup (br n))) l (by have:=B.length_eq;simpa [b_]using this))
 ext
end
def Nx(L:VN)(x y:Int):Prop:=(∃A B,L=A++x::y::B)\/∃M,L=y::(M++[x])
def CA(L:VN)(x y:Int):Prop:=Nx L x y\/Nx L y x
def Nx.mem(h:Nx L x y):x∈L/\y∈L:=by rcases h with⟨A,B,rfl⟩|⟨M,rfl⟩<;>simp
def CA.mem(h:CA L x y):x∈L/\y∈L:=h.elim Nx.mem λh=>h.mem.symm
def Nx.ne(nd:L.Nodup)(h:Nx L x y):x≠y:=by
 rintro rfl;rcases h with⟨A,B,rfl⟩|⟨M,rfl⟩
 .have:=(CJ.mp nd).2.1;simp at this
 .simp at nd
def oO(h:Nx (A++B) x y):Nx (B++A) x y:=by
 rcases h with⟨C,D,e⟩|⟨M,e⟩
 .rcases List.append_eq_append_iff.mp e with⟨E,rfl,rfl⟩|⟨E,rfl,e2⟩
  .exact .inl ⟨E,D++A,by simp⟩
  .match E,e2 with
   |[],e2 =>
    have:=e2.symm
    subst this;exact .inl ⟨[],D++C,by simp⟩
   |[z],e2 =>
    injection e2 with e3 e4
    subst e3 e4;exact .inr ⟨D++C,by simp⟩
   |z::u::i,e2 =>
    injection e2 with e3 e4
    injection e4 with e4 e5
    subst e3 e4;exact .inl ⟨B++C,i,by simp⟩
 .cases A with
  |nil=>exact .inr ⟨M,by simpa using e⟩
  |cons a A =>
   have e:a::(A++B)=y::(M++[x]):=e;injection e with e1 e2
   subst e1;rcases List.eq_nil_or_concat B with rfl|⟨f,z,rfl⟩
   .exact .inr ⟨M,by rw[GK]at e2;rw[e2];rfl⟩
   .rw[List.concat_eq_append]at e2 ⊢;rw[<-DJ]at e2
    have:=(QW e2 rfl).2
    injection this with e3 _
    subst e3;exact .inl ⟨f,A,by simp⟩
def K4:CA (A++B) x y↔CA (B++A) x y:=⟨λh=>h.imp oO oO,λh=>h.imp oO oO⟩
def Ed(f:VN)(x:Int):Prop:=(∃B,f=x::B)\/∃M,f=M++[x]
def Ed.mem(h:Ed a x):x∈a:=by rcases h with⟨B,rfl⟩|⟨M,rfl⟩<;>simp
def xm(f:v∉b)(i:x∈b):CA (v::b) v x↔Ed b x:=by
 constructor
 .rintro ((⟨A,B,e⟩|⟨M,e⟩) | (⟨A,B,e⟩|⟨M,e⟩))
  .cases A with
   |nil=>injection e with _ e;exact .inl ⟨B,e⟩
   |cons a A=>injection e with _ e;exact absurd (e▸by simp) f
  .injection e with e1 e;exact absurd (e1▸i) f
  .cases A with
   |nil=>injection e with e1 _;exact absurd (e1▸i) f
   |cons a A=>injection e with _ e;exact absurd (e▸by simp) f
  .injection e with _ e;exact .inr ⟨M,e⟩
 .rintro (⟨B,rfl⟩|⟨M,rfl⟩)
  .exact .inl (.inl ⟨[],B,rfl⟩)
  .exact .inr (.inr ⟨M,rfl⟩)
def px(l:v∉b)(i:x∈b)(j:y∈b)(ne:x≠y):CA b x y↔CA (v::b) x y\/(Ed b x/\Ed b y):=by
 have drop:∀{x y:Int},x∈b->y∈b->Nx (v::b) x y->∃A B,b=A++x::y::B:=λ{x y} i j h=>by
  rcases h with⟨A,B,e⟩|⟨M,e⟩
  .cases A with
   |nil=>injection e with e1 _;exact absurd (e1▸i) l
   |cons a A=>injection e with _ e;exact⟨A,B,e⟩
  .injection e with e1 _;exact absurd (e1▸j) l
 have f:∀{x y:Int},x≠y->(∃B,b=x::B)->(∃M,b=M++[y])->Nx b y x:=λ{x y} ne ⟨B,e1⟩ ⟨M,e2⟩=>by
  cases M with
  |nil=>rw[e1]at e2;injection e2 with e3 _;exact absurd e3 ne
  |cons m M =>
   rw[e1]at e2;injection e2 with e3 e4
   exact .inr ⟨M,by rw[e1,e4];rfl⟩
 constructor
 .rintro ((⟨A,B,e⟩|⟨M,e⟩) | (⟨A,B,e⟩|⟨M,e⟩))
  .exact .inl (.inl (.inl ⟨v::A,B,by rw[e];rfl⟩))
  .exact .inr ⟨.inr ⟨y::M,by rw[e];rfl⟩,.inl ⟨_,e⟩⟩
  .exact .inl (.inr (.inl ⟨v::A,B,by rw[e];rfl⟩))
  .exact .inr ⟨.inl ⟨_,e⟩,.inr ⟨x::M,by rw[e];rfl⟩⟩
 .rintro ((h|h)|⟨h1,h2⟩)
  .exact .inl (.inl (drop i j h))
  .exact .inr (.inl (drop j i h))
  .rcases h1 with⟨B,e1⟩|⟨M,e1⟩<;>rcases h2 with⟨C,e2⟩|⟨N,e2⟩
   .rw[e1]at e2;injection e2 with e3 _;exact absurd e3 ne
   .exact .inr (f ne ⟨B,e1⟩ ⟨N,e2⟩)
   .exact .inl (f ne.symm ⟨C,e2⟩ ⟨M,e1⟩)
   .rw[e1]at e2;have:=(QW e2 rfl).2;injection this with e3 _;exact absurd e3 ne
section
variable{n:Nat}{ks:VP}{left T:VN}{v:Int}
def Gq(w:g_ n ks)(nd:(v::T).Nodup)(sub:∀x∈T,x∈left)(nb:∀x,Td ks v x↔Ed T x)(td:∀x∈T,∀y∈T,(Td ks x y↔CA (v::T) x y)):(aO left v ks).length+(T.length-3)=T.length+1-3:=by
 obtain⟨L,j⟩:=B_.mp nd;have Y:(∀x y,Ed T x->Ed T y->x≠y->Td ks x y)->aO left v ks=[]:=λh=>O8.mpr λk C=>by
  obtain⟨a,b,rfl,_⟩:=cg w k C;obtain⟨lt,_,_,G,tb,no⟩:=(aV w).mp C;exact no (h a b ((nb a).mp G) ((nb b).mp tb) (by ext))
 match T,j with
 |[],_ =>
  rw[Y λx y f _ _=>by have:=f.mem;cases this];rfl
 |[a],_ =>
  rw[Y λx y f i ne=>by have:=f.mem;have:=i.mem;simp_all];rfl
 |[a,b],_ =>
  rw[Y λx y f i ne=>(td x f.mem y i.mem).mpr ?_];rfl;have f:=f.mem;have i:=i.mem;simp only[lb,DM,or_false]at f i;rcases f with rfl|rfl<;>rcases i with rfl|rfl
  .exact absurd rfl ne
  .exact .inl (.inl ⟨[v],[],rfl⟩)
  .exact .inr (.inl ⟨[v],[],rfl⟩)
  .exact absurd rfl ne
 |a::b::c::M,j =>
  obtain⟨N,z,R⟩:∃N z,c::M=N++[z]:=⟨(c::M).dropLast,(c::M).getLast (by simp),(TN _).symm⟩;have r:a::b::c::M=a::b::(N++[z]):=by rw[R]
  rw[r]at j td nb sub ⊢;have Q:a≠z:=λe=>by rw[e]at j;simp at j
  have F:∀x,Ed (a::b::(N++[z])) x↔x=a\/x=z:=λx=>by
   constructor
   .rintro (⟨B,e⟩|⟨M,e⟩)
    .injection e with e _;exact .inl e.symm
    .rw[show a::b::(N++[z])=(a::b::N)++[z]from rfl]at e
     have:=(QW e rfl).2
     injection this with e _;exact .inr e.symm
   .rintro (rfl|rfl)
    .exact .inl ⟨_,rfl⟩
    .exact .inr ⟨a::b::N,rfl⟩
  have u:¬Td ks a z:=λt=>by
   have S:=(td a (by simp) z (by simp)).mp t;have E:∀{x y:Int},x∈a::b::(N++[z])->y∈a::b::(N++[z])->Nx (v::a::b::(N++[z])) x y->∃A B,a::b::(N++[z])=A++x::y::B:=λ{x y} f i h=>by
    rcases h with⟨A,B,e⟩|⟨M,e⟩
    .cases A with
     |nil=>injection e with e1 _;exact absurd (e1▸(r▸f)) (r▸L)
     |cons a A=>injection e with _ e;exact⟨A,B,e⟩
    .injection e with e1 _;exact absurd (e1▸(r▸i)) (r▸L)
   rcases S with h|h
   .obtain⟨A,B,e⟩:=E (by simp) (by simp) h
    cases A with
    |nil =>
     injection e with _ e
     injection e with e _
     rw[e]at j;simp at j
    |cons x A =>
     injection e with e1 e2
     have:=(B_.mp j).1
     rw[e2,e1]at this;simp at this
   .obtain⟨A,B,e⟩:=E (by simp) (by simp) h
    cases A with
    |nil=>injection e with e _;exact Q e
    |cons x A =>
     injection e with e1 e2
     have:=(B_.mp j).1
     rw[e2]at this;simp at this
  have one:aO left v ks=[o_ [a,z]]:=by
   have H:a∈left:=sub a (by simp);have O:z∈left:=sub z (by simp);have G:=(nb a).mpr ((F a).mpr (.inl rfl));have P:=(nb z).mpr ((F z).mpr (.inr rfl));refine List.perm_singleton.mp ((GC (jF w) (by simp)).mpr λk=>?_);rw[CT];constructor
   .intro C;obtain⟨x,y,rfl,_⟩:=cg w k C;obtain⟨lt,_,_,U,ty,_⟩:=(aV w).mp C;rcases(F x).mp ((nb x).mp U)with rfl|rfl<;>rcases(F y).mp ((nb y).mp ty)with rfl|rfl
    .ext
    .rw[dI lt]
    .rw[d8 lt]
    .ext
   .rintro rfl;rcases Dr Q with l|l
    .rw[dI l];exact(aV w).mpr ⟨l,H,O,G,P,u⟩
    .rw[d8 l];exact(aV w).mpr ⟨l,O,H,P,G,λt=>u t.symm⟩
  rw[one];simp;ext
end
def uu{n:Nat}:∀(Q L M:VN)(i:VP),g_ n i->(L++M).Nodup->(∀x y,Td i x y↔(x≠y/\(CA L x y\/CA M x y)))->Q.Perm (L++M)->aH i Q=(L.length-3)+(M.length-3)
 |[],L,M,i,_,_,_,p=>by
  have:=p.length_eq
  rw[xK,Ln]at this;simp only[aH];ext
 |v::r,L,M,i,w,nd,td,p=>by
  have hv:=p.mem_iff.mp t3;have u:∀L M:VN,(L++M).Nodup->(∀x y,Td i x y↔(x≠y/\(CA L x y\/CA M x y)))->(v::r).Perm (L++M)->v∈L->aH i (v::r)=(L.length-3)+(M.length-3):=λL M nd td p hv=>by
   obtain⟨A,B,rfl⟩:=List.append_of_mem hv;have j:∀{x y:Int},CA (A++v::B) x y↔CA (v::(B++A)) x y:=K4;have S:(v::(B++A)++M).Perm (A++v::B++M):=(Pa (l₁:=v::B)).append_right M;have E:=S.symm.nodup nd;have O:=(List.perm_cons v).mp (p.trans S.symm);obtain⟨F,n2,R⟩:=CJ.mp E;obtain⟨C,nt⟩:=B_.mp F;have H:=λh=>R v t3 v h rfl;have nb:∀x,Td i v x↔Ed (B++A) x:=λx=>by
    rw[td,j];constructor
    .rintro⟨ne,h|h⟩
     .have:=h.mem.2
      exact(xm C ((lb.mp this).resolve_left (Ne.symm ne))).mp h
     .exact absurd h.mem.1 H
    .intro h;exact⟨λe=>C (e▸h.mem),.inl ((xm C h.mem).mpr h)⟩
   have G:∀x∈B++A,∀y∈B++A,(Td i x y↔CA (v::(B++A)) x y):=λx f y l=>by
    rw[td,j];constructor
    .rintro⟨_,h|h⟩
     .exact h
     .exact absurd h.mem.1 λz=>R x (m_ _ f) x z rfl
    .exact λh=>⟨h.elim (Nx.ne F) λh=>(Nx.ne F h).symm,.inl h⟩
   have sub:∀x∈B++A,x∈v::r:=λx f=>m_ _ (O.mem_iff.mpr (s_ _ f));have e1:=Gq w F sub nb G
   have X:=uu r (B++A) M (cQ (v::r) v i) (bW w) (by
    exact(B_.mp E).2) (λx y=>by
     rw[cD w];constructor
     .rintro (⟨t,Z,U⟩|⟨ne,_,_,tx,ty⟩)
      .obtain⟨ne,h|h⟩:=(td x y).mp t
       .have h:=j.mp h;have f:=(lb.mp h.mem.1).resolve_left Z;have l:=(lb.mp h.mem.2).resolve_left U;exact⟨ne,.inl ((px C f l ne).mpr (.inl h))⟩
       .exact⟨ne,.inr h⟩
      .have f:=(nb x).mp tx;have l:=(nb y).mp ty;exact⟨ne,.inl ((px C f.mem l.mem ne).mpr (.inr ⟨f,l⟩))⟩
     .rintro⟨ne,h|h⟩
      .obtain⟨f,l⟩:=h.mem;rcases(px C f l ne).mp h with h|⟨W,h2⟩
       .exact .inl ⟨(td x y).mpr ⟨ne,.inl (j.mpr h)⟩,λe=>C (e▸f),λe=>C (e▸l)⟩
       .exact .inr ⟨ne,sub x f,sub y l,(nb x).mpr W,(nb y).mpr h2⟩
      .exact .inl ⟨(td x y).mpr ⟨ne,.inr h⟩,λe=>H (e▸h.mem.1),λe=>H (e▸h.mem.2)⟩) O
   rw[aH,X];simp only[xK,DN]at e1 ⊢;ext
  rcases nq.mp hv with h|h
  .exact u L M nd td p h
  .rw[Nat.add_comm];have P:=Pa (l₁:=L) (l₂:=M);exact u M L (P.nodup nd) (λx y=>by rw[td];exact and_congr_right λ_=>or_comm) (p.trans P) h
def qW:∀m,m<=ns.length->2*((aP ns m).length:Int)=m*(2*ns.length-m-1)
 |0,_=>by simp[aP]
 |m+1,h=>by
  have f:=qW (ns:=ns) m (by omega);rw[nC,xK,BL,Dt];have e:((ns.length-(m+1):Nat):Int)=ns.length-m-1:=by omega
  push_cast;rw[e,Int.mul_add,f]
  grind
section
variable{n p m:Nat}{ks:VP}{v:Int}
def u7(w:g_ n ks){l S:VN}(nd:S.Nodup)(B:∀x,(x∈l/\Td ks v x)↔x∈S)(no:∀x∈S,∀y∈S,¬Td ks x y):2*((aO l v ks).length:Int)=S.length*(S.length-1):=by
 obtain⟨f,_,_⟩:=dw w;have i:∀x,x∈qr l v ks↔x∈S:=λx=>by
  unfold qr;rw[p_,cY w,<-B,decide_eq_true_eq,and_comm]
 have len:=((GC (f.imp λh=>by ext) nd).mpr i).length_eq;have e:aO l v ks=aP (qr l v ks) (qr l v ks).length:=by
  unfold aO;rw[List.filter_eq_self];intro k j;obtain⟨a,b,rfl,_⟩:=dy f (dw w).2.1 k j;obtain⟨r,u,_⟩:=(de f).mp j
  have:=no a ((i a).mp r) b ((i b).mp u)
  simp only[DK,decide_eq_false_iff_not];exact λz=>this (.inl z)
 rw[e,qW _ (ii _),len];congr 1;ext
structure Sd(n p m:Nat)(ks:VP):Prop where
 w:g_ n ks
 en:n=p+m
 p1:1<=p
 pm:p<=m
 td:∀x y:Int,Td ks x y↔(0<=x/\x<(p:Int)/\(p:Int)<=y/\y<(n:Int))\/(0<=y/\y<(p:Int)/\(p:Int)<=x/\x<(n:Int))
def cR(p m:Nat):VN:=(List.range m).map λi:Nat=>(p:Int)+(i:Int)
def dS:x∈cR p m↔(p:Int)<=x/\x<(p:Int)+m:=by
 unfold cR;rw[ml];constructor
 .rintro⟨i,f,rfl⟩
  have:=w5.mp f
  ext
 .rintro⟨j,l⟩;exact⟨(x-p).toNat,w5.mpr (by ext),by ext⟩
def qv:(cR p m).Nodup:=DL.mpr (Mb.imp λh e=>h (by ext))
def uK:(cR p m).length=m:=by simp[cR]
def oP(s:Sd n p m ks){l:VN}(j:∀x,x∈l↔x∈b_ n):(v∈cR p m->2*((aO l v ks).length:Int)=p*(p-1))/\(v∈b_ p->2*((aO l v ks).length:Int)=m*(m-1)):=by
 have e:=s.en;constructor
 .intro hv;have hv:=dS.mp hv
  have:=u7 (v:=v) s.w (br p) (λx=>by
   rw[j,ah,ah,s.td];omega) (λx f y i=>by
   rw[ah]at f i;rw[s.td];omega)
  simpa [b_]using this
 .intro hv;have hv:=ah.mp hv
  have:=u7 (v:=v) s.w (qv (p:=p) (m:=m)) (λx=>by
   rw[j,ah,dS,s.td];omega) (λx f y i=>by
   rw[dS]at f i;rw[s.td];omega)
  rwa [uK]at this
def ss:∀(l:VN)(ks:VP),g_ n ks->l.Nodup->(∀x∈l,(p:Int)<=x)->(∀x∈b_ p,∀y∈b_ p,x≠y->Td ks x y)->(∀x y,Td ks x y->x<(p:Int)\/y<(p:Int))->aH ks (l++b_ p)=0
 |[],ks,w,_,_,cl,_=>gM _ ks w (br p) cl
 |v::l,ks,w,nd,r,cl,no=>by
  have hv:=r v t3;have i:∀x,Td ks v x->x∈b_ p:=λx t=>ah.mpr (by have:=no v x t;have:=(iC w t).2.2;ext);have e1:aO (v::(l++b_ p)) v ks=[]:=O8.mpr λk u=>by
   obtain⟨a,b,rfl,_⟩:=cg w k u;obtain⟨lt,_,_,B,tb,C⟩:=(aV w).mp u
   grind
  rw[List.cons_append,aH,e1,Ln,vw];refine ss l _ (bW w) (B_.mp nd).2 (λx f=>r x (m_ _ f)) (λx f y j ne=>(cD w).mpr (.inl ⟨cl x f y j ne,?_,?_⟩)) λx y t=>?_
  .rintro rfl;have:=ah.mp f;ext
  .rintro rfl;have:=ah.mp j;ext
  .rcases (cD w).mp t with⟨t,_⟩|⟨_,_,_,z,_⟩
   .exact no x y t
   .have:=ah.mp (i x z);ext
def Bt(s:Sd n p m ks):2*lsN n ks=p*(p-1):=by
 obtain⟨⟨C,u,eq⟩,E⟩:=jA s.w;have en:=s.en;have p1:=s.p1;have pm:=s.pm;have lo:(p:Int)*(p-1)<=2*lsN n ks:=by
  cases C with
  |nil=>have:=u.length_eq;simp[b_]at this;ext
  |cons v r =>
   obtain⟨B,F⟩:=oP (v:=v) s (l:=v::r) λx=>u.mem_iff;have hv:=ah.mp (u.mem_iff.mp (t3 (a:=v) (l:=r)));rw[<-eq,aH];by_cases z:v<(p:Int)
   .have:=F (ah.mpr ⟨hv.1,z⟩)
    have:(p:Int)*(p-1)<=m*(m-1):=Int.mul_le_mul (by ext) (by ext) (by ext) (by ext)
    ext
   .have:=B (dS.mpr ⟨by ext,by ext⟩)
    ext
 have L:2*lsN n ks<=(p:Int)*(p-1):=by
  have em:cR p m=(p:Int)::cR (p+1) (m-1):=by unfold cR;rw[show m=(m-1)+1 by ext,TW,qw,wc];refine congrArg (List.cons (p:Int)) (Dp λi _=>?_);simp only[Function.comp_apply];ext
  have nd:(cR p m++b_ p).Nodup:=CJ.mpr ⟨qv,br p,λx f y j e=>by
   have:=dS.mp f;have:=ah.mp j;ext⟩
  have po:(cR p m++b_ p).Perm (b_ n):=iL nd (λx f=>ah.mpr (by
   rcases nq.mp f with h|h
   .have:=dS.mp h;ext
   .have:=ah.mp h;ext)) (by rw[xK,uK];simp[b_];ext)
  have H:=E _ po;have B:=(oP (v:=(p:Int)) s (l:=cR p m++b_ p) λx=>po.mem_iff).1 (dS.mpr ⟨by ext,by ext⟩);have z:aH (cQ (cR p m++b_ p) (p:Int) ks) (cR (p+1) (m-1)++b_ p)=0:=by
   refine ss _ _ (bW s.w) qv (λx f=>by have:=dS.mp f;ext) (λx f y j ne=>(cD s.w).mpr (.inr ⟨ne,oI _ f,oI _ j,?_,?_⟩)) λx y t=>?_
   .have:=ah.mp f;rw[s.td];ext
   .have:=ah.mp j;rw[s.td];ext
   .rcases (cD s.w).mp t with⟨t,_⟩|⟨_,_,_,G,_⟩
    .have:=(s.td x y).mp t;ext
    .have:=(s.td (p:Int) x).mp G;ext
  have e:aH ks (cR p m++b_ p)=(aO (cR p m++b_ p) (p:Int) ks).length+aH (cQ (cR p m++b_ p) (p:Int) ks) (cR (p+1) (m-1)++b_ p):=by rw[em];rfl
  ext
 ext
end
structure Tp(t:Int)(ks li:VP)(r:VN):Prop where
 td:∀x y,x≠t->y≠t->(Td li x y↔Td ks x y)
 no:∀x y,Td ks x y->x≠t
 al:∀x∈r,x≠t->Td li t x
section
variable{n:Nat}{t:Int}
def Tp.step(w:g_ n ks)(z:g_ n li)(f:Tp t ks li (v::r))(j:v≠t)(B:v∉r)(h:∀x,x≠t->(x∈l'↔x∈l))(E:∀x∈v::r,x∈l')(C:t∈l'):Tp t (cQ l v ks) (cQ l' v li) r:=by
 refine⟨λx y i u=>?_,λx y h=>?_,λx i ne=>?_⟩
 .rw[cD w,cD z,f.td x y i u,f.td v x j i,f.td v y j u,h x i,h y u]
 .rcases (cD w).mp h with⟨h,_⟩|⟨_,_,_,h,_⟩
  .exact f.no x y h
  .exact f.no x v h.symm
 .have:=f.al x (m_ _ i) ne
  exact(cD z).mpr (.inl ⟨this,Ne.symm j,λe=>B (e▸i)⟩)
def AJ:∀(E:VN)(l li:VP),g_ n l->g_ n li->(E++[t]).Nodup->Tp t l li E->aH li (E++[t])=aH l E
 |[],l,li,w,j,nd,f=>gM [t] li j (by simp) λx u y P ne=>absurd ((CT.mp u).trans (CT.mp P).symm) ne
 |v::r,l,li,w,j,nd,f=>by
  obtain⟨G,L⟩:=B_.mp nd;have z:v≠t:=λe=>G (by simp[e]);have O:=λh=>G (s_ _ h);have i:∀x,x≠t->(x∈v::(r++[t])↔x∈v::r):=λx u=>by simp[u]
  have e1:(aO (v::(r++[t])) v li).length=(aO (v::r) v l).length:=by
   refine((GC (jF j) (jF w)).mpr λk=>?_).length_eq;constructor
   .intro B;obtain⟨a,b,rfl,_⟩:=cg j k B;obtain⟨lt,F,mb,C,tb,no⟩:=(aV j).mp B;have na:a≠t:=λe=>by
     have H:b≠t:=by ext
     exact no (e▸f.al b ((i b H).mp mb) H)
    have nb:b≠t:=λe=>no (e▸(f.al a ((i a na).mp F) na).symm);exact(aV w).mpr ⟨lt,(i a na).mp F,(i b nb).mp mb,(f.td v a z na).mp C,(f.td v b z nb).mp tb,λh=>no ((f.td a b na nb).mpr h)⟩
   .intro B;obtain⟨a,b,rfl,_⟩:=cg w k B;obtain⟨lt,F,mb,C,tb,no⟩:=(aV w).mp B;have na:=f.no a v C.symm;have nb:=f.no b v tb.symm;exact(aV j).mpr ⟨lt,(i a na).mpr F,(i b nb).mpr mb,(f.td v a z na).mpr C,(f.td v b z nb).mpr tb,λh=>no ((f.td a b na nb).mp h)⟩
  rw[List.cons_append,aH,aH,e1,AJ r _ _ (bW w) (bW j) L (f.step w j z O i (λx u=>(lb.mp u).elim (λe=>e▸t3) λh=>m_ _ (s_ _ h)) (by simp))]
def zJ:∀(B:VN)(u li:VP),g_ n u->g_ n li->B.Nodup->t∈B->Tp t u li B->aH u (B.erase t)<=aH li B
 |v::r,u,li,w,j,nd,E,f=>by
  obtain⟨R,L⟩:=B_.mp nd;by_cases z:v=t
  .subst z;rw[List.erase_cons_head,aH];have H:=bW (left:=v::r) (v:=v) j;have sub:∀k∈u,k∈cQ (v::r) v li:=λk i=>by
    obtain⟨a,b,rfl,_,lt,_⟩:=w.tie k i;have na:=f.no a b (.inl i);have nb:=f.no b a (.inr i);exact nZ H lt ((cD j).mpr (.inl ⟨(f.td a b na nb).mpr (.inl i),na,nb⟩))
   have g:=jq r w H sub;rw[pQ j]at g;have W:(CH v li).length<=u.length:=List.Nodup.length_le_of_subset (j.nd.filter _) λk i=>by
    obtain⟨G,C⟩:=p_.mp i;obtain⟨a,b,rfl,_,lt,_⟩:=j.tie k G;have C:v≠a/\v≠b:=by simpa using C
    exact nZ w lt ((f.td a b (Ne.symm C.1) (Ne.symm C.2)).mp (.inl G))
   ext
  .have P:=(lb.mp E).resolve_left (Ne.symm z);have Q:(v::r).erase t=v::r.erase t:=by rw[List.erase_cons_tail (by simp[z])]
   have l:∀x,x≠t->(x∈v::r↔x∈v::r.erase t):=λx O=>by simp[List.mem_erase_of_ne O]
   have le:=List.Nodup.length_le_of_subset (jF w) λk i=>by
    obtain⟨a,b,rfl,_⟩:=cg w k i;obtain⟨lt,S,mb,F,tb,no⟩:=(aV w).mp i;have na:=f.no a v F.symm;have nb:=f.no b v tb.symm;exact(aV j).mpr ⟨lt,(l a na).mpr S,(l b nb).mpr mb,(f.td v a z na).mpr F,(f.td v b z nb).mpr tb,λh=>no ((f.td a b na nb).mp h)⟩
   have U:=zJ r (cQ (v::r.erase t) v u) (cQ (v::r) v li) (bW w) (bW j) L P (f.step w j z R l (λ_ h=>h) E);rw[Q,aH,aH];ext
end
def K5{n:Nat}{f:VP}(j:n+1<=12)(w:g_ n f):g_ ((n+1:Nat):Int) f :=
 ⟨by ext,by ext,λk i=>by obtain⟨a,b,e,h⟩:=w.tie k i;exact⟨a,b,e,by ext⟩,w.ris,w.nd⟩
def K6{n:Nat}{i li:VP}(R:n+1<=12)(w:g_ n i)(B:g_ ((n+1:Nat):Int) li)(td:∀x y,Td li x y↔Td i x y\/(x∈b_ n/\y=(n:Int))\/(y∈b_ n/\x=(n:Int))):lsN (n+1) li=lsN n i:=by
 have L:=K5 R w;obtain⟨⟨l,u,eq⟩,P⟩:=jA w;obtain⟨⟨z,pt,W⟩,mt⟩:=jA B;have no:∀x y,Td i x y->x≠(n:Int):=λx y h=>by have:=(iC w h).2.1;ext
 have j:∀{r:VN},(∀x∈r,x∈b_ (n+1))->Tp (n:Int) i li r:=λ{r} Q=>⟨λx y f C=>by
   rw[td]
   exact⟨λh=>h.elim id λh=>(h.elim (λh=>C h.2) λh=>f h.2).elim,.inl⟩,no,λx f ne=>(td _ _).mpr (.inr (.inr ⟨ah.mpr (by have:=ah.mp (Q x f);ext),rfl⟩))⟩
 have G:(l++[(n:Int)]).Nodup:=CJ.mpr ⟨u.symm.nodup (br n),by simp,λx f y C e=>by
  have:=ah.mp (u.mem_iff.mp f);rw[CT.mp C]at e;ext⟩
 have H:∀x∈l,x∈b_ (n+1):=λx f=>ah.mpr (by have:=ah.mp (u.mem_iff.mp f);ext);have O:=mt (l++[(n:Int)]) (iL G (λx f=>(nq.mp f).elim (H x) λh=>by rw[CT.mp h];exact ah.mpr (by ext)) (by have:=u.length_eq;simp[b_]at this ⊢;ext));rw[AJ l i li L B G (j H)]at O;have F:(n:Int)∈z:=pt.mem_iff.mpr (ah.mpr (by ext));have E:=pt.symm.nodup (br (n+1));have S:=zJ z i li L B E F (j λx f=>pt.mem_iff.mp f)
 have U:=P (z.erase (n:Int)) (iL (E.erase _) (λx f=>by
  have h:=ah.mp (pt.mem_iff.mp (T7 f))
  have:x≠(n:Int):=λe=>(List.Nodup.not_mem_erase E) (e▸f)
  exact ah.mpr (by ext)) (by rw[QL F,pt.length_eq];simp[b_]))
 ext
def tR:∀(l:VP),ql (l.map kD)=I
 |[]=>rfl
 |k::l=>by
  have f:∀k:VN,ql (k.map .int)=I:=λk=>by
   induction k with
   |nil=>rfl
   |cons i k j=>simp[ql,flat,j]
  simp[ql,flat,tR l,kD,f]
def AU(o:Ord n O)(w:g_ n ks):bQ.p [aj n ks,.lst (O.map .int)] s=.ok (aj n (jt O ks)) s:=by
 have C:=gL w.n12 w.tie w.nd;unfold bQ;rw[bz (by rfl)];unfold iu;rw[show qb 2 [aj n ks,.lst (O.map .int)]=[J (aj n ks),J (.lst (O.map .int))]from rfl];have u:jj.p (aj n ks) (.int 0)=J (.int (n:Int)):=rfl
 have q:=kJ (ws:=[]) (ws':=[]) (env:=[J (aj n ks),J (.lst (O.map .int))]) (s:=s) (fm:=[1]) (i:=aY (ae jj (ac 0) (xC (.int 1)))) (t:=ix) (e:=aI (aa (ae jj (ac 2) (ac 0)) (aa (ae jj (ac 2) (ac 1)) a_))) (ds:=ks.map kD) (λ_=>I) (λx=>match eP x with|some k=>kD (k.map (dA O))|none=>.non) (by simp[aj]) (by simp;ext) (λx r=>by
  obtain⟨k,B,rfl⟩:=ml.mp r;obtain⟨a,b,rfl,f,lt,z⟩:=w.tie k B;have j:=(iS o (ah.mpr ⟨f,by ext⟩)).1;have l:=(iS o (ah.mpr ⟨by ext,z⟩)).1;obtain⟨a,rfl⟩:=cF f;obtain⟨b,rfl⟩:=cF (i:=b) (by ext);rw[yT]at j l;refine⟨.int (a:Int),.int (b:Int),rfl,rfl,λ_=>?_⟩;rw[iG];simp[jR j,jR l]
  simp[dA,kD])
 rw[c6,wc]at q;have e:ks.map ((λx=>match eP x with|some k=>kD (k.map (dA O))|none=>.non)∘kD)=(ks.map λk=>k.map (dA O)).map kD:=by rw[wc];exact Dp λk _=>by simp[iG]
 rw[e]at q;have mk:=jO (d:=.lst ((ks.map λk=>k.map (dA O)).map kD)) (s:=s) rfl o.n12 (pS o w) (by simp;ext);rw[dJ,bB,aD,b7];simp only[bJ,Pb,hZ,dE,u,Pf];rw[aD,q];simp only[Pb,cm,mk];rfl
def cM(p m:Nat)(j:Nat):VP:=(List.range j).flatMap λa:Nat=>(List.range m).map λb:Nat=>[(a:Int),(p:Int)+(b:Int)]
def lr:∀k∈cM p m p,IsT ((p+m:Nat):Int) k:=λk f=>by
 obtain⟨a,j,f⟩:=Ll.mp f;obtain⟨b,i,rfl⟩:=ml.mp f
 have:=w5.mp j
 have:=w5.mp i
 exact⟨_,_,rfl,by ext,by ext,by ext,by ext,by ext⟩
def rj:∀j,(cM p m j).length=j*m
 |0=>by simp[cM]
 |j+1=>by
  have f:=rj (p:=p) (m:=m) j;unfold cM at f ⊢;rw[Pt,List.flatMap_append,xK,f];simp[Nat.add_mul]
def K7(p m:Nat):VP:=bu (SetT.k_ ((cM p m p).map o_))
def K8(p1:1<=p)(pm:p<=m)(r:p+m<=12):Sd (p+m) p m (K7 p m):=by
 refine⟨cW (by ext) (by ext) (dW lr),rfl,p1,pm,λx y=>?_⟩;have one:∀x y:Int,[x,y]∈cM p m p↔0<=x/\x<(p:Int)/\(p:Int)<=y/\y<((p+m:Nat):Int):=λx y=>by
  unfold cM;rw[Ll];constructor
  .grind
  .rintro⟨i,l,f,j⟩
   exact⟨x.toNat,w5.mpr (by ext),ml.mpr ⟨(y-p).toNat,w5.mpr (by ext),by
    rw[show((x.toNat:Nat):Int)=x by ext,show(p:Int)+(((y-p).toNat:Nat):Int)=y by ext]⟩⟩
 unfold K7;rw[mL lr,one,one]
def Bq{p m:Nat}{s:iw}(G:p+m<=12):eD.p [.int (p:Int),.int (m:Int)] s=.ok (aj ((p+m:Nat):Int) (K7 p m)) s:=by
 have P:∀{x y:D}{s:iw},(if [x,y].length<=100000 then PR.ok (D.tup [x,y]) s else .bad)=.ok (.tup [x,y]) s:=λ{x y s}=>c_ (by simp);have r:∀j,j<=p->(cM p m j).length<=144:=λj E=>by
  rw[rj];exact o0 (Nat.mul_le_mul (show j<=12 by ext) (show m<=12 by ext)) (by decide)
 obtain⟨u,f,e,z,rfl,C⟩:=gq (g:=(i_ 3:Xg [2]).p) (b:=(w4 i3 2 (aa (aG 1 [3,0] (bL v2 (aa (ac 1) a_)) (ws':=[]) (i_ 0) ix (aI (aa (ac 1) (aa (ae aK (ac 2) (ac 0)) a_)))) a_):Xd [2]).p)
  (λj env f=>∃z,env=[J (.int (p:Int)),J (.int (m:Int)),J (.lst ((cM p m j).map kD)),z]/\f=s) (cP 0 p) 0 [J (.int (p:Int)),J (.int (m:Int)),J (.lst []),Y] s ⟨Y,rfl,rfl⟩ (λj env f d ⟨z,l,L⟩ hd=>by
   rw[vw]at l ⊢;subst l L;obtain⟨rfl,E⟩:=m5 hd
   have c:=fk (ws:=[2]) (ws':=[]) (env:=[J (.int (p:Int)),J (.int (m:Int)),J (.lst ((cM p m j).map kD)),J (.int (j:Int))]) (s:=f) (fm:=[3,0]) (i:=bL v2 (aa (ac 1) a_)) (t:=ix) (e:=aI (aa (ac 1) (aa (ae aK (ac 2) (ac 0)) a_))) (λ_=>I) (λx=>match x with|.int b=>kD [(j:Int),(p:Int)+b]|_=>.non) (by
     simp
     rw[jb (by ext),yT,Pf]) (by rw[dj];ext) (λx F=>by
     obtain⟨b,rfl,_,_⟩:=ko F;refine⟨rfl,λ_=>?_⟩
     rfl)
   have B:((cP 0 m).filter λ_=>I).map (λx=>match x with|.int b=>kD [(j:Int),(p:Int)+b]|_=>.non)=((List.range m).map λb:Nat=>[(j:Int),(p:Int)+(b:Int)]).map kD:=by rw[c6];unfold cP;rw[wc,wc];exact Dp λb _=>by simp
   rw[B]at c;have H:cM p m (j+1)=cM p m j++(List.range m).map λb:Nat=>[(j:Int),(p:Int)+(b:Int)]:=by unfold cM;rw[Pt];simp
   have O:=r j (by ext);refine⟨[J (.int (p:Int)),J (.int (m:Int)),J (.lst ((cM p m j).map kD)),J (.int (j:Int))],_,f,rfl,?_,J (.int (j:Int)),rfl,rfl⟩;rw[H,Hx]
   exact fB (by rw[aD,c];rfl) rfl (by
    rw[gO (by simp;ext)]))
 rw[dj,vw,C]at e;have mk:=jO (d:=.lst ((cM p m p).map kD)) (s:=s) rfl G lr (by have:=r p (ii p);ext);unfold eD;rw[bz (by rfl)];unfold im;rw[show qb 4 [D.int (p:Int),.int (m:Int)]=[J (.int (p:Int)),J (.int (m:Int)),Y,Y]from rfl,aA,pR];simp;rw[jb (by ext),yT,Pf,Pg,e,PU.aq,dJ,FV,aD,b7];simp;rw[show(p:Int)+(m:Int)=((p+m:Nat):Int) by ext,mk,Pb,c_ (by simp[aj,FO,flat,ql,tR])];rfl
def ww(l:2<=L.length):[x,y]∈bg L↔Nx L x y:=by
 have at':∀k (h:k<L.length),L.getD k 0=L[k]:=λk h=>by simp[List.getD,h]
 constructor
 .intro h;obtain⟨k,f,e⟩:=ml.mp h;rw[w5]at f;injection e with e1 e
  injection e with e2 _
  by_cases z:k=0
  .subst z;rw[c_ rfl,at' _ (by omega)]at e1;rw[at' _ f]at e2;obtain⟨c,d,M,rfl⟩:∃c d M,L=c::d::M:=by
    match L,l with
    |c::d::M,_=>exact⟨c,d,M,rfl⟩
   right;refine⟨(d::M).dropLast,?_⟩
   have:(d::M).getLast (by simp)=x:=by rw[<-e1,List.getLast_eq_getElem];simp
   rw[<-this,TN];rw[<-e2];rfl
  .rw[f_ z,at' _ (by omega)]at e1;rw[at' _ f]at e2;left;refine⟨L.take (k-1),L.drop (k+1),?_⟩;have i:L.drop (k-1)=L[k-1]::L.drop (k-1+1):=Hm (by omega);have j:L.drop k=L[k]::L.drop (k+1):=Hm f;rw[show k-1+1=k by omega,j,e1,e2]at i;rw[<-i,DZ]
 .rintro (⟨A,B,rfl⟩|⟨M,rfl⟩)
  .exact ml.mpr ⟨A.length+1,w5.mpr (by simp),by simp[List.getD]⟩
  .exact ml.mpr ⟨0,w5.mpr (by simp),by simp[List.getD]⟩
def zD{n:Nat}{L M:VN}(B:n<=12)(pm:(L++M).Perm (b_ n))(u:2<=L.length)(f:M=[]\/2<=M.length):(∀k∈bg L++bg M,IsT n k)->lsN n (bu (SetT.k_ ((bg L++bg M).map o_)))=((L.length-3:Nat):Int)+((M.length-3:Nat):Int):=λj=>by
 have w:=cW (by ext) (by ext) (dW j);obtain⟨⟨r,z,eq⟩,_⟩:=jA w;have nd:=pm.symm.nodup (br n);have nx:∀x y,[x,y]∈bg L++bg M↔Nx L x y\/Nx M x y:=λx y=>by
  rw[nq,ww u];rcases f with rfl|f
  .refine or_congr Iff.rfl ⟨λh=>by simp[bg]at h,λh=>?_⟩
   have:=h.mem.1;cases this
  .rw[ww f]
 have l:=(CJ.mp nd).1;have i:=(CJ.mp nd).2.1
 have g:=uu r L M _ w nd (λx y=>by
  rw[mL j,nx,nx];constructor
  .rintro ((h|h) | (h|h))
   .exact⟨h.ne l,.inl (.inl h)⟩
   .exact⟨h.ne i,.inr (.inl h)⟩
   .exact⟨(h.ne l).symm,.inl (.inr h)⟩
   .exact⟨(h.ne i).symm,.inr (.inr h)⟩
  .rintro⟨_,(h|h) | (h|h)⟩
   .exact .inl (.inl h)
   .exact .inr (.inl h)
   .exact .inl (.inr h)
   .exact .inr (.inr h)) (z.trans pm.symm)
 rw[<-eq,g];rfl
abbrev Tu:Xd []:=(bf 1 (ae aK (ae aK (xC (.int 3)) (ag aE (aa (ac 0) (aa (xC (.int 4)) a_)))) (ag aE (aa (ac 0) (aa (xC (.int 2)) a_)))))
abbrev Vc:Xd []:=(ul (xB (ae BV (ae jj (ag cw (aa (ag bQ (aa (ag bF (aa (ac 1) (aa (ag bM (aa (qo NW (aa (ac 1) a_)) a_)) a_))) (aa (ag bN (aa (ac 0) (aa (ac 1) a_))) a_))) a_)) (xC (.int 0))) (ae bO (ac 1) (xC (.int 3))))) (bo (xC (.bl T))) i0)
abbrev Tv:Xd []:=(bf 2 (ae aK (xC (.int 1)) (ag aE (aa (ac 0) (aa (xC (.int 3)) a_)))))
abbrev Tw:Xd []:=(bf 3 (ae aK (ae aK (ac 2) (ag aE (aa (ac 0) (aa (ae bO (xC (.int 7)) (ae nO (xC (.int 2)) (ac 2))) a_)))) (ag aE (aa (ac 0) (aa (xC (.int 2)) a_)))))
abbrev Vd:Xd []:=(ul (xB (ae BV (ae jj (ag cw (aa (ag bQ (aa (ag eD (aa (ac 2) (aa (ac 3) a_))) (aa (ag bN (aa (ac 0) (aa (ae aK (ac 2) (ac 3)) a_))) a_))) a_)) (xC (.int 0))) (ae Qq (ae nO (ac 2) (ae bO (ac 2) (xC (.int 1)))) (xC (.int 2))))) (bo (xC (.bl T))) i0)
abbrev Tx:Xd []:=(bf 4 (ae aK (xC (.int 3)) (ag aE (aa (ac 0) (aa (xC (.int 2)) a_)))))
abbrev Tz:Xd []:=(bf 5 (ae aK (ag bM (aa (cU (aa (xC (.int 0)) (aa (xC (.int 1)) (aa (xC (.int 2)) a_)))) a_)) (ag bM (aa (qo ni (aa (xC (.int 3)) (aa (ae aK (xC (.int 3)) (ac 4)) a_))) a_))))
abbrev Ve:Xd []:=(bo (ae x3 (ae jj (ag cw (aa (ag bQ (aa (ag bF (aa (ae aK (xC (.int 3)) (ac 4)) (aa (ac 5) a_))) (aa (ag bN (aa (ac 0) (aa (ae aK (xC (.int 3)) (ac 4)) a_))) a_))) a_)) (xC (.int 0))) (ae bO (ac 4) (xC (.int 3)))))
def jn:Xd []:=(aB Tu (aB Vc (aB Tv (aB Tw (aB Vd (aB Tx (aB Tz Ve)))))))
def gS:Fn:=cr 6 1 jn
def K9(r:3<=m)(f:m<=12):(∀k∈bg (b_ m),IsT (m:Int) k)/\lsN m (bu (SetT.k_ ((bg (b_ m)).map o_)))=(m:Int)-3:=by
 have j:(b_ m).length=m:=by simp[b_]
 have g:Rg m (b_ m):=⟨br m,λx l=>ah.mp l,f,by ext⟩;have i:=fX g;refine⟨i,?_⟩
 have:=@zD m (b_ m) [] f (by rw[GK]) (by ext) (.inl rfl) (by simpa [bg]using i)
 have e:bg (b_ m)++bg []=bg (b_ m):=by simp[bg]
 rw[e,j]at this;rw[this];simp;ext
def vh{a pe b:Xe []}{env:av}{s s1:iw}{n:Nat}{f:VP}{h1 h2 h3}(w:g_ n f)(n7:n<=7)(l:a.p env s=.ok (aj n f) s1)(B:∀s,pe.p env s=.ok .pen s)(r:∀s,b.p env s=.ok (.int n) s):
  ∃i,(ae jj (ag cw (aa (ag bQ (aa a (aa (ag bN (aa pe (aa b a_)) h1) a_)) h2) a_) h3) (xC (.int 0)):Xe []).p env s=.ok (.int (lsN n f)) i:=by
 obtain⟨O,i,j,o⟩:=vP (n:=n) (s:=s1) (by ext);obtain⟨d,u⟩:=vN (s:=i) (wS o w) n7;refine⟨i,?_⟩;have z:jj.p (LU n (jt O f) d) (.int 0)=J (.int (lsN n (jt O f))):=rfl;simp[l,B,r,j,AU o w,u,z,K3 o w]
abbrev LV(o:Nat):VN:=(List.range o).map λi:Nat=>((3:Nat):Int)+(i:Int)
abbrev LW(o:Nat):VP:=bg [0,1,2]++bg (LV o)
abbrev kI(m:Nat):VD:=J (.int (m:Int))
abbrev kE(z1 z2 z3 z4 z5:VD):av:=[J .pen,z1,z2,z3,z4,z5]
def zj(f:-(2^64)<i/\i<2^64):nO.p (.int i) (.int j)=J (.int (i*j)):=by exact c_ (IntMulOk.of_left (PySem.intBits_le_64 f.1 f.2))
def OU(h:2*a=b):Qq.p (.int b) (.int 2)=J (.int a):=by
 have:(if(2:Int)≠0 then J (D.int (b.fdiv 2))else Y)=J (.int a):=by rw[c_ (by decide),<-h,Int.mul_fdiv_cancel_left a (by decide)]
 exact this
def sV(j:e.p env s=.ok (.int x) s1)(i:f.p env s1=.ok (.int x) s2):(ul (xB (ae BV e f)) (bo (xC (.bl T))) i0:Xd []).p env s=.nx env s2:=by simp_all
def Gr:∃s',gS.p [.pen] s=.ok (.bl I) s':=by
 unfold gS;rw[bz (by rfl)];unfold jn;rw[show qb 6 [D.pen]=kE Y Y Y Y Y from rfl];obtain⟨d1,s1,a0,a1,q1⟩:=b8 (s:=s) (size:=4) (by decide) (by decide);obtain⟨d2,B,b0,b1,q2⟩:=b8 (s:=s1) (size:=2) (by decide) (by decide);obtain⟨m,hm⟩:=cF (i:=3+d1+d2) (by ext);have S1:Tu.p (kE Y Y Y Y Y) s=.nx (kE (kI m) Y Y Y Y) B:=by simp[q1,q2,hm]
 obtain⟨R,e1⟩:=K9 (m:=m) (by ext) (by ext);have g1:Rg m (b_ m):=⟨br m,λx j=>ah.mp j,by ext,by simp[b_];ext⟩;have w1:g_ m (bu (SetT.k_ ((bg (b_ m)).map o_))):=cW (by ext) (by ext) (dW R)
 obtain⟨C,Q⟩:=vh (a:=ag bF (aa (ac 1) (aa (ag bM (aa (qo NW (aa (ac 1) a_)) a_)) a_))) (pe:=ac 0) (b:=ac 1) (env:=kE (kI m) Y Y Y Y) (s:=B) (s1:=B) (h1:=rfl) (h2:=rfl) (h3:=rfl) w1 (by ext) (by
  have mk:=jO (d:=.lst ((bg (b_ m)).map kD)) (s:=B) (n:=m) rfl (by ext) R (by simp[bg,b_];ext);simp;rw[G_ (by ext),yT,rq]
  simp[mH g1,mk]) (λ_=>rfl) λ_=>rfl
 rw[e1]at Q;have S2:=sV (f:=ae bO (ac 1) (xC (.int 3))) (s2:=C) Q (by simp);obtain⟨d3,E,ab,an,q3⟩:=b8 (s:=C) (size:=3) (by decide) (by decide);obtain⟨p,hp⟩:=cF (i:=1+d3) (by ext);have S3:Tv.p (kE (kI m) Y Y Y Y) C=.nx (kE (kI m) (kI p) Y Y Y) E:=by simp[q3,hp]
 obtain⟨d4,s5,a4,b4,q4⟩:=b8 (s:=E) (size:=7-2*(p:Int)) (by ext) (by ext);obtain⟨d5,H,a5,b5,q5⟩:=b8 (s:=s5) (size:=2) (by decide) (by decide);obtain⟨u,hu⟩:=cF (i:=(p:Int)+d4+d5) (by ext);have mu:nO.p (.int 2) (.int (p:Int))=J (.int (2*(p:Int))):=zj (by decide);have S4:Tw.p (kE (kI m) (kI p) Y Y Y) E=.nx (kE (kI m) (kI p) (kI u) Y Y) H:=by simp[mu,q4,q5,hu]
 have P:=K8 (p:=p) (m:=u) (by ext) (by ext) (by ext);have ap:((p:Int)+(u:Int))=((p+u:Nat):Int):=by ext
 obtain⟨F,c2⟩:=vh (a:=ag eD (aa (ac 2) (aa (ac 3) a_))) (pe:=ac 0) (b:=ae aK (ac 2) (ac 3)) (env:=kE (kI m) (kI p) (kI u) Y Y) (s:=H) (s1:=H) (n:=p+u) (h1:=rfl) (h2:=rfl) (h3:=rfl) P.w (by ext) (by
  simp[Bq (p:=p) (m:=u) (show p+u<=12 by ext)]) (λ_=>rfl) λ_=>by simp
 have W:=sV (f:=ae Qq (ae nO (ac 2) (ae bO (ac 2) (xC (.int 1)))) (xC (.int 2))) (s2:=F) c2 (by
  have L:nO.p (.int (p:Int)) (.int ((p:Int)-1))=J (.int ((p:Int)*((p:Int)-1))):=zj (by ext)
  simp[L,OU (Bt P)])
 obtain⟨d6,l,a6,b6,q6⟩:=b8 (s:=F) (size:=2) (by decide) (by decide);obtain⟨o,ho⟩:=cF (i:=3+d6) (by ext);have S6:Tx.p (kE (kI m) (kI p) (kI u) Y Y) F=.nx (kE (kI m) (kI p) (kI u) (kI o) Y) l:=by simp[q6,ho]
 have U:Rg (3+o) [0,1,2]:=⟨by decide,λx j=>by simp at j;ext,by ext,by simp⟩;have r:Rg (3+o) (LV o):=Ap (lo:=3) (by ext) (by ext) (by ext);have tA:=fX U;have tB:=fX r;have G:∀k∈LW o,IsT ((3+o:Nat):Int) k:=λk hk=>(nq.mp hk).elim (tA k) (tB k);have w2:g_ ((3+o:Nat):Int) (bu (SetT.k_ ((LW o).map o_))):=cW (by ext) (by ext) (dW G);have pl:(LW o).length<=20:=by simp[bg];ext
 have el:ni.p [.int 3,.int (3+(o:Int))]=J (.lst ((LV o).map .int)):=by rw[As ⟨⟨by ext,by ext⟩,by ext,by ext⟩,show((3:Int)+(o:Int)-3).toNat=o by ext,wc];rfl
 have l3:∀{x y z:D}{s:iw},(if [x,y,z].length<=100000 then PR.ok (D.lst [x,y,z]) s else .bad)=.ok (.lst [x,y,z]) s:=λ{x y z s}=>c_ (by simp);have rA:∀s,bM.p [.lst [.int 0,.int 1,.int 2]] s=.ok (.lst ((bg [0,1,2]).map kD)) s:=λs=>mH U;have S7:Tz.p (kE (kI m) (kI p) (kI u) (kI o) Y) l=.nx (kE (kI m) (kI p) (kI u) (kI o) (J (.lst ((LW o).map kD)))) l:=by simp![bS,b7,bB,aD,ut,hZ,dE,cm,l3,rA,jf,gc,Pf,el,mH (rs:=LV o) r];rw[fA (by rw[xK]at pl;simp;ext)];rw[Hx];rfl
 have O:(3:Int)+(o:Int)=((3+o:Nat):Int):=by ext
 obtain⟨s9,S⟩:=vh (a:=ag bF (aa (ae aK (xC (.int 3)) (ac 4)) (aa (ac 5) a_))) (pe:=ac 0) (b:=ae aK (xC (.int 3)) (ac 4)) (env:=kE (kI m) (kI p) (kI u) (kI o) (J (.lst ((LW o).map kD)))) (s:=l) (s1:=l) (n:=3+o) (h1:=rfl) (h2:=rfl) (h3:=rfl) w2 (by ext) (by
  have mk:=jO (d:=.lst ((LW o).map kD)) (s:=l) (n:=3+o) rfl (by ext) G (by ext);rw[<-O]at mk;simp![bB,aD,b7,hZ,dE,gc,Pf,cm,mk]
  rw[O]) (λ_=>rfl) λ_=>by
   simp![b7,hZ,dE,gc,Pf,O]
 have lA:([0,1,2]++LV o:VN).Perm (b_ (3+o)):=by
  refine iL (CJ.mpr ⟨by decide,r.nd,λx j y Z e=>?_⟩) (λx j=>ah.mpr ?_) (by simp;ext)
  .simp at j;obtain⟨i,_,rfl⟩:=ml.mp Z;ext
  .rcases nq.mp j with h|h
   .simp at h;ext
   .exact r.bd x h
 have X:=@zD (3+o) [0,1,2] (LV o) (by ext) lA (by simp) (.inr (by simp;ext)) G;rw[X]at S;refine⟨s9,?_⟩;rw[aA,S1,PU.aq,aA,S2,PU.aq,aA,S3,PU.aq,aA,S4,PU.aq,aA,W,PU.aq,aA,S6,PU.aq,aA,S7,PU.aq,dJ,b7,S,Pb];simp![b7,hZ,dE,we,Pf,Ha,zQ];simp;ext
def n9:l_:=(aL (bG 1 (mC .non))
 (aL (uQ ["TooMany"] 1 2 (km (bT cw.m (ai (af 0) h_))))
 (aL (CK (PK (uM (mB (Dg (bR ["TooMany"] ["TooMany"]) (af 1)))) (uM (mB (Dg (bR ["TooMany"] ["TooMany"]) (af 1))))) (b9 (mC (.bl T))) mm)
 (aL (CK (mB (Dg (bR ["TooMany"] ([]++([]++([]++([]++([]++[])))))) (af 1))) (b9 (mC (.bl T))) mm)
 (b9 (sU (Dg (bR ["TooMany"] ([]++([]++([]++([]++([]++[])))))) (af 1))))))))
def fU:VL->MH->VZ:=cC 3 1 n9
def zw(l:7<n):fU [bw n ks] h=.ok (.bl I) (h++[.exc ⟨"TooMany",[]⟩]):=by
 have st:bH 3 [bw n ks]=[J (bw n ks),Y,Y]:=rfl;have e1:km (bT cw.m (ai (af 0) h_)) [J (bw n ks),J .non,Y] h=.exc ⟨"TooMany",[]⟩ [J (bw n ks),J .non,Y] h:=by rw[Cr,kL,dz,show af 0 [J (bw n ks),J .non,Y] h=.ok (bw n ks) h from rfl,Out.bind_ok,jM,Out.bind_ok,Out.bind_ok,show cw.m=mj from rfl,xx l];rfl
 have j:∀f,Dg (bR ["TooMany"] f) (af 1) [J (bw n ks),J (.loc h.length),Y] (h++[.exc ⟨"TooMany",[]⟩])=.ok (.bl (f.contains "TooMany")) (h++[.exc ⟨"TooMany",[]⟩]):=λf=>by
  rw[IR,show af 1 [J (bw n ks),J (.loc h.length),Y] (h++[.exc ⟨"TooMany",[]⟩])=.ok (.loc h.length) (h++[.exc ⟨"TooMany",[]⟩])from rfl,Out.bind_ok,yN yC (by decide)];rfl
 refine(dM rfl).trans ?_;rw[st,n9,cB,jQ,yM,MM.aR,MM.aq,cB,E2];simp only[CU,CV,e1];rw[xN (by simp),MM.aq];have r:(["TooMany"]:VM).contains "TooMany"=I:=by decide
 have i:([]++([]++([]++([]++([]++[])))):VM).contains "TooMany"=T:=by decide
 simp only[CU,CV,cB,kT,IS,ES,GY,j,r,i,Out.bind_ok,GN,Mf,sf,if_false,MM.aR,nz,MM.aq,qC,AW];rfl
open Classical in
def dr:Fn where
 m:=fU
 p:=λj s=>if ∃(n:Int)(f:VP),j=[aj n f]/\7<n then .ok (.bl I) s else .bad
 fr:=T
 ok {q h O vs j s} bd hq pn r:=by
  by_cases i:∃(n:Int)(f:VP),j=[aj n f]/\7<n
  .rw[c_ i];obtain⟨n,f,rfl,l⟩:=i;obtain⟨v,t,rfl,a,u⟩:=r;rw[show t=[]from u,uV a];exact⟨.bl I,_,zw l,KB.app _ _ _,pn.app,rfl,λz=>by cases z⟩
  .rw[f_ i];trivial
def re{n:Int}{ks:VP}{s:iw}(l:7<n):dr.p [aj n ks] s=.ok (.bl I) s:=c_ ⟨n,ks,rfl,l⟩
abbrev QE:Xd []:=(ul (tf (xB (ag gS (aa (ac 1) a_)))) (bo (xC (.bl T))) i0)
abbrev QF:Xd []:=(bf 2 (ag iF (aa (ac 1) (aa (ae jj (cU (aa (xC (.int 3)) (aa (xC (.int 4)) (aa (xC (.int 5)) (aa (xC (.int 6)) a_))))) (ag aE (aa (ac 1) (aa (xC (.int 4)) a_)))) a_))))
abbrev Gs:Xd []:=(bf 3 (ae jj (ag cw (aa (ac 2) a_)) (xC (.int 0))))
abbrev TB:Xd []:=(ul (xB (ae BV (ae jj (ag cw (aa (ag bQ (aa (ac 2) (aa (ag bN (aa (ac 1) (aa (ae jj (ac 2) (xC (.int 0))) a_))) a_))) a_)) (xC (.int 0))) (ac 3))) (bo (xC (.bl T))) i0)
abbrev QG:Xd []:=(bf 4 (ag bF (aa (ae lW (ae jj (ac 2) (xC (.int 0))) (xC (.int 1))) (aa (ae lW (ae jj (ac 2) (xC (.int 1))) (qo gW (aa (aG 1 [2] (bL v2 (aa (ae jj (ac 2) (xC (.int 0))) a_)) (ws':=[]) (i_ 0) ix (aI (aa (ac 0) (aa (ae jj (ac 1) (xC (.int 0))) a_)))) a_))) a_))))
abbrev TC:Xd []:=(ul (xB (ae BV (ae jj (ag cw (aa (ag bQ (aa (ac 4) (aa (ag bN (aa (ac 1) (aa (ae jj (ac 4) (xC (.int 0))) a_))) a_))) a_)) (xC (.int 0))) (ac 3))) (bo (xC (.bl T))) i0)
abbrev TD:Xd []:=(bf 5 (ag iF (aa (ac 1) (aa (xC (.int 12)) a_))))
abbrev TF:Xd []:=(bf 6 (ae lW (xC (.int 8)) (ag aE (aa (ac 1) (aa (xC (.int 5)) a_)))))
abbrev TJ:Xd []:=(ul (xB (ae CQ (ae jj (ac 5) (xC (.int 0))) (xC (.int 8)))) (bf 5 (aI (aa (ac 6) (aa (ae jj (ac 5) (xC (.int 1))) a_)))) i0)
abbrev Vf:Xd []:=(bo (lN (ag dr (aa (ac 5) a_)) (ag dr (aa (aI (aa (ac 6) (aa (aI a_) a_))) a_))))
def DF:l_:=(aL (bG 1 (bT dL (ai (af 0) (ai (mC (.int 0)) h_)))) (aL QE.m (aL QF.m (aL Gs.m (aL TB.m (aL QG.m (aL TC.m (aL (bG 1 (bT dL (ai (af 0) (ai (mC (.int 1)) h_)))) (aL TD.m (aL TF.m (aL TJ.m Vf.m)))))))))))
def De:VL->MH->VZ:=cC 7 1 DF
def vW{ns:VN}{k:Nat}(f:k<ns.length):n5 (ns.map PV.int) (k:Int)=J (.int ns[k]):=L2.iD (by simp[f])
def tJ{h:MH}:qd (.int 10) (.int 18) h=.ok (.int (10^18)) h:=uo (by decide)
def BW{h:MH}:qd (.int 10) (.int 15) h=.ok (.int (10^15)) h:=uo (by decide)
def uy{h:MH}{ns:VN}{k:Nat}(hk:k<64):∃m c:Int,dL [.frl (ns.map .int),.int k] h=.ok (.loc h.length) (h++[.lst [.int m,.int c,.int 0]]):=by
 have E:∀{i:Int}{h:MH},j3 (.int 7919) (.int i) h=.ok (.int (7919*i)) h:=iH (by decide);have R:∀{i:Int}{h:MH},j3 (.int 48271) (.int i) h=.ok (.int (48271*i)) h:=iH (by decide);have U:∀{i:Int}{h:MH},j3 (.int 40009) (.int i) h=.ok (.int (40009*i)) h:=iH (by decide);have O:∀{a b c:PV}{h:MH},pr [a,b,c] h=.ok (.loc h.length) (h++[.lst [a,b,c]]):=oK (by simp)
 have fin:∀cell:Int,∃m c:Int,(aL (CK (mB (ar Dy (w_ Cm (ai (af 2) h_)) (ar qd (mC (.int 10)) (mC (.int 18))))) (b9 (fF (ai (mC (.int 1)) (ai (w_ Cm (ai (af 2) h_)) (ai (mC (.int 0)) h_))))) mm)
   (b9 (fF (ai (mC (.int 0)) (ai (ar j_ (ar mq (af 2) (mC (.int 2147483587))) (ar j3 (mC (.int 40009)) (af 1))) (ai (mC (.int 0)) h_)))))) [J (.frl (ns.map .int)),J (.int k),J (.int cell)] h=.rt (.loc h.length) (h++[.lst [.int m,.int c,.int 0]]):=λcell=>by
  by_cases z:(10:Int)^18<=(if cell<0 then -cell else cell)
  .exact⟨1,(if cell<0 then -cell else cell),by simp[tJ,O,z,-Int.reducePow]⟩
  .exact⟨0,cell.fmod 2147483587+40009*k,by simp[tJ,O,z,U,fV,-Int.reducePow]⟩
 have u:∀cell:Int,∃m c:Int,((aL (CK (mB (ar Dy (w_ Cm (ai (af 2) h_)) (ar qd (mC (.int 10)) (mC (.int 18))))) (b9 (fF (ai (mC (.int 1)) (ai (w_ Cm (ai (af 2) h_)) (ai (mC (.int 0)) h_))))) mm)
   (b9 (fF (ai (mC (.int 0)) (ai (ar j_ (ar mq (af 2) (mC (.int 2147483587))) (ar j3 (mC (.int 40009)) (af 1))) (ai (mC (.int 0)) h_)))))) [J (.frl (ns.map .int)),J (.int k),J (.int cell)] h).fin=.ok (.loc h.length) (h++[.lst [.int m,.int c,.int 0]]):=λcell=>by
  obtain⟨m,c,q⟩:=fin cell;exact⟨m,c,by rw[q];rfl⟩
 have j:∀cell:Int,(aL (bG 2 (ar j_ (ar j3 (mC (.int 7919)) (af 1)) (mC (.int 11))))
 (CK (mB (ar Dx (af 1) (w_ Cy (ai (w_ q7 (ai (af 0) h_)) (ai (mC (.int 63)) h_))))) (bG 2 (ar bC (af 0) (af 1))) (CK (mB (ar Cj (w_ q7 (ai (af 0) h_)) (mC (.int 0)))) (bG 2 (ar j_ (ar mq (ar bC (af 0) (ar mq (af 1) (w_ Cy (ai (w_ q7 (ai (af 0) h_)) (ai (mC (.int 63)) h_))))) (ar qd (mC (.int 10)) (mC (.int 15)))) (ar j3 (mC (.int 48271)) (af 1)))) mm))) [J (.frl (ns.map .int)),J (.int k),Y] h=.nx [J (.frl (ns.map .int)),J (.int k),J (.int cell)] h ->
   ∃m c:Int,cC 3 2 xy [.frl (ns.map .int),.int k] h=.ok (.loc h.length) (h++[.lst [.int m,.int c,.int 0]]):=λcell q=>by
  obtain⟨m,c,W⟩:=u cell;refine⟨m,c,(dM (by rfl)).trans ?_⟩;rw[<-W];unfold xy;simp only[cB]at q ⊢;have e0:bH 3 [PV.frl (ns.map .int),PV.int k]=[J (.frl (ns.map .int)),J (.int k),Y]:=rfl;rw[e0];generalize (bG 2 (ar j_ (ar j3 (mC (.int 7919)) (af 1)) (mC (.int 11)))) [J (.frl (ns.map .int)),J (.int k),Y] h=Q at q ⊢
  cases Q with
  |nx Z1 F =>
   simp only[MM.aq,cB]at q ⊢;rw[q];rfl
  |_=>cases q
 have r:∃f:Nat,(if(63:Int)<(ns.length:Int)then(63:Int)else(ns.length:Int))=(f:Int)/\f<=ns.length/\(0<ns.length->0<f):=by
  by_cases z:(63:Int)<(ns.length:Int)
  .exact⟨63,by rw[c_ z];rfl,by ext,by ext⟩
  .exact⟨ns.length,by rw[f_ z],by ext,by ext⟩
 obtain⟨f,C,G,l⟩:=r;by_cases F:k<f
 .refine j (ns[k]'(by ext)) ?_;simp[E,C,F,vW (show k<ns.length by ext)]
 .by_cases B:0<ns.length
  .have H:(f:Int)≠0:=by have:=l B;ext
   have L:k % f<ns.length:=pq (Nat.mod_lt _ (l B)) G;have S:(k:Int).fmod (f:Int)=((k % f:Nat):Int):=by rw[QJ _ (by ext)];rfl
   refine j ((ns[k % f]'L).fmod (10^15)+48271*k) ?_;have X:((10:Int)^15)≠0:=by decide
   have P:=vW L;rw[Int.natCast_emod]at P;simp[E,C,F,B,fV H,S,P,BW,fV X,R,-Int.reducePow]
  .have Z:ns=[]:=DX.mp (by ext);refine j (7919*k+11) ?_;have z:¬((k:Int)<(f:Int)):=by ext
   simp[E,C,z,B]
def KS(Z:mh)(o:SOut):Prop:=match o with
 |.nx f _=>f.length=Z.length/\f[0]?=Z[0]?
 |.bk f _=>f.length=Z.length/\f[0]?=Z[0]?
 |.ct f _=>f.length=Z.length/\f[0]?=Z[0]?
 |_=>True
def KS.of{Z f:mh}{o:SOut}(h:f.length=Z.length/\f[0]?=Z[0]?)(k:KS f o):KS Z o:=by
 cases o with
 |nx a b=>exact⟨k.1.trans h.1,k.2.trans h.2⟩
 |bk a b=>exact⟨k.1.trans h.1,k.2.trans h.2⟩
 |ct a b=>exact⟨k.1.trans h.1,k.2.trans h.2⟩
 |_=>trivial
def K0(m:l_):Prop:=∀Z h,KS Z (m Z h)
def K_:K0 mm:=λZ h=>⟨rfl,rfl⟩
def OV{α:Type}{m:Mx α}{k:α->l_}(f:∀v,K0 (k v)):K0 (yi m k):=λZ h=>by
 unfold yi
 cases m Z h with
 |ok v i=>exact f v Z i
 |_=>trivial
def OW{m:Mx PV}:K0 (b9 m):=λZ h=>by
 unfold b9
 cases m Z h with
 |ok v f=>trivial
 |_=>trivial
def OX{i:Nat}{v:PV}{Z:mh}(h:i≠0):(Z.set i (J v)).length=Z.length/\(Z.set i (J v))[0]?=Z[0]?:=⟨by simp,pc h⟩
def OY{i:Nat}{m:Mx PV}(h:i≠0):K0 (bG i m):=OV λv Z f=>OX h
def OZ{a b:l_}(l:K0 a)(j:K0 b):K0 (aL a b):=λZ h=>by
 have:=l Z h
 unfold aL
 cases e:a Z h with
 |nx f i=>rw[e]at this;exact KS.of this (j f i)
 |bk f i=>rw[e]at this;exact this
 |ct f i=>rw[e]at this;exact this
 |_=>trivial
def TL{c:Mx Bool}{a b:l_}(i:K0 a)(f:K0 b):K0 (CK c a b):=OV λx=>by
 cases x
 .exact f
 .exact i
section
variable{ws:VQ}
def lw{a b:Xd ws}(f:K0 a.m)(i:K0 b.m):K0 (aB a b).m:=OZ f i
def vd{i:Nat}{e:Xe ws}{j:ws.contains i=T}{f:e.fz=I}(h:i≠0):K0 (bf i e j f).m:=OY h
def xG{t:Xt ws}{e:Xe ws}:K0 (ul t (bo e) i0).m:=TL OW K_
end
abbrev O0:Xd []:=aB QE (aB QF (aB Gs (aB TB (aB QG TC))))
abbrev TM:Xd []:=aB TD (aB TF (aB TJ Vf))
def gN{a b c:l_}:aL (aL a b) c=aL a (aL b c):=by funext Z h;unfold aL;cases a Z h<;>rfl
def Bh:DF=aL (bG 1 (bT dL (ai (af 0) (ai (mC (.int 0)) h_)))) (aL O0.m (aL (bG 1 (bT dL (ai (af 0) (ai (mC (.int 1)) h_)))) TM.m)):=by rw[show O0.m=aL QE.m (aL QF.m (aL Gs.m (aL TB.m (aL QG.m TC.m))))from rfl,gN,gN,gN,gN,gN];rfl
def fY(n:Nat):VP:=(List.range n).map λv:Nat=>[(v:Int),(n:Int)]
def Gu{ks ps:VP}(h:ks.length<=66)(f:ps.length<=66):lW.p (.tup (ks.map kD)) (.tup (ps.map kD))=J (.tup ((ks++ps).map kD)):=by
 cases ks with
 |nil=>rfl
 |cons k ks =>
  have:(ks.map kD).length+1+(ps.map kD).length<=100000:=by simp at h ⊢;ext
  show(if _ then _ else _)=_
  simp_all
def pD{n:Nat}{f:VP}(w:g_ n f):∀k∈f++fY n,IsT ((n+1:Nat):Int) k:=λk i=>by
 rcases nq.mp i with h|h
 .obtain⟨a,b,rfl,j,lt,l⟩:=w.tie k h;exact⟨a,b,rfl,j,by ext,by ext,by ext,by ext⟩
 .obtain⟨v,hv,rfl⟩:=ml.mp h
  have:=w5.mp hv
  exact⟨_,_,rfl,by ext,by ext,by ext,by ext,by ext⟩
def La{n:Nat}{ks:VP}(j:n+1<=12)(w:g_ n ks):g_ ((n+1:Nat):Int) (bu (SetT.k_ ((ks++fY n).map o_)))/\lsN (n+1) (bu (SetT.k_ ((ks++fY n).map o_)))=lsN n ks:=by
 have i:=cW (by ext) (by ext) (dW (pD w));refine⟨i,K6 j w i λx y=>?_⟩;have f:∀x y:Int,[x,y]∈fY n↔x∈b_ n/\y=(n:Int):=λx y=>by
  unfold fY;rw[ml,ah];constructor
  .grind
  .rintro⟨h,rfl⟩;exact⟨x.toNat,w5.mpr (by ext),by rw[show((x.toNat:Nat):Int)=x by ext]⟩
 rw[mL (pD w),nq,nq,f,f];constructor
 .rintro ((h|h) | (h|h))
  .exact .inl (.inl h)
  .exact .inr (.inl h)
  .exact .inl (.inr h)
  .exact .inr (.inr h)
 .rintro ((h|h) | (h|h))
  .exact .inl (.inl h)
  .exact .inr (.inl h)
  .exact .inl (.inr h)
  .exact .inr (.inr h)
abbrev lE(z2 z3 z4 z5 z6:VD):av:=[Y,J .pen,z2,z3,z4,z5,z6]
def O3{s:iw}:∃B H,O0.p (lE Y Y Y Y Y) s=.nx B H:=by
 have t2:∀{x y:D}{s:iw},(if [x,y].length<=100000 then PR.ok (D.tup [x,y]) s else .bad)=.ok (.tup [x,y]) s:=λ{x y s}=>c_ (by simp);have Z:∀{x y z u:D}{s:iw},(if [x,y,z,u].length<=100000 then PR.ok (D.lst [x,y,z,u]) s else .bad)=.ok (.lst [x,y,z,u]) s:=λ{x y z u s}=>c_ (by simp);obtain⟨C,qk⟩:=Gr (s:=s);have S1:QE.p (lE Y Y Y Y Y) s=.nx (lE Y Y Y Y Y) C:=by rw[eW,J_,J9,bB,aD];simp[qk]
 obtain⟨c,s2,c0,c1,U⟩:=b8 (s:=C) (size:=4) (by decide) (by decide);obtain⟨M,L,hM⟩:∃M:Int,jj.p (.lst [.int 3,.int 4,.int 5,.int 6]) (.int c)=J (.int M)/\0<=M/\M<=6:=by
  have:c=0\/c=1\/c=2\/c=3:=by ext
  rcases this with rfl|rfl|rfl|rfl
  .exact⟨3,by rw[oJ];rfl,by decide,by decide⟩
  .exact⟨4,by rw[oJ];rfl,by decide,by decide⟩
  .exact⟨5,by rw[oJ];rfl,by decide,by decide⟩
  .exact⟨6,by rw[oJ];rfl,by decide,by decide⟩
 obtain⟨n,j,r,P,hn,w⟩:=Hf (M:=M) (s:=s2) ⟨hM.1,by ext⟩;have n6:n<=6:=by ext
 have kl:=gL w.n12 w.tie w.nd;have F:∀{n:Int}{j:VP},jj.p (aj n j) (.int 0)=J (.int n):=rfl;have X:jj.p (aj n j) (.int 1)=J (.tup (j.map kD)):=rfl;have S2:QF.p (lE Y Y Y Y Y) C=.nx (lE (J (aj n j)) Y Y Y Y) r:=by simp[Z,U,L,P]
 obtain⟨d,q2⟩:=vN (s:=r) w (by ext);have j0:jj.p (LU n j d) (.int 0)=J (.int (lsN n j)):=rfl;have S3:Gs.p (lE (J (aj n j)) Y Y Y Y) r=.nx (lE (J (aj n j)) (J (.int (lsN n j))) Y Y Y) r:=by simp[q2,j0]
 obtain⟨l,R⟩:=vh (a:=ac 2) (pe:=ac 1) (b:=ae jj (ac 2) (xC (.int 0))) (env:=lE (J (aj n j)) (J (.int (lsN n j))) Y Y Y) (s:=r) (s1:=r) (h1:=rfl) (h2:=rfl) (h3:=rfl) w (by ext) rfl (λ_=>rfl) λ_=>rfl;have S4:=sV (f:=ac 3) (s2:=l) R rfl;obtain⟨wt,et⟩:=La (n:=n) (ks:=j) (by ext) w;have mk:=jO (d:=.tup ((j++fY n).map kD)) (s:=l) (n:=n+1) rfl (by ext) (pD w) (by simp[fY];ext);have O:QG.p (lE (J (aj n j)) (J (.int (lsN n j))) Y Y Y) l=.nx (lE (J (aj n j)) (J (.int (lsN n j))) (J (aj ((n+1:Nat):Int) (bu (SetT.k_ ((j++fY n).map o_))))) Y Y) l:=by
  have E:=fk (ws:=[]) (ws':=[]) (env:=lE (J (aj n j)) (J (.int (lsN n j))) Y Y Y) (s:=l) (fm:=[2]) (i:=bL v2 (aa (ae jj (ac 2) (xC (.int 0))) a_)) (t:=ix) (e:=aI (aa (ac 0) (aa (ae jj (ac 1) (xC (.int 0))) a_))) (ds:=cP 0 n) (λ_=>I) (λx=>match x with|.int v=>kD [v,(n:Int)]|_=>.non) (by
   simp[F]
   rw[jb (by ext),yT,Pf]) (by rw[dj];ext) (λx S=>by
    obtain⟨v,rfl,_,_⟩:=ko S;refine⟨rfl,λ_=>?_⟩
    rfl)
  have Q:((cP 0 n).filter λ_=>I).map (λx=>match x with|.int v=>kD [v,(n:Int)]|_=>.non)=(fY n).map kD:=by rw[c6];unfold cP fY;rw[wc,wc];exact Dp λb _=>by simp
  rw[Q]at E;have a1:lW.p (.int (n:Int)) (.int 1)=J (.int ((n+1:Nat):Int)):=rfl;have a2:=Gu (ks:=j) (ps:=fY n) kl (by simp[fY];ext);rw[bS,bB,aD,b7,b7];simp![hZ,dE,F,Pf,a1];rw[aD,b7,b7];simp![hZ,dE,X,Pf];rw[jf,aD,E];simp only[Pb,cm,nF,Pf,a2,mk,Pg,CU,CV]
 obtain⟨s5,G⟩:=vh (a:=ac 4) (pe:=ac 1) (b:=ae jj (ac 4) (xC (.int 0))) (env:=lE (J (aj n j)) (J (.int (lsN n j))) (J (aj ((n+1:Nat):Int) (bu (SetT.k_ ((j++fY n).map o_))))) Y Y) (s:=l) (s1:=l) (n:=n+1) (h1:=rfl) (h2:=rfl) (h3:=rfl) wt (by ext) rfl (λ_=>rfl) λ_=>rfl;rw[et]at G;have W:=sV (f:=ac 3) (s2:=s5) G rfl;exact⟨_,_,by rw[aA,S1,PU.aq,aA,S2,PU.aq,aA,S3,PU.aq,aA,S4,PU.aq,aA,O,PU.aq,W]⟩
def O4{s:iw}:∃r,TM.p (lE Y Y Y Y Y) s=.rt (.bl I) r:=by
 obtain⟨n,i,j,B,U,w⟩:=Hf (M:=12) (s:=s) ⟨by decide,by decide⟩;obtain⟨d,f,W,S,F⟩:=b8 (s:=j) (size:=5) (by decide) (by decide);have O:lW.p (.int 8) (.int d)=J (.int (8+d)):=rfl;have C:jj.p (aj n i) (.int 0)=J (.int (n:Int)):=rfl;have R:TD.p (lE Y Y Y Y Y) s=.nx (lE Y Y Y (J (aj n i)) Y) j:=by simp[B]
 have H:TF.p (lE Y Y Y (J (aj n i)) Y) j=.nx (lE Y Y Y (J (aj n i)) (J (.int (8+d)))) f:=by simp[F,O]
 obtain⟨m,L,G⟩:∃m:Int,TJ.p (lE Y Y Y (J (aj n i)) (J (.int (8+d)))) f=.nx (lE Y Y Y (J (aj m i)) (J (.int (8+d)))) f/\7<m:=by
  have l:(xB (ae CQ (ae jj (ac 5) (xC (.int 0))) (xC (.int 8))):Xt []).p (lE Y Y Y (J (aj n i)) (J (.int (8+d)))) f=.ok (decide ((n:Int)<8)) f:=by simp[C]
  by_cases z:(n:Int)<8
  .refine⟨8+d,?_,by ext⟩;rw[eW,l,Pg,c_ (by simpa using z)];rfl
  .refine⟨n,?_,by ext⟩;rw[eW,l,Pg,f_ (by simpa using z),mD]
 have Q:=re (ks:=i) (s:=f) G;have P:=re (n:=8+d) (ks:=[]) (s:=f) (by ext);refine⟨f,?_⟩;rw[aA,R,PU.aq,aA,H,PU.aq,aA,L,PU.aq,dJ,FW];have E:(ag dr (aa (ac 5) a_):Xe []).p (lE Y Y Y (J (aj m i)) (J (.int (8+d)))) f=.ok (.bl I) f:=by simp[Q]
 have u:(ag dr (aa (aI (aa (ac 6) (aa (aI a_) a_))) a_):Xe []).p (lE Y Y Y (J (aj m i)) (J (.int (8+d)))) f=.ok (.bl I) f:=by
  have e:(aI (aa (ac 6) (aa (aI a_) a_)):Xe []).p (lE Y Y Y (J (aj m i)) (J (.int (8+d)))) f=.ok (aj (8+d) []) f:=by rfl
  rw[bB,aD,e];simp[P]
 rw[E,Pl,Pb,u];rfl
def Lb:K0 O0.m:=lw xG (lw (vd (by decide)) (lw (vd (by decide)) (lw xG (lw (vd (by decide)) xG))))
def O5{h:MH}{p:Nat}{s:iw}(pn:bA h p s){a0 a2 a3 a4 a5 a6:Option PV}:PU.Cx p h h.length [p] [p] [] [a0,J (.loc p),a2,a3,a4,a5,a6] (lE Y Y Y Y Y) s:=by
 have one:∀o∈[p],o<h.length:=λo j=>by rw[CT.mp j];exact aU pn
 refine⟨one,λ_ h=>h,one,by simp,ii _,pn,rfl,λi d e _=>?_,λi d e f=>by cases f⟩
 match i,e with
 |1,e=>cases e;exact⟨_,rfl,rfl⟩
 |i+2,e =>
  have:(List.replicate 5 (Y:VD))[i]?=J (J d):=e
  rw[Hn]at this
  split at this<;>cases this
def O6{Z:mh}{x:Option PV}(h:Z.length=7)(z:Z[0]?=J x):∃G E i F C f,Z=[x,G,E,i,F,C,f]:=by
 match Z,h with
 |[L,H,B,u,r,l,j],_ =>
  cases z;exact⟨H,B,u,r,l,j,rfl⟩
def DG(ns:VN)(hn:ns.length<=63):∃X,De [.frl (ns.map .int)] []=.ok (.bl I) X:=by
 unfold De;rw[dM (by rfl),Bh];have Z:bH 7 [PV.frl (ns.map .int)]=[J (.frl (ns.map .int)),Y,Y,Y,Y,Y,Y]:=rfl;rw[Z];obtain⟨a,b,l⟩:=uy (k:=0) (by ext);have L:bA ([]++[MO.lst [.int a,.int b,.int 0]]) ([]:MH).length (a,b,0):=yC;have U:bG 1 (bT dL (ai (af 0) (ai (mC (.int 0)) h_))) [J (.frl (ns.map .int)),Y,Y,Y,Y,Y,Y] []=.nx [J (.frl (ns.map .int)),J (.loc ([]:MH).length),Y,Y,Y,Y,Y] ([]++[.lst [.int a,.int b,.int 0]]):=by have l:dL [.frl (ns.map .int),.int 0] []=_:=l;rw[jQ,kL,dz,show af 0 [J (PV.frl (ns.map .int)),Y,Y,Y,Y,Y,Y] []=.ok (.frl (ns.map .int)) []from rfl,Out.bind_ok,dz,yM,Out.bind_ok,jM,Out.bind_ok,Out.bind_ok,Out.bind_ok,l];rfl
 obtain⟨Q,s',q⟩:=O3;have k:=O0.ok (O5 L (a0:=J (.frl (ns.map .int))) (a2:=Y) (a3:=Y) (a4:=Y) (a5:=Y) (a6:=Y)) λi j H _ _ _ _ _ _ _ _=>by cases H
 rw[q]at k;obtain⟨Z1,f,e1,_⟩:=k;have K:=Lb [J (.frl (ns.map .int)),J (.loc ([]:MH).length),Y,Y,Y,Y,Y] ([]++[.lst [.int a,.int b,.int 0]]);rw[e1]at K;obtain⟨R,C,B,F,E,u,rfl⟩:=O6 K.1 K.2;obtain⟨c,d,O⟩:=uy (k:=1) (by ext);have G:bA (f++[MO.lst [.int c,.int d,.int 0]]) f.length (c,d,0):=yC;have s1:bG 1 (bT dL (ai (af 0) (ai (mC (.int 1)) h_))) [J (.frl (ns.map .int)),R,C,B,F,E,u] f=.nx [J (.frl (ns.map .int)),J (.loc f.length),C,B,F,E,u] (f++[.lst [.int c,.int d,.int 0]]):=by have l:dL [.frl (ns.map .int),.int 1] f=_:=O;rw[jQ,kL,dz,show af 0 [J (PV.frl (ns.map .int)),R,C,B,F,E,u] f=.ok (.frl (ns.map .int)) f from rfl,Out.bind_ok,dz,yM,Out.bind_ok,jM,Out.bind_ok,Out.bind_ok,Out.bind_ok,l];rfl
 obtain⟨s2,S⟩:=O4 (s:=(c,d,0));have P:=TM.ok (O5 G (a0:=J (.frl (ns.map .int))) (a2:=C) (a3:=B) (a4:=F) (a5:=E) (a6:=u)) λi j H _ _ _ _ _ _ _ _=>by cases H
 rw[S]at P;obtain⟨v,W,e2,_,_,_,r,_⟩:=P;have ev:=r;subst ev;refine⟨W,?_⟩;rw[cB,U,MM.aq,cB];refine(congrArg (λz:SOut=>(z.then _).fin) e1).trans ?_;rw[MM.aq,cB,s1,MM.aq,e2];rfl
end Law
namespace Law
open PySem.Spec PyProof.Rows L2 MM
set_option maxHeartbeats 4000000
def li(i:Nat):Stmt:=PySem.Challenge.pw_fewfills_k23_least_of_known_webs.main.body.getD i (.Pass ⟨0,0,0,0⟩)
structure y_(K:h8)(E:Addr)(x:Str)(C:Addr):Prop where
 a:PySem.W.nsIn K mainGlobals x=J (J (.ref C))
 y:PySem.W.kitOne K (.type "NoneType") (.ref C)=J T
 k:PySem.W.kitOne K (.ref E) (.ref C)=J T
structure Cl(K:h8)(mg:Cd):Prop where
 r_TooMany:∃C,EW K mg "TooMany" C
 t_FillError:∃D,EW K mg "FillError" D/\∀x∈(["TooMany"]:VM),∃C,EW K mg x C/\PySem.W.mroIn K C (.ref D)=J I
 i_TooMany:∃D,mg "TooMany"=J (.ref D)/\wu K mg (.ref D) ["TooMany"] ["TooMany"]
 i_ValueError:wu K mg (.type "ValueError") ["TooMany"] ["TooMany"]
 i_no:∀x∈(["NoNumber","NoOrder","NoParting","NoPivot","NoPlace","NoRow","NoSheet","NoText","NoWeb","NoWord"]:VM),∃D,mg x=J (.ref D)/\wu K mg (.ref D) ["TooMany"] []
def Vg(K:h8):Prop:=∀(mg:Cd)(base:Heap),K.In base->base.Ns mainGlobals mg->Cl K mg
def Lc{K:h8}{l:Addr}{U:Addr}{as:Addr}{M:Addr}{X:Addr}{ay:Addr}{a7:Addr}{Z:Addr}{a3:Addr}{a5:Addr}{a2:Addr}{f:Addr}(O:PySem.W.nsIn K mainGlobals "FillError"=J (J (.ref l)))(ax:PySem.W.nsIn K mainGlobals "TooMany"=J (J (.ref f)))(P:PySem.W.excIn K l IV "ValueError.__new__"=I)(L:PySem.W.excIn K f IV "ValueError.__new__"=I)(F:PySem.W.findIn K (.ref f) "__getattribute__"=J (J (.builtin "BaseException.__getattribute__")))(G:PySem.W.findIn K (.ref f) "__class__"=J (J (.builtin "object.__class__")))(z:PySem.W.findIn K (.ref f) "__getattr__"=J Y)(B:PySem.W.mroIn K f (.type "object")=J I)(u:PySem.W.mroIn K f (.type "BaseException")=J I)(E:PySem.W.mroIn K f (.ref l)=J I)(S:y_ K f "NoNumber" U)(az:y_ K f "NoOrder" as)(Q:y_ K f "NoParting" M)(W:y_ K f "NoPivot" X)(ap:y_ K f "NoPlace" ay)(a6:y_ K f "NoRow" a7)(an:y_ K f "NoSheet" Z)(a0:y_ K f "NoText" a3)(a4:y_ K f "NoWeb" a5)(a1:y_ K f "NoWord" a2)(ab:PySem.W.kitOne K (.type "NoneType") (.ref f)=J T)(H:PySem.W.kitOne K (.ref f) (.ref f)=J I)(r:PySem.W.kitOne K (.ref f) (.type "ValueError")=J I):Vg K:=λmg base kin ns=>by
 have R:=PySem.W.mg_of kin ns O;have i:=PySem.W.mg_of kin ns ax;have j:∀{x:Str} {C:Addr},y_ K f x C->∃D,mg x=J (.ref D)/\wu K mg (.ref D) ["TooMany"] []:=λn=>⟨_,PySem.W.mg_of kin ns n.a,pj (zc n.y) (bU ⟨_,i,⟨F,G,z,B,u⟩,n.k⟩ jG)⟩;exact⟨⟨_,i,L⟩,⟨_,⟨R,P⟩,(bU ⟨_,⟨i,L⟩,E⟩ jG)⟩,⟨_,i,pj (zc ab) (bU ⟨_,i,⟨F,G,z,B,u⟩,H⟩ jG)⟩,pj (Np K) (bU ⟨_,i,⟨F,G,z,B,u⟩,r⟩ jG),(bU (j S) (bU (j az) (bU (j Q) (bU (j W) (bU (j ap) (bU (j a6) (bU (j an) (bU (j a0) (bU (j a4) (bU (j a1) jG))))))))))⟩
local macro_rules | `(tactic| contradiction)=>do let q <-[`w_var,`N_,`SD,`Oa,`Ob,`Oi,`Km,`SF,`Kn,`Ko,`SV,`OK,`SW,`Ox,`Ot,`Oc,`Od,`Oe,`Kk,`F1,`Of,`Kl,`Og,`Oh,`SG,`SH,`SI,`Ky,`OC,`OD,`SX,`w_glI,`Kv,`w_tchain,`Kw,`S0,`Kx,`w_and,`Oz,`w_or,`OA,`OB,`S9,`S5,`S8,`S_,`Ta,`OF,`OE,`Tc,`gr,`hU,`OG,`KA,`Te,`OI,`Tf,`w_set,`KD,`SY,`Oy,`Bw,`Bm,`Cs,`Ku,`KC,`w_pass,`w_bads,`OH,`Oj,`Ol,`Om,`SJ,`SK,`SM,`SO,`SQ,`SS,`j_AddT,`Oo,`SU,`Op,`Ou,`Ov,`Kr,`Ks,`Oq,`Kq,`F2,`Ow,`Kt].foldrM (λn t=>`(tactic| first | apply $(Lean.mkIdent n) | $t:tactic)) (<-`(tactic| fail));`(tactic| (first | assumption | (apply Kz;assumption;(intro env h;cases env;cases h;first | rfl | with_unfolding_all rfl)) | (apply KG;assumption;(intro env h;cases env;cases h;first | rfl | with_unfolding_all rfl)) | with_reducible $q:tactic | exact rfl | decide +kernel | refine λY c=>⟨?_,?_,?_⟩ | (intro _;rfl) | exact λ_ _=>rfl | exact Dv _ | omega | exact⟨⟨rfl,rfl⟩,rfl,rfl,rfl⟩ | with_unfolding_all rfl) <;> contradiction)
abbrev iB:Stmt:=li 14
abbrev iA:Stmt:=li 16
abbrev eX:Stmt:=li 17
abbrev eI:Stmt:=li 18
abbrev eY:Stmt:=li 19
abbrev fD:Stmt:=li 20
abbrev fg:Stmt:=li 22
abbrev eZ:Stmt:=li 23
abbrev gG:Stmt:=li 24
abbrev fH:Stmt:=li 25
abbrev lO:Stmt:=li 27
abbrev eU:Stmt:=li 28
abbrev eA:Stmt:=li 29
abbrev gC:Stmt:=li 30
abbrev gJ:Stmt:=li 32
abbrev cN:Stmt:=li 35
abbrev iV:VM:=["web","left","v","known","others","behind"]
abbrev iP:VM:=["tuple","best_of","struck_out","len","new_pairs"]
abbrev iX:VM:=["web","left","v","known"]
abbrev qY:VM:=["web","left","known"]
def m8(y3:Sc X cN)(g:Gd X iV iP k)(z:ij X)(f:Cal X "best_of" qY F k)(u:Cal X "new_pairs" ["web","left","v"] bP.m k)(r:Cal X "struck_out" ["web","left","v"] cL.m k)(j:Nn X "len")(i:Nn X "tuple"):yf X (aC cN) (ce F) :=
 (mz.h (s0 (BQ g 4 (nw (UW g 0 nQ i nM (am (Sz g y3 ["place"] ["v"] [] [2] (uq (kV g 1)) λl y g=>⟨(Sy g 0),(xq (DV (sP g.room) (kV g 0) (kV g 1))),(kV g 0)⟩) aF))))
 (s0 (BQ g 5 (nw (xv g 1 f (am (xv g 2 r (am (kV g 0) (am (kV g 1) (am (kV g 2) aF)))) (am (kV g 4) (am (kV g 3) aF))))))
 (yk (CN (JR (bh (nw (aJ du (Hc g 3 kX j lf (am (xv g 4 u (am (kV g 0) (am (kV g 1) (am (kV g 2) aF)))) aF)) (vi (kV g 5) ao))) (bh (Vu du (NM (bh (nw (kV g 2)) dZ)) (nw (vi (kV g 5) ao))) dZ))))))))
abbrev gP:Stmt:=li 36
abbrev kS:VM:=["web","left","known"]
abbrev k9:VM:=["min"]
def y0(y3:Sc X gP)(g:Gd X kS k9 k)(r:ij X)(f:Cal X "best_beginning" iX F k)(l:Nn X "min"):yf X (aC gP) (fC F) :=
 (mz.h (s0 (BM (eO (DV (JS g.room I) (kV g 1) (kV g 2)) (mz.h (yk (BM (tI (FN g (j:=0) rfl l (Sz g y3 ["v"] ["web","left","known"] ["best_beginning"] [0,1,2] (uq (kV g 1)) λi y g=>⟨(Sy g 0),qA,(xv g 0 (y.c f) (am (kV g 1) (am (kV g 2) (am (kV g 0) (am (kV g 3) aF)))))⟩) (kw.h (JR (bh (nw ao) (bh (nw (Aq aF)) dZ))))) (FK g.room (kV g 2) (kV g 1)))))) cX))
 (yk (CN (nw (JT g.room (kV g 2) (kV g 1)))))))
abbrev jg:Stmt:=li 37
abbrev lU:Stmt:=li 38
abbrev vZ:VM:=["web","best"]
abbrev wD:VM:=["MOST_PLACES_HERE","TooMany","best_of","tuple","range","paper_against"]
abbrev Gw:VM:=["web"]
def Gx(y3:Sc X lU)(g:Gd X vZ wD k)(B:ij X)(r:Cal X "paper_against" ["web","k"] cZ.m k)(l:Cal X "best_of" ["web","left","known"] lG k)(z:Nn X "tuple")(u:Nn X "range")(f:∃t,X.mg "MOST_PLACES_HERE"=J (.int 7 t))(cl:Cl X.K X.mg):yf X (aC lU) xD :=
 (mz.h (s0 (BM (eO (DV yz (vi (kV g 0) ao) (Je g (j:=0) rfl f)) (mz.h (yk (BM (Ae g (j:=1) rfl cl.r_TooMany (am zF aF))))) cX))
 (s0 (BQ g 1 (nw (xv g 2 l (am (kV g 0) (am (At g (i:=3) (j:=4) rfl z rfl u (am (vi (kV g 0) ao) aF)) (am EO aF))))))
 (yk (CN (JR (bh (nw (vi (kV g 1) ao)) (bh (nw (vi (kV g 1) ao)) (bh (nw (xv g 5 r (am (kV g 0) (am (aJ AD (vi (kV g 1) ao) ao) aF)))) dZ)))))))))
abbrev lY:Stmt:=li 40
abbrev v7:VM:=["_law_script","_law_k","_law_cell"]
abbrev wN:VM:=["min","len","abs"]
abbrev Gy:VM:=["_law_script","_law_k"]
def Gz(y3:Sc X lY)(g:Gd X v7 wN k)(l:ij X)(i:Nn X "abs")(f:Nn X "len")(j:Nn X "min"):yf X (aC lY) xy :=
 (mz.h (s0 (BQ g 2 (nw (aJ du (aJ gQ ao (kV g 1)) ao)))
 (s0 (BM (eO (DV yF (kV g 1) (Hc g 0 (tT g) j o5 (am (Hc g 1 kX f lf (am (kV g 0) aF)) (am ao aF)))) (mz.h (yk (BQ g 2 (nw (vi (kV g 0) (kV g 1)))))) (mz.h (yk (BM (eO (DV yz (Hc g 1 kX f lf (am (kV g 0) aF)) ao) (mz.h (yk (BQ g 2 (nw (aJ du (aJ eT (vi (kV g 0) (aJ eT (kV g 1) (Hc g 0 (tT g) j o5 (am (Hc g 1 kX f lf (am (kV g 0) aF)) (am ao aF))))) (aJ yS ao ao)) (aJ gQ ao (kV g 1))))))) cX))))))
 (s0 (BM (eO (DV M9 (Hc g 2 yR i Ay (am (kV g 2) aF)) (aJ yS ao ao)) (mz.h (yk (CN (NM (bh (nw ao) (bh (nw (Hc g 2 yR i Ay (am (kV g 2) aF))) (bh (nw ao) dZ))))))) cX))
 (yk (CN (NM (bh (nw ao) (bh (nw (aJ du (aJ eT (kV g 2) ao) (aJ gQ ao (kV g 1)))) (bh (nw ao) dZ))))))))))
abbrev kA:Stmt:=li 41
abbrev uR:VM:=["_law_pen_here","_law_size","_law_number","_law_drawn"]
abbrev uf:VM:=[]
abbrev BP:VM:=["_law_pen_here","_law_size"]
def BS(y3:Sc X kA)(g:Gd X uR uf k)(f:ij X):yf X (aC kA) va :=
 (mz.h (s0 (BM (tI (aJ du (vi (kV g 0) ao) ao) (yX (kV g 0) ao)))
 (s0 (BM (eO (DV (GV g.room) (vi (kV g 0) ao) ao) (mz.h (s0 (BQ g 3 (nw (aJ eT (vi (kV g 0) ao) (kV g 1))))
 (s0 (BM (tI (aJ yj (vi (kV g 0) ao) (kV g 1)) (yX (kV g 0) ao)))
 (yk (CN (nw (kV g 3))))))) cX))
 (s0 (BQ g 2 (nw (aJ eT (aJ gQ (aJ du (aJ du (vi (kV g 0) ao) (aJ gQ ao (vi (kV g 0) ao))) ao) ao) ao)))
 (s0 (BQ g 2 (nw (aJ eT (aJ gQ (kV g 2) (aJ du (aJ du (aJ eT (kV g 2) ao) (vi (kV g 0) ao)) ao)) ao)))
 (yk (CN (nw (aJ eT (aJ yj (aJ eT (aJ gQ (kV g 2) (aJ du (aJ eT (kV g 2) ao) ao)) ao) ao) (kV g 1))))))))))
abbrev je:Stmt:=li 42
abbrev ku:Stmt:=li 43
abbrev jm:Stmt:=li 44
abbrev lL:Stmt:=li 45
abbrev io:Stmt:=li 46
abbrev ig:Stmt:=li 47
abbrev eJ:Stmt:=li 48
abbrev jT:VM:=["_law_web_here","_law_caught","e"]
abbrev jJ:VM:=["least","FillError","isinstance","TooMany","ValueError","NoNumber","NoOrder","NoParting","NoPivot","NoPlace","NoRow","NoSheet","NoText","NoWeb","NoWord"]
abbrev pX:VM:=["_law_web_here"]
def pY(y3:Sc X eJ)(g:Gd X jT jJ k)(r:ij X)(f:Cal X "least" ["web"] cw.m k)(l:Nn X "isinstance")(n0:Nn X "ValueError")(cl:Cl X.K X.mg):yf X (aC eJ) n9 :=
 (mz.h (s0 (BQ g 1 (nw zS))
 (s0 (BM (E0 g r (j:=1) rfl cl.t_FillError 1 2 rfl rfl rfl rfl (by rw[y3];decide +kernel) (λu C F z B E G g r=>have f:=f.at C F z B E;(mz.h (yk (BM (qy (xv g 0 f (am (kV g 0) aF))))))) (by revert y3;unfold Sc;generalize X.env=env;intro h;cases env;cases h;rfl)))
 (s0 (BM (eO (MW.mt (GR (nV (lp (E1 g (i:=2) (j:=3) rfl l rfl cl.i_TooMany (kV g 1)))) (Ab (nV (lp (EZ g (i:=2) (j:=4) rfl l rfl n0 sE cl.i_ValueError (kV g 1))))))) (mz.h (yk (CN (nw mJ)))) cX))
 (s0 (BM (eO (lp (u9 g (i:=2) rfl l (dk g (j:=5) rfl (cl.i_no "NoNumber" (by decide)) (dk g (j:=6) rfl (cl.i_no "NoOrder" (by decide)) (dk g (j:=7) rfl (cl.i_no "NoParting" (by decide)) (dk g (j:=8) rfl (cl.i_no "NoPivot" (by decide)) (dk g (j:=9) rfl (cl.i_no "NoPlace" (by decide)) wX))))) (cl.i_no "NoNumber" (by decide)) (by decide) (kV g 1))) (mz.h (yk (CN (nw mJ)))) cX))
 (yk (CN (nw (Av (u9 g (i:=2) rfl l (dk g (j:=10) rfl (cl.i_no "NoRow" (by decide)) (dk g (j:=11) rfl (cl.i_no "NoSheet" (by decide)) (dk g (j:=12) rfl (cl.i_no "NoText" (by decide)) (dk g (j:=13) rfl (cl.i_no "NoWeb" (by decide)) (dk g (j:=14) rfl (cl.i_no "NoWord" (by decide)) wX))))) (cl.i_no "NoRow" (by decide)) (by decide) (kV g 1)))))))))))
abbrev i9:Stmt:=li 49
abbrev o4:Stmt:=li 50
abbrev Hk:VM:=["_law_script","_law_pen_here","_law_web_here","_law_number","_law_topped","_law_some","_law_size"]
abbrev Hl:VM:=["_law_pen","_law_knows","_law_web","_law_draw","least","_law_called","_law_order","_law_made","tuple","range","_law_is_refused"]
abbrev DH:VM:=["_law_script"]
def O7(y3:Sc X o4)(g:Gd X Hk Hl k)(H:ij X)(i:Cal X "_law_is_refused" ["_law_web_here"] fU k)(u:Cal X "_law_draw" ["_law_pen_here","_law_size"] dX k)(r:Cal X "_law_web" ["_law_pen_here","_law_most"] iF.m k)(z:Cal X "_law_pen" ["_law_script","_law_k"] dL k)(j:Cal X "_law_order" ["_law_pen_here","_law_n"] bN.m k)(l:Cal X "_law_called" ["_law_web_here","_law_order_here"] bQ.m k)(f:Cal X "least" ["web"] cw.m k)(C:Cal X "_law_made" ["_law_n","_law_pairs"] bF.m k)(F:Cal X "_law_knows" ["_law_pen_here"] gS.m k)(B:Nn X "range")(E:Nn X "tuple"):yf X (aC o4) DF :=
 (mz.h (s0 (BQ g 1 (nw (xv g 0 z (am (kV g 0) (am ao aF)))))
 (s0 (BM (eO (nV (lp (xv g 1 F (am (kV g 1) aF)))) (mz.h (yk (CN (nw mJ)))) cX))
 (s0 (BQ g 2 (nw (xv g 2 r (am (kV g 1) (am (vi (kw.h (NM (bh (nw ao) (bh (nw ao) (bh (nw ao) (bh (nw ao) dZ)))))) (xv g 3 u (am (kV g 1) (am ao aF)))) aF)))))
 (s0 (BQ g 3 (nw (vi (xv g 4 f (am (kV g 2) aF)) ao)))
 (s0 (BM (eO (DV (sP g.room) (vi (xv g 4 f (am (xv g 5 l (am (kV g 2) (am (xv g 6 j (am (kV g 1) (am (vi (kV g 2) ao) aF))) aF))) aF)) ao) (kV g 3)) (mz.h (yk (CN (nw mJ)))) cX))
 (s0 (BQ g 4 (nw (xv g 7 C (am (aJ pT (vi (kV g 2) ao) ao) (am (aJ pT (vi (kV g 2) ao) (UW g 8 nQ E nM (am (Sz g y3 ["_law_v"] ["_law_web_here"] [] [2] (Vx g 9 B (am (vi (kV g 2) ao) aF)) λG y g=>⟨(Sy g 0),qA,(kw.h (JR (bh (nw (kV g 0)) (bh (nw (vi (kV g 1) ao)) dZ))))⟩) aF))) aF)))))
 (s0 (BM (eO (DV (sP g.room) (vi (xv g 4 f (am (xv g 5 l (am (kV g 4) (am (xv g 6 j (am (kV g 1) (am (vi (kV g 4) ao) aF))) aF))) aF)) ao) (kV g 3)) (mz.h (yk (CN (nw mJ)))) cX))
 (s0 (BQ g 1 (nw (xv g 0 z (am (kV g 0) (am ao aF)))))
 (s0 (BQ g 5 (nw (xv g 2 r (am (kV g 1) (am ao aF)))))
 (s0 (BQ g 6 (nw (aJ pT ao (xv g 3 u (am (kV g 1) (am ao aF))))))
 (s0 (BM (eO (DV yF (vi (kV g 5) ao) ao) (mz.h (yk (BQ g 5 (JR (bh (nw (kV g 6)) (bh (nw (vi (kV g 5) ao)) dZ)))))) cX))
 (yk (CN (nw (AH (xv g 10 i (am (kV g 5) aF)) (zp (xv g 10 i (am (kw.h (JR (bh (nw (kV g 6)) (bh (nw (Ao aF)) dZ)))) aF)))))))))))))))))))
def Ld:iJ "law" o4 DH:=λ_ _ _ _ _ _=>Qz λ_=>rfl
def oS{K:h8}{k:Nat}(b:Ba P w K mg base)(D:e_ K "best_beginning" cN)(E:e_ K "best_of" gP)(l:FnAt P w K mg base "new_pairs" ["web","left","v"] bP.m k)(i:FnAt P w K mg base "struck_out" ["web","left","v"] cL.m k)(j:Zn K "len")(r:Zn K "min")(f:Zn K "tuple"):∀n:Nat,FnAt P w K mg base "best_of" qY (fy n) (k+2*n+1)
 |0=>Hb (N:=kS) (G:=k9) (m:=λ_ _=>.bad) b E λX e h g d=>vX
 |n+1=>Hb (N:=kS) (G:=k9) (k:=k+2*n+2) (m:=fC (cC 6 4 (ce (fy n)))) b E λX e h g d=>y0 h g d ((Hb (N:=iV) (G:=iP) (ps:=iX) (k:=k+2*n+1) (m:=ce (fy n)) b D λX e h g d=>m8 h g d ((oS b D E l i j r f n).c e (ii _)) ((l.mono (by omega:k<=k+2*n+1)).c e (ii _)) ((i.mono (by omega:k<=k+2*n+1)).c e (ii _)) (e.n j) (e.n f)).c e (ii _)) (e.n r)
abbrev kc:VM:=["thing"]
def yD{K:h8}(c:Wc X P w K mg base kc kc 0 (ak iB))(d:ij X)(j:Zn K "isinstance")(f:Zn K "bool")(i:Zn K "int"):mz X (aC iB) iz.m:=by unfold iz;apply gr<;>contradiction
abbrev kz:VM:=["n","thing"]
def yx{K:h8}(c:Wc X P w K mg base kz kz 1 (ak iA))(d:ij X)(f:FnAt P w K mg base "is_whole" Ps0 fN.m 1):mz X (aC iA) ip.m:=by unfold ip;apply gr<;>contradiction
abbrev g8:VM:=["n","thing"]
def sA{K:h8}(c:Wc X P w K mg base g8 g8 2 (ak eX))(d:ij X)(f:FnAt P w K mg base "is_place" Ps1 fL.m 2):mz X (aC eX) fj.m:=by unfold fj;apply gr<;>contradiction
abbrev fW:VM:=["n","things","thing"]
def pB{K:h8}(c:Wc X P w K mg base fW fW 3 (ak eI))(d:ij X)(f:FnAt P w K mg base "check_place" Ps2 aZ.m 3):mz X (aC eI) d9.m:=by unfold d9;apply gr<;>contradiction
abbrev ic:VM:=["pairs"]
def sO{K:h8}(c:Wc X P w K mg base ic ic 0 (ak eY))(d:ij X)(i:Zn K "sorted")(j:Zn K "set")(l:Zn K "max")(r:Zn K "min")(f:Zn K "tuple"):mz X (aC eY) fb.m:=by unfold fb;apply gr<;>contradiction
abbrev iR:VM:=["web","v","below","above"]
def uH{K:h8}(c:Wc X P w K mg base iR iR 3 (ak fD))(d:ij X)(f:FnAt P w K mg base "check_place" Ps2 aZ.m 3):mz X (aC fD) fE.m:=by unfold fE;apply hU<;>contradiction
abbrev g6:VM:=["places","pairs","k","a"]
def sD{K:h8}(c:Wc X P w K mg base g6 g6 0 (ak fg))(d:ij X)(f:Zn K "enumerate"):mz X (aC fg) fc.m:=by unfold fc;apply hU<;>contradiction
abbrev ie:VM:=["web","left","v"]
def sM{K:h8}(c:Wc X P w K mg base ie ie 4 (ak eZ))(d:ij X)(i:FnAt P w K mg base "neighbours" Ps5 bp.m 4)(f:FnAt P w K mg base "pairs_among" Ps6 bX.m 1):mz X (aC eZ) fo.m:=by unfold fo;apply gr<;>contradiction
abbrev jy:VM:=["web","left","v"]
def vz{K:h8}(c:Wc X P w K mg base jy jy 5 (ak gG))(d:ij X)(f:FnAt P w K mg base "pairs_round" Ps7 bY.m 5):mz X (aC gG) gu.m:=by unfold gu;apply gr<;>contradiction
abbrev iZ:VM:=["web","left","v","others"]
def uY{K:h8}(c:Wc X P w K mg base iZ iZ 5 (ak fH))(d:ij X)(i:FnAt P w K mg base "pairs_round" Ps7 bY.m 5)(j:FnAt P w K mg base "rising_once" Ps4 bc.m 1)(f:FnAt P w K mg base "check_places" Ps3 cH.m 4)(l:FnAt P w K mg base "check_place" Ps2 aZ.m 3):mz X (aC fH) fM.m:=by unfold fM;apply hU<;>contradiction
abbrev qE:VM:=["ring"]
def GA{K:h8}(c:Wc X P w K mg base qE qE 1 (ak lO))(d:ij X)(f:Zn K "enumerate")(i:FnAt P w K mg base "rising_once" Ps4 bc.m 1):mz X (aC lO) lK.m:=by unfold lK;apply gr<;>contradiction
abbrev g9:VM:=["ring","beside"]
def sC{K:h8}(c:Wc X P w K mg base g9 g9 2 (ak eU))(d:ij X)(i:FnAt P w K mg base "pairs_among" Ps6 bX.m 1)(j:FnAt P w K mg base "rising_once" Ps4 bc.m 1)(f:FnAt P w K mg base "sides" Ps10 jI.m 2):mz X (aC eU) eV.m:=by unfold eV;apply hU<;>contradiction
abbrev fT:VM:=["web","places","a","b","ways","seen","way","place"]
def pP{K:h8}(c:Wc X P w K mg base fT fT 4 (ak eA))(d:ij X)(f:FnAt P w K mg base "neighbours" Ps5 bp.m 4):mz X (aC eA) eG.m:=by unfold eG;apply hU<;>contradiction
abbrev jw:VM:=["web","places","v","near","far","a","b","way"]
def vA{K:h8}(c:Wc X P w K mg base jw jw 6 (ak gC))(d:ij X)(j:Zn K "list")(f:Zn K "range")(l:FnAt P w K mg base "new_pairs" Ps8 bP.m 6)(i:FnAt P w K mg base "shortest_way" Ps12 bq.m 5)(r:FnAt P w K mg base "neighbours" Ps5 bp.m 4):mz X (aC gC) gD.m:=by unfold gD;apply hU<;>contradiction
abbrev ju:VM:=["web","pair"]
def vt{K:h8}(c:Wc X P w K mg base ju ju 1 (ak gJ))(d:ij X)(f:Zn K "list")(i:FnAt P w K mg base "rising_once" Ps4 bc.m 1):mz X (aC gJ) eR.m:=by unfold eR;apply gr<;>contradiction
abbrev lq:VM:=["_law_pen_here","_law_n","_law_found","_law_k"]
def AK{K:h8}(c:Wc X P w K mg base lq lq 1 (ak je))(d:ij X)(f:Zn K "range")(i:FnAt P w K mg base "_law_draw" Ps20 dX 1):mz X (aC je) jp.m:=by unfold jp;apply hU<;>contradiction
abbrev mY:VM:=["_law_n","_law_pairs"]
def Ce{K:h8}(c:Wc X P w K mg base mY mY 0 (ak ku))(d:ij X)(i:Zn K "sorted")(j:Zn K "set")(l:Zn K "max")(r:Zn K "min")(f:Zn K "tuple"):mz X (aC ku) jX.m:=by unfold jX;apply gr<;>contradiction
abbrev kR:VM:=["_law_ring"]
def AG{K:h8}(c:Wc X P w K mg base kR kR 0 (ak jm))(d:ij X)(f:Zn K "range")(i:Zn K "len"):mz X (aC jm) ji.m:=by unfold ji;apply gr<;>contradiction
abbrev pC:VM:=["_law_pen_here","_law_most","_law_n","_law_order_here","_law_way","_law_cut","_law_pairs","_law_a","_law_at","_law_size","_law_some"]
def GB{K:h8}(c:Wc X P w K mg base pC pC 2 (ak lL))(d:ij X)(f:Zn K "range")(u:Zn K "list")(i:FnAt P w K mg base "_law_made" Ps22 bF.m 1)(j:FnAt P w K mg base "_law_draw" Ps20 dX 1)(l:FnAt P w K mg base "_law_round" Ps23 bM.m 1)(r:FnAt P w K mg base "_law_order" Ps21 bN.m 2):mz X (aC lL) lJ.m:=by unfold lJ;apply hU<;>contradiction
abbrev ki:VM:=["_law_web_here","_law_order_here"]
def xU{K:h8}(c:Wc X P w K mg base ki ki 1 (ak io))(d:ij X)(f:FnAt P w K mg base "_law_made" Ps22 bF.m 1):mz X (aC io) iu.m:=by unfold iu;apply gr<;>contradiction
abbrev j6:VM:=["_law_few","_law_many","_law_pairs","_law_a"]
def xz{K:h8}(c:Wc X P w K mg base j6 j6 1 (ak ig))(d:ij X)(f:Zn K "range")(i:FnAt P w K mg base "_law_made" Ps22 bF.m 1):mz X (aC ig) im.m:=by unfold im;apply hU<;>contradiction
abbrev lm:VM:=["_law_pen_here","_law_size","_law_few","_law_many","_law_other","_law_pairs"]
def zY{K:h8}(c:Wc X P w K mg base lm lm 79 (ak i9))(d:ij X)(C:Zn K "list")(f:Zn K "range")(B:FnAt P w K mg base "_law_order" Ps21 bN.m 2)(l:FnAt P w K mg base "_law_made" Ps22 bF.m 1)(u:FnAt P w K mg base "_law_called" Ps25 bQ.m 2)(j:FnAt P w K mg base "least" Ps18 cw.m 79)(z:FnAt P w K mg base "_law_round" Ps23 bM.m 1)(r:FnAt P w K mg base "_law_draw" Ps20 dX 1)(i:FnAt P w K mg base "_law_across" Ps26 eD.m 2):mz X (aC i9) jn.m:=by unfold jn Tu Vc Tv Tw Vd Tx Tz Ve;apply hU<;>contradiction
def Lf{K:h8}(b:Ba P w K mg base)(D0:e_ K "is_whole" iB)(D1:e_ K "is_place" iA)(D2:e_ K "check_place" eX)(D3:e_ K "check_places" eI)(D4:e_ K "rising_once" eY)(D5:e_ K "neighbours" fD)(D6:e_ K "pairs_among" fg)(D7:e_ K "pairs_round" eZ)(D8:e_ K "new_pairs" gG)(D9:e_ K "struck_out" fH)(Z:e_ K "sides" lO)(cc:e_ K "pairs_apart" eU)(as:e_ K "shortest_way" eA)(b1:e_ K "bare_ring" gC)(b3:e_ K "with_tied" gJ)(bt:e_ K "best_beginning" cN)(b5:e_ K "best_of" gP)(H:e_ K "paper_against" jg)(ap:e_ K "least" lU)(bn:e_ K "_law_pen" lY)(W:e_ K "_law_draw" kA)(ca:e_ K "_law_order" je)(az:e_ K "_law_made" ku)(ax:e_ K "_law_round" jm)(ay:e_ K "_law_web" lL)(cd:e_ K "_law_called" io)(b4:e_ K "_law_across" ig)(be:e_ K "_law_is_refused" eJ)(ab:e_ K "_law_knows" i9)(b2:e_ K "law" o4)(z0:Zn K "ValueError")(z1:Zn K "abs")(z2:Zn K "bool")(z3:Zn K "enumerate")(z4:Zn K "int")(z5:Zn K "isinstance")(z6:Zn K "len")(R:Zn K "list")(z8:Zn K "max")(S:Zn K "min")(j:Zn K "range")(Q:Zn K "set")(O:Zn K "sorted")(r:Zn K "tuple")(f:∃t,PySem.W.nsIn K mainGlobals "MOST_PLACES_HERE"=J (J (.int 7 t)))(cl:Cl K mg):FnAt P w K mg base "law" DH De 81:=by
 have i:∃t,mg "MOST_PLACES_HERE"=J (.int 7 t):=let⟨t,e⟩:=f;⟨t,PySem.W.mg_of b.kin b.ns e⟩;have a0:=x_ (F:=fN) kc b D0 λX c d=>yD c d z5 z2 z4;have a1:=x_ (F:=fL) kz b D1 λX c d=>yx c d  a0;have a2:=x_ (F:=aZ) g8 b D2 λX c d=>sA c d  a1;have a3:=x_ (F:=cH) fW b D3 λX c d=>pB c d  a2;have U:=x_ (F:=bc) ic b D4 λX c d=>sO c d O Q z8 S r;have a5:=x_ (F:=bp) iR b D5 λX c d=>uH c d  a2;have a6:=x_ (F:=bX) g6 b D6 λX c d=>sD c d z3;have a7:=x_ (F:=bY) ie b D7 λX c d=>sM c d  a5 a6;have a8:=x_ (F:=bP) jy b D8 λX c d=>vz c d  a7;have a9:=x_ (F:=cL) iZ b D9 λX c d=>uY c d  a7 U a3 a2;have bj:=x_ (F:=jI) qE b Z λX c d=>GA c d z3 U;have cp:=x_ (F:=dD) g9 b cc λX c d=>sC c d  a6 U bj;have an:=x_ (F:=bq) fT b as λX c d=>pP c d  a5;have cn:=x_ (F:=di) jw b b1 λX c d=>vA c d R j a8 an a5;have ch:=x_ (F:=dN) ju b b3 λX c d=>vt c d R U;have cb:=oS (P:=P) (w:=w) (k:=6) b bt b5 (a8.mono (by decide)) (a9.mono (by decide)) z6 S r 8;have z:∀n,FnAt P w K mg base "paper_against" _ (aX n).m (7+n+1):=λn=>by
  induction n with
  |zero=>exact Tg (np:=2) ["web","k","ring","papers"] b H
  |succ n ih=>exact x_ (F:=aX (n+1)) (B:=c5 (aX n)) ["web","k","ring","papers"] b H λX c d=>by unfold c5;apply hU<;>contradiction
 have z:FnAt P w K mg base "paper_against" _ cZ.m 78:=z 70;have C:=Hb (k:=78) (N:=vZ) (G:=wD) (ps:=Gw) b ap λX e h g d=>Gx h g d (z.c e) (cb.c e) (e.n r) (e.n j) (e.e4▸i) (e.e3▸e.e4▸cl);have bm:=Hb (k:=0) (N:=v7) (G:=wN) (ps:=Gy) b bn λX e h g d=>Gz h g d (e.n z1) (e.n z6) (e.n S);have u:=Hb (k:=0) (N:=uR) (G:=uf) (ps:=BP) b W λX e h g d=>BS h g d;have E:=x_ (F:=bN) lq b ca λX c d=>AK c d j u;have l:=x_ (F:=bF) mY b az λX c d=>Ce c d O Q z8 S r;have M:=x_ (F:=bM) kR b ax λX c d=>AG c d j z6;have ba:=x_ (F:=iF) pC b ay λX c d=>GB c d j R l u M E;have L:=x_ (F:=bQ) ki b cd λX c d=>xU c d  l;have bx:=x_ (F:=eD) j6 b b4 λX c d=>xz c d j l;have b6:=Hb (k:=79) (N:=jT) (G:=jJ) (ps:=pX) b be λX e h g d=>pY h g d (C.c e) (e.n z5) (e.n z0) (e.e3▸e.e4▸cl);have bi:=x_ (F:=gS) lm b ab λX c d=>zY c d R j E l L C M u bx;have b0:=Hb (k:=80) (N:=Hk) (G:=Hl) (ps:=DH) b b2 λX e h g d=>O7 h g d (b6.c e) (u.c e) (ba.c e) (bm.c e) (E.c e) (L.c e) (C.c e) (l.c e) (bi.c e) (e.n j) (e.n r);exact b0
end Law
namespace PySem.W.Fast
def tw17882012909969966750:=0
def tw6333094369784471493:=0
def tw13339848154596431126:=0
def tw17762168266141458828:=0
def tw16567082112164549146:=0
def tw9040362512345186235:=0
def tw3612194237601368481:=0
def tw6520494674521096814:=0
def tw5919621801368380445:=0
def tw6355174448109269170:=0
def tw10258393225382303178:=0
def tw6885789743451297126:=0
def tw14834829857677419884:=0
def tw15605198390575175736:=0
def tw16009068887175815656:=0
def tw505157981631437079:=0
def tw9040166887262230954:=0
def tw14189405880346311166:=0
def tw12624558056147125528:=0
def tw11883784593970800761:=0
def tw13026735921187323806:=0
def tw2525753239783765949:=0
def tw496438865578143278:=0
def tw103287351683067830:=0
def tw3009734846444071893:=0
def tw18402516277784778187:=0
def tw15133175436007913956:=0
def tw4427157715386567667:=0
def tw9777570648819527346:=0
def tw3425827578188698057:=0
def tw3786710407963583747:=0
def tw16674230408568145655:=0
def tw16477362066440744029:=0
def tw18238261701590130461:=0
def tw1753719731166751225:=0
def tw946811299428585303:=0
def tw17973101138593826712:=0
def tw7844035724587076528:=0
def tw5348844232629622679:=0
def tw1527776979740720861:=0
def tw13067504633255922582:=0
def tw6859688502008795096:=0
def tw6662427874925397290:=0
def tw16115762530281845257:=0
def tw7559869605883962561:=0
def tw10899947850303833302:=0
def tw12832781916297478118:=0
def tw6628261951241124739:=0
def tw4947945504452401028:=0
def tw1813411568912782666:=0
def tw5107294405229303476:=0
def tw11397285797446253756:=0
def tw9119935269846050788:=0
def tw13028763629180522642:=0
def tw10777303469149461939:=0
def tw8843100214031490327:=0
def tw9760216228438393642:=0
def tw587476522661779866:=0
def tw6808996222159106298:=0
def tw6558591750875026057:=0
def tw399807702425353333:=0
def tw17420070466783732861:=0
def tw988226935227744058:=0
def tw18360396862844236402:=0
def tw17012833110210851345:=0
def tw17042464038325860789:=0
def tw10639853512529596189:=0
def tw4572308368842672757:=0
def tw15468758220897433364:=0
def tw1405505933616898405:=0
def tw14812857493531201320:=0
def tw13373521601202629303:=0
def tw3470962042967449245:=0
def tw9960984545935388330:=0
def tw3932516458959227051:=0
def tw9208506167244872513:=0
def tw11314419300878380002:=0
def tw16613698012772320520:=0
def tw9911773080397748481:=0
def tw15690440440373274354:=0
def tw6381480843389859138:=0
def tw10225734601651401770:=0
def tw11106809053812103207:=0
def tw13887345989401320147:=0
def tw980097662692962339:=0
def tw9302053747717113278:=0
def tw15919149086712395485:=0
def tw12959403418983979803:=0
def tw7537474496521306569:=0
def tw1832722582771510476:=0
def tw10815626366017330397:=0
def tw9445268196999992935:=0
def tw2765397748384375970:=0
def tw17473646443419638423:=0
def tw8313255205264938428:=0
def tw12674319567721307787:=0
def tw3042503637798466336:=0
def tw13643197097310921227:=0
def tw1769169851110879508:=0
def tw7197189085823895836:=0
def tw13296357183813178109:=0
def tw10292937179904222815:=0
def tw6941516082143069003:=0
def tw13736061412294730086:=0
def tw8641798154105318860:=0
def tw17048682936691889859:=0
def tw12522890204129262542:=0
def tw5699905261433110769:=0
def tw13496258344083402545:=0
def tw16375039685244468854:=0
def tw12595783485598173771:=0
def tw141576365910311867:=0
def tw16147462882587368059:=0
def tw7591534293844654458:=0
def tw13538007891802303572:=0
def tw488635630274219994:=0
def tw984657212729052449:=0
def tw11080224386039414086:=0
def tw18385860877223656455:=0
def tw10703468396401799409:=0
def tw2915431300996638359:=0
def tw6404282629571044905:=0
def tw15358775546236312034:=0
def tw4349069107723895264:=0
def tw12175782059083979288:=0
def tw17175035292745268434:=0
def tw14860521519761892184:=0
def tw11308801648844672141:=0
def tw17775520466426586323:=0
def tw4793483756637023022:=0
def tw5773297077952769404:=0
def tw11601816268920708674:=0
def tw6100395863170681246:=0
def tw4477855842727168559:=0
def tw7162758103335379885:=0
def tw18101945644026435743:=0
def tw14595420283056456056:=0
def tw8608306003203331949:=0
def tw5044319076969049619:=0
def tw2877429005046207773:=0
def tw12169256014684596087:=0
def tw11897863945705510235:=0
def tw18350552402366822053:=0
def tw884085554676976550:=0
def tw13719134331230207941:=0
def tw11173978418886895947:=0
def tw15271102350530610214:=0
def tw17282390618280742908:=0
def tw17695539891994164061:=0
def tw11365021230213879837:=0
def tw6798145975068626586:=0
def tw9366981370577526234:=0
def tw17228739286610521094:=0
def tw2209760546731749612:=0
def tw16980313996180596637:=0
def tw9636345409137913019:=0
def tw9198277808381222848:=0
def tw5729439017558500778:=0
def tw8937367458421304793:=0
def tw7023413318069334155:=0
def tw8325867306208476766:=0
def tw4080231868932986711:=0
def tw16304618281403971992:=0
def tw10718873367409668457:=0
def tw14341922283245621463:=0
def tw9712806987050735590:=0
def tw7989004294457211386:=0
def tw11409813271310436144:=0
def tw4548309983830520627:=0
def tw1485818067876488501:=0
def tw17917395227134792009:=0
def tw340542400844180985:=0
def tw9163420506744039885:=0
def tw8182682650197568766:=0
def tw3857252102170074896:=0
def tw18380287513775307155:=0
def tw7556707211602399814:=0
def tw13381604777955749902:=0
def tw15102695279083529142:=0
def tw15411260189059536307:=0
def tw3442327666962383642:=0
def tw12347457483213821126:=0
def tw5838036591017442847:=0
def tw2332125409636146537:=0
def tw11687396944493384442:=0
def tw16758285883131211072:=0
def tw12990958520680235531:=0
def tw6678868014890087743:=0
def tw3483625634677641638:=0
def tw16774617335687122347:=0
def tw9207465592640698872:=0
def tw10405233303968989717:=0
def tw7375484288202728330:=0
def tw12060449200937040081:=0
def tw233959857044876679:=0
def tw7597226643603193170:=0
def tw1953783322006127195:=0
def tw7393425498086820792:=0
def tw12753316812853102871:=0
def tw16352031502861532633:=0
def tw14837069470084708503:=0
def tw5667076903208021148:=0
end PySem.W.Fast
open PySem PySem.W PyProof.Rows
local macro_rules | `(tactic| and_intros) => `(tactic| (dsimp only [L2.n3]; first | k_is | (refine' MM.DA ?a ?l ?c ?k; (case a => k_is); (case l => k_is); (case c => k_is); (case k => k_is))))
set_option maxRecDepth 100000 in
set_option maxHeartbeats 0 in
theorem PySem.Challenge.cw_fewfills_k23_least_of_known_webs_holds : PySem.Challenge.rw_fewfills_k23_least_of_known_webs.Holds := by
  w_on; o_law; k_head; (case hw=>w_witness2)
  k_fill
  refine MM.IQ (l:=PySem.Challenge.rw_fewfills_k23_least_of_known_webs) (k:=81) (x:="_law_script") (F:=Law.De) rfl rfl ⟨rfl,by decide,by decide,rfl⟩ (fun w h Y=>PySem.W.kIn_of Y) ?F Law.DG
  case F=>
    intro w mg fa h KX G hmg
    have Dlaw:MM.e_ (L2.n3 KX) "law" Law.o4:=by and_intros
    have D0:MM.e_ (L2.n3 KX) "is_whole" Law.iB:=by and_intros
    have D1:MM.e_ (L2.n3 KX) "is_place" Law.iA:=by and_intros
    have D2:MM.e_ (L2.n3 KX) "check_place" Law.eX:=by and_intros
    have D3:MM.e_ (L2.n3 KX) "check_places" Law.eI:=by and_intros
    have D4:MM.e_ (L2.n3 KX) "rising_once" Law.eY:=by and_intros
    have D5:MM.e_ (L2.n3 KX) "neighbours" Law.fD:=by and_intros
    have D6:MM.e_ (L2.n3 KX) "pairs_among" Law.fg:=by and_intros
    have D7:MM.e_ (L2.n3 KX) "pairs_round" Law.eZ:=by and_intros
    have D8:MM.e_ (L2.n3 KX) "new_pairs" Law.gG:=by and_intros
    have D9:MM.e_ (L2.n3 KX) "struck_out" Law.fH:=by and_intros
    have D10:MM.e_ (L2.n3 KX) "sides" Law.lO:=by and_intros
    have D11:MM.e_ (L2.n3 KX) "pairs_apart" Law.eU:=by and_intros
    have D12:MM.e_ (L2.n3 KX) "shortest_way" Law.eA:=by and_intros
    have D13:MM.e_ (L2.n3 KX) "bare_ring" Law.gC:=by and_intros
    have D14:MM.e_ (L2.n3 KX) "with_tied" Law.gJ:=by and_intros
    have D15:MM.e_ (L2.n3 KX) "best_beginning" Law.cN:=by and_intros
    have D16:MM.e_ (L2.n3 KX) "best_of" Law.gP:=by and_intros
    have D17:MM.e_ (L2.n3 KX) "paper_against" Law.jg:=by and_intros
    have D18:MM.e_ (L2.n3 KX) "least" Law.lU:=by and_intros
    have D19:MM.e_ (L2.n3 KX) "_law_pen" Law.lY:=by and_intros
    have D20:MM.e_ (L2.n3 KX) "_law_draw" Law.kA:=by and_intros
    have D21:MM.e_ (L2.n3 KX) "_law_order" Law.je:=by and_intros
    have D22:MM.e_ (L2.n3 KX) "_law_made" Law.ku:=by and_intros
    have D23:MM.e_ (L2.n3 KX) "_law_round" Law.jm:=by and_intros
    have D24:MM.e_ (L2.n3 KX) "_law_web" Law.lL:=by and_intros
    have D25:MM.e_ (L2.n3 KX) "_law_called" Law.io:=by and_intros
    have D26:MM.e_ (L2.n3 KX) "_law_across" Law.ig:=by and_intros
    have D27:MM.e_ (L2.n3 KX) "_law_is_refused" Law.eJ:=by and_intros
    have D28:MM.e_ (L2.n3 KX) "_law_knows" Law.i9:=by and_intros
    have ZValueError:PySem.W.nsIn (L2.n3 KX) mainGlobals "ValueError" = some none:=by and_intros
    have Z29:PySem.W.nsIn (L2.n3 KX) mainGlobals "abs" = some none:=by and_intros
    have Z30:PySem.W.nsIn (L2.n3 KX) mainGlobals "bool" = some none:=by and_intros
    have Z31:PySem.W.nsIn (L2.n3 KX) mainGlobals "enumerate" = some none:=by and_intros
    have Z32:PySem.W.nsIn (L2.n3 KX) mainGlobals "int" = some none:=by and_intros
    have Z33:PySem.W.nsIn (L2.n3 KX) mainGlobals "isinstance" = some none:=by and_intros
    have Z34:PySem.W.nsIn (L2.n3 KX) mainGlobals "len" = some none:=by and_intros
    have Z35:PySem.W.nsIn (L2.n3 KX) mainGlobals "list" = some none:=by and_intros
    have Z36:PySem.W.nsIn (L2.n3 KX) mainGlobals "max" = some none:=by and_intros
    have Z37:PySem.W.nsIn (L2.n3 KX) mainGlobals "min" = some none:=by and_intros
    have Z38:PySem.W.nsIn (L2.n3 KX) mainGlobals "range" = some none:=by and_intros
    have Z39:PySem.W.nsIn (L2.n3 KX) mainGlobals "set" = some none:=by and_intros
    have Z40:PySem.W.nsIn (L2.n3 KX) mainGlobals "sorted" = some none:=by and_intros
    have Z41:PySem.W.nsIn (L2.n3 KX) mainGlobals "tuple" = some none:=by and_intros
    have YMOST_PLACES_HERE:∃ t,PySem.W.nsIn (L2.n3 KX) mainGlobals "MOST_PLACES_HERE" = some (some (.int 7 t)):=by
      dsimp only [L2.n3]
      refine' MM.JO ?h
      (case h=>k_is)
    have CL:Law.Vg (L2.n3 KX):=by
      dsimp only [L2.n3]
      refine' Law.Lc ?p0 ?p1 ?p2 ?p3 ?p4 ?p5 ?p6 ?p7 ?p8 ?p9 ?p10 ?p11 ?p12 ?p13 ?p14 ?p15 ?p16 ?p17 ?p18 ?p19 ?p20 ?p21 ?p22
      (case p0=>k_is)
      (case p1=>k_is)
      (case p2=>k_exc)
      (case p3=>k_exc)
      (case p4=>k_is)
      (case p5=>k_is)
      (case p6=>k_is)
      (case p7=>k_is)
      (case p8=>k_is)
      (case p9=>k_is)
      (case p10=>refine' Law.y_.mk ?a ?y ?k; (case a=>k_is); (case y=>kit_is); (case k=>kit_is))
      (case p11=>refine' Law.y_.mk ?a ?y ?k; (case a=>k_is); (case y=>kit_is); (case k=>kit_is))
      (case p12=>refine' Law.y_.mk ?a ?y ?k; (case a=>k_is); (case y=>kit_is); (case k=>kit_is))
      (case p13=>refine' Law.y_.mk ?a ?y ?k; (case a=>k_is); (case y=>kit_is); (case k=>kit_is))
      (case p14=>refine' Law.y_.mk ?a ?y ?k; (case a=>k_is); (case y=>kit_is); (case k=>kit_is))
      (case p15=>refine' Law.y_.mk ?a ?y ?k; (case a=>k_is); (case y=>kit_is); (case k=>kit_is))
      (case p16=>refine' Law.y_.mk ?a ?y ?k; (case a=>k_is); (case y=>kit_is); (case k=>kit_is))
      (case p17=>refine' Law.y_.mk ?a ?y ?k; (case a=>k_is); (case y=>kit_is); (case k=>kit_is))
      (case p18=>refine' Law.y_.mk ?a ?y ?k; (case a=>k_is); (case y=>kit_is); (case k=>kit_is))
      (case p19=>refine' Law.y_.mk ?a ?y ?k; (case a=>k_is); (case y=>kit_is); (case k=>kit_is))
      (case p20=>kit_is)
      (case p21=>kit_is)
      (case p22=>kit_is)
    exact MM.IN Dlaw Law.Ld hmg KX G fun base kb nb=>Law.Lf ⟨kb,nb⟩ D0 D1 D2 D3 D4 D5 D6 D7 D8 D9 D10 D11 D12 D13 D14 D15 D16 D17 D18 D19 D20 D21 D22 D23 D24 D25 D26 D27 D28 Dlaw ZValueError Z29 Z30 Z31 Z32 Z33 Z34 Z35 Z36 Z37 Z38 Z39 Z40 Z41 YMOST_PLACES_HERE (CL _ _ kb nb)
